import PyProof.Rows.All
import Wide.All
import OpenK.AllK
import Wide.FinOn
import HandS.ForMost
import HandS.Wide
import HandS.Style
import HandS.Evl
import HandS.WideBits
import HandS.ClsMeth
import KE.KOpsOwn
import PyProof.TwoTypes
import PyProof.ListMulRoad
import PyProof.NeKinds
import HandS.IsInst
import KE.KEqDict
import HandS.RaiseMore
import HandS.Codes
import PyProof.ReprRoads
import HandS.Walk
import OpenK.KOps
import PyProof.ReprReads
import HandS.FStr
import KE.KFmtOwn
import HandS.Small
import HandS.MakeKw
import HandS.CallLocal
import HandS.TryMany
import HandS.TryOnly
import HandS.ExcInit
import HandS.ExcField
import HandS.HeadHook4
import HandS.HeadWalk
import PyProof.ReprDict
import HandS.Lambda
import HandS.WordsExc
import HandS.Star
import HandS.IntHex
import HandS.RevRange
import PyProof.StrLawsRepr
import PyProof.Rows.ChunkEnd
import HandS.ExcIs
import KE.KExcIs
import PyProof.StrBlock2
import PyProof.InstNe
import PyProof.EqKinds
import HandS.SortKw
import KE.KSortKey
import OpenK.KMeth
import HandS.More
import HandS.Property
import HandS.Remove
import KE.KWithOwn
import HandS.Finally
import HandS.HotCalls
import HandS.Words
import HandS.Defaults
import HandS.ExcBuiltin
import HandS.RaiseOp
import HandS.TupLe
import HandS.Head2
import HandS.HeadHook4
import PySem.Challenge.RW_twozeros_k10_running_totals_tried
set_option Elab.async false
set_option linter.all false
set_option maxRecDepth 100000
set_option maxHeartbeats 4000000
namespace Tz
open PySem L2
/-! ### heaps -/
/-- all but z is as it was -/
def Fw (z : Addr) (H H' : Hp) : Prop := ∀ a o, a ≠ z → H a = some o → H' a = some o
theorem Fw.refl (z : Addr) (H : Hp) : Fw z H H := fun _ _ _ h => h
theorem Fw.trans {z : Addr} {H H1 H2 : Hp} (a : Fw z H H1) (b : Fw z H1 H2) : Fw z H H2 := fun x o n h => b x o n (a x o n h)
theorem Fw.new {z : Addr} {H : Hp} {p : Addr} {o : HO} (h : H p = none) : Fw z H (upd H p o) := fun a u _ e => by
  rw [upd_ne (ne_of_none e h)]
  exact e
theorem Fw.at {z : Addr} {H : Hp} {o : HO} : Fw z H (upd H z o) := fun a u n e => by
  rw [upd_ne n]
  exact e
/-- all is as it was -/
def Ex (H H' : Hp) : Prop := ∀ a o, H a = some o → H' a = some o
theorem Ex.refl (H : Hp) : Ex H H := fun _ _ h => h
theorem Ex.trans {H H1 H2 : Hp} (a : Ex H H1) (b : Ex H1 H2) : Ex H H2 := fun x o h => b x o (a x o h)
theorem Ex.fw {z : Addr} {H H' : Hp} (e : Ex H H') : Fw z H H' := fun a o _ h => e a o h
theorem Ex.new {H : Hp} {p : Addr} {o : HO} (h : H p = none) : Ex H (upd H p o) := fun a u e => by
  rw [upd_ne (ne_of_none e h)]
  exact e
/-- a new object, told without its heap -/
theorem anew {H : Hp} {o : HO} {Q : V → Hp → Prop} (k : ∀ p H', H p = none → H' p = some o → Ex H H' → Q (.ref p) H') : ∀ p, H p = none → Q (.ref p) (upd H p o) := fun p hp => k p _ hp upd_same (Ex.new hp)
theorem sq {K : PySem.W.Frag} {H : Hp} {a : Addr} {xs : List V} (h : H a = some (.lst xs)) : SqL K H a xs := Or.inl (Or.inl h)
theorem sqt {K : PySem.W.Frag} {H : Hp} {a : Addr} {xs : List V} (h : H a = some (.tup xs)) : SqT K H a xs := Or.inl (Or.inl h)
theorem szl {n : Nat} (h : n ≤ 10000) : n ≤ sizeLine := Nat.le_trans h (by decide)
theorem gat {H H1 : Hp} {p : Addr} {o : HO} (g : upd H p o = H1) : H1 p = some o := by rw [← g]; exact upd_same
theorem gex {H H1 : Hp} {p : Addr} {o : HO} (g : upd H p o = H1) (h : H p = none) : Ex H H1 := by rw [← g]; exact Ex.new h
theorem gfw {H H1 : Hp} {p : Addr} {o : HO} (g : upd H p o = H1) : Fw p H H1 := by rw [← g]; exact Fw.at
/-! ### the pen -/
structure PenAt (H : Hp) (z c : Addr) (cells : List Int) (t : Nat) : Prop where
  pen : ∃ ix left : Int, H z = some (.lst [.ref c, .int ix, .int left]) ∧ 0 ≤ ix ∧ ix ≤ t ∧ 0 ≤ left
  cs : H c = some (.lst (cells.map V.int))
  ne : c ≠ z
  few : cells.length ≤ 63
theorem PenAt.ex {H H' : Hp} {z c : Addr} {cells : List Int} {t : Nat} (h : PenAt H z c cells t) (e : Ex H H') : PenAt H' z c cells t := by
  obtain ⟨⟨i, l, h1, h2⟩, h3, h4, h5⟩ := h
  exact ⟨⟨i, l, e _ _ h1, h2⟩, e _ _ h3, h4, h5⟩
theorem PenAt.mono {H : Hp} {z c : Addr} {cells : List Int} {t u : Nat} (h : PenAt H z c cells t) (e : t ≤ u) : PenAt H z c cells u := by
  obtain ⟨⟨i, l, h1, h2, h3, h6⟩, h4, h5, h7⟩ := h
  exact ⟨⟨i, l, h1, h2, by omega, h6⟩, h4, h5, h7⟩
theorem cell_get {cells : List Int} {j : Nat} (h : j < cells.length) : ∃ v : Int, (cells.map V.int)[j]? = some (.int v) := by
  refine ⟨cells[j], ?_⟩
  rw [List.getElem?_map, List.getElem?_eq_getElem h] <;> rfl
/-- one draw: what it asks, what it gives -/
def spDraw : Sp := fun vs H Q _ => ∃ z c cells t many, vs = [.ref z, .int many] ∧ PenAt H z c cells t ∧ t ≤ 100000 ∧ 0 < many ∧ many ≤ 100000 ∧
  ∀ n H', 0 ≤ n → n < many → PenAt H' z c cells (t + 1) → Fw z H H' → Q (.int n) H'
def spPen (K : PySem.W.Frag) : Sp := fun vs H Q _ => ∃ (a : Addr) (ns : List Int), vs = [.ref a] ∧ SqL K H a (ns.map V.int) ∧ ns.length ≤ 63 ∧
  ∀ z c H', PenAt H' z c ns 0 → Ex H H' → H z = none → H c = none → Q (.ref z) H'
def spWidth : Sp := fun vs H Q _ => ∃ z c cells t, vs = [.ref z] ∧ PenAt H z c cells t ∧ t ≤ 90000 ∧
  ∀ n H', 1 ≤ n → n ≤ 64 → PenAt H' z c cells (t + 2) → Fw z H H' → Q (.int n) H'
def spValue : Sp := fun vs H Q _ => ∃ z c cells t, ∃ w : Nat, vs = [.ref z, .int w] ∧ PenAt H z c cells t ∧ t ≤ 90000 ∧ 1 ≤ w ∧ w ≤ 64 ∧
  ∀ n H', 0 ≤ n → n < 2 ^ w → PenAt H' z c cells (t + 3) → Fw z H H' → Q (.int n) H'
/-! ### mathematics -/
theorem emod_bd {a m : Int} (h : 0 < m) : 0 ≤ a % m ∧ a % m < m := ⟨Int.emod_nonneg _ (by omega), Int.emod_lt_of_pos _ h⟩
theorem sq_le {i : Int} (h0 : 0 ≤ i) (h1 : i ≤ 100000) : 0 ≤ i * i ∧ i * i ≤ 10000000000 := by
  refine ⟨Int.mul_nonneg h0 h0, ?_⟩
  have := Int.mul_le_mul h1 h1 h0 (by decide : (0 : Int) ≤ 100000)
  omega
theorem mul_bd {a b A B : Int} (a0 : 0 ≤ a) (a1 : a ≤ A) (b0 : 0 ≤ b) (b1 : b ≤ B) : 0 ≤ a * b ∧ a * b ≤ A * B :=
  ⟨Int.mul_nonneg a0 b0, Int.mul_le_mul a1 b1 b0 (by omega)⟩
theorem cpow_of {i j : Int} (h0 : 0 ≤ i) (h1 : i < 18446744073709551616) (h2 : 0 ≤ j) (h3 : j ≤ 1000000) : CPow i j := ⟨h2, h3, by omega⟩
theorem draw_pw5 {cell ix a b : Int} (h0 : 0 ≤ ix) (h1 : ix ≤ 100000) (ha : 0 ≤ a) (ha2 : a ≤ 1000000) (hb : 0 ≤ b) (hb2 : b ≤ 1000000) : CPow (cell % 2147483563 + a * ix + b) 5 := by
  have h := emod_bd (a := cell) (m := 2147483563) (by decide)
  have m := mul_bd ha ha2 h0 h1
  exact cpow_of (by omega) (by omega) (by decide) (by decide)
theorem draw_pw3 {m ix c d e : Int} (h0 : 0 ≤ ix) (h1 : ix ≤ 100000) (m0 : 0 ≤ m) (m1 : m < 2147483629) (hc : 0 ≤ c) (hc2 : c ≤ 1000000) (hd : 0 ≤ d) (hd2 : d ≤ 1000000) (he : 0 ≤ e) (he2 : e ≤ 1000000) :
    CPow (m * (2 * ix + c) + d * ix * ix + e) 3 := by
  have a := mul_bd m0 (A := 2147483629) (by omega) (b := 2 * ix + c) (by omega) (B := 1200000) (by omega)
  have b := mul_bd hd hd2 h0 h1
  have g := mul_bd b.1 b.2 h0 h1
  exact cpow_of (by omega) (by omega) (by decide) (by decide)
theorem pow18 : (10 : Int) ^ (18 : Int).toNat = 1000000000000000000 := by decide
theorem pow_gt {n : Nat} (h : 1 ≤ n) : (1 : Int) < 2 ^ n := by
  obtain ⟨m, rfl⟩ : ∃ m, n = m + 1 := ⟨n - 1, by omega⟩
  have := Int.pow_pos (n := (2 : Int)) (m := m) (by decide)
  rw [Int.pow_succ]
  omega
theorem pow_le64 {n : Nat} (h : n ≤ 64) : (2 : Int) ^ n ≤ 18446744073709551616 := by
  have h1 : (2 : Nat) ^ n ≤ 2 ^ 64 := Nat.pow_le_pow_right (by decide) h
  have h2 : ((2 ^ n : Nat) : Int) = 2 ^ n := by rw [Int.natCast_pow] <;> rfl
  have h3 : (2 : Nat) ^ 64 = 18446744073709551616 := by decide
  omega
theorem and_top {wd : Nat} {x : Int} (hx : 0 ≤ x) : 0 ≤ Builtin.bitAnd x (2 ^ wd - 1) ∧ Builtin.bitAnd x (2 ^ wd - 1) < 2 ^ wd := by
  have e : Builtin.bitAnd x (2 ^ wd - 1) = x % 2 ^ wd := PySem.W.kbt_mask x wd
  rw [e]
  exact emod_bd (Int.pow_pos (by decide))
theorem back {H H' : Hp} {p : Addr} (e : Ex H H') (h : H' p = none) : H p = none := by
  cases q : H p with
  | none => rfl
  | some o =>
    rw [e _ _ q] at h
    cases h
theorem cut63 (n : Nat) : HT.sIx n n (some 63) = min 63 n := by
  show HT.sIx n n (some (63 : Int)) = min 63 n
  simp [HT.sIx]
  all_goals omega
theorem dp_ints {K : PySem.W.Frag} {H : Hp} : ∀ cells : List Int, DpAll K H (cells.map V.int) (cells.map PyData.int)
  | [] => DpAll.nil
  | c :: r => DpAll.cons (Dp.int c) (dp_ints r)
theorem lay_ints : ∀ cells : List Int, PyData.canLayAll0 (cells.map PyData.int) = true
  | [] => by rw [List.map_nil, PyData.canLayAll0]
  | c :: r => by rw [List.map_cons, PyData.canLayAll0, PyData.canLay0, lay_ints r] <;> rfl
theorem deep_ints : ∀ cells : List Int, PyData.depthAll (cells.map PyData.int) = 0
  | [] => by rw [List.map_nil, PyData.depthAll]
  | c :: r => by rw [List.map_cons, PyData.depthAll, PyData.depth, deep_ints r] <;> rfl
theorem shaped_ints (cells : List Int) : SeqAt.shaped (.list (cells.map PyData.int)) = true := by
  unfold SeqAt.shaped
  rw [PyData.canLay0, lay_ints, PyData.depth, deep_ints] <;> decide
end Tz
namespace TzOwn
open PySem L2 ClX
section
variable {X : Cx} {CX : CXT} {k : Nat} {f C g p : Addr} {fd : FuncData} {ps : List Str} {sp : Sp} {E : XK} {pins : List (Addr × Obj)} {σ : L2.St} {H : Hp} {s : Shared} {mc : Value} {m : Str} {o e : Expr} {es : List Expr} {apos pos : Pos} {ta : TE} {t : TA} {pl : Sem Bool}
theorem back_cmp {Q : VK} {u : Value} {s' : Shared} (h : EP X pins σ Q u s') : PySem.W.CmpBack (EP X pins σ Q) u s' := by
  obtain ⟨v, H', I, r, q⟩ := id h
  cases v with
  | non => cases (show u = Value.none from r); exact h
  | bl b => cases (show u = Value.bool b from r); exact h
  | int i => obtain ⟨t, e⟩ := (show ∃ t, u = Value.int i t from r); subst e; exact h
  | str i => obtain ⟨t, e⟩ := (show ∃ t, u = Value.str i t from r); subst e; exact h
  | byt i => obtain ⟨t, e⟩ := (show ∃ t, u = Value.bytes i t from r); subst e; exact h
  | flt i => obtain ⟨t, e⟩ := (show ∃ t, u = Value.float i t from r); subst e; exact h
  | ref a => cases (show u = Value.ref a from r); exact h
  | ty a => cases (show u = Value.type a from r); exact h
theorem inst_at (I : Inv X pins σ H s) {a dx : Addr} {fs : List (Str × V)} (h : H a = some (.ins C dx fs)) : ∃ od, PySem.W.InstAt s.heap a (PySem.W.instObj C dx) C (some od) := by
  obtain ⟨mA, J, _⟩ := ins_get I.hok h
  obtain ⟨od, J, _⟩ := J.look
  exact ⟨od, J⟩
/-- a, b instances of the class at C: its own method, by its promise -/
def rOwn (C : Addr) (sp : Sp) (E : XK) : R2 := fun x y H Q => ∃ a b dx dy fs gs, x = .ref a ∧ y = .ref b ∧ H a = some (.ins C dx fs) ∧ H b = some (.ins C dy gs) ∧ sp [.ref a, .ref b] H Q E
/-- a an instance, b an int -/
def rOwnI (C : Addr) (sp : Sp) (E : XK) : R2 := fun x y H Q => ∃ a n dx fs, x = .ref a ∧ y = .int n ∧ H a = some (.ins C dx fs) ∧ sp [.ref a, .int n] H Q E
def rIOwn (C : Addr) (sp : Sp) (E : XK) : R2 := fun x y H Q => ∃ a n dx fs, x = .int n ∧ y = .ref a ∧ H a = some (.ins C dx fs) ∧ sp [.ref a, .int n] H Q E
def rOwn1 (C : Addr) (sp : Sp) (E : XK) : V → Hp → VK → Prop := fun x H Q => ∃ a dx fs, x = .ref a ∧ H a = some (.ins C dx fs) ∧ sp [.ref a] H Q E
theorem op_own {op : Operator} {nm : Str} (F : FnOk X.prog X.w X.K X.mg X.base CX k f fd ps sp) (hr : Room k X.A) (M : Meth X.K C nm f) (hn : PySem.dunder op.info.2 = nm) (sf : PySem.W.selfFirst X.K C = true) (hb : Binds X.K fd ps []) (hx : Passes CX X E) :
    OpR X (binaryOp op) (rOwn C sp E) := by
  intro pins s σ H x y v u Q I rx ry h
  obtain ⟨a, b, dx, dy, fs, gs, rfl, rfl, ha, hb', q⟩ := h
  cases rx
  cases ry
  obtain ⟨od, J⟩ := inst_at I ha
  obtain ⟨od', J'⟩ := inst_at I hb'
  obtain ⟨m, hF⟩ := I.fr
  refine PySem.W.binop_K hF I.ok.mod.kin J J'.type sf (hn ▸ M.at_) M.fn ?_
  exact thn (run_fn (us := [.ref a, .ref b]) (vs := [.ref a, .ref b]) F hr hb .nil hx I (.cons rfl (.cons rfl .nil)) q) fun _ _ z => back_cmp z
theorem op_ownI {op : Operator} {nm nr : Str} {fo ro rc : Option Value} (F : FnOk X.prog X.w X.K X.mg X.base CX k f fd ps sp) (hr : Room k X.A) (M : Meth X.K C nm f) (hn : PySem.dunder op.info.2 = nm) (sf : PySem.W.selfFirst X.K C = true) (hb : Binds X.K fd ps []) (hx : Passes CX X E)
    (hnr : dunderR op.info.2 = nr) (hc : PySem.W.findIn X.K (.ref C) nr = some rc) (hp : rc = none ∨ ∃ g : Addr, rc = some (.ref g)) (h1 : PySem.W.findIn X.K (.type "int") nm = some fo) (h2 : PySem.W.findIn X.K (.type "int") nr = some ro)
    (hsub : PySem.W.subIn X.K (.type "int") (.ref C) = some false) :
    OpR X (binaryOp op) (rOwnI C sp E) := by
  intro pins s σ H x y v u Q I rx ry h
  obtain ⟨a, n, dx, fs, rfl, rfl, ha, q⟩ := h
  cases rx
  obtain ⟨t, rfl⟩ := ry
  obtain ⟨od, J⟩ := inst_at I ha
  obtain ⟨m, hF⟩ := I.fr
  refine PySem.W.ksp_binT (T := "int") hF I.ok.mod.kin J rfl sf (hn ▸ M.at_) M.fn (hnr ▸ hc) hp (hn ▸ h1) (hnr ▸ h2) hsub ?_
  exact thn (run_fn (us := [.ref a, .int n t]) (vs := [.ref a, .int n]) F hr hb .nil hx I (.cons rfl (.cons ⟨_, rfl⟩ .nil)) q) fun _ _ z => back_cmp z
theorem un_inv_own {nm : Str} (F : FnOk X.prog X.w X.K X.mg X.base CX k f fd ps sp) (hr : Room k X.A) (M : Meth X.K C nm f) (hn : "__invert__" = nm) (hb : Binds X.K fd ps []) (hx : Passes CX X E) : UnR X (unaryOp .Invert) (rOwn1 C sp E) := by
  intro pins s σ H x v Q I rx h
  obtain ⟨a, dx, fs, rfl, ha, q⟩ := h
  cases rx
  obtain ⟨od, J⟩ := inst_at I ha
  obtain ⟨m, hF⟩ := I.fr
  refine PySem.W.ksp_inv hF I.ok.mod.kin J (hn ▸ M.at_) M.fn ?_
  exact run_fn (us := [.ref a]) (vs := [.ref a]) F hr hb .nil hx I (.cons rfl .nil) q
theorem cmp_own {op : CmpOp} {nm : Str} (F : FnOk X.prog X.w X.K X.mg X.base CX k f fd ps sp) (hr : Room k X.A) (M : Meth X.K C nm f) (hn : (cmpInfo op).2.1 = nm) (ho : compareOp op = richCompare op) (hb : Binds X.K fd ps []) (hx : Passes CX X E) : OpR X (compareOp op) (rOwn C sp E) := by
  intro pins s σ H x y v u Q I rx ry h
  obtain ⟨a, b, dx, dy, fs, gs, rfl, rfl, ha, hb', q⟩ := h
  cases rx
  cases ry
  obtain ⟨od, J⟩ := inst_at I ha
  obtain ⟨od', J'⟩ := inst_at I hb'
  obtain ⟨m, hF⟩ := I.fr
  rw [ho]
  refine PySem.W.cmp_K (op := op) (tb := .ref C) hr.units0 hF I.ok.mod.kin J J'.type (by simp [PySem.W.notFirst]) (hn ▸ M.at_) M.fn ?_
  exact thn (run_fn (us := [.ref a, .ref b]) (vs := [.ref a, .ref b]) F hr hb .nil hx I (.cons rfl (.cons rfl .nil)) q) fun _ _ z => back_cmp z
theorem int_mul_ins (n : Int) (t : Tok) (x C dx : Addr) : Meets (Builtin.«int.__mul__» ⟨[.int n t, .ref x], []⟩) (fun _ R s => s.heap.get? x = some (PySem.W.instObj C dx) ∧ R (.ok (.ret Value.notImplemented)) s) :=
  .of_wp fun prog w A R s h => by obtain ⟨hp, g, d, tk, os⟩ := s; obtain ⟨hl, h⟩ := h; wp_walk; exact ⟨_, rfl, h⟩
theorem int_add_ins (n : Int) (t : Tok) (x C dx : Addr) : Meets (Builtin.«int.__add__» ⟨[.int n t, .ref x], []⟩) (fun _ R s => s.heap.get? x = some (PySem.W.instObj C dx) ∧ R (.ok (.ret Value.notImplemented)) s) :=
  .of_wp fun prog w A R s h => by obtain ⟨hp, g, d, tk, os⟩ := s; obtain ⟨hl, h⟩ := h; wp_walk; exact ⟨_, rfl, h⟩
theorem int_sub_ins (n : Int) (t : Tok) (x C dx : Addr) : Meets (Builtin.«int.__sub__» ⟨[.int n t, .ref x], []⟩) (fun _ R s => s.heap.get? x = some (PySem.W.instObj C dx) ∧ R (.ok (.ret Value.notImplemented)) s) :=
  .of_wp fun prog w A R s h => by obtain ⟨hp, g, d, tk, os⟩ := s; obtain ⟨hl, h⟩ := h; wp_walk; exact ⟨_, rfl, h⟩
theorem int_xor_ins (n : Int) (t : Tok) (x C dx : Addr) : Meets (Builtin.«int.__xor__» ⟨[.int n t, .ref x], []⟩) (fun _ R s => s.heap.get? x = some (PySem.W.instObj C dx) ∧ R (.ok (.ret Value.notImplemented)) s) :=
  .of_wp fun prog w A R s h => by obtain ⟨hp, g, d, tk, os⟩ := s; obtain ⟨hl, h⟩ := h; wp_walk; exact ⟨_, rfl, h⟩
/-- int op instance: the left one declines, the class's reflected method answers -/
theorem op_iown {op : Operator} {nm nl : Str} {fl : Addr} {idl : String} {B : Builtin} (F : FnOk X.prog X.w X.K X.mg X.base CX k f fd ps sp) (hr : Room k X.A) (M : Meth X.K C nm f) (hn : dunderR op.info.2 = nm) (ML : Meth X.K C nl fl) (hnl : PySem.dunder op.info.2 = nl) (sf : PySem.W.selfFirst X.K C = true)
    (hb : Binds X.K fd ps []) (hx : Passes CX X E) (hsub : PySem.W.subIn X.K (.ref C) (.type "int") = some false)
    (fills : fillsNumberSlot (.type "int") op.info.2 = pure true) (slot : Slot "int" (PySem.dunder op.info.2) idl) (entry : entryFor table idl = some B) (args : ∀ n t a, argsOk idl ⟨[.int n t, .ref a], []⟩)
    (meets : ∀ n t x dx, Meets (B ⟨[.int n t, .ref x], []⟩) (fun _ R s => s.heap.get? x = some (PySem.W.instObj C dx) ∧ R (.ok (.ret Value.notImplemented)) s)) :
    OpR X (binaryOp op) (rIOwn C sp E) := by
  intro pins s σ H x y v u Q I rx ry h
  obtain ⟨a, n, dx, fs, rfl, rfl, ha, q⟩ := h
  cases ry
  obtain ⟨t, rfl⟩ := rx
  obtain ⟨mA, J0, _⟩ := ins_get I.hok ha
  obtain ⟨od, J, _⟩ := J0.look
  have Xk := I.kIn
  obtain ⟨cd, rest, hcd, hm⟩ := PySem.W.ksp_first sf
  rcases hi : op.info with ⟨sym, nm'⟩
  rw [hi] at hn hnl fills slot
  dsimp only at hn hnl fills slot
  have L3 : PySem.W.Looks (model X.prog X.w) s.heap (fillsNumberSlot (.ref C) nm') true := PySem.W.fills_K Xk hcd hm (hnl ▸ ML.at_)
  have L5 : PySem.W.Looks (model X.prog X.w) s.heap (isSubtype (.ref C) (.type "int")) false := PySem.W.looks_subIn Xk hsub
  have hne : (Value.type "int" == Value.ref C) = false := Bool.eq_false_iff.mpr fun q => by cases beq_iff_eq.mp q
  have L0 : typeOf (.int n t) = pure (.type "int") := rfl
  simp only [binaryOp, hi]
  refine wpAny_holding (wpAny_bind ?_)
  unfold binaryOp1
  refine wpAny_bind (wpAny_of_eq L0 (wpAny_bind (J.type.here (wpAny_bind (wpAny_of_eq fills ?_)))))
  simp only [hne, Bool.false_eq_true, if_false]
  refine wpAny_bind (L3.here ?_)
  simp only [Bool.and_self, if_true]
  refine wpAny_bind (L5.here ?_)
  have hpy : numberSlotInPython (.type "int") nm' = pure false := rfl
  simp only [Bool.false_eq_true, if_false, pure_bind, Bool.not_false, Bool.and_self, if_true, hpy]
  refine wpAny_bind (wpAny_tryMethod_declines (T := "int") rfl slot (call_meets slot rfl entry (args n t a) (meets n t a dx) ⟨J0.obj, rfl, ?_⟩))
  refine wpAny_bind ?_
  have z := PySem.W.ksp_try (Q := EP X pins σ Q) Xk J (hn ▸ M.at_) M.fn (thn (run_fn (us := [.ref a, .int n t]) (vs := [.ref a, .int n]) F hr hb .nil hx I (.cons rfl (.cons ⟨_, rfl⟩ .nil)) q) fun _ _ z => back_cmp z)
  refine wpAny_mono z (fun r s' hr' => ?_) fun _ _ e => e
  obtain ⟨v, rfl, hq⟩ := hr'
  exact wpAny_bind (wpAny_rule (wpAny_pure (wpAny_pure hq)))
/-- C.m is a staticmethod: its record at p, its def at g -/
structure SMet (K : PySem.W.Frag) (C : Addr) (mc : Value) (m : Str) (p g : Addr) : Prop where
  at_ : PySem.W.findCls K (.ref C) mc m = some (.get (.builtin "staticmethod.__get__") (.ref p) .none (.ref C))
  rc : ∃ rest, PySem.W.recIn K p "staticmethod" = some (.ref g :: rest)
  kp : PySem.W.keepIn K (.ref g) = true
theorem getsmet_ok {b : Bool} {A : Around} {E : Value → Shared → Prop} {Q : Value → Shared → Prop} (I : Inv X pins σ H s) (r : CRead X.K C mc) (c : SMet X.K C mc m p g)
    (h : ∀ s', Inv X pins σ H s' → Q (.ref g) s') : wpAny (model X.prog X.w) A (getAttr (.ref C) m b) Q E s := by
  obtain ⟨rest, hp⟩ := c.rc
  refine PySem.W.cls_bind I.kIn r.rd c.at_ ?_
  exact wpAny_call (PySem.W.sm_get (s := { s with toks := s.toks + 1 }) I.kIn hp (PySem.W.handed_on rfl (h _ (I.tok _))))
def tSMeth (C : Addr) (sp : Sp) (E : XK) (ta : TE) (t : TA) : TE := fun σ H Q => ta σ H fun x H1 => x = .ref C ∧ t σ H1 fun vs H2 => sp vs H2 Q E
theorem pe_smeth (he : PE X o ta) (r : CRead X.K C mc) (c : SMet X.K C mc m p g) (F : FnOk X.prog X.w X.K X.mg X.base CX k g fd ps sp) (hr : Room k X.A) (hb : Binds X.K fd ps []) (hx : Passes CX X E) (ha : PA X (e :: es) t)
    (hst : starEach (e :: es) X.env = (false, eval e X.env) :: starEach es X.env := by rfl) (hpl : (backTo pos (starEach es X.env)).any (·.1) = false := by rfl)
    (ht : eval (.Call (.Attribute o m apos) (e :: es) [] pos) X.env = (do
      let ov ← eval o X.env
      standAt apos.atName
      let (f, first) ← holding [ov] (getMethod ov m pl)
      callWith pos f first (backTo pos (starEach (e :: es) X.env)) (backToKw pos (keywordEach [] X.env))) := by rfl) :
    PE X (.Call (.Attribute o m apos) (e :: es) [] pos) (tSMeth C sp E ta t) := by
  refine ⟨fun pins s σ H Q I h => ?_⟩
  refine PySem.W.methodCall_KW (pl := pl) (thn (he.run pins s σ H _ I h) fun u s1 ⟨x, H1, I1, rx, ex, q⟩ => ?_) ht
  subst ex
  obtain rfl : u = Value.ref C := rx
  refine PySem.W.method_cls I1.kIn r.ga (getsmet_ok I1 r c fun s2 I2 => ?_)
  refine PySem.W.callWith_K (first := []) (h₀ := X.base) I.ok.mod.kin c.kp (thn (ha.run pos _ s2 σ H1 _ I2 q) fun us s3 ⟨vs, H2, I3, rv, q2⟩ => ⟨I3.kIn, ?_⟩) hst hpl
  exact run_fn (us := us) (vs := vs) F hr hb .nil hx I3 rv (by rw [List.append_nil]; exact q2)
end
end TzOwn
namespace TzOwn
open PySem L2 SeqAt
section
variable {X : Cx}
/-- xs != [], xs == [], whatever the items are: the second list is empty -/
def rNeNil : R2 := fun x y H Q => ∃ a b xs, x = .ref a ∧ y = .ref b ∧ H a = some (.lst xs) ∧ H b = some (.lst []) ∧ Q (.bl (!xs.isEmpty)) H
def rEqNil : R2 := fun x y H Q => ∃ a b xs, x = .ref a ∧ y = .ref b ∧ H a = some (.lst xs) ∧ H b = some (.lst []) ∧ Q (.bl xs.isEmpty) H
theorem op_neNil (hu : X.A.units < cLine) : OpR X (compareOp .NotEq) rNeNil := by
  intro pins s σ H x y v u Q I rx ry h
  obtain ⟨a, b, xs, rfl, rfl, ha, hb, q⟩ := h
  cases rx
  cases ry
  obtain ⟨_, its, n, r, e⟩ := I.hok a _ ha
  obtain ⟨_, its2, n2, r2, e2⟩ := I.hok b _ hb
  have l2 : its2 = [] := List.length_eq_zero_iff.mp r2.length.symm
  subst l2
  show wpAny (model X.prog X.w) X.A (richCompare .NotEq (.ref a) (.ref b)) (EP X pins σ Q) X.xe s
  cases xs with
  | nil =>
    have l1 : its = [] := List.length_eq_zero_iff.mp r.length.symm
    subst l1
    exact RcNeAt.lists (e := fun _ => true) ⟨_, e, rfl, n, rfl⟩ ⟨_, e2, rfl, n2, rfl⟩ rfl hu (fun i h1 => absurd h1 (Nat.not_lt_zero _)) _ _ _ _ ⟨.bl false, H, I, rfl, q⟩
  | cons y ys =>
    have l1 : its.length = ys.length + 1 := r.length.symm
    exact RcNeAt.lists_lengths ⟨_, e, rfl, n, rfl⟩ ⟨_, e2, rfl, n2, rfl⟩ (by simp [l1]) hu _ _ _ _ ⟨.bl true, H, I, rfl, q⟩
end
end TzOwn
namespace Tz
open PySem L2
/-! ### mathematics of carried sums -/
/-- the greatest value -/
def mw (w : Nat) : Int := 2 ^ w - 1
theorem mw_pos {w : Nat} (h : 1 ≤ w) : 1 ≤ mw w := by
  have := pow_gt h
  unfold mw
  omega
theorem mw_64 {w : Nat} (h : w ≤ 64) : mw w < 18446744073709551616 := by
  have := pow_le64 h
  unfold mw
  omega
theorem mw_lt {w : Nat} {v : Int} : v < 2 ^ w ↔ v ≤ mw w := by
  unfold mw
  omega
/-- the value of a sum of words whose plain sum is n -/
def cr (w : Nat) (n : Int) : Int := if 0 < n then (n - 1) % mw w + 1 else 0
theorem cr_bd {w : Nat} (h : 1 ≤ w) (n : Int) : 0 ≤ cr w n ∧ cr w n ≤ mw w := by
  have hm := mw_pos h
  unfold cr
  split
  · have := emod_bd (a := n - 1) (m := mw w) (by omega)
    omega
  · omega
theorem cr_pos {w : Nat} (h : 1 ≤ w) {n : Int} (hn : 0 < n) : 1 ≤ cr w n := by
  have hm := mw_pos h
  unfold cr
  rw [if_pos hn]
  have := emod_bd (a := n - 1) (m := mw w) (by omega)
  omega
theorem cr_zero (w : Nat) : cr w 0 = 0 := rfl
theorem cr_non {w : Nat} {n : Int} (h : ¬ 0 < n) : cr w n = 0 := if_neg h
/-- the one word from 1 to M with the rest of n -/
theorem cr_eq {w : Nat} {n r q : Int} (hn : 0 < n) (h1 : 1 ≤ r) (h2 : r ≤ mw w) (e : n = r + mw w * q) : cr w n = r := by
  unfold cr
  rw [if_pos hn, show n - 1 = (r - 1) + mw w * q by omega, Int.add_mul_emod_self_left, Int.emod_eq_of_lt (by omega) (by omega)]
  omega
theorem cr_ex {w : Nat} (n : Int) (hn : 0 < n) : ∃ q, n = cr w n + mw w * q := by
  refine ⟨(n - 1) / mw w, ?_⟩
  unfold cr
  rw [if_pos hn]
  have := Int.emod_add_mul_ediv (n - 1) (mw w)
  omega
theorem cr_self {w : Nat} {x : Int} (h0 : 0 ≤ x) (h1 : x ≤ mw w) : cr w x = x := by
  by_cases h : 0 < x
  · exact cr_eq (q := 0) h (by omega) h1 (by omega)
  · rw [cr_non h]
    omega
/-- the carry may be done ahead -/
theorem cr_add {w : Nat} (h : 1 ≤ w) {a b : Int} (ha : 0 ≤ a) (hb : 0 ≤ b) : cr w (cr w a + b) = cr w (a + b) := by
  by_cases h0 : 0 < a
  · obtain ⟨q, e⟩ := cr_ex (w := w) a h0
    have p1 := cr_pos h h0
    have p2 := cr_bd h (a + b)
    have p3 := cr_pos h (n := a + b) (by omega)
    obtain ⟨r, e2⟩ := cr_ex (w := w) (a + b) (by omega)
    refine cr_eq (q := r - q) (by omega) p3 p2.2 ?_
    rw [Int.mul_sub]
    omega
  · rw [cr_non h0, show a = 0 by omega]
theorem cr_add2 {w : Nat} (h : 1 ≤ w) {a b : Int} (ha : 0 ≤ a) (hb : 0 ≤ b) : cr w (cr w a + cr w b) = cr w (a + b) := by
  rw [cr_add h ha (cr_bd h b).1, Int.add_comm, cr_add h hb ha, Int.add_comm]
theorem cr_mul {w : Nat} (h : 1 ≤ w) {k a : Int} (hk : 0 ≤ k) (ha : 0 ≤ a) : cr w (k * cr w a) = cr w (k * a) := by
  by_cases h0 : 0 < a
  · by_cases k0 : 0 < k
    · obtain ⟨q, e⟩ := cr_ex (w := w) a h0
      have p1 := cr_pos h h0
      have hka := Int.mul_pos k0 h0
      have hkc := Int.mul_pos k0 (show 0 < cr w a by omega)
      have p2 := cr_bd h (k * a)
      have p3 := cr_pos h hka
      obtain ⟨r, e2⟩ := cr_ex (w := w) (k * a) hka
      refine cr_eq (q := r - k * q) hkc p3 p2.2 ?_
      have e3 : k * a = k * cr w a + mw w * (k * q) := by
        conv => lhs; rw [e]
        rw [Int.mul_add, Int.mul_left_comm]
      rw [Int.mul_sub]
      omega
    · rw [show k = 0 by omega, Int.zero_mul, Int.zero_mul]
  · rw [cr_non h0, show a = 0 by omega]
/-! ### what a word is -/
/-- its attributes, in the order in which __init__ stores them -/
def wf (w : Nat) (v : Int) : List (Str × V) :=
  putF "is_full" (.bl (v == mw w)) (putF "is_empty" (.bl (v == 0)) (putF "rest" (.int (v % mw w)) (putF "value" (.int v) (putF "width" (.int w) []))))
theorem sne : (¬ (("width" : Str) = "value")) ∧ (¬ (("width" : Str) = "rest")) ∧ (¬ (("width" : Str) = "is_empty")) ∧ (¬ (("width" : Str) = "is_full")) ∧ (¬ (("value" : Str) = "rest")) ∧ (¬ (("value" : Str) = "is_empty")) ∧ (¬ (("value" : Str) = "is_full")) ∧
    (¬ (("rest" : Str) = "is_empty")) ∧ (¬ (("rest" : Str) = "is_full")) ∧ (¬ (("is_empty" : Str) = "is_full")) := by decide +kernel
theorem wf_width (w : Nat) (v : Int) : (wf w v).lookup ("width" : Str) = some (.int w) := by
  unfold wf
  rw [lookup_putF, if_neg sne.2.2.2.1, lookup_putF, if_neg sne.2.2.1, lookup_putF, if_neg sne.2.1, lookup_putF, if_neg sne.1, lookup_putF, if_pos rfl]
theorem wf_value (w : Nat) (v : Int) : (wf w v).lookup ("value" : Str) = some (.int v) := by
  unfold wf
  rw [lookup_putF, if_neg sne.2.2.2.2.2.2.1, lookup_putF, if_neg sne.2.2.2.2.2.1, lookup_putF, if_neg sne.2.2.2.2.1, lookup_putF, if_pos rfl]
theorem wf_rest (w : Nat) (v : Int) : (wf w v).lookup ("rest" : Str) = some (.int (v % mw w)) := by
  unfold wf
  rw [lookup_putF, if_neg sne.2.2.2.2.2.2.2.2.1, lookup_putF, if_neg sne.2.2.2.2.2.2.2.1, lookup_putF, if_pos rfl]
theorem wf_is_empty (w : Nat) (v : Int) : (wf w v).lookup ("is_empty" : Str) = some (.bl (v == 0)) := by
  unfold wf
  rw [lookup_putF, if_neg sne.2.2.2.2.2.2.2.2.2, lookup_putF, if_pos rfl]
theorem wf_is_full (w : Nat) (v : Int) : (wf w v).lookup ("is_full" : Str) = some (.bl (v == mw w)) := by
  unfold wf
  rw [lookup_putF, if_pos rfl]
theorem wf_no (w : Nat) (v : Int) {m : Str} (h1 : ¬ m = "width") (h2 : ¬ m = "value") (h3 : ¬ m = "rest") (h4 : ¬ m = "is_empty") (h5 : ¬ m = "is_full") : (wf w v).lookup m = none := by
  unfold wf
  rw [lookup_putF, if_neg h5, lookup_putF, if_neg h4, lookup_putF, if_neg h3, lookup_putF, if_neg h2, lookup_putF, if_neg h1]
  all_goals rfl
structure WordAt (C : Addr) (H : Hp) (x : Addr) (w : Nat) (v : Int) : Prop where
  ob : ∃ dx, H x = some (.ins C dx (wf w v))
  w1 : 1 ≤ w
  w64 : w ≤ 64
  v0 : 0 ≤ v
  vm : v ≤ mw w
theorem WordAt.ex {C : Addr} {H H' : Hp} {x : Addr} {w : Nat} {v : Int} (h : WordAt C H x w v) (e : Ex H H') : WordAt C H' x w v := by
  obtain ⟨⟨dx, h1⟩, h2, h3, h4, h5⟩ := h
  exact ⟨⟨dx, e _ _ h1⟩, h2, h3, h4, h5⟩
theorem WordAt.fw {C : Addr} {H H' : Hp} {x z : Addr} {w : Nat} {v : Int} (h : WordAt C H x w v) (e : Fw z H H') (n : x ≠ z) : WordAt C H' x w v := by
  obtain ⟨⟨dx, h1⟩, h2, h3, h4, h5⟩ := h
  exact ⟨⟨dx, e _ _ n h1⟩, h2, h3, h4, h5⟩
theorem WordAt.ne_pen {C : Addr} {H : Hp} {x z c : Addr} {w t : Nat} {v : Int} {cells : List Int} (h : WordAt C H x w v) (p : PenAt H z c cells t) : x ≠ z := by
  obtain ⟨⟨dx, h1⟩, _⟩ := h
  obtain ⟨⟨i, l, h2, _⟩, _⟩ := p
  exact ne_of h1 h2 (by intro q; cases q)
/-! ### promises -/
def spIsFromI : Sp := fun vs H Q _ => ∃ v lo hi : Int, vs = [.int v, .int lo, .int hi] ∧ ∀ b : Bool, (b = true ↔ lo ≤ v ∧ v ≤ hi) → Q (.bl b) H
def spMost : Sp := fun vs H Q _ => ∃ w : Nat, vs = [.int w] ∧ 1 ≤ w ∧ w ≤ 64 ∧ Q (.int (mw w)) H
def spCheckedWidth : Sp := fun vs H Q _ => ∃ w : Nat, vs = [.int w] ∧ 1 ≤ w ∧ w ≤ 64 ∧ Q (.int w) H
def spWordInit (C : Addr) : Sp := fun vs H Q _ => ∃ p dx, ∃ w : Nat, ∃ v : Int, vs = [.ref p, .int w, .int v] ∧ H p = some (.ins C dx []) ∧ 1 ≤ w ∧ w ≤ 64 ∧ 0 ≤ v ∧ v ≤ mw w ∧
  ∀ H', H' p = some (.ins C dx (wf w v)) → (∀ b o, H b = some o → b ≠ p → H' b = some o) → Q .non H'
def spCarried : Sp := fun vs H Q _ => ∃ w : Nat, ∃ n : Int, vs = [.int w, .int n] ∧ 1 ≤ w ∧ w ≤ 64 ∧ Q (.int (cr w n)) H
/-- a new word -/
def NewW (C : Addr) (w : Nat) (v : Int) (H : Hp) (Q : VK) : Prop := ∀ p H', H p = none → Ex H H' → WordAt C H' p w v → Q (.ref p) H'
theorem NewW.go {C : Addr} {w : Nat} {v : Int} {H H1 H2 : Hp} {Q : VK} {p : Addr} (k : NewW C w v H Q) (e : Ex H H1) (n : H1 p = none) (e2 : Ex H1 H2) (W : WordAt C H2 p w v) : Q (.ref p) H2 := k p H2 (back e n) (e.trans e2) W
def spSumWord (C : Addr) : Sp := fun vs H Q _ => ∃ w : Nat, ∃ a b : Int, vs = [.int w, .int a, .int b] ∧ 1 ≤ w ∧ w ≤ 64 ∧ NewW C w (cr w (a + b)) H Q
def spDiffWord (C : Addr) : Sp := fun vs H Q _ => ∃ w : Nat, ∃ a b : Int, vs = [.int w, .int a, .int b] ∧ 1 ≤ w ∧ w ≤ 64 ∧ NewW C w (cr w (a + (mw w - b))) H Q
def spTimes : Sp := fun vs H Q _ => ∃ k : Int, vs = [.int k] ∧ 0 ≤ k ∧ k ≤ 1000000000000000000000000000000 ∧ Q (.int k) H
def spTurned (C : Addr) : Sp := fun vs H Q _ => ∃ x, ∃ w : Nat, ∃ v k : Int, vs = [.ref x, .int k] ∧ WordAt C H x w v ∧ NewW C w (cr w (v * 2 ^ (k % w).toNat)) H Q
def spOperand (C : Addr) : Sp := fun vs H Q _ => ∃ x y, ∃ w : Nat, ∃ u v : Int, vs = [.ref x, .ref y] ∧ WordAt C H x w u ∧ WordAt C H y w v ∧ Q (.int v) H
def spAdd (C : Addr) : Sp := fun vs H Q _ => ∃ x y, ∃ w : Nat, ∃ u v : Int, vs = [.ref x, .ref y] ∧ WordAt C H x w u ∧ WordAt C H y w v ∧ NewW C w (cr w (u + v)) H Q
def spSub (C : Addr) : Sp := fun vs H Q _ => ∃ x y, ∃ w : Nat, ∃ u v : Int, vs = [.ref x, .ref y] ∧ WordAt C H x w u ∧ WordAt C H y w v ∧ NewW C w (cr w (u + (mw w - v))) H Q
def spEq (C : Addr) : Sp := fun vs H Q _ => ∃ x y, ∃ w1 w2 : Nat, ∃ u v : Int, vs = [.ref x, .ref y] ∧ WordAt C H x w1 u ∧ WordAt C H y w2 v ∧ Q (.bl (decide (w1 = w2) && decide (u = v))) H
def spLike (C : Addr) : Sp := fun vs H Q _ => ∃ x y, ∃ w : Nat, ∃ u v : Int, vs = [.ref x, .ref y] ∧ WordAt C H x w u ∧ WordAt C H y w v ∧ Q (.bl (decide (u % mw w = v % mw w))) H
def spMulI (C : Addr) : Sp := fun vs H Q _ => ∃ x, ∃ w : Nat, ∃ u k : Int, vs = [.ref x, .int k] ∧ WordAt C H x w u ∧ 0 ≤ k ∧ k ≤ 1000000000000000000000000000000 ∧ NewW C w (cr w (k * u)) H Q
def spShlI (C : Addr) : Sp := fun vs H Q _ => ∃ x, ∃ w : Nat, ∃ u k : Int, vs = [.ref x, .int k] ∧ WordAt C H x w u ∧ 0 ≤ k ∧ k ≤ 1000000000000000000000000000000 ∧ NewW C w (cr w (u * 2 ^ (k % w).toNat)) H Q
def spInv (C : Addr) : Sp := fun vs H Q _ => ∃ x, ∃ w : Nat, ∃ u : Int, vs = [.ref x] ∧ WordAt C H x w u ∧ NewW C w (mw w - u) H Q
def spConst (C : Addr) (f : Nat → Int) : Sp := fun vs H Q _ => ∃ w : Nat, vs = [.int w] ∧ 1 ≤ w ∧ w ≤ 64 ∧ NewW C w (f w) H Q
/-- a new instance and its __init__ -/
theorem mk_word {C : Addr} {w : Nat} {v : Int} {H : Hp} {Q : VK} {E : XK} (w1 : 1 ≤ w) (w64 : w ≤ 64) (v0 : 0 ≤ v) (vm : v ≤ mw w) (k : NewW C w v H Q) :
    ∀ x dx, H x = none → H dx = none → dx ≠ x → spWordInit C [.ref x, .int w, .int v] (upd (upd H dx (.own x)) x (.ins C dx [])) (fun u H2 => u = .non ∧ Q (.ref x) H2) E := fun x dx nx ndx _ =>
  ⟨x, dx, w, v, rfl, upd_same, w1, w64, v0, vm, fun H' hx hk => ⟨rfl, k x H' nx (fun b o e => hk b o (by rw [upd_ne (ne_of_none e nx), upd_ne (ne_of_none e ndx)]; exact e) (ne_of_none e nx)) ⟨⟨dx, hx⟩, w1, w64, v0, vm⟩⟩⟩
theorem kit_self {K : PySem.W.Frag} {v : Value} : PySem.W.kitOne K v v = some true := by
  unfold PySem.W.kitOne
  rw [if_pos (beq_self_eq_true v)]
/-! ### rows of words -/
inductive Ws (C : Addr) (H : Hp) (w : Nat) : List Addr → List Int → Prop where
  | nil : Ws C H w [] []
  | cons {x : Addr} {v : Int} {xs : List Addr} {vs : List Int} (h : WordAt C H x w v) (t : Ws C H w xs vs) : Ws C H w (x :: xs) (v :: vs)
theorem Ws.len {C : Addr} {H : Hp} {w : Nat} {xs : List Addr} {vs : List Int} (h : Ws C H w xs vs) : xs.length = vs.length := by
  induction h with
  | nil => rfl
  | cons _ _ ih => rw [List.length_cons, List.length_cons, ih]
theorem Ws.get {C : Addr} {H : Hp} {w : Nat} {xs : List Addr} {vs : List Int} (h : Ws C H w xs vs) : ∀ {i : Nat}, i < xs.length → ∃ x v, xs[i]? = some x ∧ vs[i]? = some v ∧ WordAt C H x w v := by
  induction h with
  | nil => intro i hi; exact absurd hi (Nat.not_lt_zero _)
  | @cons x v xs vs h t ih =>
    intro i hi
    cases i with
    | zero => exact ⟨x, v, rfl, rfl, h⟩
    | succ i => exact ih (by simpa using hi)
theorem Ws.fw {C : Addr} {H H' : Hp} {w : Nat} {xs : List Addr} {vs : List Int} (h : Ws C H w xs vs) (k : ∀ x v, WordAt C H x w v → WordAt C H' x w v) : Ws C H' w xs vs := by
  induction h with
  | nil => exact .nil
  | cons h _ ih => exact .cons (k _ _ h) ih
theorem Ws.app {C : Addr} {H : Hp} {w : Nat} {xs ys : List Addr} {vs us : List Int} (h : Ws C H w xs vs) (g : Ws C H w ys us) : Ws C H w (xs ++ ys) (vs ++ us) := by
  induction h with
  | nil => exact g
  | cons h _ ih => exact .cons h ih
theorem Ws.take {C : Addr} {H : Hp} {w : Nat} {xs : List Addr} {vs : List Int} (h : Ws C H w xs vs) : ∀ n, Ws C H w (xs.take n) (vs.take n) := by
  induction h with
  | nil => intro n; rw [List.take_nil, List.take_nil]; exact .nil
  | cons h _ ih =>
    intro n
    cases n with
    | zero => exact .nil
    | succ n => exact .cons h (ih n)
theorem Ws.drop {C : Addr} {H : Hp} {w : Nat} {xs : List Addr} {vs : List Int} (h : Ws C H w xs vs) : ∀ n, Ws C H w (xs.drop n) (vs.drop n) := by
  induction h with
  | nil => intro n; rw [List.drop_nil, List.drop_nil]; exact .nil
  | @cons x v xs vs h t ih =>
    intro n
    cases n with
    | zero => exact .cons h t
    | succ n => exact ih n
theorem Ws.erase {C : Addr} {H : Hp} {w : Nat} {xs : List Addr} {vs : List Int} (h : Ws C H w xs vs) : ∀ n, Ws C H w (xs.eraseIdx n) (vs.eraseIdx n) := by
  induction h with
  | nil => intro n; exact .nil
  | @cons x v xs vs h t ih =>
    intro n
    cases n with
    | zero => exact t
    | succ n => exact .cons h (ih n)
theorem Ws.nonneg {C : Addr} {H : Hp} {w : Nat} {xs : List Addr} {vs : List Int} (h : Ws C H w xs vs) : 0 ≤ vs.sum := by
  induction h with
  | nil => exact Int.le_refl 0
  | cons h _ ih =>
    have := h.v0
    rw [List.sum_cons]
    omega
theorem sum_erase : ∀ {vs : List Int} {i : Nat} {v : Int}, vs[i]? = some v → vs.sum = v + (vs.eraseIdx i).sum
  | [], i, v, h => by simp at h
  | a :: r, 0, v, h => by
    have e : a = v := Option.some.inj h
    subst e
    rw [List.sum_cons, List.eraseIdx_cons_zero]
  | a :: r, i + 1, v, h => by
    have ih := sum_erase (vs := r) (i := i) (v := v) h
    rw [List.sum_cons, ih, List.eraseIdx_cons_succ, List.sum_cons]
    omega
theorem sum_mid : ∀ {vs : List Int} {i : Nat} {a b : Int}, vs[i]? = some a → vs[i + 1]? = some b → vs.sum = (vs.take i).sum + (a + b) + (vs.drop (i + 2)).sum
  | [], i, a, b, h, _ => by simp at h
  | [c], i, a, b, _, h => by simp at h
  | c :: d :: r, 0, a, b, h, h' => by
    have e : c = a := Option.some.inj h
    have e' : d = b := Option.some.inj h'
    subst e e'
    show (c :: d :: r).sum = 0 + (c + d) + r.sum
    rw [List.sum_cons, List.sum_cons]
    omega
  | c :: d :: r, i + 1, a, b, h, h' => by
    have ih := sum_mid (vs := d :: r) (i := i) (a := a) (b := b) h h'
    rw [List.sum_cons, ih, List.take_succ_cons, List.sum_cons]
    show c + ((List.take i (d :: r)).sum + (a + b) + (List.drop (i + 2) (d :: r)).sum) = c + (List.take i (d :: r)).sum + (a + b) + (List.drop (i + 2) (d :: r)).sum
    omega
/-! ### one operation, told by words -/
section
variable {C : Addr} {E : XK} {H : Hp} {Q : VK} {a b : Addr} {w w' : Nat} {u v k : Int}
theorem g_add (Wa : WordAt C H a w u) (Wb : WordAt C H b w v) (q : NewW C w (cr w (u + v)) H Q) : TzOwn.rOwn C (spAdd C) E (.ref a) (.ref b) H Q := by
  obtain ⟨da, ha⟩ := Wa.ob
  obtain ⟨db, hb⟩ := Wb.ob
  exact ⟨a, b, da, db, _, _, rfl, rfl, ha, hb, a, b, w, u, v, rfl, Wa, Wb, q⟩
theorem g_sub (Wa : WordAt C H a w u) (Wb : WordAt C H b w v) (q : NewW C w (cr w (u + (mw w - v))) H Q) : TzOwn.rOwn C (spSub C) E (.ref a) (.ref b) H Q := by
  obtain ⟨da, ha⟩ := Wa.ob
  obtain ⟨db, hb⟩ := Wb.ob
  exact ⟨a, b, da, db, _, _, rfl, rfl, ha, hb, a, b, w, u, v, rfl, Wa, Wb, q⟩
theorem g_eq (Wa : WordAt C H a w u) (Wb : WordAt C H b w v) (q : Q (.bl (decide (u = v))) H) : TzOwn.rOwn C (spEq C) E (.ref a) (.ref b) H Q := by
  obtain ⟨da, ha⟩ := Wa.ob
  obtain ⟨db, hb⟩ := Wb.ob
  refine ⟨a, b, da, db, _, _, rfl, rfl, ha, hb, a, b, w, w, u, v, rfl, Wa, Wb, ?_⟩
  rw [decide_eq_true (rfl : w = w), Bool.true_and]
  exact q
/-- .. two that are equal -/
theorem g_eqT (Wa : WordAt C H a w u) (Wb : WordAt C H b w v) (e : u = v) (q : Q (.bl true) H) : TzOwn.rOwn C (spEq C) E (.ref a) (.ref b) H Q := g_eq Wa Wb (by rw [decide_eq_true e]; exact q)
theorem g_rmul (Wa : WordAt C H a w u) (k0 : 0 ≤ k) (k1 : k ≤ 1000000000000000000000000000000) (q : NewW C w (cr w (k * u)) H Q) : TzOwn.rIOwn C (spMulI C) E (.int k) (.ref a) H Q := by
  obtain ⟨da, ha⟩ := Wa.ob
  exact ⟨a, k, da, _, rfl, rfl, ha, a, w, u, k, rfl, Wa, k0, k1, q⟩
theorem g_mul (Wa : WordAt C H a w u) (k0 : 0 ≤ k) (k1 : k ≤ 1000000000000000000000000000000) (q : NewW C w (cr w (k * u)) H Q) : TzOwn.rOwnI C (spMulI C) E (.ref a) (.int k) H Q := by
  obtain ⟨da, ha⟩ := Wa.ob
  exact ⟨a, k, da, _, rfl, rfl, ha, a, w, u, k, rfl, Wa, k0, k1, q⟩
theorem g_shl (Wa : WordAt C H a w u) (k0 : 0 ≤ k) (k1 : k ≤ 1000000000000000000000000000000) (q : NewW C w (cr w (u * 2 ^ (k % w).toNat)) H Q) : TzOwn.rOwnI C (spShlI C) E (.ref a) (.int k) H Q := by
  obtain ⟨da, ha⟩ := Wa.ob
  exact ⟨a, k, da, _, rfl, rfl, ha, a, w, u, k, rfl, Wa, k0, k1, q⟩
theorem g_inv (Wa : WordAt C H a w u) (q : NewW C w (mw w - u) H Q) : TzOwn.rOwn1 C (spInv C) E (.ref a) H Q := by
  obtain ⟨da, ha⟩ := Wa.ob
  exact ⟨a, da, _, rfl, ha, a, w, u, rfl, Wa, q⟩
end
theorem Fw.mut {z p : Addr} {H H' : Hp} {o : HO} (e : Fw z H H') (h : H p = none) : Fw z H (upd H' p o) := fun a u n ha => by
  rw [upd_ne (ne_of_none ha h)]
  exact e a u n ha
theorem PenAt.upd {H : Hp} {z c b : Addr} {cells : List Int} {t : Nat} {o : HO} (h : PenAt H z c cells t) (bz : b ≠ z) (bc : b ≠ c) : PenAt (upd H b o) z c cells t := by
  obtain ⟨⟨i, l, h1, h2⟩, h3, h4, h5⟩ := h
  exact ⟨⟨i, l, by rw [upd_ne bz.symm]; exact h1, h2⟩, by rw [upd_ne bc.symm]; exact h3, h4, h5⟩
theorem PenAt.off {H : Hp} {z c b : Addr} {cells : List Int} {t : Nat} (h : PenAt H z c cells t) (n : H b = none) : b ≠ z ∧ b ≠ c := by
  obtain ⟨⟨i, l, h1, _⟩, h3, _⟩ := h
  exact ⟨(ne_of_none h1 n).symm, (ne_of_none h3 n).symm⟩
theorem seqIx {i n : Nat} (h : i < n) : seqIndex? (i : Int) n = some i := by
  have e : ixN n (i : Int) = some i := by
    unfold ixN
    rw [if_pos (by omega), if_pos (by omega), Int.toNat_natCast]
  exact (ixN_seq e).1
theorem erase_map {α β : Type} (f : α → β) : ∀ (xs : List α) (i : Nat), (xs.map f).eraseIdx i = (xs.eraseIdx i).map f
  | [], _ => rfl
  | _ :: _, 0 => rfl
  | x :: r, i + 1 => by
    rw [List.map_cons, List.eraseIdx_cons_succ, List.eraseIdx_cons_succ, List.map_cons, erase_map f r i]
theorem eqv_ints (ns ms : List Int) : PyData.eqv (.list (ns.map PyData.int)) (.list (ms.map PyData.int)) = decide (ns = ms) := by
  rw [← SeqAt.same_eq_eqv _ _ (by simp only [SeqAt.noMix]; exact PySem.W.noMix_ints ns ms)]
  simp only [PySem.Spec.same]
  exact PySem.W.same_ints ns ms
theorem WordAt.off {C : Addr} {H : Hp} {x b : Addr} {w : Nat} {v : Int} {ys : List V} {o : HO} (h : WordAt C H x w v) (hb : H b = some (.lst ys)) : WordAt C (upd H b o) x w v := by
  obtain ⟨⟨dx, h1⟩, h2, h3, h4, h5⟩ := h
  exact ⟨⟨dx, by rw [upd_ne (ne_of h1 hb (by intro q; cases q))]; exact h1⟩, h2, h3, h4, h5⟩
theorem atI_neg1 {α : Type} {xs : List α} {v : α} {n : Nat} (hn : xs.length = n + 1) (h : xs[n]? = some v) : atI xs (-1) = some v := by
  unfold atI ixN
  rw [if_neg (by decide), if_pos (by omega), hn]
  show xs[((-1 : Int) + ((n + 1 : Nat) : Int)).toNat]? = some v
  rw [show ((-1 : Int) + ((n + 1 : Nat) : Int)).toNat = n by omega]
  exact h
theorem sum_zero : ∀ {vs : List Int}, (∀ v ∈ vs, 0 ≤ v) → (vs.sum = 0 ↔ vs = List.replicate vs.length 0)
  | [], _ => ⟨fun _ => rfl, fun _ => rfl⟩
  | a :: r, h => by
    have ih := sum_zero (vs := r) fun v hv => h v (List.mem_cons_of_mem _ hv)
    have a0 := h a List.mem_cons_self
    have r0 : 0 ≤ r.sum := by
      have : ∀ l : List Int, (∀ v ∈ l, 0 ≤ v) → 0 ≤ l.sum := by
        intro l
        induction l with
        | nil => intro _; exact Int.le_refl 0
        | cons x t iht =>
          intro hx
          have := hx x List.mem_cons_self
          have := iht fun v hv => hx v (List.mem_cons_of_mem _ hv)
          rw [List.sum_cons]
          omega
      exact this r fun v hv => h v (List.mem_cons_of_mem _ hv)
    rw [List.sum_cons, List.length_cons, List.replicate_succ]
    constructor
    · intro e
      rw [show a = 0 by omega, ← ih.mp (by omega)]
    · intro e
      injection e with e1 e2
      rw [e1, ih.mpr e2]
      all_goals rfl
theorem rep_flat (v : Int) : ∀ n : Nat, (List.replicate n [V.int v]).flatten = (List.replicate n v).map V.int
  | 0 => rfl
  | n + 1 => by
    rw [List.replicate_succ, List.flatten_cons, rep_flat v n, List.replicate_succ, List.map_cons]
    all_goals rfl
theorem yes_go {σ : L2.St} {H : Hp} {A B : Hp → Prop} (h : A H) : tYes σ H fun b H3 => if b = true then A H3 else B H3 := by
  show (if true = true then A H else B H)
  rw [if_pos rfl]
  exact h
theorem mk_word1 {C x dx : Addr} {w : Nat} {v : Int} {H : Hp} {Q : VK} {E : XK} (w1 : 1 ≤ w) (w64 : w ≤ 64) (v0 : 0 ≤ v) (vm : v ≤ mw w) (nx : H x = none) (ndx : H dx = none) (k : ∀ H', Ex H H' → WordAt C H' x w v → Q .non H') :
    spWordInit C [.ref x, .int w, .int v] (upd (upd H dx (.own x)) x (.ins C dx [])) Q E :=
  ⟨x, dx, w, v, rfl, upd_same, w1, w64, v0, vm, fun H' hx hk => k H' (fun b o e => hk b o (by rw [upd_ne (ne_of_none e nx), upd_ne (ne_of_none e ndx)]; exact e) (ne_of_none e nx)) ⟨⟨dx, hx⟩, w1, w64, v0, vm⟩⟩
end Tz
namespace Tz
open PySem PySem.Spec PyProof.Rows L2
/-! ### promises that hold where no repr is under way -/
structure FnQ (P : Program) (w : World) (K : PySem.W.Frag) (mg : Str → Option Value) (base : Heap) (k : Nat) (f : Addr) (fd : FuncData) (ps : List Str) (sp : Sp) : Prop where
  len : ∀ vs H Q E, sp vs H Q E → vs.length = ps.length
  run : ∀ (A : Around) (out : List Env) (s : Shared) (H : Hp) (args : Args) (us : List Value) (vs : List V) (Q : VK), A.guards = some [] → Room k A → Env0 P w K mg base A out s H → BindsTo s fd args (ps.zip us) → Vals vs us →
    sp vs H Q E0 → codeAny (model P w) A (.call (.ref f) args) (CR CX0 out P w H s Q E0) s
section
variable {P : Program} {w : World} {K : PySem.W.Frag} {mg : Str → Option Value} {base : Heap} {k : Nat} {f : Addr} {fd : FuncData} {ps N : List Str} {sp : Sp}
theorem FnQ.of_ok (F : FnOk P w K mg base CX0 k f fd ps sp) : FnQ P w K mg base k f fd ps sp :=
  ⟨F.len, fun A out s H args us vs Q _ hr e0 hb r h => F.run A out s H args us vs Q E0 hr e0 hb r h⟩
/-- a def by its body, nothing under way -/
theorem fnq {x qual : Str} {st : Stmt} (F : Fun K x qual st f fd) (S : FnScope N ps (defScope st)) (len : ∀ vs H Q E, sp vs H Q E → vs.length = ps.length)
    (body : ∀ (cdv : Value) (A : Around) (out : List Env) (s : Shared) (H : Hp) (vs : List V) (Q : VK), A.guards = some [] → Room k (A.deeper (envOfC qual (defScope st) s.heap.objs.size f cdv)) → sp vs H Q E0 →
      ∃ t, PSs (cxOf CX0 P w K mg base N qual (defScope st) f cdv A out s H E0).nox (defBody st) t ∧ t { nx := fun _ J => Q .non J, rt := Q } (start N vs) H) : FnQ P w K mg base (k + 1) f fd ps sp := by
  obtain ⟨oc, od, kV, doc, pm, an, cdv, ct, osl, rfl, lk, code⟩ := F.ex
  refine ⟨len, fun A out s H args us vs Q gd rm en bn rel want => ?_⟩
  have width := len _ _ _ _ want
  have inK : K.In s.heap := en.mod.kin.keeps fun b o q => (en.bs b o q).1
  have free : s.heap.NoLimit := en.mod.nolimit.keeps fun b o q => (en.bs b o q).1
  refine codeAny_call_function rm.depth (inK _ _ lk) rfl S.co S.gen rfl (PySem.W.codeRec_of inK code) (bn _ _ _ _ ?_)
  refine wpAny_newFunctionEnv_cells S.kind (fun ⟨n, v⟩ hy => (S.par n (List.of_mem_zip hy).1).elim .inl fun q => .inr ⟨q, PySem.W.cellsFrom_some _ _ _ (.inl q)⟩) fun env he s1 x => ?_
  subst he
  obtain ⟨t, ht, q⟩ := body cdv A out s H vs Q gd (rm.deeper _) want
  have J := inv_start (CX := CX0) (E := E0) S rm.hd en width rel x
  refine ⟨free.keeps x.toInCall.keep, codeAny_func (wpAny_mono (ht.nox.run [] s1 (start N vs) H _ J q) (fun fl s2 z => ?_) fun e s2 z => z)⟩
  have done : ∀ {σ : L2.St} {H2 : Hp} {v : V} {u : Value}, L2.Inv (cxOf CX0 P w K mg base N qual (defScope st) f cdv A out s H E0) [] σ H2 s2 → RelV v u → Q v H2 → CE out P w H s Q u s2 :=
    fun {σ H2 v u} I2 rv hv => ⟨v, H2, I2.os, I2.bare, I2.base, I2.hok, rv, hv⟩
  cases fl with
  | ret u =>
    obtain ⟨v, σ, H2, I2, rv, hv⟩ := z
    exact done I2 rv hv
  | next =>
    obtain ⟨σ, H2, I2, hv⟩ := z
    exact done (v := .non) I2 rfl hv
  | brk =>
    obtain ⟨_, _, _, no⟩ := z
    exact no.elim
  | cont =>
    obtain ⟨_, _, _, no⟩ := z
    exact no.elim
end
section
variable {X : Cx} {k : Nat} {f : Addr} {fd : FuncData} {ps : List Str} {sp : Sp} {x : Str} {p pos : Pos} {e : Expr} {es : List Expr} {t : TA}
theorem run_q {pins : List (Addr × Obj)} {σ : L2.St} {H : Hp} {s : Shared} {Q : VK} {us : List Value} {vs : List V} (F : FnQ X.prog X.w X.K X.mg X.base k f fd ps sp) (hg : X.A.guards = some []) (hr : Room k X.A) (hb : Binds X.K fd ps [])
    (I : L2.Inv X pins σ H s) (r : Vals vs us) (h : sp vs H Q E0) : wpAny (model X.prog X.w) X.A (call (.ref f) us) (EP X pins σ Q) X.xe s := by
  have ln : us.length = ps.length := r.length.symm.trans (F.len _ _ _ _ h)
  have bd := hb s us I.kIn (by rw [List.append_nil]; exact ln)
  rw [List.append_nil] at bd
  refine wpAny_call (codeAny_mono (F.run X.A X.stack s H ⟨us, []⟩ us vs Q hg hr I.env0 bd r h) fun res s' q => ?_)
  cases res with
  | error e => exact (show False from q).elim
  | ok fl =>
    cases fl with
    | ret u => exact I.after q
    | next => exact (show False from q).elim
    | brk => exact (show False from q).elim
    | cont => exact (show False from q).elim
/-- f(e, ..) -/
theorem pe_callQ (F : FnQ X.prog X.w X.K X.mg X.base k f fd ps sp) (hg : X.A.guards = some []) (hr : Room k X.A) (gl : Gl X x) (hm : X.mg x = some (.ref f)) (hk : PySem.W.keepIn X.K (.ref f) = true) (hb : Binds X.K fd ps []) (ha : PA X (e :: es) t)
    (hst : starEach (e :: es) X.env = (false, eval e X.env) :: starEach es X.env := by rfl) (hpl : (backTo pos (starEach es X.env)).any (·.1) = false := by rfl)
    (hdb : (x == ("__debug__" : Str)) = false := by decide) : PE X (.Call (.Name x p) (e :: es) [] pos) (tCall sp [] E0 t) :=
  ⟨fun pins s σ H Q I h => wpAny_Call_Name_kw (ld_glob I gl hm (PySem.W.callWith_K (h₀ := X.base) I.ok.mod.kin hk (thn (ha.run pos pins s σ H _ I h) fun us s1 ⟨vs, H1, I1, r, q⟩ =>
    ⟨I1.kIn, run_q (us := us) (vs := vs) F hg hr hb I1 r ((List.append_nil vs) ▸ (show sp (vs ++ []) H1 Q E0 from q))⟩) hst hpl) hdb)⟩
end
/-! ### a law, where no repr is under way -/
section
variable {P : Program} {w : World} {K : PySem.W.Frag} {mg mb : Str → Option Value} {k : Nat} {fa a : Addr} {fd : FuncData} {x : Str} {sp : Sp} {s : Shared} {vs : List Value} {ns : List Int}
theorem law_q (KX : K.In s.heap) (hns : s.heap.Ns mainGlobals mg) (hb : s.heap.Ns builtinsNs mb) (hbb : ∀ x : Str, x ≠ "__name__" → mb x = bootBuiltins x) (hlim : s.heap.NoLimit) (hg : s.gens = #[])
    (ha : s.heap.get? a = some { cls := .type "list", data := .seq vs.toArray }) (hi : IntsAre vs ns) (hl : ns.length ≤ sizeLine) (hr : Room k callerA)
    (F : ∀ base : Heap, K.In base → base.Ns mainGlobals mg → FnQ P w K mg base k fa fd [x] sp) (bind : ∀ (s : Shared) (u : Value), BindsTo s fd ⟨[u], []⟩ [(x, u)])
    (want : ∀ H : Hp, SqL K H a (ns.map V.int) → sp [.ref a] H (fun v _ => v = .bl true) E0) :
    codeAny (model P w) callerA (.call (.ref fa) ⟨[.ref a], []⟩) (fun r s' => r = .ok (.ret (.bool true)) ∧ OldK s.heap s'.heap ∧ s'.os = s.os ∧ AllBare s'.gens) s := by
  -- the script alone is told, and only where the module does not hold it
  obtain ⟨H, told, seq, atA, apart⟩ : ∃ H : Hp, (∀ b u, H b = some u → b = a ∧ u = .frz { cls := .type "list", data := .seq vs.toArray } (.lst (ns.map V.int))) ∧ SqL K H a (ns.map V.int) ∧ HOk P w H s.heap ∧ (H a ≠ none → K.lookup a = none) := by
    cases lk : K.lookup a with
    | some o =>
      have q := KX a o lk
      rw [ha] at q
      cases q
      refine ⟨fun _ => none, fun b u z => ?_, .inr ⟨_, vs.toArray, _, lk, rfl, rfl, rfl, by rw [List.size_toArray, hi.length]; exact hl, by simpa using vals_ints hi⟩, fun b u z => ?_, fun z => absurd rfl z⟩
      · have z' : (none : Option HO) = some u := z
        cases z'
      · have z' : (none : Option HO) = some u := z
        cases z'
    | none =>
      refine ⟨upd (fun _ => none) a (.frz { cls := .type "list", data := .seq vs.toArray } (.lst (ns.map V.int))), fun b u z => ?_, .inl (.inr ⟨_, upd_same⟩), fun b u z => ?_, fun _ => rfl⟩
      · by_cases q : b = a
        · subst q
          rw [upd_same] at z
          exact ⟨rfl, (Option.some.inj z).symm⟩
        · rw [upd_ne q] at z
          cases z
      · by_cases q : b = a
        · subst q
          rw [upd_same] at z
          cases z
          exact ⟨ha, by rw [List.length_map]; exact hl, vs, _, vals_ints hi, ha⟩
        · rw [upd_ne q] at z
          cases z
  have un0 : ∀ {b : Addr}, b ≠ a → H b = none := fun {b} n => by
    cases q : H b with
    | none => rfl
    | some u => exact absurd (told b u q).1 n
  have ns0 : ∀ {b : Addr} {m : Str → Option Value}, s.heap.Ns b m → (hidT s.heap H).Ns b m := fun {b m} ⟨o, es, ep, e, d, r⟩ => ⟨o, es, ep, hidT_get e (un0 fun q => by
    subst q
    rw [ha] at e
    cases e
    cases d), d, r⟩
  have k0 : K.In (hidT s.heap H) := fun b o e => hidT_get (KX b o e) (by
    by_cases q : b = a
    · subst q
      cases z : H b with
      | none => rfl
      | some u =>
        have n := apart (by rw [z]; exact fun q => nomatch q)
        rw [e] at n
        cases n
    · exact un0 q)
  have md : Mod K mg (hidT s.heap H) := ⟨k0, ns0 hns, ⟨mb, ns0 hb, hbb⟩, hlim.elim fun mc z => ⟨mc, ns0 z.1, z.2⟩⟩
  have en : Env0 P w K mg (hidT s.heap H) callerA [] s H := ⟨rfl, md, fun _ _ e => of_hidT e, Nat.le_of_eq (hidT_size _ _), trivial, fun b z => absurd (show b ∈ ([] : List Addr) from z) List.not_mem_nil, atA, .of_eq hg⟩
  refine codeAny_mono ((F _ k0 (ns0 hns)).run callerA [] s H ⟨[.ref a], []⟩ [.ref a] [.ref a] _ rfl hr en (bind s (.ref a)) (.cons rfl .nil) (want H seq)) fun r s2 z => ?_
  cases r with
  | error e => exact (show False from z).elim
  | ok fl =>
    cases fl with
    | next => exact (show False from z).elim
    | brk => exact (show False from z).elim
    | cont => exact (show False from z).elim
    | ret u =>
      obtain ⟨v, H2, os, bare, un, ok2, rv, q⟩ := z
      subst q
      cases (show u = Value.bool true from rv)
      refine ⟨rfl, OldK.of_keep fun b o e => ?_, os, bare⟩
      cases q : H b with
      | none => exact un.keep b o e q (fun z => absurd (show b ∈ ([] : List Addr) from z) List.not_mem_nil) List.not_mem_nil
      | some u =>
        obtain ⟨rfl, rfl⟩ := told b u q
        rw [ha] at e
        cases e
        exact (ok2 _ _ (un.frzs _ _ _ q)).1
theorem walk_q {l : PySem.W.OpenLaw} {n k : Nat} {q : Program} {loose : List Str} {XP : (Str → Option Value) → Heap → Prop} {YP : World → Heap → Prop} {d : DefRec} {K : Params → PySem.W.Frag} {sp : PySem.W.Frag → Sp} {x : Str}
    (hn : l.most = some n) (hn2 : n ≤ sizeLine) (hdf : d.params.defaults = []) (hr : Room k callerA) (hY : ∀ (w : World) (h : Heap), YP w h → (K w.params).In h)
    (F : ∀ (w : World) (mg : Str → Option Value) (fa : Addr) (h : Heap), (K w.params).In h → h.Ns mainGlobals mg → mg d.name = some (.ref fa) →
      ∃ fd : FuncData, (∀ (s : Shared) (u : Value), BindsTo s fd ⟨[u], []⟩ [(x, u)]) ∧ ∀ base : Heap, (K w.params).In base → base.Ns mainGlobals mg → FnQ l.prog w (K w.params) mg base k fa fd [x] (sp (K w.params)))
    (want : ∀ (K : PySem.W.Frag) (H : Hp) (a : Addr) (ns : List Int), ns.length ≤ n → SqL K H a (ns.map V.int) → sp K [.ref a] H (fun v _ => v = .bl true) E0) :
    PySem.W.WalkO q loose XP YP l.row.toRowW d [] (fun f vs => PySem.call f vs) := by
  refine Att.attach_call hn hdf fun w s0 s1 mg mb fa o pm cd doc a vs ns G Y ho hd hcd hmg obj isI len gens => ?_
  obtain ⟨fd, bd, FQ⟩ := F w mg fa _ (hY w _ Y) G.T.g hmg
  exact law_q (hY w _ Y) G.T.g G.T.b G.T.builtins G.T.nolimit gens obj isI (Nat.le_trans len hn2) hr FQ bd fun H seq => want _ H a ns len seq
end
end Tz
namespace TzOwn
open PySem PySem.Spec PyProof.Rows L2
section
variable {X : Cx} {CX : CXT} {k : Nat} {f C g p : Addr} {fd : FuncData} {ps ks : List Str} {sp : Sp} {E : XK} {m : Str} {o : Expr} {kws : List Keyword} {apos pos : Pos} {ta : TE} {tk : TA} {pl : Sem Bool}
/-- abs(o), o an instance with its own __abs__ -/
theorem abs_own (F : FnOk X.prog X.w X.K X.mg X.base CX k f fd ps sp) (hr : Room (k + 1) X.A) (M : Meth X.K C "__abs__" f) (hb : Binds X.K fd ps []) (hx : Passes CX X E) :
    CallR X (.builtin "abs") (fun xs H Q => ∃ a dx fs, xs = [.ref a] ∧ H a = some (.ins C dx fs) ∧ sp [.ref a] H Q E) := by
  intro pins s σ H xs us Q I r h
  obtain ⟨a, dx, fs, rfl, ha, q⟩ := h
  obtain ⟨u, rfl, ru⟩ := vals1 r
  cases ru
  obtain ⟨od, J⟩ := inst_at I ha
  refine Calls.call_function_entry PyProof.Rows.kind_abs PyProof.Rows.plain_abs PyProof.Rows.entry_abs (PyProof.Rows.args_abs _) ?_
  unfold Builtin.«abs»
  refine wpAny_bind (m := oneArg "abs" _) (wpAny_pure ?_)
  refine wpAny_bind (PySem.W.special_fn I.kIn J M.at_ (beq_iff_eq.mp M.fn) ?_)
  have en : Env0 X.prog X.w X.K X.mg X.base X.A.in1 X.stack s H := I.env0.in1
  have bd := hb s [.ref a] I.kIn (by
    have := F.len _ _ _ _ q
    simpa using this)
  rw [List.append_nil] at bd
  refine wpAny_call (codeAny_mono (F.run X.A.in1 X.stack s H ⟨[.ref a], []⟩ [.ref a] [.ref a] _ E hr.in1 en bd (.cons rfl .nil) q) fun r s' hq => ?_)
  cases r with
  | error e => exact hx pins σ H s e s' I hq
  | ok fl =>
    cases fl with
    | ret u => exact wpAny_pure ⟨_, rfl, I.after hq⟩
    | next => exact False.elim hq
    | brk => exact False.elim hq
    | cont => exact False.elim hq
/-- repr of a list or tuple of built-in data, where no repr is under way -/
theorem repr_data (hg : X.A.guards = some []) (hu : X.A.units + 64 < cLine) :
    CallR X (.builtin "repr") (fun xs H Q => ∃ a d, xs = [.ref a] ∧ Dp X.K H (.ref a) d ∧ d.showable = true ∧ d.hasDict = false ∧ d.depth ≤ 60 ∧ d.shown.length ≤ sizeLine ∧ Q (.str d.shown) H) := by
  intro pins s σ H xs us Q I r h
  obtain ⟨a, d, rfl, D, sh, nd, dep, sz, q⟩ := h
  obtain ⟨u, rfl, ru⟩ := vals1 r
  cases ru
  obtain ⟨as, rd⟩ := Dp.reads I d _ _ D rfl
  exact repr_of_reads' rd sh (fun z => by rw [nd] at z; cases z) hg (by omega) (fun _ _ e => e) (fun h' u tk hk => ⟨.str d.shown, H, I.kept hk, ⟨_, rfl⟩, q⟩) sz
def tMethK (C : Addr) (m : Str) (sp : Sp) (E : XK) (gV : List V → List V) (ta : TE) (t : TA) : TE := fun σ H Q => ta σ H fun x H1 => ∃ a dx fs, x = .ref a ∧ H1 a = some (.ins C dx fs) ∧ fs.lookup m = none ∧ t σ H1 fun zs H2 => sp (gV (.ref a :: zs)) H2 Q E
/-- o.m(k = e, ..), by keywords alone -/
theorem pe_methK {gs : List Value → List Value → List Value} {gV : List V → List V → List V} (he : PE X o ta) (c : Cls X.K C) (hm : Meth X.K C m f) (F : FnOk X.prog X.w X.K X.mg X.base CX k f fd ps sp) (hr : Room k X.A) (hb : KBinds X.K fd ps ks gs gV) (hx : Passes CX X E) (hkw : PK X kws tk)
    (hall : (backToKw pos (keywordEach kws X.env)).all (·.1.isSome) = true := by rfl) (hks : (backToKw pos (keywordEach kws X.env)).filterMap (·.1) = ks := by rfl)
    (hpl : ((backTo pos (starEach [] X.env)).any (·.1) || (backToKw pos (keywordEach kws X.env)).any (·.1.isNone)) = false := by rfl)
    (ht : eval (.Call (.Attribute o m apos) [] kws pos) X.env = (do
      let ov ← eval o X.env
      standAt apos.atName
      let (f, first) ← holding [ov] (getMethod ov m pl)
      callWith pos f first (backTo pos (starEach [] X.env)) (backToKw pos (keywordEach kws X.env))) := by rfl) :
    PE X (.Call (.Attribute o m apos) [] kws pos) (tMethK C m sp E (fun vs => gV (vs.take 1) (vs.drop 1)) ta tk) := by
  refine ⟨fun pins s σ H Q I h => PySem.W.methodCall_KW (pl := pl) (thn (he.run pins s σ H _ I h) fun u s1 ⟨x, H1, I1, rx, a, dx, fs, ex, ea, l, q⟩ => ?_) ht⟩
  subst ex
  cases (show u = Value.ref a from rx)
  refine getmeth_ok I1 ea c hm l (PySem.W.callWith_KW0 (first := [.ref a]) (h₀ := X.base) I.ok.mod.kin hm.kp hall (thn (hkw.run pos pins s1 σ H1 _ I1 q) fun ws s2 ⟨zs, H2, I2, rz, q2⟩ => ⟨I2.kIn, ?_⟩) hpl)
  rw [hks]
  exact run_fnk (us := [.ref a]) (vs := [.ref a]) F hr hb hx I2 (.cons rfl .nil) rz q2
end
end TzOwn
namespace Tz
open PySem L2
/-! ### mathematics: bits one by one -/
/-- the signs of the i lowest bits, the highest one first -/
def bt (v : Nat) : Nat → List Nat
  | 0 => []
  | i + 1 => (48 + v / 2 ^ i % 2) :: bt v i
theorem bt_len (v : Nat) : ∀ i, (bt v i).length = i
  | 0 => rfl
  | i + 1 => by rw [bt, List.length_cons, bt_len v i]
/-- what the signs are worth, read from the left -/
def worth (l : List Nat) : Nat := l.foldl (fun a c => 2 * a + (c - 48)) 0
theorem worth_go : ∀ (l : List Nat) (a : Nat), l.foldl (fun a c => 2 * a + (c - 48)) a = a * 2 ^ l.length + worth l
  | [], a => by
    show a = a * 2 ^ 0 + 0
    rw [Nat.pow_zero, Nat.mul_one, Nat.add_zero]
  | c :: l, a => by
    have e1 := worth_go l (2 * a + (c - 48))
    have e2 := worth_go l (2 * 0 + (c - 48))
    show l.foldl _ (2 * a + (c - 48)) = a * 2 ^ (l.length + 1) + l.foldl _ (2 * 0 + (c - 48))
    rw [e1, e2, Nat.pow_succ, Nat.add_mul, Nat.add_mul]
    have : 2 * a * 2 ^ l.length = a * (2 ^ l.length * 2) := by rw [Nat.mul_comm 2 a, Nat.mul_assoc, Nat.mul_comm 2]
    omega
theorem worth_app (l m : List Nat) : worth (l ++ m) = worth l * 2 ^ m.length + worth m := by
  show (l ++ m).foldl _ 0 = _
  rw [List.foldl_append, worth_go]
  rfl
theorem worth_bt (v : Nat) : ∀ i, worth (bt v i) = v % 2 ^ i
  | 0 => by rw [bt, Nat.pow_zero, Nat.mod_one]; rfl
  | i + 1 => by
    have e := worth_app [48 + v / 2 ^ i % 2] (bt v i)
    rw [List.singleton_append, worth_bt v i, bt_len] at e
    rw [bt, e, show worth [48 + v / 2 ^ i % 2] = v / 2 ^ i % 2 by show 2 * 0 + (48 + v / 2 ^ i % 2 - 48) = _; omega, Nat.pow_succ, Nat.mod_mul]
    rw [Nat.mul_comm]
    omega
theorem bt_drop (v : Nat) : ∀ (n s : Nat), s ≤ n → (bt v n).drop s = bt v (n - s)
  | n, 0, _ => by rw [List.drop_zero, Nat.sub_zero]
  | 0, s + 1, h => absurd h (Nat.not_succ_le_zero s)
  | n + 1, s + 1, h => by
    rw [bt, List.drop_succ_cons, bt_drop v n s (by omega), Nat.succ_sub_succ]
theorem bt_take (v : Nat) : ∀ (n s : Nat), s ≤ n → (bt v n).take s = bt (v / 2 ^ (n - s)) s
  | n, 0, _ => by rw [List.take_zero, bt]
  | 0, s + 1, h => absurd h (Nat.not_succ_le_zero s)
  | n + 1, s + 1, h => by
    have e : v / 2 ^ (n - s) / 2 ^ s = v / 2 ^ n := by
      rw [Nat.div_div_eq_div_mul, ← Nat.pow_add]
      congr 2
      omega
    rw [bt, List.take_succ_cons, bt_take v n s (by omega), Nat.succ_sub_succ]
    show _ = (48 + v / 2 ^ (n - s) / 2 ^ s % 2) :: bt (v / 2 ^ (n - s)) s
    rw [e]
/-- the bits turned by s places -/
theorem worth_turn {v n s : Nat} (h : s ≤ n) (hv : v < 2 ^ n) : worth ((bt v n).drop s ++ (bt v n).take s) = v % 2 ^ (n - s) * 2 ^ s + v / 2 ^ (n - s) := by
  have hlt : v / 2 ^ (n - s) < 2 ^ s := by
    rw [Nat.div_lt_iff_lt_mul (Nat.pow_pos (by decide)), ← Nat.pow_add]
    have : s + (n - s) = n := by omega
    rw [this]
    exact hv
  rw [worth_app, bt_drop v n s h, bt_take v n s h, worth_bt, worth_bt, bt_len, Nat.mod_eq_of_lt hlt]
theorem cr_turn {w s v : Nat} (_ : 1 ≤ w) (hs : s ≤ w) (hv : v < 2 ^ w) : cr w ((v : Int) * 2 ^ s) = ((v % 2 ^ (w - s) * 2 ^ s + v / 2 ^ (w - s) : Nat) : Int) := by
  by_cases v0 : v = 0
  · subst v0
    rw [Nat.zero_mod, Nat.zero_mul, Nat.zero_div]
    show cr w ((0 : Int) * 2 ^ s) = 0
    rw [Int.zero_mul, cr_zero]
  · have hp : (0 : Int) < 2 ^ s := Int.pow_pos (by decide)
    have e := Nat.div_add_mod v (2 ^ (w - s))
    generalize hlo : v % 2 ^ (w - s) = lo at e
    generalize hhi : v / 2 ^ (w - s) = hi at e
    have lo1 : lo < 2 ^ (w - s) := by rw [← hlo]; exact Nat.mod_lt _ (Nat.pow_pos (by decide))
    have hi1 : hi < 2 ^ s := by
      rw [← hhi, Nat.div_lt_iff_lt_mul (Nat.pow_pos (by decide)), ← Nat.pow_add]
      have : s + (w - s) = w := by omega
      rw [this]
      exact hv
    have ew : (2 : Nat) ^ (w - s) * 2 ^ s = 2 ^ w := by
      rw [← Nat.pow_add]
      congr 1
      omega
    have ewI : (2 : Int) ^ (w - s) * 2 ^ s = 2 ^ w := by
      have := congrArg (fun n : Nat => (n : Int)) ew
      simpa using this
    have b1 : lo * 2 ^ s + hi < 2 ^ w := by
      have : (lo + 1) * 2 ^ s ≤ 2 ^ (w - s) * 2 ^ s := Nat.mul_le_mul_right _ (by omega)
      rw [ew, Nat.add_mul, Nat.one_mul] at this
      omega
    have b0 : 1 ≤ lo * 2 ^ s + hi := by
      by_cases z : hi = 0
      · subst z
        have : lo ≠ 0 := fun q => by
          subst q
          rw [Nat.mul_zero, Nat.add_zero] at e
          exact v0 e.symm
        have := Nat.mul_pos (Nat.pos_of_ne_zero this) (Nat.pow_pos (n := s) (show 0 < 2 by decide))
        omega
      · omega
    have c1 : ((lo * 2 ^ s + hi : Nat) : Int) ≤ mw w := by
      have : ((2 ^ w : Nat) : Int) = 2 ^ w := by rw [Int.natCast_pow] <;> rfl
      unfold mw
      omega
    refine cr_eq (q := (hi : Int)) (Int.mul_pos (by omega) hp) (by omega) c1 ?_
    have ev : (v : Int) = 2 ^ (w - s) * (hi : Int) + (lo : Int) := by
      have := congrArg (fun n : Nat => (n : Int)) e
      simpa using this.symm
    rw [ev, Int.add_mul, Int.mul_right_comm, ewI]
    unfold mw
    rw [Int.sub_mul, Int.one_mul]
    have : ((lo * 2 ^ s + hi : Nat) : Int) = (lo : Int) * 2 ^ s + (hi : Int) := by simp
    omega
/-- a whole turn changes nothing -/
theorem cr_round {w : Nat} (h : 1 ≤ w) {v : Int} (h0 : 0 ≤ v) : ∀ q : Nat, cr w (v * 2 ^ (w * q)) = cr w v
  | 0 => by rw [Nat.mul_zero, Int.pow_zero, Int.mul_one]
  | q + 1 => by
    have ih := cr_round h h0 q
    by_cases v0 : v = 0
    · subst v0
      rw [Int.zero_mul]
    · have vp : 0 < v * 2 ^ (w * q) := Int.mul_pos (by omega) (Int.pow_pos (by decide))
      have e : v * 2 ^ (w * (q + 1)) = v * 2 ^ (w * q) + mw w * (v * 2 ^ (w * q)) := by
        rw [Nat.mul_succ, Int.pow_add, ← Int.mul_assoc]
        generalize v * 2 ^ (w * q) = x
        unfold mw
        rw [Int.sub_mul, Int.one_mul, Int.mul_comm]
        omega
      obtain ⟨r, hr⟩ := cr_ex (w := w) _ vp
      rw [← ih]
      have np : 0 < v * 2 ^ (w * (q + 1)) := Int.mul_pos (by omega) (Int.pow_pos (by decide))
      refine cr_eq (q := r + v * 2 ^ (w * q)) np (cr_pos h vp) (cr_bd h _).2 ?_
      rw [e, Int.mul_add]
      conv => lhs; lhs; rw [hr]
      omega
theorem cr_far {w : Nat} (h : 1 ≤ w) {v : Int} (h0 : 0 ≤ v) (t : Nat) : cr w (v * 2 ^ (t % w)) = cr w (v * 2 ^ t) := by
  have e : v * 2 ^ t = v * 2 ^ (t % w) * 2 ^ (w * (t / w)) := by
    rw [Int.mul_assoc, ← Int.pow_add, Nat.mod_add_div]
  rw [e, cr_round h (Int.mul_nonneg h0 (two_pow_nn _))]
theorem or_and_xor (x y : Int) : Builtin.bitOr x y - Builtin.bitAnd x y = Builtin.bitXor x y := by
  rw [PyProof.Rows.bitXor_and, PyProof.Rows.bitOr_and]
  omega
theorem xor_bd {w : Nat} {x y : Int} (hx : 0 ≤ x) (hx1 : x ≤ mw w) (hy : 0 ≤ y) (hy1 : y ≤ mw w) : 0 ≤ Builtin.bitXor x y ∧ Builtin.bitXor x y ≤ mw w := by
  rw [Bits.bitXor_pp hx hy]
  have e : ((2 ^ w : Nat) : Int) = 2 ^ w := by rw [Int.natCast_pow] <;> rfl
  have := Nat.xor_lt_two_pow (x := x.toNat) (y := y.toNat) (n := w) (by unfold mw at hx1; omega) (by unfold mw at hy1; omega)
  unfold mw
  omega
theorem xor_comm (x y : Int) : Builtin.bitXor x y = Builtin.bitXor y x := by
  rw [PyProof.Rows.bitXor_and, PyProof.Rows.bitXor_and, PyProof.Rows.bitAnd_comm]
  omega
theorem sum_spec {w : Nat} (h : 1 ≤ w) {a b : Int} (a0 : 0 ≤ a) (a1 : a ≤ mw w) (b0 : 0 ≤ b) (b1 : b ≤ mw w) : (if a + b ≤ mw w then a + b else a + b - mw w) = cr w (a + b) := by
  have hm := mw_pos h
  split
  · rw [cr_self (by omega) (by omega)]
  · exact (cr_eq (q := 1) (by omega) (by omega) (by omega) (by omega)).symm
theorem rest_eq {w : Nat} (h : 1 ≤ w) {v : Int} (v0 : 0 ≤ v) (v1 : v ≤ mw w) : v % mw w = if v = mw w then 0 else v := by
  have hm := mw_pos h
  split
  · rename_i e
    rw [e, Int.emod_self]
  · exact Int.emod_eq_of_lt v0 (by omega)
/-! ### promises -/
def spXor (C : Addr) : Sp := fun vs H Q _ => ∃ x y, ∃ w : Nat, ∃ u v : Int, vs = [.ref x, .ref y] ∧ WordAt C H x w u ∧ WordAt C H y w v ∧ NewW C w (Builtin.bitXor u v) H Q
def spXorI (C : Addr) : Sp := fun vs H Q _ => ∃ x, ∃ w : Nat, ∃ u n : Int, vs = [.ref x, .int n] ∧ WordAt C H x w u ∧ 0 ≤ n ∧ n ≤ mw w ∧ NewW C w (Builtin.bitXor u n) H Q
def spOperandI (C : Addr) : Sp := fun vs H Q _ => ∃ x, ∃ w : Nat, ∃ u n : Int, vs = [.ref x, .int n] ∧ WordAt C H x w u ∧ 0 ≤ n ∧ n ≤ mw w ∧ Q (.int n) H
def spFoundI : Sp := fun vs H Q _ => ∃ w : Nat, ∃ n : Int, vs = [.int w, .int n] ∧ 1 ≤ w ∧ w ≤ 64 ∧ 0 ≤ n ∧ n ≤ mw w ∧ Q (.int n) H
def spLikeI (C : Addr) : Sp := fun vs H Q _ => ∃ x, ∃ w : Nat, ∃ u n : Int, vs = [.ref x, .int n] ∧ WordAt C H x w u ∧ 0 ≤ n ∧ n ≤ mw w ∧ Q (.bl (decide (u % mw w = n % mw w))) H
def spShrI (C : Addr) : Sp := fun vs H Q _ => ∃ x, ∃ w : Nat, ∃ u k : Int, vs = [.ref x, .int k] ∧ WordAt C H x w u ∧ 0 ≤ k ∧ k ≤ 1000000000000000000000000000000 ∧ NewW C w (cr w (u * 2 ^ (-k % w).toNat)) H Q
/-- the distance of the rest from 0 -/
def far (w : Nat) (u : Int) : Int := if u % mw w < mw w - u % mw w then u % mw w else mw w - u % mw w
def spAbs (C : Addr) : Sp := fun vs H Q _ => ∃ x, ∃ w : Nat, ∃ u : Int, vs = [.ref x] ∧ WordAt C H x w u ∧ Q (.int (far w u)) H
def spIs (C : Addr) : Sp := fun vs H Q _ => ∃ x, ∃ w : Nat, ∃ u : Int, vs = [.ref x, .int w, .int u] ∧ WordAt C H x w u ∧ Q (.bl true) H
def spSum : Sp := fun vs H Q _ => ∃ w : Nat, ∃ a b : Int, vs = [.int w, .int a, .int b] ∧ 1 ≤ w ∧ w ≤ 64 ∧ 0 ≤ a ∧ a ≤ mw w ∧ 0 ≤ b ∧ b ≤ mw w ∧ Q (.int (cr w (a + b))) H
def spMultiple : Sp := fun vs H Q _ => ∃ w : Nat, ∃ v k : Int, vs = [.int w, .int v, .int k] ∧ 1 ≤ w ∧ w ≤ 64 ∧ 0 ≤ v ∧ v ≤ mw w ∧ 0 ≤ k ∧ Q (.int (cr w (k * v))) H
def spLawTurned : Sp := fun vs H Q _ => ∃ w : Nat, ∃ v n : Int, vs = [.int w, .int v, .int n] ∧ 1 ≤ w ∧ w ≤ 64 ∧ 0 ≤ v ∧ v ≤ mw w ∧ Q (.int (cr w (v * 2 ^ (n % w).toNat))) H
def spLawTimes : Sp := fun vs H Q _ => ∃ z c cells t, ∃ w : Nat, vs = [.ref z, .int w] ∧ PenAt H z c cells t ∧ t ≤ 90000 ∧ 1 ≤ w ∧ w ≤ 64 ∧
  ∀ n H', 0 ≤ n → n ≤ 1000000000000000000000000000000 → PenAt H' z c cells (t + 3) → Fw z H H' → Q (.int n) H'
def spRight4 : Sp := fun vs H Q _ => ∃ w : Nat, ∃ v b k : Int, vs = [.int w, .int v, .int b, .int k] ∧ 1 ≤ w ∧ w ≤ 64 ∧ 0 ≤ v ∧ v ≤ mw w ∧ 0 ≤ b ∧ b ≤ mw w ∧ 0 ≤ k ∧ k ≤ 1000000000000000000000000000000 ∧ ∀ H', Ex H H' → Q (.bl true) H'
def spLaw (K : PySem.W.Frag) : Sp := fun vs H Q _ => ∃ (a : Addr) (ns : List Int), vs = [.ref a] ∧ SqL K H a (ns.map V.int) ∧ ns.length ≤ 63 ∧ ∀ H', Q (.bl true) H'
theorem kit_no {K : PySem.W.Frag} {T : String} {C : Addr} (h : PySem.W.subIn K (.type T) (.ref C) = some false) (hc : PySem.W.isClsIn K C = true) (ht : PySem.W.typeIn K (.ref C) = some (.type "type")) : PySem.W.kitOne K (.type T) (.ref C) = some false := by
  have ne : ¬ (Value.type T == Value.ref C) = true := fun q => by cases beq_iff_eq.mp q
  unfold PySem.W.kitOne
  rw [if_neg ne]
  unfold PySem.W.kitCls
  have hs : (PySem.W.clsIn K C).isSome = true := hc
  dsimp only
  rw [ht, hs, h]
  rfl
theorem shown4 {n : Int} {a b c : Bool} (h0 : 0 ≤ n) (h1 : n < 18446744073709551616) : (PyData.list [.int n, .bool a, .bool b, .bool c]).showable = true ∧ (PyData.list [.int n, .bool a, .bool b, .bool c]).hasDict = false ∧
    (PyData.list [.int n, .bool a, .bool b, .bool c]).depth ≤ 60 ∧ (PyData.list [.int n, .bool a, .bool b, .bool c]).shown.length ≤ sizeLine := by
  have l2 : n.natAbs.log2 < 1920 := by
    have : n.natAbs < 2 ^ 64 := by omega
    have := PySem.Flt.log2_lt_of (by decide) this
    omega
  refine ⟨?_, rfl, by simp [PyData.depth, PyData.depthAll], ?_⟩
  · simp [PyData.showable, PyData.showableAll, l2]
  · have sh : (PyData.shown (.int n)).length ≤ 21 := by
      rw [PyData.shown_int]
      exact PyProof.Rows.toString_length_le h0 (k := 20) (by decide) (by omega) |> fun h => Nat.le_trans h (by decide)
    have := PyData.shown_le_bulk 21 (by decide) (.list [.int n, .bool a, .bool b, .bool c]) (by simp [PyData.leavesShort, PyData.leavesShortAll, sh])
    refine Nat.le_trans this ?_
    show (21 + 2) * (0 + 1 + (0 + 1 + (0 + 1 + (0 + 1 + 0)))) + 21 ≤ sizeLine
    decide
/-! ### texts of bits -/
theorem bit_text {b : Nat} (h : b < 2) (l : List Nat) : ((toString ((b : Nat) : Int) : String) : Str) ++ SX.S l = SX.S ((48 + b) :: l) := by
  have e : ((toString ((b : Nat) : Int) : String) : Str) = SX.S [48 + b] := by
    match b, h with
    | 0, _ => rfl
    | 1, _ => rfl
  rw [e, SX.S_cat, List.singleton_append]
theorem bit_sign {c : Nat} (h : c = 48 ∨ c = 49) : PySem.intText? (SX.S [c]) = some (((c - 48 : Nat) : Nat) : Int) := by
  rcases h with rfl | rfl
  · exact SX.int_S (a := [48]) (by decide) (by decide) (by decide)
  · exact SX.int_S (a := [49]) (by decide) (by decide) (by decide)
theorem bt_mem {v : Nat} : ∀ {i c : Nat}, c ∈ bt v i → c = 48 ∨ c = 49
  | 0, c, h => by cases h
  | i + 1, c, h => by
    rcases List.mem_cons.mp h with h | h
    · have := Nat.mod_lt (v / 2 ^ i) (show 0 < 2 by decide)
      omega
    · exact bt_mem h
theorem worth_take {l : List Nat} {i c : Nat} (h : l[i]? = some c) : worth (l.take (i + 1)) = 2 * worth (l.take i) + (c - 48) := by
  have hi := (List.getElem?_eq_some_iff.mp h).1
  have e := (List.getElem?_eq_some_iff.mp h).2
  rw [List.take_succ_eq_append_getElem hi, e, worth_app]
  show worth (l.take i) * 2 ^ 1 + (2 * 0 + (c - 48)) = _
  omega
/-- one doubling -/
theorem cr_double {w : Nat} (h : 1 ≤ w) {f d q : Int} (f0 : 0 ≤ f) (d0 : 0 ≤ d) (q0 : 0 ≤ q) : cr w (f + cr w (d + d) * q) = cr w (f + (d + d) * q) := by
  have a := cr_add h (a := (d + d) * q) (b := f) (Int.mul_nonneg (by omega) q0) f0
  have b := cr_add h (a := cr w (d + d) * q) (b := f) (Int.mul_nonneg (cr_bd h _).1 q0) f0
  have c := cr_mul h (k := q) (a := d + d) q0 (by omega)
  rw [Int.mul_comm q, Int.mul_comm q] at c
  rw [Int.add_comm f, ← b, c, a, Int.add_comm f]
end Tz
namespace TzRepr
open PySem PySem.Spec PyProof.Rows L2 PySem.Builtin PySem.Builtin.List Tz
/-- what repr of a thing gives, by the abstract heap -/
abbrev Rpr := V → Str → Hp → Prop
def Mon (D : Rpr) : Prop := ∀ x t H H', Ex H H' → D x t H → D x t H'
/-- repr within a repr gives what D says, and only makes objects; as: what may be under way -/
def RpG (X : Cx) (n : Nat) (as : List Addr) (D : Rpr) : Prop :=
  ∀ (A : Around) (g : List Code) (pins : List (Addr × Obj)) (s : Shared) (σ : L2.St) (H : Hp) (x : V) (u : Value) (t : Str) (b : Nat), Room n A → A.frames = X.A.frames → A.guards = some g → (∀ p, p ∉ as → Clear g p) → L2.Inv X pins σ H s → RelV x u → D x t H → b + t.length ≤ sizeLine →
    wpAny (model X.prog X.w) A (pyReprUnder b u) (fun r s' => r = t ∧ ∃ H', L2.Inv X pins σ H' s' ∧ Ex H H') X.xe s
theorem RpG.mono {X : Cx} {n m : Nat} {as : List Addr} {D : Rpr} (h : RpG X n as D) (hn : n ≤ m) : RpG X m as D := fun A g pins s σ H x u t b hr => h A g pins s σ H x u t b (hr.mono hn)
theorem RpG.or {X : Cx} {n : Nat} {as : List Addr} {D D' : Rpr} (h : RpG X n as D) (h' : RpG X n as D') : RpG X n as (fun x t H => D x t H ∨ D' x t H) := fun A g pins s σ H x u t b hr hf hg hc I r d hs =>
  d.elim (fun d => h A g pins s σ H x u t b hr hf hg hc I r d hs) fun d => h' A g pins s σ H x u t b hr hf hg hc I r d hs
theorem Mon.or {D D' : Rpr} (h : Mon D) (h' : Mon D') : Mon (fun x t H => D x t H ∨ D' x t H) := fun x t H H' e d => d.elim (fun d => .inl (h x t H H' e d)) fun d => .inr (h' x t H H' e d)
/-! ### flat things -/
def RFlat : Rpr := fun x t _ => (x = .non ∧ t = "None") ∨ (∃ b : Bool, x = .bl b ∧ t = PyData.shown (.bool b)) ∨ (∃ i : Int, x = .int i ∧ i.natAbs.log2 < 1920 ∧ t = PyData.shown (.int i))
theorem mon_flat : Mon RFlat := fun _ _ _ _ _ d => d
section
variable {X : Cx} {n : Nat} {as : List Addr} {D : Rpr}
theorem is_of {x : Value} {t : Str} {A : Around} {pins : List (Addr × Obj)} {s : Shared} {σ : L2.St} {H : Hp} {b : Nat} (h : ReprIs X.prog X.w x t) (I : L2.Inv X pins σ H s) (hs : b + t.length ≤ sizeLine) :
    wpAny (model X.prog X.w) A (pyReprUnder b x) (fun r s' => r = t ∧ ∃ H', L2.Inv X pins σ H' s' ∧ Ex H H') X.xe s :=
  h b hs A X.xe s _ fun tk => ⟨rfl, H, I.kept (h' := s.heap) (t' := tk) fun _ _ e => e, fun _ _ e => e⟩
/-- flat things by what the library tells of them -/
theorem rpG_flat : RpG X 0 as RFlat := by
  intro A g pins s σ H x u t b hr hf hg hc I r d hs
  rcases d with ⟨rfl, rfl⟩ | ⟨c, rfl, rfl⟩ | ⟨i, rfl, hi, rfl⟩
  · cases r
    exact is_of ReprIs.none I hs
  · cases r
    rw [PyData.shown_bool] at hs ⊢
    exact is_of (ReprIs.bool c) I hs
  · obtain ⟨tk, rfl⟩ := r
    rw [PyData.shown_int] at hs ⊢
    exact is_of (ReprIs.int tk hi) I hs
/-- texts -/
def RStr : Rpr := fun x t _ => ∃ z : Str, x = .str z ∧ t = reprText z
theorem rpG_str : RpG X 0 as RStr := by
  intro A g pins s σ H x u t b hr hf hg hc I r d hs
  obtain ⟨z, rfl, rfl⟩ := d
  obtain ⟨tk, rfl⟩ := r
  exact is_of (ReprIs.str z tk (by omega)) I hs
/-! ### instances with the text's own __repr__ -/
theorem byBound_K {prog : Program} {w : World} {A : Around} {E : Value → Shared → Prop} {s : Shared} {K : PySem.W.Frag} {x C f : Addr} {ox : Obj} {od : Option Obj} {name : Str} {last : Value → List Value → Sem Value} {Q : Option Value → Shared → Prop} (X : K.In s.heap)
    (I : PySem.W.InstAt s.heap x ox C od) (hs : PySem.W.findIn K (.ref C) name = some (some (.ref f))) (hf : PySem.W.isFn K (.ref f) = true)
    (h : wpAny (model prog w) A (last (.ref f) [.ref x]) (fun v => Q (some v)) E s) : wpAny (model prog w) A (callSpecialIfBoundBy? last (.ref x) name) Q E s := by
  simp only [callSpecialIfBoundBy?, bindSpecialIfBound?]
  refine wpAny_holding (wpAny_bind (wpAny_bind (wpAny_bind (I.type.here ((PySem.W.looks_findIn X hs).here ?_)))))
  refine wpAny_bind (wpAny_askSetting (wpAny_ite ?_))
  have fin : wpAny (model prog w) A (last (.ref f) [.ref x] >>= fun v => pure (some v)) Q E s := wpAny_bind (wpAny_mono h (fun v s' h' => wpAny_pure h') fun _ _ h' => h')
  split
  · exact wpAny_bind ((PySem.W.bind_fn X _ (beq_iff_eq.mp hf)).here (wpAny_pure (by exact fin)))
  · exact wpAny_tryCatch (wpAny_bind ((PySem.W.bind_fn X _ (beq_iff_eq.mp hf)).here (wpAny_pure (by exact fin))))
/-- what the own __repr__ promises: the text t, where R says so -/
def spRepr (R : Addr → Str → Hp → Prop) : Sp := fun vs H Q _ => ∃ a t, vs = [.ref a] ∧ R a t H ∧ ∀ H', Ex H H' → Q (.str t) H'
def RIns (C : Addr) (R : Addr → Str → Hp → Prop) : Rpr := fun x t H => ∃ a dx fs, x = .ref a ∧ H a = some (.ins C dx fs) ∧ R a t H
theorem rpG_ins {CX : CXT} {C f : Addr} {fd : FuncData} {ps : List Str} {R : Addr → Str → Hp → Prop} {E : XK} (F : FnOk X.prog X.w X.K X.mg X.base CX n f fd ps (spRepr R)) (M : Meth X.K C "__repr__" f) (hb : Binds X.K fd ps []) (hx : Passes CX X E) : RpG X n as (RIns C R) := by
  intro A g pins s σ H x u t b hr hf hg hc I r d hs
  obtain ⟨a, dx, fs, rfl, ha, hR⟩ := d
  cases r
  obtain ⟨od, J⟩ := TzOwn.inst_at I ha
  refine wpAny_pyReprUnder_ref (by omega) ?_
  unfold pyReprObjUnder pyReprObjBy
  refine wpAny_bind (wpAny_cRoomFor hr.units0 ?_)
  refine wpAny_bind (wpAny_bind (J.type.here ((PySem.W.looks_findIn I.kIn M.at_).here ?_)))
  show wpAny _ _ (if (some (Value.ref f)).isNone = true then _ else _) _ _ _
  rw [if_neg (by simp)]
  refine wpAny_bind (m := callSpecialIfBoundBy? _ (.ref a) (Str.ofString "__repr__")) (byBound_K I.kIn J M.at_ M.fn ?_)
  show wpAny _ _ (call (.ref f) [.ref a]) _ _ s
  have hsp : spRepr R [.ref a] H (fun v H' => v = .str t ∧ Ex H H') E := ⟨a, t, rfl, hR, fun H' e => ⟨rfl, e⟩⟩
  have e0 : Env0 X.prog X.w X.K X.mg X.base A X.stack s H := by
    have e := I.env0
    exact ⟨by rw [hf]; exact e.frames, e.mod, e.bs, e.bsz, e.funs, e.frf, e.hok, e.bare⟩
  have hl := F.len _ _ _ _ hsp
  refine wpAny_call (codeAny_mono (F.run A X.stack s H ⟨[.ref a], []⟩ [.ref a] [.ref a] _ E hr e0 (by
    have := hb s [.ref a] I.kIn (by simpa using hl)
    simpa using this) (.cons rfl .nil) hsp) fun r s' hq => ?_)
  cases r with
  | error e => exact hx pins σ H s e s' I hq
  | ok fl =>
    cases fl with
    | ret w =>
      obtain ⟨z, H', I', rz, ez, ex⟩ := I.after hq
      subst ez
      obtain ⟨tk, rfl⟩ := rz
      refine wpAny_bind (wpAny_isInstance (typeIs_str _ _ _) isSubtype_str_str ?_)
      rw [if_pos rfl]
      exact wpAny_pure ⟨_, _, rfl, rfl, H', I', ex⟩
    | next => exact False.elim hq
    | brk => exact False.elim hq
    | cont => exact False.elim hq
/-! ### lists -/
theorem vals_strs : ∀ {ts : List Str} {us : List Value}, Vals (ts.map V.str) us → ∃ done : List (Str × Tok), us = strValues done ∧ done.map (·.1) = ts
  | [], [], _ => ⟨[], rfl, rfl⟩
  | t :: ts, u :: us, .cons a r => by
    obtain ⟨tk, rfl⟩ := a
    obtain ⟨done, rfl, e⟩ := vals_strs r
    exact ⟨(t, tk) :: done, rfl, by rw [List.map_cons, e]⟩
theorem room_loop {A : Around} {k : Nat} {args : Args} (r : Room (k + 1) A) : Room k (A.under (.builtin "list.__repr__.loop" args)) := by
  have hu := units_under_list_loop A args
  have hd : (A.under (.builtin "list.__repr__.loop" args)).depth ≤ A.depth + 1 := by
    first | exact Nat.le_of_eq rfl | exact Nat.le_succ _ | simp [Around.under, Code.weight, Code.isCreation, Code.isGuard, Code.isCaller, Code.frames, Code.isFrame, guardIds]
  have hh : (A.under (.builtin "list.__repr__.loop" args)).handled = A.handled := by
    first | rfl | simp [Around.under]
  refine ⟨by rw [hh]; exact r.hd, by have := r.dp; omega, by have := r.un; rw [hu]; omega⟩
theorem frames_loop {A : Around} {args : Args} : (A.under (.builtin "list.__repr__.loop" args)).frames = A.frames := by
  first | rfl | simp [Around.under, Code.frames, Code.isFrame]
/-- item by item -/
def Each (D : Rpr) (xs : List V) (ts : List Str) (H : Hp) : Prop := xs.length = ts.length ∧ ∀ (i : Nat) x t, xs[i]? = some x → ts[i]? = some t → D x t H
theorem Each.mon (hD : Mon D) {xs : List V} {ts : List Str} {H H' : Hp} (e : Ex H H') (p : Each D xs ts H) : Each D xs ts H' := ⟨p.1, fun i x t h1 h2 => hD x t H H' e (p.2 i x t h1 h2)⟩
theorem loop_run {A : Around} {g : List Code} {pins : List (Addr × Obj)} {σ : L2.St} {H0 : Hp} {a P : Addr} {xs : List V} {ts : List Str} {base : Nat} {R : Result → Shared → Prop} (h : RpG X n (a :: as) D) (hm : Mon D) (hr : Room (n + 1) A) (hf : A.frames = X.A.frames) (hg : A.guards = some g)
    (hcl : ∀ p, p ∉ as → Clear g p) (ha : H0 a = some (.lst xs)) (hP : H0 P = none) (d : Each D xs ts H0) (hsz : base + (listText ts).length ≤ sizeLine) (hE : ∀ e s', X.xe e s' → R (.error e) s')
    (hR : ∀ u H' s', L2.Inv X pins σ H' s' → Ex H0 H' → R (.ok (.ret (.str (listText ts) u))) s') :
    ∀ (k i : Nat) (s : Shared) (H1 : Hp), ts.length - i = k → i ≤ ts.length → L2.Inv X pins σ H1 s → Ex H0 H1 → H1 P = some (.lst ((ts.take i).map V.str)) →
    codeAny (model X.prog X.w) A (.builtin "list.__repr__.loop" ⟨[.ref a, rawInt i, .ref P, rawInt ((base + piled (ts.take i) : Nat) : Int)], []⟩) R s := by
  have hX : (listText ts).length = (textFrom 0 "[" ts).length + 1 := by
    show (textFrom 0 "[" ts ++ "]").length = _
    rw [strLen_append]; rfl
  have hL := textFrom_len ts 0 "["
  have hsz1 : ts.length ≤ sizeLine := by
    have h1 := hL.1
    rw [if_neg (Nat.lt_irrefl 0)] at h1
    omega
  have hsz2 : ∀ t ∈ ts, t.length ≤ sizeLine := fun t ht => by
    have h2 := hL.2.1 t ht
    omega
  have hsz3 : (listText ts).length ≤ sizeLine := by omega
  have hp3 := piled_le_listText ts
  intro k
  induction k with
  | zero =>
    intro i s H1 hk hi I e hH
    have hin : i = ts.length := by omega
    obtain ⟨_, its, m, r, hl, he⟩ := I.lstM (e _ _ ha)
    obtain ⟨_, ps, m2, r2, hl2, he2⟩ := I.lstM hH
    refine codeAny_builtin F.entry_list_repr_loop ?_
    show wpAny _ _ («list.__repr__.loop» ⟨[.ref a, .int i 0, .ref P, .int ((base + piled (ts.take i) : Nat) : Int) 0], []⟩) _ _ s
    rw [repr_loop_tree]
    refine wpAny_bind (wpAny_listItems he rfl ?_)
    have hnone : its.toArray[(i : Int).toNat]? = none := by
      have := d.1
      simp
      omega
    simp only [hnone]
    unfold reprEnd
    refine wpAny_bind (wpAny_listItems he2 rfl ?_)
    obtain ⟨done, rfl, hdone⟩ := vals_strs r2
    rw [List.toList_toArray, repr_fold]
    refine wpAny_bind (wpAny_pure ?_)
    rw [hdone, hin, List.take_length]
    refine wpAny_bind (wpAny_mkStr (wpAny_pure ?_) hsz3)
    exact hR _ H1 _ (I.kept (h' := s.heap) fun _ _ z => z) e
  | succ k ih =>
    intro i s H1 hk hi I e hH
    have hlt : i < ts.length := by omega
    obtain ⟨_, its, m, r, hl, he⟩ := I.lstM (e _ _ ha)
    have hlt2 : i < its.length := by have := d.1; omega
    have hlt3 : i < xs.length := by have := d.1; omega
    have ht : ts[i]? = some ts[i] := List.getElem?_eq_getElem hlt
    have hp1 := piled_take_succ ht
    have hp2 := piled_take_le ts (i + 1)
    refine codeAny_builtin F.entry_list_repr_loop ?_
    show wpAny _ _ («list.__repr__.loop» ⟨[.ref a, .int i 0, .ref P, .int ((base + piled (ts.take i) : Nat) : Int) 0], []⟩) _ _ s
    rw [repr_loop_tree]
    refine wpAny_bind (wpAny_listItems he rfl ?_)
    have hsome : its.toArray[(i : Int).toNat]? = some its[i] := by simp [hlt2]
    simp only [hsome]
    rw [Int.toNat_natCast]
    obtain ⟨u, hu, ru⟩ := r.get (List.getElem?_eq_getElem hlt3)
    have eu : u = its[i] := by
      rw [List.getElem?_eq_getElem hlt2] at hu
      exact (Option.some.inj hu).symm
    subst eu
    have hit := h _ _ pins s σ H1 _ its[i] ts[i] (base + piled (ts.take i) + 1) (room_loop (args := ⟨[.ref a, rawInt i, .ref P, rawInt ((base + piled (ts.take i) : Nat) : Int)], []⟩) hr) (frames_loop.trans hf) (guards_under_guard (isGuard_list_loop _) hg)
      (fun p hp => (hcl p fun q => hp (.tail _ q)).cons (a := a) fun q => hp (q ▸ .head _)) I ru (hm _ _ _ _ e (d.2 i _ _ (List.getElem?_eq_getElem hlt3) ht)) (by omega)
    refine wpAny_bind (wpAny_holding (wpAny_mono hit (fun z s2 q => ?_) fun e s' q => hE e s' q))
    obtain ⟨rfl, H2, I2, e2⟩ := q
    refine wpAny_bind (wpAny_mkStr ?_ (hsz2 _ (List.getElem_mem hlt)))
    refine wpAny_bind ?_
    show wpAny _ _ (updateSeq P _) _ _ _
    obtain ⟨_, ps, m2, r2, hl2, he2⟩ := I2.lstM (e2 _ _ hH)
    have hpl : ps.length ≤ sizeLine := by
      rw [← hl2, List.length_map, List.length_take]
      omega
    have hpl2 : ps.length = i := by
      rw [← hl2, List.length_map, List.length_take]
      omega
    have I3 := I2.kept (h' := s2.heap) (t' := s2.toks + 1) fun _ _ z => z
    refine wpAny_updateSeq he2 rfl (wpAny_pure ⟨F.quiet_list_repr_loop _, ?_⟩) (by rw [List.size_toArray]; exact hpl)
    have e1 : ((i : Int) + 1) = ((i + 1 : Nat) : Int) := by omega
    have e3 : base + piled (ts.take i) + (ts[i].length + 2) = base + piled (ts.take (i + 1)) := by omega
    rw [e1, e3]
    have I4 := I3.lset (f := (·.push (.str ts[i] s2.toks))) (its' := ps ++ [.str ts[i] s2.toks]) (ys := (ts.take (i + 1)).map V.str) (t' := s2.toks + 1) (e2 _ _ hH) he2 (by simp) (by
      rw [List.take_add_one, ht, List.map_append]
      exact r2.append (.cons ⟨_, rfl⟩ .nil)) (by
      rw [List.length_map, List.length_take]
      omega)
    refine ih (i + 1) _ (upd H2 P (.lst ((ts.take (i + 1)).map V.str))) (by omega) hlt I4 (fun b o z => ?_) upd_same
    rw [upd_ne (ne_of_none z hP)]
    exact e2 _ _ (e _ _ z)
theorem at_run {A : Around} {g : List Code} {pins : List (Addr × Obj)} {σ : L2.St} {H : Hp} {s : Shared} {a : Addr} {xs : List V} {ts : List Str} {base : Nat} {R : Result → Shared → Prop} (h : RpG X n (a :: as) D) (hm : Mon D) (hr : Room (n + 1) A) (hf : A.frames = X.A.frames) (hg : A.guards = some g)
    (hcl : ∀ p, p ∉ as → Clear g p) (hna : a ∉ as) (I : L2.Inv X pins σ H s) (ha : H a = some (.lst xs)) (hne : xs ≠ []) (d : Each D xs ts H) (hsz : base + (listText ts).length ≤ sizeLine) (hE : ∀ e s', X.xe e s' → R (.error e) s')
    (hR : ∀ u H' s', L2.Inv X pins σ H' s' → Ex H H' → R (.ok (.ret (.str (listText ts) u))) s') :
    wpAny (model X.prog X.w) A.in1 (Builtin.listReprAt base ⟨[.ref a], []⟩) (fun fin s' => match fin with | .done f => R (.ok f) s' | .again c' => c'.quiet = true ∧ codeAny (model X.prog X.w) A c' R s') (fun e s' => R (.error e) s') s := by
  obtain ⟨_, its, m, r, hl, he⟩ := I.lstM ha
  cases its with
  | nil => exact absurd (List.length_eq_zero_iff.mp hl) hne
  | cons y l =>
    refine wpAny_list_repr_head (A := A.in1) hg (fun v rest kw hm' => listSameRef_of_ne (hcl a hna _ _ _ _ hm')) he rfl ?_
    refine wpAny_bind (m := newList []) (wpAny_newObj_type ?_)
    refine wpAny_pure ⟨F.quiet_list_repr_loop _, ?_⟩
    have hP := I.fresh
    have I1 := I.lnew (ys := []) (its := []) (t' := s.toks) .nil (Nat.zero_le _)
    have e1 : Ex H (upd H s.heap.objs.size (.lst [])) := fun b o z => by
      rw [upd_ne (ne_of_none z hP)]
      exact z
    have := loop_run (P := s.heap.objs.size) (H0 := H) (R := R) (base := base) h hm hr hf hg hcl ha hP d hsz hE hR _ 0 _ (upd H s.heap.objs.size (.lst [])) rfl (Nat.zero_le _) I1 e1 upd_same
    exact this
/-- lists, item by item -/
def RList (D : Rpr) (as : List Addr) : Rpr := fun x t H => ∃ a xs ts, x = .ref a ∧ a ∉ as ∧ H a = some (.lst xs) ∧ t = listText ts ∧ Each D xs ts H
theorem mon_list (hD : Mon D) : Mon (RList D as) := fun x t H H' e ⟨a, xs, ts, hx, hn, h1, ht, p⟩ => ⟨a, xs, ts, hx, hn, e _ _ h1, ht, p.mon hD e⟩
theorem rpG_list (hm : Mon D) (h : ∀ a, RpG X n (a :: as) D) : RpG X (n + 1) as (RList D as) := by
  intro A g pins s σ H x u t b hr hf hg hc I r d hs
  obtain ⟨a, xs, ts, rfl, hna, ha, rfl, p⟩ := d
  cases r
  refine wpAny_pyReprUnder_ref (by omega) ?_
  obtain ⟨_, its, m, rv, hl, he⟩ := I.lstM ha
  by_cases hne : xs = []
  · subst hne
    have e1 : its = [] := List.length_eq_zero_iff.mp hl.symm
    subst e1
    have e2 : ts = [] := List.length_eq_zero_iff.mp p.1.symm
    subst e2
    exact wpAny_pyReprObjUnder_list_empty ⟨_, he, rfl⟩ hr.units0 he rfl ⟨_, _, rfl, rfl, H, I.kept (h' := s.heap) fun _ _ z => z, fun _ _ z => z⟩
  · refine wpAny_pyReprObjUnder_twin (twin := "list.__repr__.under") ⟨_, he, rfl⟩ F.slot_list_repr.toG rfl hr.units0 ?_
    refine call_twin_plain F.plain_list_repr_under F.entry_list_repr_under F.check_list_repr_under ⟨_, he, rfl⟩ F.slot_list_repr.toG (F.args_list_repr_1 _) ?_
    exact at_run (R := callEnd _ X.xe) (h a) hm hr hf hg hc hna I ha hne p hs (fun e s' q => q) fun u H' s' I' e => ⟨⟨_, _, rfl⟩, _, _, rfl, rfl, H', I', e⟩
/-- repr(x) of a list, where no repr is under way -/
theorem repr_list (hm : Mon D) (h : ∀ a, RpG X n [a] D) (hg : X.A.guards = some []) (hr : Room (n + 2) X.A) :
    CallR X (.builtin "repr") (fun xs H Q => ∃ x t, xs = [x] ∧ RList D [] x t H ∧ t.length ≤ sizeLine ∧ ∀ H', Ex H H' → Q (.str t) H') := by
  intro pins s σ H xs us Q I r hq
  obtain ⟨x, t, rfl, ⟨a, xs, ts, rfl, _, ha, rfl, p⟩, hs, q⟩ := hq
  obtain ⟨u, rfl, ru⟩ := vals1 r
  cases ru
  obtain ⟨_, its, m, rv, hl, he⟩ := I.lstM ha
  refine call_repr_slot hr.in1.units0 ⟨_, he, rfl⟩ F.slot_list_repr.toG ?_
  by_cases hne : xs = []
  · subst hne
    have e1 : its = [] := List.length_eq_zero_iff.mp hl.symm
    subst e1
    have e2 : ts = [] := List.length_eq_zero_iff.mp p.1.symm
    subst e2
    exact call_list_repr_empty ⟨_, he, rfl⟩ he rfl ⟨_, _, rfl, .str "[]", H, I.kept (h' := s.heap) fun _ _ z => z, ⟨_, rfl⟩, q H fun _ _ z => z⟩
  · refine wpAny_call (codeAny_call_builtin F.slot_list_repr.plain F.entry_list_repr (F.slot_list_repr.check _ _ _ _ _ _ _ _ ⟨_, he, rfl⟩ (F.args_list_repr_1 _) ?_))
    exact at_run (base := 0) (R := callEnd _ X.xe) (A := X.A.in1) (g := []) (h a) hm hr.in1 rfl hg (fun p _ => Clear.nil p) (fun z => by cases z) I ha hne p (by omega) (fun e s' q => q) fun u H' s' I' e => ⟨_, _, rfl, .str (listText ts), H', I', ⟨_, rfl⟩, q H' e⟩
/-- repr(x) of an instance with its own __repr__ -/
theorem repr_ins {CX : CXT} {C f : Addr} {fd : FuncData} {ps : List Str} {sp : Sp} {E : XK} (F : FnOk X.prog X.w X.K X.mg X.base CX n f fd ps sp) (hr : Room (n + 1) X.A) (M : Meth X.K C "__repr__" f) (hb : Binds X.K fd ps []) (hx : Passes CX X E) :
    CallR X (.builtin "repr") (fun xs H Q => ∃ a dx fs, xs = [.ref a] ∧ H a = some (.ins C dx fs) ∧ sp [.ref a] H (fun v H' => (∃ t, v = .str t) ∧ Q v H') E) := by
  intro pins s σ H xs us Q I r hq
  obtain ⟨a, dx, fs, rfl, ha, q⟩ := hq
  obtain ⟨u, rfl, ru⟩ := vals1 r
  cases ru
  obtain ⟨od, J⟩ := TzOwn.inst_at I ha
  refine Calls.call_function_entry PySem.F.kind_repr PySem.F.plain_repr PySem.F.entry_repr (PySem.F.args_repr1 _) ?_
  unfold Builtin.«repr»
  refine wpAny_bind (m := oneArg "repr" _) (wpAny_pure ?_)
  refine wpAny_bind (wpAny_cRoomFor hr.in1.units0 ?_)
  refine wpAny_bind (wpAny_bind (J.type.here ((PySem.W.looks_findIn I.kIn M.at_).here ?_)))
  show wpAny _ _ (if (some (Value.ref f)).isNone = true then _ else _) _ _ _
  rw [if_neg (by simp)]
  have e0 : Env0 X.prog X.w X.K X.mg X.base X.A.in1 X.stack s H := I.env0.in1
  have hl := F.len _ _ _ _ q
  refine wpAny_bind (m := callSpecialIfBound? (.ref a) (Str.ofString "__repr__") _) (PySem.W.ifBound_K I.kIn J M.at_ M.fn ?_)
  refine wpAny_call (codeAny_mono (F.run X.A.in1 X.stack s H ⟨[.ref a], []⟩ [.ref a] [.ref a] _ E hr.in1 e0 (by
    have := hb s [.ref a] I.kIn (by simpa using hl)
    simpa using this) (.cons rfl .nil) q) fun r s' hq => ?_)
  cases r with
  | error e => exact hx pins σ H s e s' I hq
  | ok fl =>
    cases fl with
    | ret w =>
      obtain ⟨z, H', I', rz, ⟨t, ez⟩, q'⟩ := I.after hq
      subst ez
      obtain ⟨tk, rfl⟩ := rz
      refine wpAny_bind (wpAny_isInstance (typeIs_str _ _ _) isSubtype_str_str ?_)
      rw [if_pos rfl]
      exact wpAny_pure ⟨_, rfl, .str t, H', I', ⟨_, rfl⟩, q'⟩
    | next => exact False.elim hq
    | brk => exact False.elim hq
    | cont => exact False.elim hq
end
end TzRepr
namespace TzOwn
open PySem PySem.Spec PyProof.Rows L2
/-- the class stands alone under object -/
def solo (K : PySem.W.Frag) (C : Addr) : Bool := (PySem.W.clsIn K C).any fun cd => cd.mro == [.ref C, .type "object"]
section
variable {prog : Program} {w : World} {A : Around} {E : Value → Shared → Prop} {s : Shared} {K : PySem.W.Frag} {a b C f : Addr} {od od' : Option Obj} {oa ob : Obj} {Q : Value → Shared → Prop} {nm : String} {fo ro rc : Option Value}
theorem bin1_same (Xk : K.In s.heap) (J : PySem.W.InstAt s.heap a oa C od) (J' : PySem.W.InstAt s.heap b ob C od') (sf : PySem.W.selfFirst K C = true) (hs : PySem.W.findIn K (.ref C) (PySem.dunder nm) = some (some (.ref f))) (hf : PySem.W.isFn K (.ref f) = true)
    (h : wpAny (model prog w) A (call (.ref f) [.ref a, .ref b]) (PySem.W.CmpBack Q) E s) : wpAny (model prog w) A (binaryOp1 nm (.ref a) (.ref b)) (fun r s' => ∃ v, r = some v ∧ Q v s') E s := by
  obtain ⟨cd, rest, hcd, hm⟩ := PySem.W.ksp_first sf
  have one := PySem.W.ksp_try Xk J hs hf h
  have L1 : PySem.W.Looks (model prog w) s.heap (typeOf (.ref a)) (.ref C) := J.type
  have L2 : PySem.W.Looks (model prog w) s.heap (typeOf (.ref b)) (.ref C) := J'.type
  have L3 : PySem.W.Looks (model prog w) s.heap (fillsNumberSlot (.ref C) nm) true := PySem.W.fills_K Xk hcd hm hs
  unfold binaryOp1
  refine wpAny_bind (L1.here (wpAny_bind (L2.here (wpAny_bind (L3.here ?_)))))
  have e : (Value.ref C == Value.ref C) = true := beq_self_eq_true _
  simp only [e, if_true, pure_bind, Bool.and_false, Bool.false_and, Bool.false_eq_true, if_false]
  refine wpAny_bind (wpAny_mono one (fun r s' hr => ?_) fun _ _ z => z)
  obtain ⟨v, rfl, q⟩ := hr
  exact wpAny_pure ⟨v, rfl, q⟩
theorem bin1_int {n : Int} {t : Tok} (Xk : K.In s.heap) (J : PySem.W.InstAt s.heap a oa C od) (sf : PySem.W.selfFirst K C = true) (hs : PySem.W.findIn K (.ref C) (PySem.dunder nm) = some (some (.ref f))) (hf : PySem.W.isFn K (.ref f) = true)
    (hr : PySem.W.findIn K (.ref C) (dunderR nm) = some rc) (hp : rc = none ∨ ∃ g : Addr, rc = some (.ref g)) (h1 : PySem.W.findIn K (.type "int") (PySem.dunder nm) = some fo) (h2 : PySem.W.findIn K (.type "int") (dunderR nm) = some ro) (hsub : PySem.W.subIn K (.type "int") (.ref C) = some false)
    (h : wpAny (model prog w) A (call (.ref f) [.ref a, .int n t]) (PySem.W.CmpBack Q) E s) : wpAny (model prog w) A (binaryOp1 nm (.ref a) (.int n t)) (fun r s' => ∃ v, r = some v ∧ Q v s') E s := by
  obtain ⟨cd, rest, hcd, hm⟩ := PySem.W.ksp_first sf
  have one := PySem.W.ksp_try Xk J hs hf h
  have L1 : PySem.W.Looks (model prog w) s.heap (typeOf (.ref a)) (.ref C) := J.type
  have L2 : typeOf (.int n t) = pure (.type "int") := rfl
  have L3 : PySem.W.Looks (model prog w) s.heap (fillsNumberSlot (.ref C) nm) true := PySem.W.fills_K Xk hcd hm hs
  have L4 := PySem.W.ksp_fillsT (M := model prog w) Xk h1 h2
  have L5 : PySem.W.Looks (model prog w) s.heap (isSubtype (.type "int") (.ref C)) false := PySem.W.looks_subIn Xk hsub
  have L6 : PySem.W.Looks (model prog w) s.heap (numberSlotInPython (.ref C) nm) true := PySem.W.ksp_inPy Xk hs hr hp
  have L7 : numberSlotInPython (.type "int") nm = pure false := rfl
  have L8 : PySem.W.Looks (model prog w) s.heap (typeLookup (.type "int") (dunderR nm)) ro := PySem.W.looks_findIn Xk h2
  generalize ((fo.isSome && !isSeqSlot fo) || (ro.isSome && !isSeqSlot ro)) = right at L4
  have hne : (Value.ref C == Value.type "int") = false := Bool.eq_false_iff.mpr fun q => by cases beq_iff_eq.mp q
  unfold binaryOp1
  refine wpAny_bind (L1.here (wpAny_bind (wpAny_of_eq L2 (wpAny_bind (L3.here ?_)))))
  simp only [hne, if_false, Bool.false_eq_true]
  refine wpAny_bind (L4.here ?_)
  cases right with
  | false =>
    simp only [pure_bind, Bool.and_false, Bool.false_and, if_false, Bool.false_eq_true, if_true]
    refine wpAny_bind (wpAny_mono one (fun r s' hr => ?_) fun _ _ z => z)
    obtain ⟨v, rfl, q⟩ := hr
    exact wpAny_pure ⟨v, rfl, q⟩
  | true =>
    simp only [Bool.and_self, if_true]
    refine wpAny_bind (L5.here ?_)
    simp only [pure_bind, Bool.not_false, Bool.and_self, if_true, if_false, Bool.false_eq_true]
    refine wpAny_bind (L6.here ?_)
    simp only [if_true, L7, pure_bind, Bool.not_false]
    refine wpAny_bind (L8.here ?_)
    refine wpAny_bind (wpAny_mono one (fun r s' hr => ?_) fun _ _ z => z)
    obtain ⟨v, rfl, q⟩ := hr
    exact wpAny_pure ⟨v, rfl, q⟩
theorem fillsI_not {add : Bool} (Xk : K.In s.heap) (so : solo K C = true) (n1 : PySem.W.findIn K (.ref C) (dunderI nm) = some none) (n2 : PySem.W.findIn K (.type "object") (dunderI nm) = some none) : PySem.W.Looks (model prog w) s.heap (fillsInplaceSlot (.ref C) nm add) false := by
  obtain ⟨cd, hcd, hm⟩ := PySem.W.any_some so
  have hm := beq_iff_eq.mp hm
  intro A Q E s' k q
  have Lm : PySem.W.Looks (model prog w) s.heap (mroOf (.ref C)) cd.mro := (PySem.W.looks_clsIn Xk hcd).andThen (f := fun cd => pure cd.mro) .now
  have X' : K.In s'.heap := Xk.keeps k
  unfold fillsInplaceSlot
  refine wpAny_bind ((Lm.keeps k).here ?_)
  rw [hm, List.anyM_cons]
  refine wpAny_bind (wpAny_bind ((PySem.W.looks_findIn X' n1).here (wpAny_pure ?_)))
  simp only [Bool.false_eq_true, if_false, List.anyM_cons, List.anyM_nil]
  refine wpAny_bind (wpAny_bind ((PySem.W.looks_findIn X' n2).here (wpAny_pure ?_)))
  exact wpAny_pure q
theorem inpl {op : Operator} {v u : Value} (L1 : PySem.W.Looks (model prog w) s.heap (typeOf v) (.ref C)) (L2 : PySem.W.Looks (model prog w) s.heap (fillsInplaceSlot (.ref C) op.info.2 (op == .Add)) false)
    (h : wpAny (model prog w) A (binaryOp1 op.info.2 v u) (fun r s' => ∃ z, r = some z ∧ Q z s') E s) : wpAny (model prog w) A (inplaceOp op v u) Q E s := by
  unfold inplaceOp
  refine wpAny_holding (wpAny_bind (L1.here (wpAny_bind (L2.here ?_))))
  simp only [Bool.false_eq_true, if_false]
  refine wpAny_bind (wpAny_mono h (fun r s' hr => ?_) fun _ _ z => z)
  obtain ⟨v, rfl, q⟩ := hr
  exact wpAny_pure q
end
theorem solo_of {K : PySem.W.Frag} {C : Addr} {cd : ClassData} (h : PySem.W.clsIn K C = some cd) (hm : cd.mro = [.ref C, .type "object"]) : solo K C = true := by
  unfold solo
  rw [h]
  show (cd.mro == [.ref C, .type "object"]) = true
  exact beq_iff_eq.mpr hm
/-- a op= b in a class that has no such method: as a op b -/
structure INo (K : PySem.W.Frag) (C : Addr) (m : Str) : Prop where
  so : solo K C = true
  n1 : PySem.W.findIn K (.ref C) m = some none
  n2 : PySem.W.findIn K (.type "object") m = some none
section
variable {X : Cx} {CX : CXT} {k : Nat} {f C : Addr} {fd : FuncData} {ps : List Str} {sp : Sp} {E : XK} {op : Operator} {nm nr ni : Str} {fo ro rc : Option Value}
theorem ip_own (F : FnOk X.prog X.w X.K X.mg X.base CX k f fd ps sp) (hr : Room k X.A) (M : Meth X.K C nm f) (hn : PySem.dunder op.info.2 = nm) (sf : PySem.W.selfFirst X.K C = true) (hb : Binds X.K fd ps []) (hx : Passes CX X E) (no : INo X.K C ni) (hi : dunderI op.info.2 = ni) :
    PIp X op (rOwn C sp E) := by
  intro pins s σ H x y v u Q I rx ry h
  obtain ⟨a, b, dx, dy, fs, gs, rfl, rfl, ha, hb', q⟩ := h
  cases rx
  cases ry
  obtain ⟨od, J⟩ := inst_at I ha
  obtain ⟨od', J'⟩ := inst_at I hb'
  refine inpl J.type (fillsI_not I.kIn no.so (hi ▸ no.n1) (hi ▸ no.n2)) (bin1_same I.kIn J J' sf (hn ▸ M.at_) M.fn ?_)
  exact thn (run_fn (us := [.ref a, .ref b]) (vs := [.ref a, .ref b]) F hr hb .nil hx I (.cons rfl (.cons rfl .nil)) q) fun _ _ z => back_cmp z
theorem ip_ownI (F : FnOk X.prog X.w X.K X.mg X.base CX k f fd ps sp) (hr : Room k X.A) (M : Meth X.K C nm f) (hn : PySem.dunder op.info.2 = nm) (sf : PySem.W.selfFirst X.K C = true) (hb : Binds X.K fd ps []) (hx : Passes CX X E)
    (hnr : dunderR op.info.2 = nr) (hc : PySem.W.findIn X.K (.ref C) nr = some rc) (hp : rc = none ∨ ∃ g : Addr, rc = some (.ref g)) (h1 : PySem.W.findIn X.K (.type "int") nm = some fo) (h2 : PySem.W.findIn X.K (.type "int") nr = some ro)
    (hsub : PySem.W.subIn X.K (.type "int") (.ref C) = some false) (no : INo X.K C ni) (hi : dunderI op.info.2 = ni) : PIp X op (rOwnI C sp E) := by
  intro pins s σ H x y v u Q I rx ry h
  obtain ⟨a, n, dx, fs, rfl, rfl, ha, q⟩ := h
  cases rx
  obtain ⟨t, rfl⟩ := ry
  obtain ⟨od, J⟩ := inst_at I ha
  refine inpl J.type (fillsI_not I.kIn no.so (hi ▸ no.n1) (hi ▸ no.n2)) (bin1_int I.kIn J sf (hn ▸ M.at_) M.fn (hnr ▸ hc) hp (hn ▸ h1) (hnr ▸ h2) hsub ?_)
  exact thn (run_fn (us := [.ref a, .int n t]) (vs := [.ref a, .int n]) F hr hb .nil hx I (.cons rfl (.cons ⟨_, rfl⟩ .nil)) q) fun _ _ z => back_cmp z
end
end TzOwn
namespace Tz
open PySem PyProof.Rows L2
def spAddI (C : Addr) : Sp := fun vs H Q _ => ∃ x, ∃ w : Nat, ∃ u n : Int, vs = [.ref x, .int n] ∧ WordAt C H x w u ∧ 0 ≤ n ∧ n ≤ mw w ∧ NewW C w (cr w (u + n)) H Q
def spRAddI (C : Addr) : Sp := fun vs H Q _ => ∃ x, ∃ w : Nat, ∃ u n : Int, vs = [.ref x, .int n] ∧ WordAt C H x w u ∧ 0 ≤ n ∧ n ≤ mw w ∧ NewW C w (cr w (n + u)) H Q
def spSubI (C : Addr) : Sp := fun vs H Q _ => ∃ x, ∃ w : Nat, ∃ u n : Int, vs = [.ref x, .int n] ∧ WordAt C H x w u ∧ 0 ≤ n ∧ n ≤ mw w ∧ NewW C w (cr w (u + (mw w - n))) H Q
def spRSubI (C : Addr) : Sp := fun vs H Q _ => ∃ x, ∃ w : Nat, ∃ u n : Int, vs = [.ref x, .int n] ∧ WordAt C H x w u ∧ 0 ≤ n ∧ n ≤ mw w ∧ NewW C w (cr w (n + (mw w - u))) H Q
/-! ### repr of words -/
def wtext (w : Nat) (u : Int) : Str := ((((Str.empty ++ ("Word(" : Str)) ++ ((toString (w : Int) : String) : Str)) ++ (", " : Str)) ++ ((toString u : String) : Str)) ++ (")" : Str)
def WText (C : Addr) : Addr → Str → Hp → Prop := fun a t H => ∃ w u, WordAt C H a w u ∧ t = wtext w u
theorem mon_words {C : Addr} : TzRepr.Mon (TzRepr.RIns C (WText C)) := fun _ _ _ _ e ⟨a, dx, fs, hx, ha, w, u, W, ht⟩ => ⟨a, dx, fs, hx, e _ _ ha, w, u, W.ex e, ht⟩
theorem int20 {n : Int} (h0 : 0 ≤ n) (h1 : n < 18446744073709551616) : ((toString n : String) : Str).length ≤ 21 :=
  Nat.le_trans (PyProof.Rows.toString_length_le h0 (k := 20) (by decide) (by omega)) (by decide)
theorem wtext_len {w : Nat} {u : Int} (hw : w ≤ 64) (h0 : 0 ≤ u) (h1 : u < 18446744073709551616) : (wtext w u).length ≤ 60 := by
  have a := int20 (n := (w : Int)) (by omega) (by omega)
  have b := int20 h0 h1
  have e0 : (Str.empty : Str).length = 0 := rfl
  have e1 : ("Word(" : Str).length = 5 := rfl
  have e2 : (", " : Str).length = 2 := rfl
  have e3 : (")" : Str).length = 1 := rfl
  unfold wtext
  rw [strLen_append, strLen_append, strLen_append, strLen_append, strLen_append, e0, e1, e2, e3]
  omega
theorem words2_len {a b : Str} (ha : a.length ≤ 60) (hb : b.length ≤ 60) : (listText [a, b]).length ≤ sizeLine := by
  have := textFrom_len_le [a, b] 0 "["
  have e : (listText [a, b]).length = (textFrom 0 "[" [a, b]).length + 1 := by
    show (textFrom 0 "[" [a, b] ++ "]").length = _
    rw [strLen_append]; rfl
  have e1 : ("[" : Str).length = 1 := rfl
  have e2 : (([a, b].map (·.length)).sum) = a.length + (b.length + 0) := rfl
  have e3 : [a, b].length = 2 := rfl
  refine Nat.le_trans (show _ ≤ 200 by omega) (by decide)
theorem each2 {C a b : Addr} {H : Hp} {w w' : Nat} {u v : Int} (Wa : WordAt C H a w u) (Wb : WordAt C H b w' v) : TzRepr.Each (TzRepr.RIns C (WText C)) [.ref a, .ref b] [wtext w u, wtext w' v] H := by
  obtain ⟨da, ha⟩ := Wa.ob
  obtain ⟨db, hb⟩ := Wb.ob
  refine ⟨rfl, fun i x t h1 h2 => ?_⟩
  match i with
  | 0 =>
    cases h1
    cases h2
    exact ⟨a, da, _, rfl, ha, w, u, Wa, rfl⟩
  | 1 =>
    cases h1
    cases h2
    exact ⟨b, db, _, rfl, hb, w', v, Wb, rfl⟩
  | i + 2 => simp at h1
/-! ### promises -/
def spInPlace (C : Addr) : Sp := fun vs H Q _ => ∃ x y, ∃ w : Nat, ∃ u v : Int, vs = [.ref x, .ref y] ∧ WordAt C H x w u ∧ WordAt C H y w v ∧
  ∀ l p q H', Ex H H' → H' l = some (.lst [.ref p, .ref q]) → WordAt C H' p w (cr w (u + v)) → WordAt C H' q w (cr w (u + (mw w - v))) → Q (.ref l) H'
def spInPlaceI (C : Addr) : Sp := fun vs H Q _ => ∃ x, ∃ w : Nat, ∃ u v : Int, vs = [.ref x, .int v] ∧ WordAt C H x w u ∧ 0 ≤ v ∧ v ≤ mw w ∧
  ∀ l p q H', Ex H H' → H' l = some (.lst [.ref p, .ref q]) → WordAt C H' p w (cr w (u + v)) → WordAt C H' q w (cr w (u + (mw w - v))) → Q (.ref l) H'
def spApart (C : Addr) : Sp := fun vs H Q _ => ∃ x y, ∃ w : Nat, ∃ u v : Int, vs = [.ref x, .ref y] ∧ WordAt C H x w u ∧ WordAt C H y w v ∧ ∀ H', Ex H H' → Q (.bl true) H'
def spApartI (C : Addr) : Sp := fun vs H Q _ => ∃ x, ∃ w : Nat, ∃ u v : Int, vs = [.ref x, .int v] ∧ WordAt C H x w u ∧ 0 ≤ v ∧ v ≤ mw w ∧ ∀ H', Ex H H' → Q (.bl true) H'
def spRight3 : Sp := fun vs H Q _ => ∃ w : Nat, ∃ u v : Int, vs = [.int w, .int u, .int v] ∧ 1 ≤ w ∧ w ≤ 64 ∧ 0 ≤ u ∧ u ≤ mw w ∧ 0 ≤ v ∧ v ≤ mw w ∧ ∀ H', Ex H H' → Q (.bl true) H'
end Tz
namespace TzRepr
open PySem PySem.Spec PyProof.Rows L2 PySem.Builtin PySem.Builtin.List Tz
section
variable {X : Cx} {n : Nat} {as : List Addr} {D : Rpr}
/-! ### tuples -/
theorem Each.tail {x : V} {xs : List V} {t : Str} {ts : List Str} {H : Hp} (p : Each D (x :: xs) (t :: ts) H) : Each D xs ts H := ⟨by simpa using p.1, fun i y u h1 h2 => p.2 (i + 1) y u (by simpa using h1) (by simpa using h2)⟩
theorem Each.head {x : V} {xs : List V} {t : Str} {ts : List Str} {H : Hp} (p : Each D (x :: xs) (t :: ts) H) : D x t H := p.2 0 x t rfl rfl
theorem tup_fold {A : Around} {g : List Code} {pins : List (Addr × Obj)} {σ : L2.St} {bs : List Addr} (h : RpG X n bs D) (hm : Mon D) (hr : Room n A) (hf : A.frames = X.A.frames) (hg : A.guards = some g) (hcl : ∀ p, p ∉ bs → Clear g p) :
    ∀ (l : List Value) (xs : List V) (ts : List Str) (acc : Array Str) (m : Nat) (s : Shared) (H1 : Hp), Vals xs l → Each D xs ts H1 → m + piled ts ≤ sizeLine → L2.Inv X pins σ H1 s →
    wpAny (model X.prog X.w) A (forIn l (⟨acc, m⟩ : (Array Str × Nat)) tupBody) (fun r s' => r = ⟨acc ++ ts.toArray, m + piled ts⟩ ∧ ∃ H', L2.Inv X pins σ H' s' ∧ Ex H1 H') X.xe s := by
  intro l
  induction l with
  | nil =>
    intro xs ts acc m s H1 rv d hs I
    cases rv
    have e : ts = [] := List.length_eq_zero_iff.mp d.1.symm
    subst e
    rw [List.forIn_nil]
    exact wpAny_pure ⟨by simp [piled], H1, I, fun _ _ z => z⟩
  | cons y l ih =>
    intro xs ts acc m s H1 rv d hs I
    cases rv with
    | cons ry rv =>
      rename_i x xs
      cases ts with
      | nil => exact absurd d.1 (by simp)
      | cons t ts =>
        rw [piled_cons] at hs
        rw [List.forIn_cons]
        refine wpAny_bind (wpAny_bind (wpAny_mono (h A g pins s σ H1 x y t (m + 1) hr hf hg hcl I ry d.head (by omega)) (fun z s2 q => ?_) fun _ _ z => z))
        obtain ⟨rfl, H2, I2, e2⟩ := q
        refine wpAny_pure ?_
        refine wpAny_mono (ih xs ts (acc.push z) (m + (z.length + 2)) s2 H2 rv (d.tail.mon hm e2) (by omega) I2) (fun r s3 q => ?_) fun _ _ z => z
        obtain ⟨rfl, H3, I3, e3⟩ := q
        refine ⟨?_, H3, I3, e2.trans e3⟩
        rw [piled_cons]
        refine Prod.ext ?_ ?_
        · simp
        · show m + (z.length + 2) + piled ts = m + (z.length + 2 + piled ts)
          omega
/-- a code that is repr of a tuple -/
structure TupC (A : Around) (c : Code) : Prop where
  gd : c.isGuard = true
  un : (A.under c).units = A.units + 1
  dp : (A.under c).depth ≤ A.depth + 1
  hd : (A.under c).handled = A.handled
  fr : (A.under c).frames = A.frames
theorem TupC.room {A : Around} {c : Code} {k : Nat} (h : TupC A c) (r : Room (k + 1) A) : Room k (A.under c) := ⟨by rw [h.hd]; exact r.hd, by have := r.dp; have := h.dp; omega, by have := r.un; rw [h.un]; omega⟩
theorem tupC1 (A : Around) (args : Args) : TupC A (.builtin "tuple.__repr__" args) :=
  ⟨isGuard_tuple_repr _, units_under_tuple_repr _ _, by first | exact Nat.le_of_eq rfl | exact Nat.le_succ _ | simp [Around.under, Code.weight, Code.isCreation, Code.isGuard, Code.isCaller, Code.frames, Code.isFrame, guardIds], by first | rfl | simp [Around.under], by first | rfl | simp [Around.under, Code.frames, Code.isFrame]⟩
theorem tupC2 (A : Around) (args : Args) : TupC A (.builtin "tuple.__repr__.under" args) :=
  ⟨isGuard_tuple_repr_under _, units_under_tuple_repr_under _ _, by first | exact Nat.le_of_eq rfl | exact Nat.le_succ _ | simp [Around.under, Code.weight, Code.isCreation, Code.isGuard, Code.isCaller, Code.frames, Code.isFrame, guardIds], by first | rfl | simp [Around.under], by first | rfl | simp [Around.under, Code.frames, Code.isFrame]⟩
theorem tup_at {A : Around} {g : List Code} {pins : List (Addr × Obj)} {σ : L2.St} {H : Hp} {s : Shared} {a : Addr} {xs : List V} {ts : List Str} {base : Nat} {id : String} {rest : List Value} {R : Result → Shared → Prop} (h : RpG X n (a :: as) D) (hm : Mon D) (hr : Room (n + 1) A) (hf : A.frames = X.A.frames)
    (hg : A.guards = some g) (hcl : ∀ p, p ∉ as → Clear g p) (hna : a ∉ as) (c : TupC A (.builtin id ⟨.ref a :: rest, []⟩)) (I : L2.Inv X pins σ H s) (ha : SqT X.K H a xs) (d : Each D xs ts H) (hsz : base + (tupleText ts).length ≤ sizeLine) (hE : ∀ e s', X.xe e s' → R (.error e) s')
    (hR : ∀ u H' s', L2.Inv X pins σ H' s' → Ex H H' → R (.ok (.ret (.str (tupleText ts) u))) s') :
    wpOwn (model X.prog X.w) A (.builtin id ⟨.ref a :: rest, []⟩) (Builtin.tupleReprAt base ⟨[.ref a], []⟩) (fun fin s' => match fin with | .done f => R (.ok f) s' | .again c' => c'.quiet = true ∧ codeAny (model X.prog X.w) A c' R s') (fun e s' => R (.error e) s') s := by
  obtain ⟨its, rv, ⟨o, ho, hc, m, hd⟩, hz⟩ := I.tuple ha
  have hp := piled_le_tupleText ts
  have hlen : ts.length = its.toArray.size := by rw [List.size_toArray, ← rv.length]; exact d.1.symm
  rw [tuple_repr_tree, tupleReprUnderWay_eq]
  refine wpOwn_bind (wpOwn_stackTailAny hg (tupGuardF_off _) (tupGuardF_pos _) ?_)
  have hn : (g.any fun c => tupGuardF (.ref a) (c, default)) = false := by
    refine List.any_eq_false.mpr fun c hcm => ?_
    rw [tupGuardF_of_clear (hcl a hna) c hcm]
    exact Bool.false_ne_true
  rw [hn]
  refine wpOwn_of_wpAny ?_
  show wpAny _ _ (tupleReprRest base (.ref a)) _ _ s
  unfold tupleReprRest Builtin.Tuple.tupleItemsOf
  refine wpAny_bind (wpAny_bind (wpAny_seqItems ho hd (wpAny_pure ?_)))
  rw [← Array.forIn_toList]
  refine wpAny_bind (wpAny_mono (tup_fold h hm (c.room hr) (c.fr.trans hf) (guards_under_guard c.gd hg) (fun p hp => (hcl p fun q => hp (.tail _ q)).cons (a := a) fun q => hp (q ▸ .head _)) _ xs ts #[] base s H (by simpa using rv) d (by omega) I) (fun r s2 q => ?_) fun e s' q => hE e s' q)
  obtain ⟨rfl, H2, I2, e2⟩ := q
  have hsz0 : (tupleText ts).length ≤ sizeLine := by omega
  refine wpAny_bind (wpAny_mkStr (wpAny_pure ?_) (by simpa [tupleText, hlen] using hsz0))
  have h1 := hR s2.toks H2 { s2 with toks := s2.toks + 1 } (I2.kept (h' := s2.heap) fun _ _ z => z) e2
  simpa [tupleText, hlen] using h1
/-- tuples, item by item -/
def RTup (K : PySem.W.Frag) (D : Rpr) (as : List Addr) : Rpr := fun x t H => ∃ a xs ts, x = .ref a ∧ a ∉ as ∧ SqT K H a xs ∧ t = tupleText ts ∧ Each D xs ts H
theorem sqT_ex {K : PySem.W.Frag} {H H' : Hp} {a : Addr} {xs : List V} (h : SqT K H a xs) (e : Ex H H') : SqT K H' a xs := by
  rcases h with (h | ⟨o, h⟩) | h
  · exact .inl (.inl (e _ _ h))
  · exact .inl (.inr ⟨o, e _ _ h⟩)
  · exact .inr h
theorem mon_tup {K : PySem.W.Frag} (hD : Mon D) : Mon (RTup K D as) := fun x t H H' e ⟨a, xs, ts, hx, hn, h1, ht, p⟩ => ⟨a, xs, ts, hx, hn, sqT_ex h1 e, ht, p.mon hD e⟩
theorem rpG_tup (hm : Mon D) (h : ∀ a, RpG X n (a :: as) D) : RpG X (n + 1) as (RTup X.K D as) := by
  intro A g pins s σ H x u t b hr hf hg hc I r d hs
  obtain ⟨a, xs, ts, rfl, hna, ha, rfl, p⟩ := d
  cases r
  refine wpAny_pyReprUnder_ref (by omega) ?_
  obtain ⟨its, rv, ⟨o, ho, hcls, m, hd⟩, hz⟩ := I.tuple ha
  refine wpAny_pyReprObjUnder_twin (twin := "tuple.__repr__.under") ⟨o, ho, hcls⟩ F.slot_tuple_repr rfl hr.units0 ?_
  exact call_twin_own (F.quiet_tuple_repr_under _) F.entry_tuple_repr_under F.check_tuple_repr_under ⟨o, ho, hcls⟩ F.slot_tuple_repr (F.args_tuple_repr_1 _)
    (tup_at (R := callEnd _ X.xe) (h a) hm hr hf hg hc hna (tupC2 _ _) I ha p hs (fun e s' q => q) fun u H' s' I' e => ⟨⟨_, _, rfl⟩, _, _, rfl, rfl, H', I', e⟩)
/-- repr(x) of a tuple, where no repr is under way -/
theorem repr_tup (hm : Mon D) (h : ∀ a, RpG X n [a] D) (hg : X.A.guards = some []) (hr : Room (n + 2) X.A) :
    CallR X (.builtin "repr") (fun xs H Q => ∃ x t, xs = [x] ∧ RTup X.K D [] x t H ∧ t.length ≤ sizeLine ∧ ∀ H', Ex H H' → Q (.str t) H') := by
  intro pins s σ H xs us Q I r hq
  obtain ⟨x, t, rfl, ⟨a, xs, ts, rfl, hna, ha, rfl, p⟩, hs, q⟩ := hq
  obtain ⟨u, rfl, ru⟩ := vals1 r
  cases ru
  obtain ⟨its, rv, ⟨o, ho, hcls, m, hd⟩, hz⟩ := I.tuple ha
  refine call_repr_slot hr.in1.units0 ⟨o, ho, hcls⟩ F.slot_tuple_repr ?_
  exact wpAny_call (codeAny_call_builtin_own (Code.quiet_builtin _ (by decide +kernel)) F.entry_tuple_repr (F.slot_tuple_repr.check _ _ _ _ _ _ _ _ ⟨o, ho, hcls⟩ (F.args_tuple_repr_1 _)
    (tup_at (base := 0) (R := callEnd _ X.xe) (A := X.A.in1) (g := []) (h a) hm hr.in1 rfl hg (fun p _ => Clear.nil p) hna (tupC1 _ _) I ha p (by omega) (fun e s' q => q) fun u H' s' I' e => ⟨_, _, rfl, .str (tupleText ts), H', I', ⟨_, rfl⟩, q H' e⟩)))
end
end TzRepr
namespace TzOwn
open PySem PySem.Spec PyProof.Rows L2 PySem.Builtin PySem.Builtin.Str
section
variable {prog : Program} {w : World} {A : Around} {E : Value → Shared → Prop} {s : Shared} {K : PySem.W.Frag} {x C f : Addr} {od : Option Obj} {ox : Obj}
/-- str(x), x an instance with its own __str__ -/
theorem str_call {Q : Value → Shared → Prop} (hu : A.in1.in1.units < cLine) (Xk : K.In s.heap) (J : PySem.W.InstAt s.heap x ox C od) (hs : PySem.W.findIn K (.ref C) "__str__" = some (some (.ref f))) (hf : PySem.W.isFn K (.ref f) = true)
    (h : wpAny (model prog w) A.in1.in1 (call (.ref f) [.ref x]) (PySem.W.StrBack Q) E s) : wpAny (model prog w) A (call (.type "str") [.ref x]) Q E s := by
  have fin : wpAny (model prog w) A.in1.in1 (PySem.Builtin.Str.strOf (.ref x)) (fun r s1 => ∃ y u, r = .str y u ∧ Q r s1) E s := by
    unfold PySem.Builtin.Str.strOf
    have no : isExactStr (.ref x) = false := rfl
    rw [no]
    refine wpAny_bind (m := cRoomFor _ _) (wpAny_cRoomFor hu ?_)
    have one : wpAny (model prog w) A.in1.in1 (callSpecial? (.ref x) (Str.ofString "__str__") []) (fun r s1 => ∃ y u, r = some (.str y u) ∧ Q (.str y u) s1) E s :=
      PySem.W.special_fn Xk J hs (beq_iff_eq.mp hf) (wpAny_mono h (fun v s1 z => by cases v <;> first | exact z.elim | exact ⟨_, _, rfl, z⟩) fun _ _ z => z)
    refine wpAny_bind (m := callSpecial? (.ref x) (Str.ofString "__str__")) (wpAny_mono one (fun r s1 z => ?_) fun _ _ z => z)
    obtain ⟨y, u, rfl, q⟩ := z
    exact wpAny_pure ⟨_, _, rfl, q⟩
  refine callType_codes (T := "str") (Bi := Builtin.«object.__init__») (Q₁ := fun r s1 => ∃ y u, r = .str y u ∧ Q r s1)
    PySem.F.called_str (PySem.F.typeCall_str_1 _) PySem.F.entry_object_init ?_ (fun obj s1 z => ?_)
  · refine codeAny_of_tree ?_
    show wpAny _ A.in1.in1
      (do checkBuiltinCall "str.__new__" ⟨[.type "str", .ref x], []⟩; again (.builtin "str.__new__" ⟨[.type "str", .ref x], []⟩)) _ _ s
    have pl : plainId "str.__new__" = true := by decide +kernel
    refine wpAny_bind (wpAny_of_eq (PySem.F.newCall_str_1 _)
      (wpAny_pure ⟨plainId_quiet pl _, codeAny_builtin PySem.F.entry_str_new ?_⟩))
    rw [Around.under_plainId pl, str_new_tree]
    refine wpAny_bind (wpAny_pure (wpAny_bind (wpAny_of_eq isSubtype_str_str ?_)))
    exact wpAny_bind (wpAny_mono fin (fun r s1 z => wpAny_pure z) fun _ _ z => z)
  · obtain ⟨y, u, rfl, q⟩ := z
    exact ⟨typeIs_str _ _ _, PySem.F.args_object_init_2 _ _,
      object_init_meets PySem.F.called_str.init.lookup PySem.F.called_str.made (by decide) prog w A.in1 _ s1 ⟨typeIs_str _ _ _, rfl, q⟩⟩
theorem bool_call {Q : Value → Shared → Prop} (Xk : K.In s.heap) (J : PySem.W.InstAt s.heap x ox C od) (hs : PySem.W.findIn K (.ref C) "__bool__" = some (some (.ref f))) (hf : PySem.W.isFn K (.ref f) = true)
    (h : wpAny (model prog w) A.in1.in1 (call (.ref f) [.ref x]) (PySem.W.BoolBack fun b => Q (.bool b)) E s) : wpAny (model prog w) A (call (.type "bool") [.ref x]) Q E s := by
  have fin : wpAny (model prog w) A.in1.in1 (truthy (.ref x)) (fun b s1 => Q (.bool b) s1) E s := by
    unfold truthy
    refine wpAny_bind (m := callSpecial? (.ref x) (Str.ofString "__bool__"))
      (PySem.W.special_fn Xk J hs (beq_iff_eq.mp hf) (wpAny_mono h (fun r s1 z => ?_) fun _ _ y => y))
    cases r <;> first | exact z.elim | exact wpAny_pure z
  refine callType_codes (T := "bool") (Bi := Builtin.«object.__init__») (Q₁ := fun r s1 => ∃ b, r = .bool b ∧ Q r s1)
    PySem.F.called_bool (PySem.F.typeCall_bool_1 _) PySem.F.entry_object_init ?_ (fun obj s1 z => ?_)
  · refine codeAny_of_tree ?_
    show wpAny _ A.in1.in1
      (do checkBuiltinCall "bool.__new__" ⟨[.type "bool", .ref x], []⟩; again (.builtin "bool.__new__" ⟨[.type "bool", .ref x], []⟩)) _ _ s
    have pl : plainId "bool.__new__" = true := by decide +kernel
    refine wpAny_bind (wpAny_of_eq (PySem.F.newCall_bool_1 _)
      (wpAny_pure ⟨plainId_quiet pl _, codeAny_builtin PySem.F.entry_bool_new ?_⟩))
    rw [Around.under_plainId pl]
    unfold Builtin.«bool.__new__»
    have t1 : PySem.W.Looks (model prog w) s.heap (isType (.type "bool")) true := PySem.W.Looks.of_pure rfl
    refine wpAny_bind (t1.here ?_)
    have t2 : PySem.W.Looks (model prog w) s.heap (isSubtype (.type "bool") (.type "bool")) true := PySem.W.Looks.of_pure F.conv_sub_bool
    simp only [Bool.not_true, Bool.false_eq_true, if_false]
    refine wpAny_bind (t2.here ?_)
    simp only [Bool.not_true, Bool.false_eq_true, if_false]
    refine wpAny_bind (wpAny_pure ?_)
    exact wpAny_bind (wpAny_mono fin (fun c s1 z => wpAny_pure ⟨_, rfl, z⟩) fun _ _ z => z)
  · obtain ⟨b, rfl, q⟩ := z
    exact ⟨PySem.typeIs_bool _ _, PySem.F.args_object_init_2 _ _,
      object_init_meets PySem.F.called_bool.init.lookup PySem.F.called_bool.made (by decide) prog w A.in1 _ s1 ⟨PySem.typeIs_bool _ _, rfl, q⟩⟩
end
section
variable {X : Cx} {CX : CXT} {n : Nat} {f C : Addr} {fd : FuncData} {ps : List Str} {sp : Sp} {E : XK}
theorem str_own (F : FnOk X.prog X.w X.K X.mg X.base CX n f fd ps sp) (hr : Room (n + 2) X.A) (M : Meth X.K C "__str__" f) (hb : Binds X.K fd ps []) (hx : Passes CX X E) :
    CallR X (.type "str") (fun xs H Q => ∃ a dx fs, xs = [.ref a] ∧ H a = some (.ins C dx fs) ∧ sp [.ref a] H (fun v H' => (∃ t, v = .str t) ∧ Q v H') E) := by
  intro pins s σ H xs us Q I r hq
  obtain ⟨a, dx, fs, rfl, ha, q⟩ := hq
  obtain ⟨u, rfl, ru⟩ := vals1 r
  cases ru
  obtain ⟨od, J⟩ := inst_at I ha
  refine str_call hr.in1.in1.units0 I.kIn J M.at_ M.fn ?_
  have e0 : Env0 X.prog X.w X.K X.mg X.base X.A.in1.in1 X.stack s H := I.env0.in1.in1
  have hl := F.len _ _ _ _ q
  refine wpAny_call (codeAny_mono (F.run X.A.in1.in1 X.stack s H ⟨[.ref a], []⟩ [.ref a] [.ref a] _ E hr.in1.in1 e0 (by
    have := hb s [.ref a] I.kIn (by simpa using hl)
    simpa using this) (.cons rfl .nil) q) fun r s' hq => ?_)
  cases r with
  | error e => exact hx pins σ H s e s' I hq
  | ok fl =>
    cases fl with
    | ret w =>
      obtain ⟨z, H', I', rz, ⟨t, ez⟩, q'⟩ := I.after hq
      subst ez
      obtain ⟨tk, rfl⟩ := rz
      exact ⟨.str t, H', I', ⟨_, rfl⟩, q'⟩
    | next => exact False.elim hq
    | brk => exact False.elim hq
    | cont => exact False.elim hq
theorem bool_own (F : FnOk X.prog X.w X.K X.mg X.base CX n f fd ps sp) (hr : Room (n + 2) X.A) (M : Meth X.K C "__bool__" f) (hb : Binds X.K fd ps []) (hx : Passes CX X E) :
    CallR X (.type "bool") (fun xs H Q => ∃ a dx fs, xs = [.ref a] ∧ H a = some (.ins C dx fs) ∧ sp [.ref a] H (fun v H' => (∃ t, v = .bl t) ∧ Q v H') E) := by
  intro pins s σ H xs us Q I r hq
  obtain ⟨a, dx, fs, rfl, ha, q⟩ := hq
  obtain ⟨u, rfl, ru⟩ := vals1 r
  cases ru
  obtain ⟨od, J⟩ := inst_at I ha
  refine bool_call I.kIn J M.at_ M.fn ?_
  have e0 : Env0 X.prog X.w X.K X.mg X.base X.A.in1.in1 X.stack s H := I.env0.in1.in1
  have hl := F.len _ _ _ _ q
  refine wpAny_call (codeAny_mono (F.run X.A.in1.in1 X.stack s H ⟨[.ref a], []⟩ [.ref a] [.ref a] _ E hr.in1.in1 e0 (by
    have := hb s [.ref a] I.kIn (by simpa using hl)
    simpa using this) (.cons rfl .nil) q) fun r s' hq => ?_)
  cases r with
  | error e => exact hx pins σ H s e s' I hq
  | ok fl =>
    cases fl with
    | ret w =>
      obtain ⟨z, H', I', rz, ⟨t, ez⟩, q'⟩ := I.after hq
      subst ez
      cases rz
      exact ⟨.bl t, H', I', rfl, q'⟩
    | next => exact False.elim hq
    | brk => exact False.elim hq
    | cont => exact False.elim hq
end
section
variable {X : Cx} {CX : CXT} {k : Nat} {f C g p : Addr} {fd : FuncData} {ps ks : List Str} {sp : Sp} {E : XK} {m : Str} {o : Expr} {mc : Value} {kws : List Keyword} {apos pos : Pos} {ta : TE} {tk : TA} {pl : Sem Bool}
def tSMethK (C : Addr) (sp : Sp) (E : XK) (gV : List V → List V) (ta : TE) (t : TA) : TE := fun σ H Q => ta σ H fun x H1 => x = .ref C ∧ t σ H1 fun zs H2 => sp (gV zs) H2 Q E
/-- C.m(k = e, ..), m a staticmethod, by keywords alone -/
theorem pe_smethK {gs : List Value → List Value → List Value} {gV : List V → List V → List V} (he : PE X o ta) (r : ClX.CRead X.K C mc) (c : SMet X.K C mc m p g) (F : FnOk X.prog X.w X.K X.mg X.base CX k g fd ps sp) (hr : Room k X.A) (hb : KBinds X.K fd ps ks gs gV) (hx : Passes CX X E) (hkw : PK X kws tk)
    (hall : (backToKw pos (keywordEach kws X.env)).all (·.1.isSome) = true := by rfl) (hks : (backToKw pos (keywordEach kws X.env)).filterMap (·.1) = ks := by rfl)
    (hpl : ((backTo pos (starEach [] X.env)).any (·.1) || (backToKw pos (keywordEach kws X.env)).any (·.1.isNone)) = false := by rfl)
    (ht : eval (.Call (.Attribute o m apos) [] kws pos) X.env = (do
      let ov ← eval o X.env
      standAt apos.atName
      let (f, first) ← holding [ov] (getMethod ov m pl)
      callWith pos f first (backTo pos (starEach [] X.env)) (backToKw pos (keywordEach kws X.env))) := by rfl) :
    PE X (.Call (.Attribute o m apos) [] kws pos) (tSMethK C sp E (gV []) ta tk) := by
  refine ⟨fun pins s σ H Q I h => ?_⟩
  refine PySem.W.methodCall_KW (pl := pl) (thn (he.run pins s σ H _ I h) fun u s1 ⟨x, H1, I1, rx, ex, q⟩ => ?_) ht
  subst ex
  obtain rfl : u = Value.ref C := rx
  refine PySem.W.method_cls I1.kIn r.ga (getsmet_ok I1 r c fun s2 I2 => ?_)
  refine PySem.W.callWith_KW0 (first := []) (h₀ := X.base) I.ok.mod.kin c.kp hall (thn (hkw.run pos pins s2 σ H1 _ I2 q) fun ws s3 ⟨zs, H2, I3, rz, q2⟩ => ⟨I3.kIn, ?_⟩) hpl
  rw [hks]
  exact run_fnk (us := []) (vs := []) F hr hb hx I3 .nil rz q2
end
section
variable {X : Cx} {CX : CXT} {k n i : Nat} {f C g p : Addr} {fd : FuncData} {ps ks : List Str} {sp : Sp} {dvs : List V} {ds : List Value} {E : XK} {x m : Str} {o e : Expr} {es : List Expr} {mc : Value} {kws : List Keyword} {np apos pos : Pos} {ta : TE} {t tk : TA} {pl : Sem Bool}
/-- C(k = e, ..), by keywords alone -/
theorem pe_makeK0 {gs : List Value → List Value → List Value} {gV : List V → List V → List V} (M : Mk X.K C f) (F : FnOk X.prog X.w X.K X.mg X.base CX k f fd ps sp) (hr : Room (k + 1) X.A) (hg : Gl X x) (hm : X.mg x = some (.ref C)) (hb : KBn X.K fd ps 1 ks gs gV) (hx : Passes CX X E) (hkw : PK X kws tk)
    (hall : (backToKw pos (keywordEach kws X.env)).all (·.1.isSome) = true := by rfl) (hks : (backToKw pos (keywordEach kws X.env)).filterMap (·.1) = ks := by rfl)
    (hdb : (x == ("__debug__" : Str)) = false := by decide)
    (hpl : ((backTo pos (starEach [] X.env)).any (·.1) || (backToKw pos (keywordEach kws X.env)).any (·.1.isNone)) = false := by rfl) :
    PE X (.Call (.Name x np) [] kws pos) (tMakeN C 0 ks.length sp gV E tNil tk) := by
  refine ⟨fun pins s σ H Q I h => ?_⟩
  refine wpAny_Call_Name_kw (ld_glob I hg hm ?_ hdb)
  refine PySem.W.callWith_KW0 (first := []) (h₀ := X.base) I.ok.mod.kin M.kp hall (thn (hkw.run pos pins s σ H _ I h) fun ws s2 ⟨zs, H2, I2, rz, l1, l2, q2⟩ => ⟨I2.kIn, ?_⟩) hpl
  rw [hks]
  exact run_makeN M F hr hb hx I2 .nil rz l1 l2 q2
/-- cls(e, ..): the slot i holds the class -/
def tMakeL (i : Nat) (C : Addr) (sp : Sp) (dvs : List V) (E : XK) (t : TA) : TE := fun σ H Q => σ[i]? = some (some (.ref C)) ∧ tMake C sp dvs E t σ H Q
theorem pe_makeL (M : Mk X.K C f) (F : FnOk X.prog X.w X.K X.mg X.base CX k f fd ps sp) (hr : Room (k + 1) X.A) (hN : X.N[i]? = some x) (hv : Vis X.env.scope x) (hb : Binds X.K fd ps ds) (hd : Vals dvs ds) (hx : Passes CX X E) (ha : PA X (e :: es) t)
    (hdb : (x == ("__debug__" : Str)) = false := by decide) (hcd : (x == ("__classdict__" : Str)) = false := by decide)
    (he : starEach (e :: es) X.env = (false, eval e X.env) :: starEach es X.env := by rfl) (hpl : (backTo pos (starEach es X.env)).any (·.1) = false := by rfl) : PE X (.Call (.Name x np) (e :: es) [] pos) (tMakeL i C sp dvs E t) := by
  refine ⟨fun pins s σ H Q I h => ?_⟩
  obtain ⟨hs, ht⟩ := h
  refine wpAny_Call_Name_kw (thn ((pe_var (pos := np) hN hv hdb hcd).run pins s σ H (fun v H1 => v = .ref C ∧ H1 = H) I ⟨.ref C, hs, rfl, rfl⟩) fun u s1 ⟨v, H1, I1, r1, q1⟩ => ?_)
  obtain ⟨rfl, rfl⟩ := q1
  cases r1
  refine PySem.W.callWith_K (h₀ := X.base) I.ok.mod.kin M.kp (thn (ha.run pos pins s1 σ _ _ I1 ht) fun us s2 ⟨vs, H2, I2, r, q⟩ => ⟨I2.kIn, ?_⟩) he hpl
  exact run_make M F hr hb hd hx I2 r q
/-- C.m(k = e, ..), m a classmethod, by keywords alone -/
theorem pe_cmethK {gs : List Value → List Value → List Value} {gV : List V → List V → List V} (he : PE X o ta) (r : ClX.CRead X.K C mc) (c : ClX.CMet X.K C mc m p g) (F : FnOk X.prog X.w X.K X.mg X.base CX k g fd ps sp) (hr : Room k X.A) (hb : KBinds X.K fd ps ks gs gV) (hx : Passes CX X E) (hkw : PK X kws tk)
    (hall : (backToKw pos (keywordEach kws X.env)).all (·.1.isSome) = true := by rfl) (hks : (backToKw pos (keywordEach kws X.env)).filterMap (·.1) = ks := by rfl)
    (hpl : ((backTo pos (starEach [] X.env)).any (·.1) || (backToKw pos (keywordEach kws X.env)).any (·.1.isNone)) = false := by rfl)
    (ht : eval (.Call (.Attribute o m apos) [] kws pos) X.env = (do
      let ov ← eval o X.env
      standAt apos.atName
      let (f, first) ← holding [ov] (getMethod ov m pl)
      callWith pos f first (backTo pos (starEach [] X.env)) (backToKw pos (keywordEach kws X.env))) := by rfl) :
    PE X (.Call (.Attribute o m apos) [] kws pos) (tSMethK C sp E (gV [.ref C]) ta tk) := by
  refine ⟨fun pins s σ H Q I h => ?_⟩
  refine PySem.W.methodCall_KW (pl := pl) (thn (he.run pins s σ H _ I h) fun u s1 ⟨x, H1, I1, rx, ex, q⟩ => ?_) ht
  subst ex
  obtain rfl : u = Value.ref C := rx
  refine ClX.getmethcm_ok I1 r c fun s2 I2 => ?_
  refine PySem.W.callWith_of (P := PySem.W.MethP X.K s1.heap.objs.size g (.ref C)) hpl (PySem.W.keeps_M c.fi) (PyProof.Rows.evalArgs_kw2_nil hall (thn (hkw.run pos _ s2 σ H1 _ I2 q) fun ws s3 ⟨zs, H2, I3, rz, q2⟩ => ⟨⟨ClX.pin_at I3, I3.kIn⟩, ?_⟩))
  rw [hks]
  have r2 := hb.rel (vs := [.ref C]) (us := [.ref C]) (.cons rfl .nil) rz
  have hl : (gs [.ref C] ws).length = ps.length := by rw [← r2.length]; exact F.len _ _ _ _ q2
  have z : wpAny (model X.prog X.w) X.A (call (.ref s1.heap.objs.size) [] (ks.zip ws)) (EP X ((s1.heap.objs.size, PySem.W.methodObj (.ref g) (.ref C)) :: pins) σ Q) X.xe s3 := by
    refine wpAny_call (PySem.W.method_call (ClX.pin_at I3) (codeAny_mono (F.run X.A X.stack s3 H2 ⟨[.ref C], ks.zip ws⟩ (gs [.ref C] ws) (gV [.ref C] zs) Q E hr I3.env0 (hb.to s3 [.ref C] ws I3.kIn hl) r2 q2) fun r s' hq => ?_))
    cases r with
    | error e => exact hx _ σ H2 s3 e s' I3 hq
    | ok fl =>
      cases fl with
      | ret u => exact I3.after hq
      | next => exact False.elim hq
      | brk => exact False.elim hq
      | cont => exact False.elim hq
  exact thn z fun _ _ y => ClX.unpinE y
end
end TzOwn
namespace TzTry
open PySem PySem.Spec PyProof.Rows L2
/-! several clauses, each with its name; nothing passes by all of them -/
/-- so many slots there are -/
def atN (X : Cx) (W : WX) : WX := fun k d z J => z.length = X.N.length → W k d z J
/-- behind a clause its name is unbound -/
def gone (i : Nat) (D : Ends) : Ends := ⟨fun z J => D.nx (z.set i none) J, D.rt, fun z J => D.bk (z.set i none) J, fun z J => D.ct (z.set i none) J⟩
abbrev Clause := Value × Nat × (Addr → Value → Option Addr → TS)
def wAll (K : PySem.W.Frag) (D : Ends) : List Clause → WX
  | [] => fun _ _ _ _ => False
  | (c, i, ts) :: l => fun k d z J => ∃ b, PySem.W.exmOne K k c = some b ∧ (b = true → ∀ a, J a = none → ts a k d (gone i D) (z.set i (some (.ref a))) J) ∧ (b = false → wAll K D l k d z J)
inductive Clauses (X : Cx) : List ExceptHandler → List Clause → Prop
  | nil : Clauses X [] []
  | cons {x n : Str} {i : Nat} {c : Value} {ts : Addr → Value → Option Addr → TS} {st : Stmt} {sts : List Stmt} {p1 p2 : Pos} {es : List ExceptHandler} {l : List Clause} (known : Names X x c) (slot : X.N[i]? = some n) (loc : X.env.kindOf n = some .local)
      (suite : ∀ (a : Addr) (o : Obj) (k : Value) (d : Option Addr) (ps : List (Addr × Obj)), Zc k d o → (∃ us, o.data = .fields us) → PSs (X.suite a ((a, o) :: ps)) (st :: sts) (ts a k d)) (more : Clauses X es l) :
      Clauses X (.ExceptHandler (some (.Name x p1)) (some n) (st :: sts) p2 :: es) ((c, i, ts) :: l)
section
variable {X : Cx} {body : List Stmt} {e1 : ExceptHandler} {es : List ExceptHandler} {l : List Clause} {pos : Pos} {tb : WX → TS}
theorem ps_try_all (top : X.stack = X.env :: X.outer) (fr : X.env.frame = some X.env.locals) (nd : X.N.Nodup)
    (tries : ∀ (W : WX) (ps : List (Addr × Obj)) (out : Value → Shared → Prop), Takes (X.tr ps out) W → PassesOwn (model X.prog X.w) X.A X.env out → PSs (X.tr ps out) body (tb W))
    (cl : Clauses X (e1 :: es) l) : PS X (.Try body (e1 :: es) [] [] pos) (fun D z J => tb (atN X (wAll X.K D l)) D z J) := by
  refine ⟨fun pins s z J D I0 want => ?_⟩
  have fine := I0.ok
  have frames : X.A.frames = some (X.env :: X.outer) := by rw [fine.frames, top]
  refine wpAny_Try_except ?_
  have inner := (tries (atN X (wAll X.K D l)) (X.pn ++ pins) (fun u s1 => wpAny (model X.prog X.w) X.A (noteFrame u X.env) (fun _ s2 => wpAny (model X.prog X.w) X.A (setFlight u none) (fun _ s3 => wpAny (model X.prog X.w) X.A (handleBy u X.env (e1 :: es)) (SP X pins D) X.xe s3) X.xe s2) X.xe s1) (fun u s2 caught => ?_) PassesOwn.looking).run [] s z J D (I0.toTry _) want
  · refine wpAny_mono inner (fun fl s1 ends => ?_) fun u s1 q => q
    cases fl with
    | next =>
      obtain ⟨z1, J1, I1, q⟩ := ends
      exact wpAny_execs_nil ⟨z1, J1, I1.ofTry fine, q⟩
    | brk =>
      obtain ⟨z1, J1, I1, q⟩ := ends
      exact ⟨z1, J1, I1.ofTry fine, q⟩
    | cont =>
      obtain ⟨z1, J1, I1, q⟩ := ends
      exact ⟨z1, J1, I1.ofTry fine, q⟩
    | ret v =>
      obtain ⟨y, z1, J1, I1, r, q⟩ := ends
      exact ⟨y, z1, J1, I1.ofTry fine, r, q⟩
  · obtain ⟨a, B, sb, pins1, z1, J1, k, d, rfl, Ib, nb, upto, sky, na, os, bare, w⟩ := caught
    have I1 : L2.Inv X pins z1 J1 sb := Ib.ofTry fine
    rw [top] at sky
    show wpAny (model X.prog X.w) X.A (noteFrame (.ref a) X.env) _ _ _
    refine Sky.land Zc.steady frames fr sky fun h3 fl3 up3 => ?_
    have I3 : L2.Inv X pins z1 J1 { s2 with heap := h3 } := I1.landed nb fl3.1 (upto.trans up3) os bare
    obtain ⟨o3, us3, at3, zc3, dt3⟩ := fl3.there
    have apart : a ∉ frs (X.env :: X.outer) := fun hm => by
      obtain ⟨_, o', e', nf⟩ := fl3.2.2.1.mem hm
      rw [at3] at e'
      cases e'
      exact nf _ dt3
    have aL : a ≠ X.env.locals := fun q => apart (List.mem_filterMap.mpr ⟨X.env, List.mem_cons_self, by rw [fr, q]⟩)
    have aF : a ∉ X.fs := fun hm => by
      obtain ⟨e, he, q⟩ := List.mem_filterMap.mp hm
      exact apart (List.mem_filterMap.mpr ⟨e, List.mem_cons_of_mem _ he, q⟩)
    have S3 := I3.suite at3 dt3 na aL aF
    have each : ∀ {hs : List ExceptHandler} {m : List Clause}, Clauses X hs m → wAll X.K D m k d z1 J1 → wpAny (model X.prog X.w) X.A (handleBy (.ref a) X.env hs) (SP X pins D) X.xe { s2 with heap := h3 } := by
      intro hs m some_
      induction some_ with
      | nil => exact fun w => w.elim
      | @cons x n i c ts st sts p1 p2 hs2 m2 known slot loc suite more ih =>
        intro w
        obtain ⟨b, is, yes, no⟩ := w
        refine wpAny_handleBy_cons (codeAny_handlers_test ?_) (by intro q; cases q)
        have T1 : PySem.W.Looks (model X.prog X.w) h3 (typeOf (.ref a)) k := fun A Q E s4 keeps q => wpAny_typeOf_ref (keeps _ _ at3) (by rw [zc3.1]; exact q)
        have T2 := PySem.W.exm_one (M := model X.prog X.w) I3.kIn T1 is
        have named : ∀ {Q : Value → Shared → Prop} {E : Value → Shared → Prop}, Q c { s2 with heap := h3 } → wpAny (model X.prog X.w) (X.A.mark (some (.ref a))) (eval (.Name x p1) X.env) Q E { s2 with heap := h3 } := fun {Q E} q => by
          obtain ⟨g, dbg, hm | ⟨hm, hv, hn⟩⟩ := known
          · exact ld_glob (X := X.suite a ((a, o3) :: (X.pn ++ pins))) S3 g hm q dbg
          · exact ld_blt (X := X.suite a ((a, o3) :: (X.pn ++ pins))) S3 g hm hv q hn dbg
        refine named (T2.here ?_)
        cases b with
        | false =>
          show wpAny _ X.A (handleBy (.ref a) X.env hs2) _ _ _
          exact ih (no rfl)
        | true =>
          refine codeAny_handlers_suite_as ?_
          refine HandSPX.lands_againZ fl3 fun h4 fl4 up4 => ?_
          have I4 : L2.Inv X pins z1 J1 { s2 with heap := h4 } := I1.landed nb fl4.1 ((upto.trans up3).trans up4) os bare
          obtain ⟨o4, us4, at4, zc4, dt4⟩ := fl4.there
          have S4 := I4.suite at4 dt4 na aL aF
          refine store_ok (X := X.suite a ((a, o4) :: (X.pn ++ pins))) (v := .ref a) S4 nd slot (.inl loc) rfl (fun s5 S5 => ?_) (.inr loc)
          refine wpAny_mono ((suite a o4 k d (X.pn ++ pins) zc4 ⟨_, dt4⟩).run [] s5 _ J1 _ S5 (yes rfl a na)) (fun fl s6 ends => ?_) fun _ _ q => False.elim q
          have unbind : ∀ {z6 : L2.St} {J6 : Hp} {R : Shared → Prop}, L2.Inv (X.suite a ((a, o4) :: (X.pn ++ pins))) [] z6 J6 s6 → (∀ s7, L2.Inv X pins (z6.set i none) J6 s7 → R s7) →
              wpAny (model X.prog X.w) X.A (do bindName X.env n .none; unbindBehindTheSuite X.env n p2) (fun _ s7 => R s7) X.xe s6 := fun {z6 J6 R} S6 q => gone_ok (S6.unsuite fine) nd slot loc q
          cases fl with
          | next =>
            obtain ⟨z6, J6, S6, q⟩ := ends
            exact unbind S6 fun s7 I7 => ⟨_, _, I7, q⟩
          | brk =>
            obtain ⟨z6, J6, S6, q⟩ := ends
            exact unbind S6 fun s7 I7 => ⟨_, _, I7, q⟩
          | cont =>
            obtain ⟨z6, J6, S6, q⟩ := ends
            exact unbind S6 fun s7 I7 => ⟨_, _, I7, q⟩
          | ret v =>
            obtain ⟨y, z6, J6, S6, r, q⟩ := ends
            exact unbind S6 fun s7 I7 => ⟨_, _, _, I7, r, q⟩
    exact each cl (w I1.len)
end
end TzTry
namespace TzF
open PySem PySem.Spec PyProof.Rows L2
/-! what a Bool tells of the written part -/
theorem two {a b : Bool} (h : (a && b) = true) : a = true ∧ b = true := Bool.and_eq_true_iff.mp h
def seven : List String := ["NoneType", "bool", "int", "str", "list", "tuple", "dict"]
/-- an own class, no sub-class of a built-in type, nor the other way round -/
structure Alone (K : PySem.W.Frag) (C : Addr) : Prop where
  ic : PySem.W.isClsIn K C = true
  ty : PySem.W.typeIn K (.ref C) = some (.type "type")
  to : ∀ T ∈ seven, PySem.W.subIn K (.type T) (.ref C) = some false
  of_ : ∀ T ∈ seven, PySem.W.subIn K (.ref C) (.type T) = some false
  ha : PySem.W.findIn K (.ref C) "__class__" = some (some (.builtin "object.__class__"))
  hn : PySem.W.specialIn K (.builtin "object.__class__") "__get__" = some (some (.builtin "getset_descriptor.__get__"))
  ht : PySem.W.takesIn K (.builtin "object.__class__") = some true
  hm : PySem.W.mroIn K C (.type "object") = some true
  sf : PySem.W.selfFirst K C = true
def eqV (a b : Option (Option Value)) : Bool := decide (a = b)
def aloneB (K : PySem.W.Frag) (C : Addr) : Bool := PySem.W.isClsIn K C && (decide (PySem.W.typeIn K (.ref C) = some (.type "type")) && seven.all fun T => decide (PySem.W.subIn K (.type T) (.ref C) = some false) && decide (PySem.W.subIn K (.ref C) (.type T) = some false)) && (eqV (PySem.W.findIn K (.ref C) "__class__") (some (some (.builtin "object.__class__"))) && (eqV (PySem.W.specialIn K (.builtin "object.__class__") "__get__") (some (some (.builtin "getset_descriptor.__get__"))) &&
  (decide (PySem.W.takesIn K (.builtin "object.__class__") = some true) && (decide (PySem.W.mroIn K C (.type "object") = some true) && PySem.W.selfFirst K C))))
theorem alone_ok {K : PySem.W.Frag} {C : Addr} (h : aloneB K C = true) : Alone K C := by
  obtain ⟨h, g⟩ := two h
  obtain ⟨h1, h⟩ := two h
  obtain ⟨h2, h3⟩ := two h
  obtain ⟨g1, g⟩ := two g
  obtain ⟨g2, g⟩ := two g
  obtain ⟨g3, g⟩ := two g
  obtain ⟨g4, g5⟩ := two g
  exact ⟨h1, of_decide_eq_true h2, fun T hT => of_decide_eq_true (two (List.all_eq_true.mp h3 T hT)).1, fun T hT => of_decide_eq_true (two (List.all_eq_true.mp h3 T hT)).2, of_decide_eq_true g1, of_decide_eq_true g2, of_decide_eq_true g3, of_decide_eq_true g4, g5⟩
/-- an error class of the program -/
def errO (C : Addr) : Obj → Bool
  | ⟨.type t, _, .cls cd, sl⟩ => decide (t = "type") && (cd.hasDict && (!cd.hasDel && ((match cd.mro with
    | .ref D :: bm => decide (D = C) && PySem.HandSPX.refsVE bm
    | _ => false) && (match sl.toList with
    | [_, _, _, _, some (.builtin n), _] => decide (n = "ValueError.__new__")
    | _ => false))))
  | _ => false
theorem errO_ok {C : Addr} {o : Obj} (h : errO C o = true) : ∃ nm q N bs bm sn sub ab col dd k0 k1 k2 k3 k5, o = excClassObj nm q C N bs bm true sn sub ab col dd k0 k1 k2 k3 k5 "ValueError.__new__" ∧ PySem.HandSPX.refsVE bm = true := by
  obtain ⟨oc, od, dt, sl⟩ := o
  cases oc with
  | type t =>
    cases dt with
    | cls cd =>
      obtain ⟨nm, bs, mro, ns, qn, hd, sn, sub, ab, col, dl⟩ := cd
      obtain ⟨h1, h⟩ := two h
      obtain ⟨h2, h⟩ := two h
      obtain ⟨h3, h⟩ := two h
      obtain ⟨h4, h5⟩ := two h
      have e1 : t = "type" := of_decide_eq_true h1
      have e2 : hd = true := h2
      have e3 : dl = false := by
        have z : (!dl) = true := h3
        cases dl with
        | false => rfl
        | true => cases z
      subst e1 e2 e3
      cases mro with
      | nil => cases h4
      | cons m bm =>
        cases m with
        | ref D =>
          obtain ⟨h6, h7⟩ := two (show (decide (D = C) && PySem.HandSPX.refsVE bm) = true from h4)
          have e4 : D = C := of_decide_eq_true h6
          subst e4
          obtain ⟨l⟩ := sl
          clear h h1 h2 h3 h4 h6
          simp only at h5
          split at h5
          · rename_i k0 k1 k2 k3 n k5 _ _
            have e5 : n = "ValueError.__new__" := of_decide_eq_true h5
            subst e5
            exact ⟨nm, qn, ns, bs, bm, sn, sub, ab, col, od, k0, k1, k2, k3, k5, rfl, h7⟩
          · cases h5
        | _ => cases h4
    | _ => cases h
  | _ => cases dt <;> cases h
/-- what is wanted of an error class: it can be made and raised, its fields can be read -/
structure Err (K : PySem.W.Frag) (C : Addr) : Prop where
  made : OexC K C
  read : XfC K C
def errB (K : PySem.W.Frag) (C : Addr) : Bool := (match K.lookup C with
  | some o => errO C o
  | none => false) && (xfB K C && (eqV (PySem.W.findIn K (.ref C) "__setattr__") (some (some (.builtin "object.__setattr__"))) && (decide (PySem.W.typeIn K (.ref C) = some (.type "type")) && PySem.W.keepIn K (.ref C))))
theorem err_ok {K : PySem.W.Frag} {C : Addr} (h : errB K C = true) : Err K C := by
  obtain ⟨h1, h⟩ := two h
  obtain ⟨h2, h⟩ := two h
  obtain ⟨h3, h⟩ := two h
  obtain ⟨h4, h5⟩ := two h
  have X := xfB_ok h2
  cases q : K.lookup C with
  | none =>
    rw [q] at h1
    cases h1
  | some o =>
    rw [q] at h1
    obtain ⟨nm, qn, N, bs, bm, sn, sub, ab, col, dd, k0, k1, k2, k3, k5, e, hb⟩ := errO_ok h1
    exact ⟨⟨⟨nm, qn, N, bs, bm, sn, sub, ab, col, dd, k0, k1, k2, k3, k5, by rw [q, e], hb⟩, of_decide_eq_true h3, X.exC, of_decide_eq_true h4, h5⟩, X⟩
/-- operators: the seven types' own and reflected methods are known, whatever they are -/
def knownB (K : PySem.W.Frag) (nm : Str) : Bool := seven.all fun T => (PySem.W.findIn K (.type T) nm).isSome
theorem known_ok {K : PySem.W.Frag} {nm : Str} (h : knownB K nm = true) {T : String} (hT : T ∈ seven) : ∃ fo, PySem.W.findIn K (.type T) nm = some fo := Option.isSome_iff_exists.mp (List.all_eq_true.mp h T hT)
/-! ### things of all sorts -/
inductive Tag where
  | non | bl | int | str | lst | tup | dic | own
  deriving DecidableEq
def Tag.nm : Tag → String
  | .non => "NoneType" | .bl => "bool" | .int => "int" | .str => "str" | .lst => "list" | .tup => "tuple" | .dic => "dict" | .own => ""
def Tag.ty (C : Addr) : Tag → Value
  | .own => .ref C
  | g => .type g.nm
/-- isinstance(x, T) by the tag -/
def Tag.is (T : String) : Tag → Bool
  | .own => false
  | .bl => decide (T = "bool") || decide (T = "int")
  | g => decide (g.nm = T)
theorem Tag.mem {g : Tag} (h : g ≠ .own) : g.nm ∈ seven := by
  cases g <;> first | exact absurd rfl h | decide
theorem kitB_tag {g : Tag} (h : g ≠ .own) {T : String} (hT : T ∈ seven) : kitB g.nm T = some (g.is T) := by
  have key : ∀ g : Tag, g ≠ .own → ∀ T ∈ seven, kitB g.nm T = some (g.is T) := by
    intro g h
    cases g with
    | own => exact absurd rfl h
    | _ => decide +kernel
  exact key g h T hT
theorem kit_cls {K : PySem.W.Frag} {C : Addr} (A : Alone K C) {T : String} (hT : T ∈ seven) : PySem.W.kitOne K (.type T) (.ref C) = some false := by
  have ne : ¬ (Value.type T == Value.ref C) = true := fun q => by cases beq_iff_eq.mp q
  unfold PySem.W.kitOne
  rw [if_neg ne]
  unfold PySem.W.kitCls
  have hs : (PySem.W.clsIn K C).isSome = true := A.ic
  dsimp only
  rw [A.ty, hs, A.to T hT]
  rfl
theorem kit_own {K : PySem.W.Frag} {C : Addr} (A : Alone K C) {T : String} (hT : T ∈ seven) : PySem.W.kitOne K (.ref C) (.type T) = some false := by
  have ne : ¬ (Value.ref C == Value.type T) = true := fun q => by cases beq_iff_eq.mp q
  have hm : PySem.W.kitMeta T = true := by
    have key : ∀ T ∈ seven, PySem.W.kitMeta T = true := by decide +kernel
    exact key T hT
  unfold PySem.W.kitOne
  rw [if_neg ne]
  show (if PySem.W.kitMeta T = true then PySem.W.subIn K (.ref C) (.type T) else none) = some false
  rw [if_pos hm]
  exact A.of_ T hT
theorem Tag.kit {K : PySem.W.Frag} {C : Addr} (A : Alone K C) (g : Tag) {T : String} (hT : T ∈ seven) : PySem.W.kitOne K (g.ty C) (.type T) = some (g.is T) := by
  by_cases h : g = .own
  · subst h
    exact kit_own A hT
  · have e : g.ty C = .type g.nm := by cases g <;> first | rfl | exact absurd rfl h
    rw [e]
    exact kit_ty (kitB_tag h hT)
theorem Tag.kitC {K : PySem.W.Frag} {C : Addr} (A : Alone K C) (g : Tag) : PySem.W.kitOne K (g.ty C) (.ref C) = some (decide (g = .own)) := by
  by_cases h : g = .own
  · subst h
    show PySem.W.kitOne K (.ref C) (.ref C) = _
    unfold PySem.W.kitOne
    rw [if_pos (beq_self_eq_true _)]
    rfl
  · have e : g.ty C = .type g.nm := by cases g <;> first | rfl | exact absurd rfl h
    rw [e, decide_eq_false h]
    exact kit_cls A (Tag.mem h)
/-- a number as a class value -/
def cvalB (K : PySem.W.Frag) (C : Addr) (x : Str) (n : Int) : Bool := match PySem.W.findCls K (.ref C) (.type "type") x with
  | some (.val (.int m _)) => decide (m = n)
  | _ => false
theorem cval_ok {K : PySem.W.Frag} {C : Addr} {x : Str} {n : Int} (h : cvalB K C x n = true) : ∃ t : Tok, ClX.CVal K C (.type "type") x (.int n) (.int n t) := by
  unfold cvalB at h
  split at h
  · rename_i m t e
    have e2 : m = n := of_decide_eq_true h
    subst e2
    exact ⟨t, e, ⟨_, rfl⟩⟩
  · cases h
theorem fun_of_D {K : PySem.W.Frag} {x qual : Str} {st : Stmt} {f : Addr} {fd : FuncData} (F : FunD K x qual (defArgs st) (defBody st) (defScope st) [] [] f fd) : Fun K x qual st f fd := by
  obtain ⟨oc, od, dV, kV, doc, pm, an, cdv, ct, osl, e, lk, code, df, _⟩ := F.ex
  rcases df with ⟨_, rfl⟩ | ⟨n, _⟩
  · exact ⟨⟨oc, od, kV, doc, pm, an, cdv, ct, osl, e, lk, code⟩, F.kp⟩
  · exact absurd rfl n
/-! ### static and class methods: their records, their defs -/
def recA (K : PySem.W.Frag) (p : Str × Str) : Addr := match PySem.W.findIn K (.ref (He.ga K p.1)) p.2 with
  | some (some (.ref a)) => a
  | _ => 0
def defA (K : PySem.W.Frag) (knd : String) (p : Str × Str) : Addr := match PySem.W.recIn K (recA K p) knd with
  | some (.ref g :: _) => g
  | _ => 0
def recB (K : PySem.W.Frag) (knd : String) (p : Str × Str) : Bool := (match PySem.W.findCls K (.ref (He.ga K p.1)) (.type "type") p.2 with
  | some (.get (.builtin b) (.ref r) .none (.ref C)) => decide (b = knd ++ ".__get__") && (decide (r = recA K p) && decide (C = He.ga K p.1))
  | _ => false) && ((match PySem.W.recIn K (recA K p) knd with
  | some (.ref _ :: _) => true
  | _ => false) && PySem.W.fnIn K (defA K knd p))
theorem recB_ok {K : PySem.W.Frag} {knd : String} {p : Str × Str} (h : recB K knd p = true) : PySem.W.findCls K (.ref (He.ga K p.1)) (.type "type") p.2 = some (.get (.builtin (knd ++ ".__get__")) (.ref (recA K p)) .none (.ref (He.ga K p.1))) ∧
    (∃ rest, PySem.W.recIn K (recA K p) knd = some (.ref (defA K knd p) :: rest)) ∧ PySem.W.fnIn K (defA K knd p) = true := by
  obtain ⟨h1, h⟩ := two h
  obtain ⟨h2, h3⟩ := two h
  refine ⟨?_, ?_, h3⟩
  · split at h1
    · rename_i b r C e
      obtain ⟨g1, g⟩ := two h1
      obtain ⟨g2, g3⟩ := two g
      rw [e, of_decide_eq_true g1, of_decide_eq_true g2, of_decide_eq_true g3]
    · cases h1
  · split at h2
    · rename_i g rest e
      refine ⟨rest, ?_⟩
      have eg : defA K knd p = g := by
        unfold defA
        rw [e]
      rw [eg, e]
    · cases h2
open He in
def valA (K : PySem.W.Frag) (a : Addr) : FnW := match K.lookup a with
  | some ⟨_, _, .func fd, _⟩ => some (fd.name, fd.qualname, fd.params, fd.body, fd.scope, fd.globals, fd.closure, fd.builtins)
  | _ => none
def noneB : Value → Bool
  | .none => true
  | _ => false
def okA (K : PySem.W.Frag) (a : Addr) (q : Str) : Bool := PySem.W.keepIn K (.ref a) && (match K.lookup a with
  | some ⟨_, _, .func fd, _⟩ => PySem.W.codeIn K fd.code q && noneB fd.defaults
  | _ => false)
open He in
theorem fun_at {K : PySem.W.Frag} {a : Addr} {x q : Str} {st : Stmt} (e : valA K a = some (x, q, defArgs st, .stmts (defBody st), defScope st, mainGlobals, [], builtinsNs)) (c : okA K a q = true) : ∃ fd, Fun K x q st a fd := by
  obtain ⟨kp, c2⟩ := two c
  unfold valA at e
  cases z : K.lookup a with
  | none =>
    rw [z] at c2
    cases c2
  | some o =>
    obtain ⟨oc, od, dt, osl⟩ := o
    rw [z] at c2 e
    cases dt with
    | func fd =>
      obtain ⟨n1, n2, n3, n4, n5, n6, n7, n8, n9, n10, n11, n12, n13, n14, n15⟩ := fd
      have e2 : (some (n1, n2, n3, n4, n5, n6, n7, n15) : FnW) = some (x, q, defArgs st, .stmts (defBody st), defScope st, mainGlobals, [], builtinsNs) := e
      simp only [Option.some.injEq, Prod.mk.injEq] at e2
      obtain ⟨h1, h2, h3, h4, h5, h6, h7, h8⟩ := e2
      subst h1 h2 h3 h4 h5 h6 h7 h8
      obtain ⟨k1, k2⟩ := two (show (PySem.W.codeIn K n13 n2 && noneB n8) = true from c2)
      cases n8 with
      | none => exact ⟨_, ⟨⟨oc, od, n9, n10, n11, n12, n13, n14, osl, rfl, z, k1⟩, kp⟩⟩
      | _ => cases k2
    | _ => cases c2
/-- one static or class method: its kind, its class and name, its qualified name, where its text stands -/
structure SM where
  knd : String
  at_ : Str × Str
  qual : Str
  st : Stmt
def SM.a (K : PySem.W.Frag) (d : SM) : Addr := defA K d.knd d.at_
open He in
def SM.val (d : SM) : FnW := some (d.at_.2, d.qual, defArgs d.st, .stmts (defBody d.st), defScope d.st, mainGlobals, [], builtinsNs)
def SM.ok (K : PySem.W.Frag) (d : SM) : Bool := recB K d.knd d.at_ && okA K (d.a K) d.qual
/-! ### the head, the statics of the machine beside -/
open He in
structure SaysY (fa : List Fa) (fn : List DefD) (sm : List SM) (tf : List Defn) (ex : PySem.W.Frag → Bool) (h : Heap) (K : PySem.W.Frag) : Prop where
  d : SaysD fa fn K
  v : sm.map (fun d => valA K (d.a K)) = sm.map SM.val
  k : ∀ d ∈ sm, d.ok K = true
  more : ex K = true
  hd : ∀ p ∈ tf, PySem.W.codeHdIn K (cT K p).1 (cT K p).2 = true
  out : ∀ p ∈ tf, K.lookup (cT K p).2 = none
  empty : ∀ p ∈ tf, h.get? (cT K p).2 = some { cls := .none, data := .fields #[] }
open He in
theorem SaysY.sm {fa : List Fa} {fn : List DefD} {sm : List SM} {tf : List Defn} {ex : PySem.W.Frag → Bool} {h : Heap} {K : PySem.W.Frag} (c : SaysY fa fn sm tf ex h K) (i : Nat) {d : SM} (e : sm[i]? = some d := by rfl) :
    (∃ fd, Fun K d.at_.2 d.qual d.st (d.a K) fd) ∧ recB K d.knd d.at_ = true := by
  obtain ⟨h1, h2⟩ := two (c.k d (List.mem_of_getElem? e))
  have e2 : (sm.map fun d => valA K (d.a K))[i]? = (sm.map SM.val)[i]? := by rw [c.v]
  rw [List.getElem?_map, List.getElem?_map, e] at e2
  exact ⟨fun_at (Option.some.inj e2) h2, h1⟩
open He in
def frY (n : Nat) (g : Addr → Option Obj) : PySem.W.Frag := frT g (PySem.cStatics :: asD g n)
open He in
abbrev AlY : Type := (AlD × List FnW) × Bool
open He in
def obsK (fa : List Fa) (fn : List DefD) (sm : List SM) (tf : List Defn) (ex : PySem.W.Frag → Bool) (g : Addr → Option Obj) (K : PySem.W.Frag) : AlY := ((obsD fa fn K, sm.map fun d => valA K (d.a K)), (sm.all fun d => d.ok K) && (ex K && tabsB g tf K))
open He in
def obsY (n : Nat) (fa : List Fa) (fn : List DefD) (sm : List SM) (tf : List Defn) (ex : PySem.W.Frag → Bool) (g : Addr → Option Obj) : AlY := obsK fa fn sm tf ex g (frY n g)
open He in
def valY (fn : List DefD) (sm : List SM) : AlY := ((valD fn, sm.map SM.val), true)
open He in
theorem saysY_of {n : Nat} {fa : List Fa} {fn : List DefD} {sm : List SM} {tf : List Defn} {ex : PySem.W.Frag → Bool} {h : Heap} (e : obsY n fa fn sm tf ex h.get? = valY fn sm) : SaysY fa fn sm tf ex h (frY n h.get?) := by
  have e1 : obsD fa fn (frY n h.get?) = valD fn := congrArg (fun z : AlY => z.1.1) e
  have e2 : sm.map (fun d => valA (frY n h.get?) (d.a (frY n h.get?))) = sm.map SM.val := congrArg (fun z : AlY => z.1.2) e
  obtain ⟨h0, h12⟩ := two (show ((sm.all fun d => d.ok (frY n h.get?)) && (ex (frY n h.get?) && tabsB h.get? tf (frY n h.get?))) = true from congrArg Prod.snd e)
  obtain ⟨h1, h2⟩ := two h12
  have key : ∀ p ∈ tf, PySem.W.codeHdIn (frY n h.get?) (cT (frY n h.get?) p).1 (cT (frY n h.get?) p).2 = true ∧ ∃ o, h.get? (cT (frY n h.get?) p).2 = some o ∧ emptyTab o = true := fun p hp => by
    obtain ⟨h3, h4⟩ := two (List.all_eq_true.mp h2 p hp)
    cases q : h.get? (cT (frY n h.get?) p).2 with
    | none =>
      rw [q] at h4
      cases h4
    | some o =>
      rw [q] at h4
      exact ⟨h3, o, rfl, h4⟩
  refine ⟨e1, e2, fun d hd => List.all_eq_true.mp h0 d hd, h1, fun p hp => (key p hp).1, fun p hp => ?_, fun p hp => ?_⟩
  · obtain ⟨_, o, q, z⟩ := key p hp
    exact frT_none q z
  · obtain ⟨_, o, q, z⟩ := key p hp
    rw [q, emptyTab_eq z]
open He in
def hookY (n : Nat) (fa : List Fa) (fn : List DefD) (sm : List SM) (tf : List Defn) (ex : PySem.W.Frag → Bool) : PySem.W.Hook where
  α := AlY
  obs := fun s => obsY n fa fn sm tf ex s.heap.get?
  val := fun _ => valY fn sm
  says := fun _ h => ∃ K : PySem.W.Frag, K.In h ∧ SaysY fa fn sm tf ex h K
  of := fun _ _ e => ⟨_, frT_in, saysY_of e⟩
  keeps := fun _ _ _ ⟨K, hK, c⟩ k => ⟨K, PySem.W.Frag.In.keeps hK k, ⟨c.d, c.v, c.k, c.more, c.hd, c.out, fun p hp => k _ _ (c.empty p hp)⟩⟩
open He in
theorem obsY_eq {n : Nat} {fa : List Fa} {fn : List DefD} {sm : List SM} {tf : List Defn} {ex : PySem.W.Frag → Bool} {g : Addr → Option Obj} {s : Shared} (h : ∀ a, g a = s.heap.get? a) : obsY n fa fn sm tf ex g = (hookY n fa fn sm tf ex).obs s := by
  have e : g = s.heap.get? := funext h
  rw [e] <;> rfl
end TzF
namespace Tz
open PySem L2 TzF
def top (i : Nat) : Stmt := PySem.Challenge.pw_twozeros_k10_running_totals_tried.main.body.getD i (.Pass ⟨0, 0, 0, 0⟩)
abbrev s_BadWord_init_ : Stmt := inClass (top 4) 0
abbrev s_BadWidth_init_ : Stmt := inClass (top 3) 0
abbrev s_NotThere_init_ : Stmt := inClass (top 6) 0
abbrev s_is_whole : Stmt := top 9
abbrev s_is_from : Stmt := top 10
abbrev s_most_value : Stmt := top 14
abbrev s_checked_width : Stmt := top 13
abbrev s_Word_init_ : Stmt := inClass (top 12) 1
abbrev s_Word_repr_ : Stmt := inClass (top 12) 7
abbrev s_carried_round : Stmt := top 15
abbrev s_found_value : Stmt := top 23
abbrev s_checked_value : Stmt := top 24
abbrev s_Running_init_ : Stmt := inClass (top 27) 0
abbrev s_Running_keep : Stmt := inClass (top 27) 15
abbrev s_Running_forget : Stmt := inClass (top 27) 16
abbrev s_Running_there : Stmt := inClass (top 27) 14
abbrev s_Running_add : Stmt := inClass (top 27) 2
abbrev s_Running_drop : Stmt := inClass (top 27) 3
abbrev s_Running_exchange : Stmt := inClass (top 27) 4
abbrev s_Running_len_ : Stmt := inClass (top 27) 10
abbrev s_Running_iadd_ : Stmt := inClass (top 27) 12
abbrev s_Running_total : Stmt := inClass (top 27) 1
abbrev s_Running_ascending : Stmt := inClass (top 27) 5
abbrev s_Saved_init_ : Stmt := inClass (top 26) 0
abbrev s_Running_trial : Stmt := inClass (top 27) 6
abbrev s_Running_enter_ : Stmt := inClass (top 27) 8
abbrev s_Running_exit_ : Stmt := inClass (top 27) 9
abbrev s_Running_tried : Stmt := inClass (top 27) 7
abbrev s_law_pen : Stmt := top 29
abbrev s_law_draw : Stmt := top 30
abbrev s_law_width : Stmt := top 31
abbrev s_law_value : Stmt := top 32
abbrev s_law_told : Stmt := top 33
abbrev s_law_due : Stmt := top 34
abbrev s_law_broken : Stmt := top 36
abbrev s_law_lost : Stmt := top 38
abbrev s_law_fallen : Stmt := top 37
abbrev s_law_undone : Stmt := top 39
abbrev s_law_around : Stmt := top 40
abbrev s_law_deep : Stmt := top 35
abbrev s_law : Stmt := top 41
end Tz
namespace TzH
open PySem PySem.Spec PyProof.Rows L2 TzF Tz
def fn : List He.DefD := [⟨("BadWord", some "__init__"), "__init__", "BadWord.__init__", defArgs s_BadWord_init_, defBody s_BadWord_init_, defScope s_BadWord_init_, [], []⟩, ⟨("BadWidth", some "__init__"), "__init__", "BadWidth.__init__", defArgs s_BadWidth_init_, defBody s_BadWidth_init_, defScope s_BadWidth_init_, [], []⟩, ⟨("NotThere", some "__init__"), "__init__", "NotThere.__init__", defArgs s_NotThere_init_, defBody s_NotThere_init_, defScope s_NotThere_init_, [], []⟩, ⟨("is_whole", none), "is_whole", "is_whole", defArgs s_is_whole, defBody s_is_whole, defScope s_is_whole, [], []⟩, ⟨("is_from", none), "is_from", "is_from", defArgs s_is_from, defBody s_is_from, defScope s_is_from, [], []⟩, ⟨("most_value", none), "most_value", "most_value", defArgs s_most_value, defBody s_most_value, defScope s_most_value, [], []⟩, ⟨("checked_width", none), "checked_width", "checked_width", defArgs s_checked_width, defBody s_checked_width, defScope s_checked_width, [], []⟩, ⟨("Word", some "__init__"), "__init__", "Word.__init__", defArgs s_Word_init_, defBody s_Word_init_, defScope s_Word_init_, [], []⟩, ⟨("Word", some "__repr__"), "__repr__", "Word.__repr__", defArgs s_Word_repr_, defBody s_Word_repr_, defScope s_Word_repr_, [], []⟩, ⟨("carried_round", none), "carried_round", "carried_round", defArgs s_carried_round, defBody s_carried_round, defScope s_carried_round, [], []⟩, ⟨("found_value", none), "found_value", "found_value", defArgs s_found_value, defBody s_found_value, defScope s_found_value, [], []⟩, ⟨("checked_value", none), "checked_value", "checked_value", defArgs s_checked_value, defBody s_checked_value, defScope s_checked_value, [], []⟩, ⟨("Running", some "__init__"), "__init__", "Running.__init__", defArgs s_Running_init_, defBody s_Running_init_, defScope s_Running_init_, [], []⟩, ⟨("Running", some "_keep"), "_keep", "Running._keep", defArgs s_Running_keep, defBody s_Running_keep, defScope s_Running_keep, [], []⟩, ⟨("Running", some "_forget"), "_forget", "Running._forget", defArgs s_Running_forget, defBody s_Running_forget, defScope s_Running_forget, [], []⟩, ⟨("Running", some "_there"), "_there", "Running._there", defArgs s_Running_there, defBody s_Running_there, defScope s_Running_there, [], []⟩, ⟨("Running", some "add"), "add", "Running.add", defArgs s_Running_add, defBody s_Running_add, defScope s_Running_add, [], []⟩, ⟨("Running", some "drop"), "drop", "Running.drop", defArgs s_Running_drop, defBody s_Running_drop, defScope s_Running_drop, [], []⟩, ⟨("Running", some "exchange"), "exchange", "Running.exchange", defArgs s_Running_exchange, defBody s_Running_exchange, defScope s_Running_exchange, [], []⟩, ⟨("Running", some "__len__"), "__len__", "Running.__len__", defArgs s_Running_len_, defBody s_Running_len_, defScope s_Running_len_, [], []⟩, ⟨("Running", some "__iadd__"), "__iadd__", "Running.__iadd__", defArgs s_Running_iadd_, defBody s_Running_iadd_, defScope s_Running_iadd_, [], []⟩, ⟨("Running", some "ascending"), "ascending", "Running.ascending", defArgs s_Running_ascending, defBody s_Running_ascending, defScope s_Running_ascending, [], []⟩, ⟨("Saved", some "__init__"), "__init__", "Saved.__init__", defArgs s_Saved_init_, defBody s_Saved_init_, defScope s_Saved_init_, [], []⟩, ⟨("Running", some "trial"), "trial", "Running.trial", defArgs s_Running_trial, defBody s_Running_trial, defScope s_Running_trial, [], []⟩, ⟨("Running", some "__enter__"), "__enter__", "Running.__enter__", defArgs s_Running_enter_, defBody s_Running_enter_, defScope s_Running_enter_, [], []⟩, ⟨("Running", some "__exit__"), "__exit__", "Running.__exit__", defArgs s_Running_exit_, defBody s_Running_exit_, defScope s_Running_exit_, [], []⟩, ⟨("Running", some "tried"), "tried", "Running.tried", defArgs s_Running_tried, defBody s_Running_tried, defScope s_Running_tried, [], []⟩, ⟨("_law_pen", none), "_law_pen", "_law_pen", defArgs s_law_pen, defBody s_law_pen, defScope s_law_pen, [], []⟩, ⟨("_law_draw", none), "_law_draw", "_law_draw", defArgs s_law_draw, defBody s_law_draw, defScope s_law_draw, [], []⟩, ⟨("_law_width", none), "_law_width", "_law_width", defArgs s_law_width, defBody s_law_width, defScope s_law_width, [], []⟩, ⟨("_law_value", none), "_law_value", "_law_value", defArgs s_law_value, defBody s_law_value, defScope s_law_value, [], []⟩, ⟨("_law_told", none), "_law_told", "_law_told", defArgs s_law_told, defBody s_law_told, defScope s_law_told, [], []⟩, ⟨("_law_due", none), "_law_due", "_law_due", defArgs s_law_due, defBody s_law_due, defScope s_law_due, [], []⟩, ⟨("_law_broken", none), "_law_broken", "_law_broken", defArgs s_law_broken, defBody s_law_broken, defScope s_law_broken, [], []⟩, ⟨("_law_lost", none), "_law_lost", "_law_lost", defArgs s_law_lost, defBody s_law_lost, defScope s_law_lost, [], []⟩, ⟨("_law_fallen", none), "_law_fallen", "_law_fallen", defArgs s_law_fallen, defBody s_law_fallen, defScope s_law_fallen, [], []⟩, ⟨("_law_undone", none), "_law_undone", "_law_undone", defArgs s_law_undone, defBody s_law_undone, defScope s_law_undone, [], []⟩, ⟨("_law_around", none), "_law_around", "_law_around", defArgs s_law_around, defBody s_law_around, defScope s_law_around, [], []⟩, ⟨("_law_deep", none), "_law_deep", "_law_deep", defArgs s_law_deep, defBody s_law_deep, defScope s_law_deep, [], []⟩, ⟨("law", none), "law", "law", defArgs s_law, defBody s_law, defScope s_law, [], []⟩]
def fa : List He.Fa := [.free "int", .free "len", .free "abs", .free "list", .free "isinstance", .free "bool", .free "range", .free "repr", .free "sum", .free "sorted", .free "KeyError", .cls "Word", .glo "Word", .keep "Word", .cls "Running", .glo "Running", .keep "Running", .noat "Running" "width", .noat "Running" "kept", .noat "Running" "plain_sum", .noat "Running" "saved", .cls "Saved", .glo "Saved", .keep "Saved", .noat "Saved" "kept", .noat "Saved" "plain_sum", .noat "Saved" "older", .glo "BadWidth", .noat "BadWidth" "width", .glo "BadWord", .noat "BadWord" "value", .glo "NotThere", .noat "NotThere" "word", .noat "Word" "width", .noat "Word" "value", .noat "Word" "rest", .noat "Word" "is_empty", .noat "Word" "is_full", .exm "BadWidth" "BadWidth" true, .exm "BadWord" "BadWord" true, .exm "NotThere" "NotThere" true, .meth "BadWord" "__init__", .meth "BadWidth" "__init__", .meth "NotThere" "__init__", .glo "is_whole", .glo "is_from", .glo "most_value", .glo "checked_width", .meth "Word" "__init__", .meth "Word" "__repr__", .glo "carried_round", .glo "found_value", .glo "checked_value", .meth "Running" "__init__", .meth "Running" "_keep", .meth "Running" "_forget", .meth "Running" "_there", .meth "Running" "add", .meth "Running" "drop", .meth "Running" "exchange", .meth "Running" "__len__", .meth "Running" "__iadd__", .meth "Running" "ascending", .meth "Saved" "__init__", .meth "Running" "trial", .meth "Running" "__enter__", .meth "Running" "__exit__", .meth "Running" "tried", .glo "_law_pen", .glo "_law_draw", .glo "_law_width", .glo "_law_value", .glo "_law_told", .glo "_law_due", .glo "_law_broken", .glo "_law_lost", .glo "_law_fallen", .glo "_law_undone", .glo "_law_around", .glo "_law_deep", .glo "law"]
def sm : List TzF.SM := [⟨"property", ("Running", "total"), "Running.total", s_Running_total⟩]
def tf : List He.Defn := [("law", none), ("_law_deep", none), ("_law_fallen", none), ("_law_undone", none)]
def ex0 (K : PySem.W.Frag) : Bool := aloneB K (He.ga K "Word")
def ex1 (K : PySem.W.Frag) : Bool := PySem.W.readsIn K (He.ga K "Word") (.type "type")
def ex2 (K : PySem.W.Frag) : Bool := eqV (PySem.W.specialIn K (.ref (He.ga K "Word")) "__getattribute__") (some (some (.builtin "type.__getattribute__")))
def ex3 (K : PySem.W.Frag) : Bool := PySem.W.makesIn K (He.ga K "Word")
def ex4 (K : PySem.W.Frag) : Bool := aloneB K (He.ga K "Running")
def ex5 (K : PySem.W.Frag) : Bool := PySem.W.readsIn K (He.ga K "Running") (.type "type")
def ex6 (K : PySem.W.Frag) : Bool := eqV (PySem.W.specialIn K (.ref (He.ga K "Running")) "__getattribute__") (some (some (.builtin "type.__getattribute__")))
def ex7 (K : PySem.W.Frag) : Bool := PySem.W.makesIn K (He.ga K "Running")
def ex8 (K : PySem.W.Frag) : Bool := aloneB K (He.ga K "Saved")
def ex9 (K : PySem.W.Frag) : Bool := PySem.W.readsIn K (He.ga K "Saved") (.type "type")
def ex10 (K : PySem.W.Frag) : Bool := eqV (PySem.W.specialIn K (.ref (He.ga K "Saved")) "__getattribute__") (some (some (.builtin "type.__getattribute__")))
def ex11 (K : PySem.W.Frag) : Bool := PySem.W.makesIn K (He.ga K "Saved")
def ex12 (K : PySem.W.Frag) : Bool := errB K (He.ga K "BadWidth")
def ex13 (K : PySem.W.Frag) : Bool := errB K (He.ga K "BadWord")
def ex14 (K : PySem.W.Frag) : Bool := errB K (He.ga K "NotThere")
def ex15 (K : PySem.W.Frag) : Bool := cvalB K (He.ga K "Word") "MOST_WIDTH" 64
def ex16 (K : PySem.W.Frag) : Bool := decide ([He.cT K ("law", none), He.cT K ("_law_deep", none), He.cT K ("_law_fallen", none), He.cT K ("_law_undone", none)].map (·.2)).Nodup
def ex17 (K : PySem.W.Frag) : Bool := PySem.W.selfFirst K (He.ga K "Running")
def ex18 (K : PySem.W.Frag) : Bool := eqV (PySem.W.findIn K (.ref (He.ga K "Running")) "total") (some (some (.ref (recA K ("Running", "total")))))
def ex19 (K : PySem.W.Frag) : Bool := eqV (PySem.W.specialIn K (.ref (recA K ("Running", "total"))) "__get__") (some (some (.builtin "property.__get__")))
def ex20 (K : PySem.W.Frag) : Bool := decide (PySem.W.takesIn K (.ref (recA K ("Running", "total"))) = some true)
def ex (K : PySem.W.Frag) : Bool := [ex0, ex1, ex2, ex3, ex4, ex5, ex6, ex7, ex8, ex9, ex10, ex11, ex12, ex13, ex14, ex15, ex16, ex17, ex18, ex19, ex20].all fun f => f K
abbrev R : PySem.W.OpenRow := PySem.W.OpenLaw.row PySem.Challenge.rw_twozeros_k10_running_totals_tried
abbrev hk : PySem.W.Hook := TzF.hookY 6 fa fn sm tf ex
def ob (s : PySem.W.SharedT) : TzF.AlY := TzF.obsY 6 fa fn sm tf ex (HandSHeadRun.getT s)
theorem ob_eq (s : PySem.W.SharedT) : ob s = hk.obs s.abs := TzF.obsY_eq (HandSHeadRun.getT_eq s)
def loose : List Str := (["_wall", "ZerosError", "BadWidth", "BadWord", "UnlikeWidths", "NotThere", "MOST_TIMES", "is_whole", "is_from", "Word", "checked_width", "most_value", "carried_round", "sum_word", "difference_word", "turned", "is_bits", "checked_times", "operand_value", "ordered_value", "found_value", "checked_value", "Saved", "Running", "_law_pen", "_law_draw", "_law_width", "_law_value", "_law_told", "_law_due"] : List Str) ++ (["_law_deep", "_law_broken", "_law_fallen", "_law_lost", "_law_undone", "_law_around"] : List Str)
theorem both {a b c d : Type} {x : Option a} {f : a → b} {g : a → c} {h : a → d} {p : b} {q : c} {r : d} (H : x.map (fun s => (f s, g s)) = some (p, q)) (K : x.map h = some r) : x.map (fun s => (f s, g s, h s)) = some (p, q, r) := by
  cases x with
  | none => cases H
  | some y =>
    injection H with e
    injection K with k
    injection e with e1 e2
    show some (f y, g y, h y) = _
    rw [e1, e2, k]
theorem run_b (w : World) (os : PySem.OsState) : (HandSHeadRun.endF (HandSHeadRun.stepQ (HandSHeadRun.denQ HandSHeadRun.tabQ) R.prog w) 20000 R.prog w os).map ob = some (hk.val w) := by
  kernel_rfl
theorem run_a (w : World) (os : PySem.OsState) : (HandSHeadRun.endF (HandSHeadRun.stepQ (HandSHeadRun.denQ HandSHeadRun.tabQ) R.prog w) 20000 R.prog w os).map (fun s => (HandSHeadRun.looksF R.prog (PySem.W.boot_heap w.params) s.abs, HandSHeadRun.seenQ (PySem.W.view R.prog [41]) loose (importedModules R.prog.main.body) (fun s => PySem.W.xlAt (PySem.W.view R.prog [41]) [] s && PySem.W.recOk R.toRowW.records s) s.abs)) = some (true, PySem.W.openGood (PySem.W.view R.prog [41]) loose) := by
  kernel_rfl
theorem run (w : World) : HandSHeadRun.RunEq R (PySem.W.view R.prog [41]) hk ob 20000 loose w := by
  intro os
  exact both (run_a w os) (run_b w os)
end TzH
namespace Tz
open PySem PySem.Spec PyProof.Rows L2
/-! a law with lambdas: tables of code objects, empty at the start; no repr is under way -/
abbrev noCode : Obj := { cls := .none, data := .fields #[] }
section
variable {P : Program} {w : World} {K : PySem.W.Frag} {mg mb : Str → Option Value} {k : Nat} {fa a : Addr} {fd : FuncData} {x : Str} {sp : Sp} {s : Shared} {vs : List Value} {ns : List Int} {cs : List (Addr × Addr)}
theorem law_qt (KX : K.In s.heap) (top : s.heap.Ns mainGlobals mg) (bl : s.heap.Ns builtinsNs mb) (boot : ∀ y : Str, y ≠ "__name__" → mb y = bootBuiltins y) (lim : s.heap.NoLimit) (gens : s.gens = #[])
    (empty : ∀ p ∈ cs, s.heap.get? p.2 = some noCode) (outside : ∀ p ∈ cs, K.lookup p.2 = none) (heads : ∀ p ∈ cs, PySem.W.CodeHd s.heap p.1 p.2)
    (bmod : ∃ (m : Addr) (o : Obj), mg "__builtins__" = some (.ref m) ∧ m ≠ builtinsNs ∧ s.heap.get? m = some o ∧ o.cls = .type "module" ∧ o.dict = some builtinsNs ∧ o.data = .plain)
    (script : s.heap.get? a = some { cls := .type "list", data := .seq vs.toArray }) (isI : IntsAre vs ns) (len : ns.length ≤ sizeLine) (rm : Room k callerA)
    (F : ∀ base : Heap, K.In base → base.Ns mainGlobals mg → (∀ p ∈ cs, LamX.TabB base mg p.1 p.2) → FnQ P w K mg base k fa fd [x] sp) (bind : ∀ (s : Shared) (u : Value), BindsTo s fd ⟨[u], []⟩ [(x, u)])
    (want : ∀ H : Hp, (∀ p ∈ cs, H p.2 = some (.tbl #[])) → SqL K H a (ns.map V.int) → sp [.ref a] H (fun v _ => v = .bl true) E0) :
    codeAny (model P w) callerA (.call (.ref fa) ⟨[.ref a], []⟩) (fun r s' => r = .ok (.ret (.bool true)) ∧ OldK s.heap s'.heap ∧ s'.os = s.os ∧ AllBare s'.gens) s := by
  have tabAt : ∀ b : Addr, b ∈ cs.map (·.2) → s.heap.get? b = some noCode := fun b hb => by
    obtain ⟨p, hp, rfl⟩ := List.mem_map.mp hb
    exact empty p hp
  have notTab : a ∉ cs.map (·.2) := fun z => by
    have q := tabAt a z
    rw [script] at q
    have d := congrArg Obj.data (Option.some.inj q)
    cases d
  have isTab : ∀ p ∈ cs, p.2 ∈ cs.map (·.2) := fun p hp => List.mem_map.mpr ⟨p, hp, rfl⟩
  -- what is told: the tables; the script where the module does not hold it
  obtain ⟨H, tabs, told, seq, fits, apart⟩ : ∃ H : Hp, (∀ p ∈ cs, H p.2 = some (.tbl #[])) ∧ (∀ b u, H b = some u → (b = a ∧ u = .frz { cls := .type "list", data := .seq vs.toArray } (.lst (ns.map V.int))) ∨ (b ∈ cs.map (·.2) ∧ u = .tbl #[])) ∧
      SqL K H a (ns.map V.int) ∧ HOk P w H s.heap ∧ (H a ≠ none → K.lookup a = none) := by
    have h0 : ∃ H0 : Hp, (∀ b, b ∈ cs.map (·.2) → H0 b = some (.tbl #[])) ∧ ∀ b, b ∉ cs.map (·.2) → H0 b = none := ⟨fun b => if b ∈ cs.map (·.2) then some (.tbl #[]) else none, fun b hb => if_pos hb, fun b hb => if_neg hb⟩
    obtain ⟨H0, yes, no⟩ := h0
    have only : ∀ b u, H0 b = some u → b ∈ cs.map (·.2) ∧ u = .tbl #[] := fun b u z => by
      by_cases hb : b ∈ cs.map (·.2)
      · rw [yes b hb] at z
        exact ⟨hb, (Option.some.inj z).symm⟩
      · rw [no b hb] at z
        cases z
    have fit0 : HOk P w H0 s.heap := fun b u z => by
      obtain ⟨hb, rfl⟩ := only b u z
      exact tabAt b hb
    cases lk : K.lookup a with
    | some o =>
      have q := KX a o lk
      rw [script] at q
      cases q
      refine ⟨H0, fun p hp => yes _ (isTab p hp), fun b u z => .inr (only b u z), .inr ⟨_, vs.toArray, _, lk, rfl, rfl, rfl, by rw [List.size_toArray, isI.length]; exact len, by simpa using vals_ints isI⟩, fit0, fun z => absurd (no a notTab) z⟩
    | none =>
      have old : ∀ {b : Addr}, b ∈ cs.map (·.2) → b ≠ a := fun {b} hb q => notTab (q ▸ hb)
      refine ⟨upd H0 a (.frz { cls := .type "list", data := .seq vs.toArray } (.lst (ns.map V.int))), fun p hp => by rw [upd_ne (old (isTab p hp))]; exact yes _ (isTab p hp), fun b u z => ?_, .inl (.inr ⟨_, upd_same⟩), fun b u z => ?_, fun _ => rfl⟩
      · by_cases q : b = a
        · subst q
          rw [upd_same] at z
          exact .inl ⟨rfl, (Option.some.inj z).symm⟩
        · rw [upd_ne q] at z
          exact .inr (only b u z)
      · by_cases q : b = a
        · subst q
          rw [upd_same] at z
          cases z
          exact ⟨script, by rw [List.length_map]; exact len, vs, _, vals_ints isI, script⟩
        · rw [upd_ne q] at z
          obtain ⟨hb, rfl⟩ := only b u z
          exact tabAt b hb
  -- other things are not told
  have free : ∀ {b : Addr} {o : Obj}, s.heap.get? b = some o → (∀ us n, o.data ≠ .seq us n) → o.data ≠ .fields #[] → H b = none := fun {b o} e h1 h2 => by
    cases q : H b with
    | none => rfl
    | some u =>
      rcases told b u q with ⟨rfl, _⟩ | ⟨hb, _⟩
      · rw [script] at e
        cases e
        exact absurd rfl (h1 _ _)
      · rw [tabAt b hb] at e
        cases e
        exact absurd rfl h2
  have freeD : ∀ {b : Addr} {o : Obj} {es : Array DictEntry} {ep : Nat}, s.heap.get? b = some o → o.data = .dict es ep → H b = none := fun {b o es ep} e d => free e (fun us n z => by rw [d] at z; cases z) fun z => by rw [d] at z; cases z
  have ns0 : ∀ {b : Addr} {m : Str → Option Value}, s.heap.Ns b m → (hidT s.heap H).Ns b m := fun {b m} ⟨o, es, ep, e, d, r⟩ => ⟨o, es, ep, hidT_get e (freeD e d), d, r⟩
  have k0 : K.In (hidT s.heap H) := fun b o e => hidT_get (KX b o e) (by
    cases q : H b with
    | none => rfl
    | some u =>
      rcases told b u q with ⟨rfl, _⟩ | ⟨hb, _⟩
      · have n := apart (by rw [q]; exact fun z => nomatch z)
        rw [e] at n
        cases n
      · obtain ⟨p, hp, rfl⟩ := List.mem_map.mp hb
        rw [outside p hp] at e
        cases e)
  have md : Mod K mg (hidT s.heap H) := ⟨k0, ns0 top, ⟨mb, ns0 bl, boot⟩, lim.elim fun mc z => ⟨mc, ns0 z.1, z.2⟩⟩
  have TB : ∀ p ∈ cs, LamX.TabB (hidT s.heap H) mg p.1 p.2 := fun p hp => by
    have ep := empty p hp
    obtain ⟨og, es, pos, eg, dg, _⟩ := id top
    refine ⟨?_, ?_, fun z => ?_⟩
    · obtain ⟨o, us, q1, q2, q3, q4, q5, q6, q7, e1, e2, e3, e4, rest⟩ := heads p hp
      refine ⟨o, us, q1, q2, q3, q4, q5, q6, q7, hidT_get e1 (free e1 (fun vs n z => ?_) fun z => ?_), e2, e3, e4, rest⟩
      · rw [e3] at z
        cases z
      · rw [e3] at z
        cases z
        simp at e4
    · obtain ⟨m, o, b1, b2, b3, b4, b5, b6⟩ := bmod
      refine ⟨m, o, b1, b2, fun q => ?_, fun q => ?_, hidT_get b3 (free b3 (fun us n z => ?_) fun z => ?_), b4, b5, b6⟩
      · rw [q, eg] at b3
        cases b3
        rw [dg] at b6
        cases b6
      · rw [q, ep] at b3
        cases b3
        cases b6
      · rw [b6] at z
        cases z
      · rw [b6] at z
        cases z
    · rw [z, ep] at eg
      cases eg
      cases dg
  have en : Env0 P w K mg (hidT s.heap H) callerA [] s H := ⟨rfl, md, fun _ _ e => of_hidT e, Nat.le_of_eq (hidT_size _ _), trivial, fun b z => absurd (show b ∈ ([] : List Addr) from z) List.not_mem_nil, fits, .of_eq gens⟩
  refine codeAny_mono ((F _ k0 (ns0 top) TB).run callerA [] s H ⟨[.ref a], []⟩ [.ref a] [.ref a] _ rfl rm en (bind s (.ref a)) (.cons rfl .nil) (want H tabs seq)) fun r s2 z => ?_
  cases r with
  | error e => exact (show False from z).elim
  | ok fl =>
    cases fl with
    | next => exact (show False from z).elim
    | brk => exact (show False from z).elim
    | cont => exact (show False from z).elim
    | ret u =>
      obtain ⟨v, H2, os, bare, un, ok2, rv, q⟩ := z
      subst q
      cases (show u = Value.bool true from rv)
      have grows : ∀ b, b ∈ cs.map (·.2) → ∃ (p : Addr × Addr) (more : Array Value), p ∈ cs ∧ p.2 = b ∧ s2.heap.get? b = some { cls := .none, data := .fields more } := fun b hb => by
        obtain ⟨p, hp, rfl⟩ := List.mem_map.mp hb
        obtain ⟨more, z⟩ := un.tbls p.2 #[] (tabs p hp)
        exact ⟨p, _, hp, rfl, ok2 p.2 _ z⟩
      have stays : ∀ b o, b ∉ cs.map (·.2) → s.heap.get? b = some o → s2.heap.get? b = some o := fun b o nb e => by
        cases q : H b with
        | none => exact un.keep b o e q (fun z => absurd (show b ∈ ([] : List Addr) from z) List.not_mem_nil) List.not_mem_nil
        | some u =>
          rcases told b u q with ⟨rfl, rfl⟩ | ⟨hb, _⟩
          · rw [script] at e
            cases e
            exact (ok2 _ _ (un.frzs _ _ _ q)).1
          · exact absurd hb nb
      refine ⟨rfl, ⟨fun b o e => ?_, fun b o e => ?_⟩, os, bare⟩
      · by_cases hb : b ∈ cs.map (·.2)
        · obtain ⟨p, more, hp, rfl, hm⟩ := grows b hb
          rw [empty p hp] at e
          cases e
          exact .inr (.inl ⟨((heads p hp).tab (empty p hp)).isCodeTable, rfl, #[], more, rfl, by rw [Array.empty_append]; exact hm⟩)
        · exact .inl (stays b o hb e)
      · by_cases hb : b ∈ cs.map (·.2)
        · obtain ⟨p, more, hp, rfl, hm⟩ := grows b hb
          exact ⟨_, hm⟩
        · exact ⟨o, stays b o hb e⟩
/-- what the head tells of the law -/
def LawQ (l : PySem.W.OpenLaw) (w : World) (K : PySem.W.Frag) (k n : Nat) (x : Str) (mg : Str → Option Value) (fa : Addr) (h : Heap) : Prop :=
  ∃ (fd : FuncData) (cs : List (Addr × Addr)) (sp : Sp), (∀ p ∈ cs, h.get? p.2 = some noCode) ∧ (∀ p ∈ cs, K.lookup p.2 = none) ∧ (∀ p ∈ cs, PySem.W.CodeHd h p.1 p.2) ∧ (∀ (s : Shared) (u : Value), BindsTo s fd ⟨[u], []⟩ [(x, u)]) ∧
    (∀ (H : Hp) (a : Addr) (ns : List Int), ns.length ≤ n → (∀ p ∈ cs, H p.2 = some (.tbl #[])) → SqL K H a (ns.map V.int) → sp [.ref a] H (fun v _ => v = .bl true) E0) ∧
    ∀ base : Heap, K.In base → base.Ns mainGlobals mg → (∀ p ∈ cs, LamX.TabB base mg p.1 p.2) → FnQ l.prog w K mg base k fa fd [x] sp
theorem walk_qt {l : PySem.W.OpenLaw} {n k : Nat} {q : Program} {loose : List Str} {XP : (Str → Option Value) → Heap → Prop} {YP : World → Heap → Prop} {d : DefRec} {x : Str}
    (most : l.most = some n) (small : n ≤ sizeLine) (nodf : d.params.defaults = []) (rm : Room k callerA)
    (F : ∀ (w : World) (mg : Str → Option Value) (fa : Addr) (h : Heap), YP w h → h.Ns mainGlobals mg → mg d.name = some (.ref fa) → ∃ K : PySem.W.Frag, K.In h ∧ LawQ l w K k n x mg fa h) :
    PySem.W.WalkO q loose XP YP l.row.toRowW d [] (fun f vs => PySem.call f vs) := by
  refine Att.attach_callB most nodf fun w s0 s1 mg mb fa o pm cd doc a vs ns G Y _ _ _ hmg script isI few _ gens => ?_
  obtain ⟨K, KX, fd, cs, sp, e1, e2, e3, bd, want, FQ⟩ := F w mg fa _ Y G.T.g hmg
  exact law_qt KX G.T.g G.T.b G.T.builtins G.T.nolimit gens e1 e2 e3 G.T.bmain script isI (Nat.le_trans few small) rm FQ bd fun H tb seq => want H a ns few tb seq
end
theorem fnq_one {P : Program} {w : World} {K : PySem.W.Frag} {mg : Str → Option Value} {base : Heap} {k : Nat} {f : Addr} {ps N : List Str} {sp : Sp} {x qual : Str} {st : Stmt} {oc kV doc pm cdv ct : Value} {od an : Option Addr} {osl : Array (Option Value)}
    (lk : K.lookup f = some ⟨oc, od, .func (PySem.W.fnOf x qual (defArgs st) (defBody st) (defScope st) .none kV doc pm an cdv ct), osl⟩) (code : PySem.W.codeIn K cdv qual = true) (S : FnScope N ps (defScope st)) (len : ∀ vs H Q E, sp vs H Q E → vs.length = ps.length)
    (body : ∀ (A : Around) (out : List Env) (s : Shared) (H : Hp) (vs : List V) (Q : VK), A.guards = some [] → Room k (A.deeper (envOfC qual (defScope st) s.heap.objs.size f cdv)) → sp vs H Q E0 →
      ∃ t, PSs (cxOf CX0 P w K mg base N qual (defScope st) f cdv A out s H E0).nox (defBody st) t ∧ t { nx := fun _ J => Q .non J, rt := Q } (start N vs) H) : FnQ P w K mg base (k + 1) f (PySem.W.fnOf x qual (defArgs st) (defBody st) (defScope st) .none kV doc pm an cdv ct) ps sp := by
  refine ⟨len, fun A out s H args us vs Q gd rm en bn rel want => ?_⟩
  have width := len _ _ _ _ want
  have inK : K.In s.heap := en.mod.kin.keeps fun b o q => (en.bs b o q).1
  have free : s.heap.NoLimit := en.mod.nolimit.keeps fun b o q => (en.bs b o q).1
  refine codeAny_call_function rm.depth (inK _ _ lk) rfl S.co S.gen rfl (PySem.W.codeRec_of inK code) (bn _ _ _ _ ?_)
  refine wpAny_newFunctionEnv_cells S.kind (fun ⟨n, v⟩ hy => (S.par n (List.of_mem_zip hy).1).elim .inl fun q => .inr ⟨q, PySem.W.cellsFrom_some _ _ _ (.inl q)⟩) fun env he s1 x => ?_
  subst he
  obtain ⟨t, ht, q⟩ := body A out s H vs Q gd (rm.deeper _) want
  have J := inv_start (CX := CX0) (E := E0) S rm.hd en width rel x
  refine ⟨free.keeps x.toInCall.keep, codeAny_func (wpAny_mono (ht.nox.run [] s1 (start N vs) H _ J q) (fun fl s2 z => ?_) fun e s2 z => z)⟩
  have done : ∀ {σ : L2.St} {H2 : Hp} {v : V} {u : Value}, L2.Inv (cxOf CX0 P w K mg base N qual (defScope st) f cdv A out s H E0) [] σ H2 s2 → RelV v u → Q v H2 → CE out P w H s Q u s2 :=
    fun {σ H2 v u} I2 rv hv => ⟨v, H2, I2.os, I2.bare, I2.base, I2.hok, rv, hv⟩
  cases fl with
  | ret u =>
    obtain ⟨v, σ, H2, I2, rv, hv⟩ := z
    exact done I2 rv hv
  | next =>
    obtain ⟨σ, H2, I2, hv⟩ := z
    exact done (v := .non) I2 rfl hv
  | brk =>
    obtain ⟨_, _, _, no⟩ := z
    exact no.elim
  | cont =>
    obtain ⟨_, _, _, no⟩ := z
    exact no.elim
/-- a def by its body, nothing under way, its code object known -/
theorem fnqC {P : Program} {w : World} {K : PySem.W.Frag} {mg : Str → Option Value} {base : Heap} {k : Nat} {f c : Addr} {fd : FuncData} {ps N : List Str} {sp : Sp} {x qual : Str} {st : Stmt} (F : Fun K x qual st f fd) (S : FnScope N ps (defScope st))
    (code : ∀ (fd' : FuncData) (oc : Value) (od : Option Addr) (osl : Array (Option Value)), K.lookup f = some ⟨oc, od, .func fd', osl⟩ → PySem.W.codeIn K fd'.code qual = true → fd'.code = .ref c) (len : ∀ vs H Q E, sp vs H Q E → vs.length = ps.length)
    (body : ∀ (A : Around) (out : List Env) (s : Shared) (H : Hp) (vs : List V) (Q : VK), A.guards = some [] → Room k (A.deeper (envOfC qual (defScope st) s.heap.objs.size f (.ref c))) → sp vs H Q E0 →
      ∃ t, PSs (cxOf CX0 P w K mg base N qual (defScope st) f (.ref c) A out s H E0).nox (defBody st) t ∧ t { nx := fun _ J => Q .non J, rt := Q } (start N vs) H) : FnQ P w K mg base (k + 1) f fd ps sp := by
  obtain ⟨oc, od, kV, doc, pm, an, cdv, ct, osl, rfl, lk, ci⟩ := F.ex
  have ec : cdv = .ref c := code _ _ _ _ lk ci
  subst ec
  exact fnq_one lk ci S len body
end Tz
namespace Tz
open PySem PySem.Spec PyProof.Rows L2 TzF TzRepr
/-! ### things of all sorts -/
/-- a thing by its tag: a word, or no word -/
inductive Kd (C : Addr) (H : Hp) : V → Tag → Prop where
  | non : Kd C H .non .non
  | bl (b : Bool) : Kd C H (.bl b) .bl
  | int (i : Int) : Kd C H (.int i) .int
  | str (z : Str) : Kd C H (.str z) .str
  | lst {a : Addr} {xs : List V} (h : H a = some (.lst xs)) : Kd C H (.ref a) .lst
  | tup {a : Addr} {xs : List V} (h : H a = some (.tup xs)) : Kd C H (.ref a) .tup
  | dic {a : Addr} {kvs : List (Key × V)} (h : H a = some (.dK kvs)) : Kd C H (.ref a) .dic
  | own {a : Addr} {w : Nat} {u : Int} (W : WordAt C H a w u) : Kd C H (.ref a) .own
section
variable {K : PySem.W.Frag} {C : Addr} {H H' : Hp} {y : V} {g : Tag}
theorem Kd.step (k : Kd C H y g) (e : ∀ a o, H a = some o → (∀ ps, o ≠ .tbl ps) → y = .ref a → H' a = some o) : Kd C H' y g := by
  cases k with
  | non => exact .non
  | bl b => exact .bl b
  | int i => exact .int i
  | str z => exact .str z
  | lst h => exact .lst (e _ _ h (fun _ z => by cases z) rfl)
  | tup h => exact .tup (e _ _ h (fun _ z => by cases z) rfl)
  | dic h => exact .dic (e _ _ h (fun _ z => by cases z) rfl)
  | own W =>
    obtain ⟨⟨dx, h1⟩, h2, h3, h4, h5⟩ := W
    exact .own ⟨⟨dx, e _ _ h1 (fun _ z => by cases z) rfl⟩, h2, h3, h4, h5⟩
theorem Kd.ex (k : Kd C H y g) (e : Ex H H') : Kd C H' y g := k.step fun a o h _ _ => e a o h
theorem Kd.tyx (A : Alone K C) (cl : Cls K C) (k : Kd C H y g) : TyX K H y (g.ty C) := by
  cases k with
  | non => exact .base .non
  | bl b => exact .base (.bl b)
  | int i => exact .base (.int i)
  | str z => exact .base (.str z)
  | lst h => exact .base (.lst h)
  | tup h => exact .base (.tup h)
  | dic h => exact .base (.dK h)
  | own W =>
    obtain ⟨⟨dx, h1⟩, _⟩ := W
    exact .base (.ins h1 cl A.ha A.hn A.ht A.hm)
theorem Kd.int_of (k : Kd C H y .int) : ∃ n, y = .int n := by
  cases k
  exact ⟨_, rfl⟩
theorem Kd.own_of (k : Kd C H y .own) : ∃ a w u, y = .ref a ∧ WordAt C H a w u := by
  cases k
  exact ⟨_, _, _, rfl, by assumption⟩
/-- isinstance(y, T), T one of the seven | the own class -/
theorem Kd.isi {Q : VK} {T : String} (A : Alone K C) (cl : Cls K C) (k : Kd C H y g) (hT : T ∈ seven) (q : Q (.bl (g.is T)) H) : rIsi K [y, .ty T] H Q :=
  ⟨_, _, _, _, _, rfl, .ty T, k.tyx A cl, g.kit A hT, q⟩
theorem Kd.isiC {Q : VK} (A : Alone K C) (cl : Cls K C) (k : Kd C H y g) (q : Q (.bl (decide (g = .own))) H) : rIsi K [y, .ref C] H Q :=
  ⟨_, _, _, _, _, rfl, .own C, k.tyx A cl, g.kitC A, q⟩
end
/-! ### what stands beside a word of the width w -/
inductive Res where
  | val (v : Int) | unlike (w : Nat) | bad
inductive Side (C : Addr) (H : Hp) (w : Nat) : V → Res → Prop where
  | word {b : Addr} {v : Int} (W : WordAt C H b w v) : Side C H w (.ref b) (.val v)
  | int {n : Int} (h0 : 0 ≤ n) (h1 : n ≤ mw w) : Side C H w (.int n) (.val n)
  | unlike {b : Addr} {w' : Nat} {v : Int} (W : WordAt C H b w' v) (ne : w' ≠ w) : Side C H w (.ref b) (.unlike w')
  | bad {y : V} {g : Tag} (k : Kd C H y g) (ng : g ≠ .own) (no : ∀ n, y = .int n → ¬ (0 ≤ n ∧ n ≤ mw w)) : Side C H w y .bad
section
variable {C : Addr} {H H' : Hp} {w : Nat} {y : V} {r : Res}
theorem Side.step (k : Side C H w y r) (e : ∀ a o, H a = some o → (∀ ps, o ≠ .tbl ps) → y = .ref a → H' a = some o) : Side C H' w y r := by
  cases k with
  | word W =>
    obtain ⟨⟨dx, h1⟩, h2, h3, h4, h5⟩ := W
    exact .word ⟨⟨dx, e _ _ h1 (fun _ z => by cases z) rfl⟩, h2, h3, h4, h5⟩
  | int h0 h1 => exact .int h0 h1
  | unlike W ne =>
    obtain ⟨⟨dx, h1⟩, h2, h3, h4, h5⟩ := W
    exact .unlike ⟨⟨dx, e _ _ h1 (fun _ z => by cases z) rfl⟩, h2, h3, h4, h5⟩ ne
  | bad k ng no => exact .bad (k.step e) ng no
theorem Side.ex (k : Side C H w y r) (e : Ex H H') : Side C H' w y r := k.step fun a o h _ _ => e a o h
theorem Side.kd (k : Side C H w y r) : ∃ g, Kd C H y g := by
  cases k with
  | word W => exact ⟨_, .own W⟩
  | int _ _ => exact ⟨_, .int _⟩
  | unlike W _ => exact ⟨_, .own W⟩
  | bad k _ _ => exact ⟨_, k⟩
theorem Side.val_bd {v : Int} (k : Side C H w y (.val v)) : 0 ≤ v ∧ v ≤ mw w := by
  cases k with
  | word W => exact ⟨W.v0, W.vm⟩
  | int h0 h1 => exact ⟨h0, h1⟩
end
/-! ### errors on their way -/
/-- an error of the class X with these fields leaves -/
def Flies (X : Addr) (fs : List (Str × V)) (H : Hp) (E : XK) : Prop := ∀ d H', Ex H H' → H' d = some (.xd fs) → E (.ref X) (some d) H'
theorem Flies.ex {X : Addr} {fs : List (Str × V)} {H H' : Hp} {E : XK} (f : Flies X fs H E) (e : Ex H H') : Flies X fs H' E := fun d H2 e2 h => f d H2 (e.trans e2) h
/-- by the answer: the value goes on, or an error leaves -/
def Got (B U : Addr) (w : Nat) (y : V) (r : Res) (H : Hp) (E : XK) (q : Int → Prop) : Prop := match r with
  | .val v => q v
  | .unlike w' => Flies U [("other", .int w'), ("one", .int w)] H E
  | .bad => Flies B [("value", y)] H E
/-- __init__ of an error with one field, with two -/
def spErr1 (C : Addr) (f : Str) : Sp := fun vs H Q _ => ∃ a v, vs = [.ref a, v] ∧ H a = some (exo a C none) ∧
  ∀ dx, H dx = none → dx ≠ a → Q .non (upd (upd H dx (exd dx [(f, v)])) a (exo a C (some dx)))
def spErr2 (C : Addr) (f g : Str) : Sp := fun vs H Q _ => ∃ a u v, vs = [.ref a, u, v] ∧ H a = some (exo a C none) ∧
  ∀ dx, H dx = none → dx ≠ a → Q .non (upd (upd (upd H dx (exd dx [(f, u)])) a (exo a C (some dx))) dx (exd dx [(g, v), (f, u)]))
/-- what the making of an error asks -/
def MkErr (C : Addr) (sp : Sp) (vs : List V) (H1 : Hp) (Q : XK) : Prop := vs.length ≤ 1000 ∧ ∀ a, H1 a = none → sp (.ref a :: (vs ++ [])) (upd H1 a (exo a C none))
  (fun v H2 => v = .non ∧ ∃ (d : Addr) (fs : List (Str × V)), H2 a = some (exo a C (some d)) ∧ H2 d = some (exd d fs) ∧ H1 d = none ∧ Q (.ref C) (some d) (upd (del H2 a) d (.xd fs))) (fun _ _ _ => False)
section
variable {C : Addr} {f g : Str} {u v : V} {H1 : Hp} {Q : XK}
theorem err1 (k : Flies C [(f, v)] H1 Q) : MkErr C (spErr1 C f) [v] H1 Q := by
  refine ⟨by show 1 ≤ 1000; decide, fun a na => ⟨a, v, rfl, upd_same, fun dx ndx hne => ⟨rfl, dx, [(f, v)], upd_same, by rw [upd_ne hne, upd_same], ?_, k dx _ (fun b o q => ?_) upd_same⟩⟩⟩
  · rw [upd_ne hne] at ndx
    exact ndx
  · have h1 : b ≠ a := ne_of_none q na
    have h2 : b ≠ dx := fun z => by
      rw [z] at q
      rw [upd_ne hne] at ndx
      rw [ndx] at q
      cases q
    rw [upd_ne h2, del_ne h1, upd_ne h1, upd_ne h2, upd_ne h1]
    exact q
theorem err2 (k : Flies C [(g, v), (f, u)] H1 Q) : MkErr C (spErr2 C f g) [u, v] H1 Q := by
  refine ⟨by show 2 ≤ 1000; decide, fun a na => ⟨a, u, v, rfl, upd_same, fun dx ndx hne => ⟨rfl, dx, [(g, v), (f, u)], by rw [upd_ne hne.symm, upd_same], upd_same, ?_, k dx _ (fun b o q => ?_) upd_same⟩⟩⟩
  · rw [upd_ne hne] at ndx
    exact ndx
  · have h1 : b ≠ a := ne_of_none q na
    have h2 : b ≠ dx := fun z => by
      rw [z] at q
      rw [upd_ne hne] at ndx
      rw [ndx] at q
      cases q
    rw [upd_ne h2, del_ne h1, upd_ne h2, upd_ne h1, upd_ne h2, upd_ne h1]
    exact q
end
/-! ### repr of things -/
/-- the empty dict -/
def RDic : Rpr := fun x t H => ∃ a, x = .ref a ∧ H a = some (.dK []) ∧ t = "{}"
theorem mon_dic : Mon RDic := fun _ _ _ _ e ⟨a, h1, h2, h3⟩ => ⟨a, h1, e _ _ h2, h3⟩
theorem mon_str : Mon RStr := fun _ _ _ _ _ d => d
theorem rpG_dic {X : Cx} {as : List Addr} : RpG X 1 as (fun x t H => RDic x t H ∧ ∀ a ∈ as, x ≠ .ref a) := by
  intro A g pins s σ H x u t b hr hf hg hc I r d hs
  obtain ⟨⟨a, rfl, ha, rfl⟩, na⟩ := d
  cases r
  have off : a ∉ as := fun z => na a z rfl
  obtain ⟨_, hsys, us, kv, o, es, ep, h1, h2, h3, h4⟩ := (show ObjOk X.prog X.w H s.heap a (.dK []) from I.hok a _ ha)
  have e0 : us = [] := List.length_eq_zero_iff.mp (by
    have := Paired.length kv
    simpa using this.symm)
  subst e0
  have e1 : es.toList = [] := by
    have h5 := h4.2.1
    cases q : es.toList with
    | nil => rfl
    | cons y l =>
      rw [q] at h5
      cases h5
  have e2 : dictText [] = ("{}" : Str) := by decide +kernel
  refine wpAny_pyReprUnder_ref (by rw [e2] at *; omega) (wpAny_pyReprObjUnder_dictK (as := as.filter fun _ => false) (h₀ := s.heap) (d := 0) (ps := []) h1 h2.1 h3 hsys (by simp) (by rw [e1]; exact .nil) hg (fun p hp => ?_) (by have := hr.un; have := hr.units0; omega) (fun _ _ q => q) (fun h' v tk hk => ?_) (by rw [e2]; omega))
  · rcases List.mem_cons.mp hp with rfl | z
    · exact hc _ off
    · simp at z
  · rw [e2]
    exact ⟨_, _, rfl, rfl, H, I.kept hk, fun _ _ q => q⟩
/-- a thing that is told without what stands in it | with it; beside p -/
def Flat (C : Addr) : Rpr := fun x t H => RFlat x t H ∨ (RStr x t H ∨ RIns C (WText C) x t H)
def Thg (K : PySem.W.Frag) (C p : Addr) : Rpr := fun x t H => Flat C x t H ∨ ((RDic x t H ∧ ∀ a ∈ [p], x ≠ .ref a) ∨ (RList (Flat C) [p] x t H ∨ RTup K (Flat C) [p] x t H))
theorem mon_Flat {C : Addr} : Mon (Flat C) := mon_flat.or (mon_str.or mon_words)
theorem mon_Thg {K : PySem.W.Frag} {C p : Addr} : Mon (Thg K C p) := mon_Flat.or (Mon.or (fun x t H H' e d => ⟨mon_dic x t H H' e d.1, d.2⟩) ((mon_list mon_Flat).or (mon_tup mon_Flat)))
/-- a thing's text, wherever it will stand -/
def Shown (C : Addr) (H : Hp) (y : V) (t : Str) : Prop := Flat C y t H ∨ (RDic y t H ∨ ((∃ l xs ts, y = .ref l ∧ H l = some (.lst xs) ∧ t = listText ts ∧ Each (Flat C) xs ts H) ∨ ∃ l xs ts, y = .ref l ∧ H l = some (.tup xs) ∧ t = tupleText ts ∧ Each (Flat C) xs ts H))
theorem Shown.ex {C : Addr} {H H' : Hp} {y : V} {t : Str} (s : Shown C H y t) (e : Ex H H') : Shown C H' y t := by
  rcases s with s | s | ⟨l, xs, ts, h1, h2, h3, h4⟩ | ⟨l, xs, ts, h1, h2, h3, h4⟩
  · exact .inl (mon_Flat _ _ _ _ e s)
  · exact .inr (.inl (mon_dic _ _ _ _ e s))
  · exact .inr (.inr (.inl ⟨l, xs, ts, h1, e _ _ h2, h3, h4.mon mon_Flat e⟩))
  · exact .inr (.inr (.inr ⟨l, xs, ts, h1, e _ _ h2, h3, h4.mon mon_Flat e⟩))
theorem Shown.at {K : PySem.W.Frag} {C p : Addr} {H : Hp} {y : V} {t : Str} (s : Shown C H y t) (np : H p = none) : Thg K C p y t H := by
  rcases s with s | ⟨a, h1, h2, h3⟩ | ⟨l, xs, ts, h1, h2, h3, h4⟩ | ⟨l, xs, ts, h1, h2, h3, h4⟩
  · exact .inl s
  · refine .inr (.inl ⟨⟨a, h1, h2, h3⟩, fun b hb z => ?_⟩)
    rw [List.mem_singleton.mp hb, h1] at z
    have e : a = p := by cases z; rfl
    rw [e, np] at h2
    cases h2
  · exact .inr (.inr (.inl ⟨l, xs, ts, h1, fun z => ne_of_none h2 np (List.mem_singleton.mp z), h2, h3, h4⟩))
  · exact .inr (.inr (.inr ⟨l, xs, ts, h1, fun z => ne_of_none h2 np (List.mem_singleton.mp z), .inl (.inl h2), h3, h4⟩))
section
variable {X : Cx} {D : Rpr}
/-- repr(x) of a tuple, told for just this one -/
theorem repr_tupA {n : Nat} {D : Addr → Rpr} (hm : ∀ a, Mon (D a)) (h : ∀ a, RpG X n [a] (D a)) (hg : X.A.guards = some []) (hr : Room (n + 2) X.A) :
    CallR X (.builtin "repr") (fun xs H Q => ∃ a ys ts, xs = [.ref a] ∧ SqT X.K H a ys ∧ Each (D a) ys ts H ∧ (tupleText ts).length ≤ sizeLine ∧ ∀ H', Ex H H' → Q (.str (tupleText ts)) H') := by
  intro pins s σ H xs us Q I r hq
  obtain ⟨a, ys, ts, rfl, ha, p, hs, q⟩ := hq
  obtain ⟨u, rfl, ru⟩ := vals1 r
  cases ru
  obtain ⟨its, rv, ⟨o, ho, hcls, m, hd⟩, hz⟩ := I.tuple ha
  refine call_repr_slot hr.in1.units0 ⟨o, ho, hcls⟩ F.slot_tuple_repr ?_
  exact wpAny_call (codeAny_call_builtin_own (Code.quiet_builtin _ (by decide +kernel)) F.entry_tuple_repr (F.slot_tuple_repr.check _ _ _ _ _ _ _ _ ⟨o, ho, hcls⟩ (F.args_tuple_repr_1 _)
    (tup_at (base := 0) (R := callEnd _ X.xe) (A := X.A.in1) (g := []) (as := []) (h a) (hm a) hr.in1 rfl hg (fun p _ => Clear.nil p) (fun z => by cases z) (tupC1 _ _) I ha p (by omega) (fun e s' q => q) fun u H' s' I' e => ⟨_, _, rfl, .str (tupleText ts), H', I', ⟨_, rfl⟩, q H' e⟩)))
theorem rpG_Thg {CX : CXT} {C f : Addr} {fd : FuncData} {ps : List Str} {E : XK} (F : FnOk X.prog X.w X.K X.mg X.base CX 1 f fd ps (spRepr (WText C))) (M : Meth X.K C "__repr__" f) (hb : Binds X.K fd ps []) (hx : Passes CX X E) (p : Addr) : RpG X 3 [p] (Thg X.K C p) := by
  have fl : ∀ as, RpG X 1 as (Flat C) := fun as => (rpG_flat.mono (by decide)).or ((rpG_str.mono (by decide)).or (rpG_ins F M hb hx))
  exact ((fl _).mono (by decide)).or ((rpG_dic.mono (by decide)).or (((rpG_list mon_Flat fun a => fl _).mono (by decide)).or ((rpG_tup mon_Flat fun a => fl _).mono (by decide))))
end
/-! ### texts that are short -/
theorem ln_eq {a b : Str} (e : a = b) : a.length = b.length := by rw [e]
theorem short_tup {ts : List Str} (h : ∀ t ∈ ts, t.length ≤ 10000) (n : ts.length ≤ 100) : (tupleText ts).length ≤ sizeLine := by
  have key : ∀ l : List Str, (∀ t ∈ l, t.length ≤ 10000) → (l.map (·.length)).sum ≤ 10000 * l.length := by
    intro l
    induction l with
    | nil => intro _; exact Nat.le_refl 0
    | cons a r ih =>
      intro hl
      have h1 := hl a List.mem_cons_self
      have h2 := ih fun t ht => hl t (List.mem_cons_of_mem _ ht)
      rw [List.map_cons, List.sum_cons, List.length_cons]
      omega
  have h1 := tupleText_len_le ts
  have h2 := key ts h
  exact Nat.le_trans (show _ ≤ 2000000 by omega) (by decide)
end Tz
namespace Tz
open PySem PySem.Spec PyProof.Rows L2 TzF TzRepr
section
variable {X : Cx} {CX : CXT} {C f : Addr} {fd : FuncData} {ps : List Str} {sp : Sp} {E : XK} {k : Nat} {pins : List (Addr × Obj)} {σ : L2.St} {H : Hp} {s : Shared} {y : V} {u : Value} {g : Tag}
theorem obj_ty {M : Model} {h : Heap} {a : Addr} {o : Obj} {c : Value} (e : h.get? a = some o) (hc : o.cls = c) : PySem.W.Looks M h (typeOf (.ref a)) c := fun A Q E s keeps q => wpAny_typeOf_ref (keeps _ _ e) (by rw [hc]; exact q)
/-- the type of a thing is looked up -/
theorem Kd.looks (I : L2.Inv X pins σ H s) (r : RelV y u) (d : Kd C H y g) : PySem.W.Looks (model X.prog X.w) s.heap (typeOf u) (g.ty C) := by
  cases d with
  | non =>
    cases r
    exact .of_pure rfl
  | bl b =>
    cases r
    exact .of_pure rfl
  | int i =>
    obtain ⟨t, rfl⟩ := r
    exact .of_pure rfl
  | str z =>
    obtain ⟨t, rfl⟩ := r
    exact .of_pure rfl
  | @lst a xs h =>
    cases r
    obtain ⟨_, its, n, _, e⟩ := (show ObjOk X.prog X.w H s.heap a (.lst xs) from I.hok a _ h)
    exact obj_ty e rfl
  | @tup a xs h =>
    cases r
    obtain ⟨_, its, _, o, e, hc, _⟩ := (show ObjOk X.prog X.w H s.heap a (.tup xs) from I.hok a _ h)
    exact obj_ty e hc
  | @dic a kvs h =>
    cases r
    obtain ⟨_, _, us, _, o, es, ep, e, hc, _⟩ := (show ObjOk X.prog X.w H s.heap a (.dK kvs) from I.hok a _ h)
    exact obj_ty e hc.1
  | own W =>
    cases r
    obtain ⟨dx, h⟩ := W.ob
    obtain ⟨od, J⟩ := TzOwn.inst_at I h
    exact J.type
end
section
open PySem.W
variable {prog : Program} {w : World} {A : Around} {E : Value → Shared → Prop} {s : Shared} {K : Frag} {x C f L : Addr} {ox : Obj} {od : Option Obj} {h0 : Heap} {m : Str → Option Value} {T : String}
/-- an instance with its own method, beside a value of a built-in type -/
theorem bin_any {op : Operator} {b : Value} {fo ro rc : Option Value} {Q : Value → Shared → Prop} (R : Fr h0 L s.heap m) (KI : K.In h0) (I : InstAt s.heap x ox C od) (tb : Looks (model prog w) s.heap (typeOf b) (.type T)) (first : selfFirst K C = true)
    (own : findIn K (.ref C) (PySem.dunder op.info.2) = some (some (.ref f))) (fn : isFn K (.ref f) = true) (refl : findIn K (.ref C) (dunderR op.info.2) = some rc) (form : rc = none ∨ ∃ g : Addr, rc = some (.ref g))
    (t1 : findIn K (.type T) (PySem.dunder op.info.2) = some fo) (t2 : findIn K (.type T) (dunderR op.info.2) = some ro) (apart : subIn K (.type T) (.ref C) = some false)
    (h : wpAny (model prog w) A (call (.ref f) [.ref x, b]) (PySem.W.CmpBack Q) E s) : wpAny (model prog w) A (binaryOp op (.ref x) b) Q E s := by
  have KS := KI.keeps R.keep
  obtain ⟨cd, more, ecd, em⟩ := ksp_first first
  rcases ei : op.info with ⟨sy, nm⟩
  rw [ei] at own refl t1 t2
  dsimp only at own refl t1 t2
  have one := ksp_try KS I own fn h
  obtain ⟨hp, gs, dr, tk, os⟩ := s
  have a1 : Looks (model prog w) hp (typeOf (.ref x)) (.ref C) := I.type
  have a2 : Looks (model prog w) hp (fillsNumberSlot (.ref C) nm) true := fills_K KS ecd em own
  have a3 : Looks (model prog w) hp (fillsNumberSlot (.type T) nm) ((fo.isSome && !isSeqSlot fo) || (ro.isSome && !isSeqSlot ro)) := ksp_fillsT KS t1 t2
  have a4 : Looks (model prog w) hp (isSubtype (.type T) (.ref C)) false := looks_subIn KS apart
  have a5 : Looks (model prog w) hp (numberSlotInPython (.ref C) nm) true := ksp_inPy KS own refl form
  have a6 : Looks (model prog w) hp (numberSlotInPython (.type T) nm) false := Looks.of_pure rfl
  have a7 : Looks (model prog w) hp (typeLookup (.type T) (dunderR nm)) ro := looks_findIn KS t2
  generalize ((fo.isSome && !isSeqSlot fo) || (ro.isSome && !isSeqSlot ro)) = both at a3
  have unlike : (Value.ref C == Value.type T) = false := Bool.eq_false_iff.mpr fun q => by cases beq_iff_eq.mp q
  simp only [binaryOp, ei]
  refine wpAny_holding (wpAny_bind ?_)
  unfold binaryOp1
  refine wpAny_bind (a1.at (wpAny_bind (tb.at (wpAny_bind (a2.at ?_)))))
  simp only [unlike, Bool.false_eq_true, if_false]
  cases both with
  | false =>
    ksp_lk
    refine wpAny_mono one (fun r s2 q => ?_) fun _ _ e => e
    obtain ⟨v, rfl, q⟩ := q
    ksp_lk
    exact q
  | true =>
    ksp_lk
    refine wpAny_mono one (fun r s2 q => ?_) fun _ _ e => e
    obtain ⟨v, rfl, q⟩ := q
    ksp_lk
    exact q
end
section
variable {X : Cx} {CX : CXT} {C f : Addr} {fd : FuncData} {ps : List Str} {sp : Sp} {E : XK} {k : Nat}
/-- a word beside any thing -/
def rOwnA (C : Addr) (sp : Sp) (E : XK) : R2 := fun x y H Q => ∃ a dx fs g, x = .ref a ∧ H a = some (.ins C dx fs) ∧ Kd C H y g ∧ sp [.ref a, y] H Q E
theorem op_ownA {op : Operator} {nm nr : Str} (F : FnOk X.prog X.w X.K X.mg X.base CX k f fd ps sp) (hr : Room k X.A) (M : Meth X.K C nm f) (hn : PySem.dunder op.info.2 = nm) (A : Alone X.K C) (hb : Binds X.K fd ps []) (hx : Passes CX X E)
    (hnr : dunderR op.info.2 = nr) (hc : ∃ g : Addr, PySem.W.findIn X.K (.ref C) nr = some (some (.ref g))) (h1 : knownB X.K nm = true) (h2 : knownB X.K nr = true) : OpR X (binaryOp op) (rOwnA C sp E) := by
  intro pins s σ H x y v u Q I rx ry h
  obtain ⟨a, dx, fs, g, rfl, ha, d, q⟩ := h
  obtain ⟨fr, hc⟩ := hc
  cases rx
  obtain ⟨od, J⟩ := TzOwn.inst_at I ha
  obtain ⟨m, hF⟩ := I.fr
  have back : wpAny (model X.prog X.w) X.A (call (.ref f) [.ref a, u]) (PySem.W.CmpBack (EP X pins σ Q)) X.xe s := thn (run_fn (us := [.ref a, u]) (vs := [.ref a, y]) F hr hb .nil hx I (.cons rfl (.cons ry .nil)) q) fun _ _ z => TzOwn.back_cmp z
  have tb := d.looks I ry
  by_cases hg : g = .own
  · subst hg
    exact PySem.W.binop_K hF I.ok.mod.kin J tb A.sf (hn ▸ M.at_) M.fn back
  · have e : g.ty C = .type g.nm := by cases g <;> first | rfl | exact absurd rfl hg
    rw [e] at tb
    obtain ⟨fo, ho⟩ := known_ok h1 (Tag.mem hg)
    obtain ⟨ro, hro⟩ := known_ok h2 (Tag.mem hg)
    exact bin_any hF I.ok.mod.kin J tb A.sf (hn ▸ M.at_) M.fn (hnr ▸ hc) (.inr ⟨fr, rfl⟩) (hn ▸ ho) (hnr ▸ hro) (A.to _ (Tag.mem hg)) back
theorem cmp_ownA {op : CmpOp} {nm : Str} (F : FnOk X.prog X.w X.K X.mg X.base CX k f fd ps sp) (hr : Room k X.A) (M : Meth X.K C nm f) (hn : (cmpInfo op).2.1 = nm) (ho : compareOp op = richCompare op) (hb : Binds X.K fd ps []) (hx : Passes CX X E) (A : Alone X.K C) : OpR X (compareOp op) (rOwnA C sp E) := by
  intro pins s σ H x y v u Q I rx ry h
  obtain ⟨a, dx, fs, g, rfl, ha, d, q⟩ := h
  cases rx
  obtain ⟨od, J⟩ := TzOwn.inst_at I ha
  obtain ⟨m, hF⟩ := I.fr
  rw [ho]
  refine PySem.W.cmp_K (op := op) (tb := g.ty C) hr.units0 hF I.ok.mod.kin J (d.looks I ry) ?_ (hn ▸ M.at_) M.fn ?_
  · unfold PySem.W.notFirst
    by_cases hg : g = .own
    · subst hg
      show (Value.ref C == Value.ref C || _) = true
      rw [beq_self_eq_true, Bool.true_or]
    · have e : g.ty C = .type g.nm := by cases g <;> first | rfl | exact absurd rfl hg
      rw [e, A.to _ (Tag.mem hg)]
      simp
  · exact thn (run_fn (us := [.ref a, u]) (vs := [.ref a, y]) F hr hb .nil hx I (.cons rfl (.cons ry .nil)) q) fun _ _ z => TzOwn.back_cmp z
end
end Tz
namespace Tz
open PySem PySem.Spec PyProof.Rows L2 TzF TzRepr
theorem weak {P : Program} {w : World} {K : PySem.W.Frag} {mg : Str → Option Value} {base : Heap} {CX : CXT} {k : Nat} {f : Addr} {fd : FuncData} {ps : List Str} {sp sp' : Sp} (F : FnOk P w K mg base CX k f fd ps sp) (h : ∀ vs H Q E, sp' vs H Q E → sp vs H Q E) : FnOk P w K mg base CX k f fd ps sp' :=
  ⟨fun vs H Q E q => F.len vs H Q E (h _ _ _ _ q), fun A out s H args us vs Q E hr en bn r q => F.run A out s H args us vs Q E hr en bn r (h _ _ _ _ q)⟩
/-! ### promises for things of all sorts -/
def Tag.whole : Tag → Bool
  | .int => true
  | _ => false
def spWhole (C : Addr) : Sp := fun vs H Q _ => ∃ y g, vs = [y] ∧ Kd C H y g ∧ Q (.bl (Tag.whole g)) H
def spFrom (C : Addr) : Sp := fun vs H Q _ => ∃ y g, ∃ lo hi : Int, vs = [y, .int lo, .int hi] ∧ Kd C H y g ∧ ∀ b : Bool, (b = true ↔ ∃ n, y = .int n ∧ lo ≤ n ∧ n ≤ hi) → Q (.bl b) H
def spFound (C : Addr) : Sp := fun vs H Q _ => ∃ w : Nat, ∃ y r, vs = [.int w, y] ∧ 1 ≤ w ∧ w ≤ 64 ∧ Side C H w y r ∧ match r with
  | .val v => Q (.int v) H
  | _ => Q .non H
def spCheckedX (C B : Addr) : Sp := fun vs H Q E => ∃ w : Nat, ∃ y r, vs = [.int w, y] ∧ 1 ≤ w ∧ w ≤ 64 ∧ Side C H w y r ∧ match r with
  | .val v => Q (.int v) H
  | _ => Flies B [("value", y)] H E
def spOperandX (C B U : Addr) : Sp := fun vs H Q E => ∃ x y, ∃ w : Nat, ∃ u r, vs = [.ref x, y] ∧ WordAt C H x w u ∧ Side C H w y r ∧ Got B U w y r H E fun v => Q (.int v) H
def spAddX (C B U : Addr) : Sp := fun vs H Q E => ∃ x y, ∃ w : Nat, ∃ u r, vs = [.ref x, y] ∧ WordAt C H x w u ∧ Side C H w y r ∧ Got B U w y r H E fun v => NewW C w (cr w (u + v)) H Q
def spSubX (C B U : Addr) : Sp := fun vs H Q E => ∃ x y, ∃ w : Nat, ∃ u r, vs = [.ref x, y] ∧ WordAt C H x w u ∧ Side C H w y r ∧ Got B U w y r H E fun v => NewW C w (cr w (u + (mw w - v))) H Q
end Tz
namespace Tz
open PySem PySem.Spec PyProof.Rows L2 TzF TzRepr
/-! ### def f(a, *r): called by place, or f(a = e) -/
def StarW (sp : Sp) : Sp := fun vs H Q E => ∃ v more, vs = v :: more ∧ more.length ≤ 1000 ∧ ∀ p, H p = none → sp [v, .ref p] (upd H p (.tup more)) Q E
structure Star1 (P : Program) (w : World) (K : PySem.W.Frag) (mg : Str → Option Value) (base : Heap) (CX : CXT) (k : Nat) (f : Addr) (p1 : Str) (sp : Sp) : Prop where
  pos : FnR P w K mg base CX k f (StarW sp)
  key : ∀ (A : Around) (out : List Env) (s : Shared) (H : Hp) (u : Value) (v : V) (Q : VK) (E : XK), Room k A → Env0 P w K mg base A out s H → RelV v u → StarW sp [v] H Q E → codeAny (model P w) A (.call (.ref f) ⟨[], [(p1, u)]⟩) (CR CX out P w H s Q E) s
theorem star1 {P : Program} {w : World} {K : PySem.W.Frag} {mg : Str → Option Value} {base : Heap} {CX : CXT} {k : Nat} {f : Addr} {fd : FuncData} {x qual p1 pr : Str} {st : Stmt} {N : List Str} {sp : Sp} (F : Fun K x qual st f fd) (S : FnScope N [p1, pr] (defScope st)) (up : StX.CXUp CX)
    (b0 : ∀ (kV doc pm : Value) (an : Option Addr) (cdv ct a : Value), bindArgs (PySem.W.fnOf x qual (defArgs st) (defBody st) (defScope st) .none kV doc pm an cdv ct) ⟨[a], []⟩ = (newTuple [] >>= fun t => pure [(p1, a), (pr, t)]))
    (b1 : ∀ (kV doc pm : Value) (an : Option Addr) (cdv ct a b : Value) (bs : List Value), bindArgs (PySem.W.fnOf x qual (defArgs st) (defBody st) (defScope st) .none kV doc pm an cdv ct) ⟨a :: b :: bs, []⟩ = (newTuple (b :: bs) >>= fun t => pure [(p1, a), (pr, t)]))
    (bk : ∀ (kV doc pm : Value) (an : Option Addr) (cdv ct a : Value), bindArgs (PySem.W.fnOf x qual (defArgs st) (defBody st) (defScope st) .none kV doc pm an cdv ct) ⟨[], [(p1, a)]⟩ = (newTuple [] >>= fun t => pure [(p1, a), (pr, t)]))
    (body : ∀ (cdv : Value) (A : Around) (out : List Env) (s : Shared) (H : Hp) (vs : List V) (Q : VK) (E : XK), Room k (A.deeper (envOfC qual (defScope st) s.heap.objs.size f cdv)) → sp vs H Q E →
      ∃ t, PSs (cxOf CX P w K mg base N qual (defScope st) f cdv A out s H E) (defBody st) t ∧ t { nx := fun _ J => Q .non J, rt := Q } (start N vs) H) : Star1 P w K mg base CX (k + 1) f p1 sp := by
  obtain ⟨oc, od, kV, doc, pm, an, cdv, ct, osl, rfl, lk, code⟩ := F.ex
  refine ⟨fun A out s H us vs Q E hr en r h => ?_, fun A out s H u v Q E hr en r h => ?_⟩
  · obtain ⟨v, more, rfl, small, go⟩ := h
    have all := StX.fn_star (CX := CX) (base := base) (mg := mg) (P := P) (w := w) (ps := [p1]) (pv := pr) (sp := sp) (k := k) lk code S up (fun us rest e => by
      match us, rest, e with
      | [a], [], _ => exact b0 kV doc pm an cdv ct a
      | [a], b :: bs, _ => exact b1 kV doc pm an cdv ct a b bs) (fun A out s H vs Q E hr h => body cdv A out s H vs Q E hr h)
    exact all A out s H us _ Q E hr en r ⟨[v], more, rfl, rfl, Nat.le_trans small (by decide), go⟩
  · obtain ⟨v', more, e, _, go⟩ := h
    cases e
    have hn : H s.heap.objs.size = none := en.hok.fresh (Nat.le_refl _)
    have new : ObjOk P w (upd H s.heap.objs.size (.tup [])) (s.heap.push ({ cls := .type "tuple", data := .seq ([] : List Value).toArray } : Obj)) s.heap.objs.size (.tup []) := ⟨Nat.zero_le _, [], .nil, ⟨_, Heap.get?_push_size _ rfl, rfl, _, rfl⟩⟩
    have un := StX.un_laid (fs := frs out) (s := s) (o := ({ cls := .type "tuple", data := .seq ([] : List Value).toArray } : Obj)) (u := .tup []) hn
    refine StX.run_bnd (N := N) (ps := [p1, pr]) lk code S hr en (G := fun xs H2 => ∃ p, H p = none ∧ xs = [v, .ref p] ∧ H2 = upd H p (.tup [])) (fun A' Ex Q' q => ?_) fun s2 H2 xs ⟨p, np, e1, e2⟩ hr' => ?_
    · rw [bk]
      refine wpAny_bind (wpAny_newTuple (wpAny_pure ?_) (Nat.zero_le _))
      exact q _ _ [v, .ref s.heap.objs.size] [u, .ref s.heap.objs.size] (StX.env0_laid en new) un rfl (fun e s' => up out s H _ _ E e s' un (fun b o z => Heap.get?_push_of_some _ z) rfl) (.cons r (.cons rfl .nil)) rfl ⟨_, hn, rfl, rfl⟩
    · subst e1 e2
      exact body cdv A out s2 _ _ Q E hr' (go p np)
section
variable {X : Cx} {CX : CXT} {k : Nat} {f : Addr} {p1 x : Str} {sp : Sp} {E : XK} {e : Expr} {es : List Expr} {te : TE} {t : TA} {p pos kp : Pos}
/-- f(e, ..) -/
theorem pe_star (F : Star1 X.prog X.w X.K X.mg X.base CX k f p1 sp) (hr : Room k X.A) (gl : Gl X x) (hm : X.mg x = some (.ref f)) (hk : PySem.W.keepIn X.K (.ref f) = true) (hx : Passes CX X E) (ha : PA X (e :: es) t)
    (hst : starEach (e :: es) X.env = (false, eval e X.env) :: starEach es X.env := by rfl) (hpl : (backTo pos (starEach es X.env)).any (·.1) = false := by rfl) (hdb : (x == ("__debug__" : Str)) = false := by decide) :
    PE X (.Call (.Name x p) (e :: es) [] pos) (fun σ H Q => t σ H fun vs H1 => StarW sp vs H1 Q E) :=
  ⟨fun pins s σ H Q I h => wpAny_Call_Name_kw (ld_glob I gl hm (PySem.W.callWith_K (h₀ := X.base) I.ok.mod.kin hk (thn (ha.run pos pins s σ H _ I h) fun us s1 ⟨vs, H1, I1, r, q⟩ => ⟨I1.kIn, wpAny_call (run_fnR F.pos hr hx I1 r q)⟩) hst hpl) hdb)⟩
/-- f(a = e) -/
theorem pe_starK (F : Star1 X.prog X.w X.K X.mg X.base CX k f p1 sp) (hr : Room k X.A) (gl : Gl X x) (hm : X.mg x = some (.ref f)) (hk : PySem.W.keepIn X.K (.ref f) = true) (hx : Passes CX X E) (he : PE X e te)
    (hall : (backToKw pos (keywordEach [⟨some p1, e, kp⟩] X.env)).all (·.1.isSome) = true := by rfl) (hks : (backToKw pos (keywordEach [⟨some p1, e, kp⟩] X.env)).filterMap (·.1) = [p1] := by rfl)
    (hpl : ((backTo pos (starEach [] X.env)).any (·.1) || (backToKw pos (keywordEach [⟨some p1, e, kp⟩] X.env)).any (·.1.isNone)) = false := by rfl) (hdb : (x == ("__debug__" : Str)) = false := by decide) :
    PE X (.Call (.Name x p) [] [⟨some p1, e, kp⟩] pos) (fun σ H Q => te σ H fun v H1 => ∃ v', [v] = [v'] ∧ StarW sp [v'] H1 Q E) := by
  refine ⟨fun pins s σ H Q I h => ?_⟩
  refine wpAny_Call_Name_kw (ld_glob I gl hm ?_ hdb)
  refine PySem.W.callWith_KW0 (first := []) (h₀ := X.base) I.ok.mod.kin hk hall (thn ((pk_cons (kpos := kp) (nm := some p1) he pk_nil).run pos pins s σ H (fun zs H1 => ∃ v, zs = [v] ∧ StarW sp [v] H1 Q E) I h) fun ws s2 ⟨zs, H2, I2, rz, v, ez, q⟩ => ⟨I2.kIn, ?_⟩) hpl
  subst ez
  obtain ⟨u, rfl, ru⟩ := vals1 rz
  rw [hks]
  refine wpAny_call (codeAny_mono (F.key X.A X.stack s2 H2 u v Q E hr I2.env0 ru q) fun r s' hq => ?_)
  cases r with
  | error er => exact hx _ σ H2 s2 er s' I2 hq
  | ok fl =>
    cases fl with
    | ret w' => exact I2.after hq
    | next => exact False.elim hq
    | brk => exact False.elim hq
    | cont => exact False.elim hq
end
end Tz
namespace Tz
open PySem PySem.Spec PyProof.Rows L2 TzF TzRepr
/-! ### what a call does is heard: a tuple tells it -/
theorem pe_up {X : Cx} {e : Expr} {t : TE} (h : PE X e t) : PE X e (fun σ H Q => ∃ Q0 : VK, t σ H Q0 ∧ ∀ v J, Q0 v J → Q v J) :=
  ⟨fun pins s σ H Q I ⟨Q0, q, up⟩ => wpAny_mono (h.run pins s σ H Q0 I q) (fun u s' ⟨v, J, I', r, z⟩ => ⟨v, J, I', r, up v J z⟩) fun _ _ z => z⟩
/-- the tuple at p is new -/
def Tup (H : Hp) (ys : List V) (Q : VK) : Prop := ∀ p H', H p = none → Ex H H' → H' p = some (.tup ys) → Q (.ref p) H'
def Catch1 (X : Addr) (f tag : Str) (Q : VK) : XK := fun k d H => k = .ref X ∧ ∃ dd v, d = some dd ∧ H dd = some (.xd [(f, v)]) ∧ Tup H [.str tag, v] Q
def Catch2 (X : Addr) (f g tag : Str) (Q : VK) : XK := fun k d H => k = .ref X ∧ ∃ dd u v, d = some dd ∧ H dd = some (.xd [(g, v), (f, u)]) ∧ Tup H [.str tag, u, v] Q
theorem Tup.go {H : Hp} {ys : List V} {Q : VK} {p : Addr} (h : Tup H ys Q) (np : H p = none) : Q (.ref p) (upd H p (.tup ys)) := h p _ np (Ex.new np) upd_same
/-- one field of a caught error -/
theorem xf1 {H : Hp} {a dd X : Addr} {k : Value} {d : Option Addr} {f : Str} {v : V} {Q : VK} (e1 : k = .ref X) (e2 : d = some dd) (h : H dd = some (.xd [(f, v)])) (q : Q v H) :
    V.ref a = .ref a ∧ k = .ref X ∧ ∃ (z : Addr) (fs : List (Str × V)) (y : V), d = some z ∧ H z = some (.xd fs) ∧ fs.lookup f = some y ∧ Q y H := ⟨rfl, e1, dd, _, v, e2, h, by simp [List.lookup], q⟩
theorem xf2 {H : Hp} {a dd X : Addr} {k : Value} {d : Option Addr} {f g n : Str} {u v y : V} {Q : VK} (e1 : k = .ref X) (e2 : d = some dd) (h : H dd = some (.xd [(g, v), (f, u)])) (hl : List.lookup n [(g, v), (f, u)] = some y) (q : Q y H) :
    V.ref a = .ref a ∧ k = .ref X ∧ ∃ (z : Addr) (fs : List (Str × V)) (y : V), d = some z ∧ H z = some (.xd fs) ∧ fs.lookup n = some y ∧ Q y H := ⟨rfl, e1, dd, _, y, e2, h, hl, q⟩
/-! ### all but z, and but the tables, is as it was -/
def Go (z : Addr) (H H' : Hp) : Prop := ∀ a o, a ≠ z → (∀ ps, o ≠ .tbl ps) → H a = some o → H' a = some o
section
variable {z c a x : Addr} {H H1 H2 : Hp} {C : Addr} {w : Nat} {u : Int} {cells : List Int} {t : Nat}
theorem Go.refl : Go z H H := fun _ _ _ _ h => h
theorem Go.trans (a : Go z H H1) (b : Go z H1 H2) : Go z H H2 := fun x o n m h => b x o n m (a x o n m h)
theorem Fw.go (f : Fw z H H1) : Go z H H1 := fun a o n _ h => f a o n h
theorem Ex.go (f : Ex H H1) : Go z H H1 := fun a o _ _ h => f a o h
theorem Go.ext (f : LamX.ExtN H H1) : Go z H H1 := fun a o _ m h => f a o h m
theorem PenAt.ext (h : PenAt H z c cells t) (e : LamX.ExtN H H1) : PenAt H1 z c cells t := by
  obtain ⟨⟨i, l, h1, h2⟩, h3, h4, h5⟩ := h
  exact ⟨⟨i, l, e _ _ h1 (fun _ q => by cases q), h2⟩, e _ _ h3 (fun _ q => by cases q), h4, h5⟩
theorem WordAt.go (h : WordAt C H x w u) (g : Go z H H1) (n : x ≠ z) : WordAt C H1 x w u := by
  obtain ⟨⟨dx, h1⟩, h2, h3, h4, h5⟩ := h
  exact ⟨⟨dx, g _ _ n (fun _ q => by cases q) h1⟩, h2, h3, h4, h5⟩
theorem WordAt.ext (h : WordAt C H x w u) (e : LamX.ExtN H H1) : WordAt C H1 x w u := by
  obtain ⟨⟨dx, h1⟩, h2, h3, h4, h5⟩ := h
  exact ⟨⟨dx, e _ _ h1 (fun _ q => by cases q)⟩, h2, h3, h4, h5⟩
theorem PenAt.isl (h : PenAt H z c cells t) : ∃ xs, H z = some (.lst xs) := by
  obtain ⟨⟨i, l, h1, _⟩, _⟩ := h
  exact ⟨_, h1⟩
theorem tabs_go {T : List (Addr × Str)} (h : LamX.Tabs T H) (f : Fw z H H1) (hz : ∃ xs, H z = some (.lst xs)) : LamX.Tabs T H1 := fun p hp => by
  obtain ⟨xs, hz⟩ := hz
  obtain ⟨ps, h1, h2, h3⟩ := h p hp
  refine ⟨ps, f _ _ (ne_of h1 hz (by intro q; cases q)) h1, h2, fun pos cv hc => ?_⟩
  obtain ⟨c, e1, e2⟩ := h3 pos cv hc
  exact ⟨c, e1, f _ _ (ne_of e2 hz (by intro q; unfold LamX.CodeO at q; cases q)) e2⟩
end
/-! ### a thing beside the pen, its text known -/
theorem Flat.go {C z : Addr} {H H1 : Hp} {y : V} {t : Str} (s : Flat C y t H) (g : Go z H H1) (hz : ∃ xs, H z = some (.lst xs)) : Flat C y t H1 := by
  rcases s with s | s | ⟨a, dx, fs, h1, h2, w, u, W, h3⟩
  · exact .inl s
  · exact .inr (.inl s)
  · obtain ⟨xs, hz⟩ := hz
    have n : a ≠ z := ne_of h2 hz (by intro q; cases q)
    exact .inr (.inr ⟨a, dx, fs, h1, g _ _ n (fun _ q => by cases q) h2, w, u, W.go g n, h3⟩)
theorem Shown.go {C z : Addr} {H H1 : Hp} {y : V} {t : Str} (s : Shown C H y t) (g : Go z H H1) (hz : ∃ xs, H z = some (.lst xs)) (n : y ≠ .ref z) : Shown C H1 y t := by
  have each : ∀ {xs : List V} {ts : List Str}, Each (Flat C) xs ts H → Each (Flat C) xs ts H1 := fun p => ⟨p.1, fun i x t h1 h2 => (p.2 i x t h1 h2).go g hz⟩
  rcases s with s | ⟨a, h1, h2, h3⟩ | ⟨l, xs, ts, h1, h2, h3, h4⟩ | ⟨l, xs, ts, h1, h2, h3, h4⟩
  · exact .inl (s.go g hz)
  · exact .inr (.inl ⟨a, h1, g _ _ (fun q => n (by rw [h1, q])) (fun _ q => by cases q) h2, h3⟩)
  · exact .inr (.inr (.inl ⟨l, xs, ts, h1, g _ _ (fun q => n (by rw [h1, q])) (fun _ q => by cases q) h2, h3, each h4⟩))
  · exact .inr (.inr (.inr ⟨l, xs, ts, h1, g _ _ (fun q => n (by rw [h1, q])) (fun _ q => by cases q) h2, h3, each h4⟩))
theorem two_each {D : Rpr} {H : Hp} {a b : V} {t u : Str} (h1 : D a t H) (h2 : D b u H) : Each D [a, b] [t, u] H := ⟨rfl, fun i x s e1 e2 => by
  match i with
  | 0 => cases e1; cases e2; exact h1
  | 1 => cases e1; cases e2; exact h2
  | i + 2 => simp at e1⟩
theorem three_each {D : Rpr} {H : Hp} {a b c : V} {t u v : Str} (h1 : D a t H) (h2 : D b u H) (h3 : D c v H) : Each D [a, b, c] [t, u, v] H := ⟨rfl, fun i x s e1 e2 => by
  match i with
  | 0 => cases e1; cases e2; exact h1
  | 1 => cases e1; cases e2; exact h2
  | 2 => cases e1; cases e2; exact h3
  | i + 3 => simp at e1⟩
end Tz
namespace Tz
open PySem PySem.Spec PyProof.Rows L2 TzF TzRepr
def TTH (HE : VK → XK) : (XK → Hp → VK → Prop) → Hp → VK → Prop := fun tl H Q => ∀ H0, Ex H H0 → tl (HE Q) H0 (fun v H1 => Tup H1 [.str "made", v] Q)
def HE3 (B1 B2 U : Addr) (Q : VK) : XK := fun k d H => Catch1 B1 "width" "width" Q k d H ∨ (Catch1 B2 "value" "word" Q k d H ∨ Catch2 U "one" "other" "unlike" Q k d H)
section
variable {B1 B2 U : Addr} {Q : VK} {H : Hp} {y : V} {w w' : Int}
theorem fly_width (h : ∀ H1, Ex H H1 → Tup H1 [.str "width", y] Q) : Flies B1 [("width", y)] H (HE3 B1 B2 U Q) := fun d H' e q => .inl ⟨rfl, d, y, rfl, q, h H' e⟩
theorem fly_value (h : ∀ H1, Ex H H1 → Tup H1 [.str "word", y] Q) : Flies B2 [("value", y)] H (HE3 B1 B2 U Q) := fun d H' e q => .inr (.inl ⟨rfl, d, y, rfl, q, h H' e⟩)
theorem fly_unlike (h : ∀ H1, Ex H H1 → Tup H1 [.str "unlike", .int w, .int w'] Q) : Flies U [("other", .int w'), ("one", .int w)] H (HE3 B1 B2 U Q) := fun d H' e q => .inr (.inr ⟨rfl, d, _, _, rfl, q, h H' e⟩)
end
/-! ### totals of things -/
abbrev Itm := V × Res × Str
inductive Out where
  | made (v : Int) | word (y : V) (tx : Str) | unlike (w : Nat)
def outc (w : Nat) : Int → List Itm → Out
  | s, [] => .made s
  | s, (_, .val v, _) :: l => outc w (cr w (s + v)) l
  | _, (_, .unlike w', _) :: _ => .unlike w'
  | _, (y, .bad, tx) :: _ => .word y tx
def Out.ts (w : Nat) : Out → List Str
  | .made v => [reprText "made", wtext w v]
  | .word _ tx => [reprText "word", tx]
  | .unlike w' => [reprText "unlike", PyData.shown (.int (w : Int)), PyData.shown (.int (w' : Int))]
/-- what the sum of them does -/
def OutK (C B U : Addr) (w : Nat) (o : Out) (H : Hp) (Q : VK) (E : XK) : Prop := match o with
  | .made v => ∀ a H', Ex H H' → WordAt C H' a w v → Q (.ref a) H'
  | .word y _ => Flies B [("value", y)] H E
  | .unlike w' => Flies U [("other", .int w'), ("one", .int w)] H E
/-- the first one a word, the others anything -/
def Lead (C : Addr) (H : Hp) (y : V) (w : Nat) (u : Int) : Prop := ∃ x, y = .ref x ∧ WordAt C H x w u
def spTotal (C B U : Addr) : Sp := fun vs H Q E => ∃ y p its, vs = [y, .ref p] ∧ H p = some (.tup (its.map (·.1))) ∧
  ((∃ w u, Lead C H y w u ∧ (∀ i ∈ its, Side C H w i.1 i.2.1) ∧ OutK C B U w (outc w u its) H Q E) ∨ (∃ g, Kd C H y g ∧ g ≠ .own ∧ Flies B [("value", y)] H E))
end Tz
namespace Tz
open PySem PySem.Spec PyProof.Rows L2 TzF TzRepr
/-! ### rules whose reading names K itself: within comprehensions and lambdas -/
section
variable {X : Cx} {K : PySem.W.Frag} {e a : Expr} {te ta : TE} {n : Str} {pos : Pos}
theorem pe_fldK (hK : X.K = K) (he : PE X e te) (hb : attributeBase e n X.env (eval e X.env) = eval e X.env := by rfl) : PE X (.Attribute e n pos) (tFld K te n) := by
  subst hK
  exact pe_fld he hb
theorem pt_truthK (hK : X.K = K) (ha : PE X a ta) (he : ∀ whole, isTrue a X.env whole = (do let v ← whole; standAt a.pos; holding [v] (truthy v))) : PT X a (fun σ H Q => ta σ H fun x H' => ∃ k, TruV K x H' k ∧ Q k H') := by
  subst hK
  exact pt_truth ha he
end
theorem ix_listK {X : Cx} {K : PySem.W.Frag} (hK : X.K = K) : IxR X (rIxL K) := by
  subst hK
  exact ix_list
theorem ix_tupK {X : Cx} {K : PySem.W.Frag} (hK : X.K = K) : IxR X (rIxT K) := by
  subst hK
  exact ix_tup
/-! ### tests that are decided -/
theorem iteD {c A B : Prop} [Decidable c] (hc : c) (h : A) : if decide c = true then A else B := by
  rw [decide_eq_true hc]
  exact iteT h
theorem iteN {c A B : Prop} [Decidable c] (hc : ¬ c) (h : B) : if decide c = true then A else B := by
  rw [decide_eq_false hc]
  exact iteF h
end Tz
namespace TzBit
open PySem PySem.Spec PyProof.Rows L2 PySem.NumText PySem.Calls
/-! int(t, 2) of a text of bits -/
def IsBit (c : Nat) : Prop := c = 48 ∨ c = 49
theorem bit_hex {c : Nat} (h : IsBit c) : Hx.IsHex c := .inl (by unfold IsBit at h; omega)
theorem bit_val {c : Nat} (h : IsBit c) : Hx.hv c = c - 48 := by
  unfold Hx.hv
  exact if_pos (by unfold IsBit at h; omega)
theorem bit_step {ds : Array Nat} {b : Bool} {c : Nat} (h : IsBit c) : PySem.NumText.step 2 (ds, b) c = some (ds.push (c - 48), true) := by
  have hr : c ≠ 95 := by unfold IsBit at h; omega
  have lt : c - 48 < 2 := by unfold IsBit at h; omega
  unfold PySem.NumText.step
  rw [if_neg (fun z => hr (beq_iff_eq.mp z)), Hx.digit_hex (bit_hex h), bit_val h]
  exact if_pos lt
theorem bit_fold : ∀ (cs : List Nat) (ds : Array Nat), (∀ c ∈ cs, IsBit c) → cs.foldlM (PySem.NumText.step 2) (ds, true) = some (cs.foldl (fun a c => a.push (c - 48)) ds, true)
  | [], _, _ => rfl
  | c :: cs, ds, h => by
    rw [List.foldlM_cons, bit_step (h c List.mem_cons_self)]
    exact bit_fold cs (ds.push (c - 48)) fun d hd => h d (List.mem_cons_of_mem _ hd)
theorem bit_digits {cs : List Nat} (h : ∀ c ∈ cs, IsBit c) (hne : cs ≠ []) : digits? 2 cs = some (cs.foldl (fun a c => a.push (c - 48)) #[]) := by
  match cs, hne with
  | c :: cs, _ =>
    have q := bit_fold cs ((#[] : Array Nat).push (c - 48)) fun d hd => h d (List.mem_cons_of_mem _ hd)
    unfold digits?
    rw [List.foldlM_cons, bit_step (h c List.mem_cons_self)]
    show (cs.foldlM (PySem.NumText.step 2) ((#[] : Array Nat).push (c - 48), true)).bind _ = _
    rw [q]
    all_goals rfl
theorem bit_push : ∀ (cs : List Nat) (ds : Array Nat), (cs.foldl (fun a c => a.push (c - 48)) ds).foldl (fun a d => a * 2 + d) 0 = cs.foldl (fun a c => 2 * a + (c - 48)) (ds.foldl (fun a d => a * 2 + d) 0)
  | [], _ => rfl
  | c :: cs, ds => by
    rw [List.foldl_cons, bit_push cs (ds.push (c - 48)), List.foldl_cons]
    congr 1
    simp [Nat.mul_comm]
theorem bit_based {cs : List Nat} (h : ∀ c ∈ cs, IsBit c) : based 2 cs = (2, false, cs) := by
  match cs, h with
  | [], _ => rfl
  | [a], h =>
    rcases (show a = 48 ∨ a = 49 from h a List.mem_cons_self) with rfl | rfl <;> rfl
  | a :: c :: r, h =>
    rcases (show a = 48 ∨ a = 49 from h a List.mem_cons_self) with rfl | rfl <;>
    rcases (show c = 48 ∨ c = 49 from h c (List.mem_cons_of_mem _ List.mem_cons_self)) with rfl | rfl <;> rfl
theorem bit_read {cs : List Nat} (h : ∀ c ∈ cs, IsBit c) (hne : cs ≠ []) : (int_private% "readNumeral") 0 2 cs = (int_private% "Numeral.value") ((Tz.worth cs : Nat) : Int) := by
  have hx : ∀ c ∈ cs, Hx.IsHex c := fun c hc => bit_hex (h c hc)
  have hr : ∀ c ∈ cs.reverse, Hx.IsHex c := fun c hc => hx c (List.mem_reverse.mp hc)
  refine (readNumeral_eq 0 2 cs).trans ?_
  rw [Hx.dropB hx, Hx.signH hx]
  show judge 0 false (based 2 cs).1 (based 2 cs).2.1 (digits? (based 2 cs).1 (((based 2 cs).2.2.reverse.dropWhile blank).reverse)) = _
  rw [bit_based h]
  show judge 0 false 2 false (digits? 2 ((cs.reverse.dropWhile blank).reverse)) = _
  rw [Hx.dropB hr, List.reverse_reverse, bit_digits h hne]
  show (int_private% "Numeral.value") (((cs.foldl (fun a c => a.push (c - 48)) (#[] : Array Nat)).foldl (fun a d => a * 2 + d) 0 : Nat) : Int) = _
  have z : (#[] : Array Nat).foldl (fun a d => a * 2 + d) 0 = 0 := by first | rfl | simp
  rw [bit_push, z]
  all_goals rfl
theorem bit_gives {x : PySem.Str} {u t : Tok} (hl : x.length ≤ 640) (h : ∀ c ∈ x.cps.toList, IsBit c) (hne : x.cps.toList ≠ []) :
    Gives (Builtin.«int.__new__» ⟨[.type "int", .str x u, .int 2 t], []⟩) (.int ((Tz.worth x.cps.toList : Nat) : Int)) :=
  .of_wp fun M A E s Q hQ => by
    obtain ⟨hp, g, d, tk, os⟩ := s
    have f1 := F.conv_sub_int
    have f2 := F.madeHere_int
    have f6 : typeOf (.str x u) = pure (.type "str") := rfl
    obtain ⟨e1, e2⟩ := Hx.seen_hex fun c hc => bit_hex (h c hc)
    have hs : (numSeenOf x).length ≤ 640 := by
      rw [e2, Array.length_toList]
      exact hl
    have hr : (int_private% "readNumeral") 0 2 (numSeenOf x) = (int_private% "Numeral.value") ((Tz.worth x.cps.toList : Nat) : Int) := by
      rw [e2]
      exact bit_read h hne
    have ha : ((numSeenOf x).length == (numTextOf x).length) = true := by
      rw [e1, e2]
      exact beq_self_eq_true _
    have hk := Hx.Hid.mk (And.intro hs (And.intro hr ha))
    clear hs hr ha e1 e2 hl hne h
    repeat (any_goals (first
      | assumption
      | ((with_reducible show wpAny _ _ ((int_private% "intFromText") _ _ _) _ _ _); refine Hx.wp_textB hk.out.1 hk.out.2.1 hk.out.2.2 ?_)
      | wp_step))
    all_goals first | exact ⟨_, rfl, hQ⟩ | skip
theorem bit_call {prog : Program} {w : World} {A : Around} {E : Value → Shared → Prop} {s : Shared} {Q : Value → Shared → Prop} {x : PySem.Str} {u t : Tok} (hl : x.length ≤ 640) (h : ∀ c ∈ x.cps.toList, IsBit c) (hne : x.cps.toList ≠ [])
    (hQ : Q (.int ((Tz.worth x.cps.toList : Nat) : Int) s.toks) { s with toks := s.toks + 1 }) : wpAny (model prog w) A (call (.type "int") [.str x u, .int 2 t]) Q E s :=
  callType_new F.called_int F.newNe_int (Hx.typeCall_int_2 _ _) (Hx.newCall_int_2 _ _) (fun obj => F.initArgs_range_2 obj _ _) F.entry_int_new (bit_gives hl h hne).meets (show (Made.int ((Tz.worth x.cps.toList : Nat) : Int)).post _ s from ⟨rfl, hQ⟩)
/-- int(t, 2) -/
theorem call_int_bits {X : Cx} : CallR X (.type "int") (fun xs H Q => ∃ l : List Nat, xs = [.str (SX.S l), .int 2] ∧ l ≠ [] ∧ l.length ≤ 640 ∧ (∀ c ∈ l, IsBit c) ∧ Q (.int ((Tz.worth l : Nat) : Int)) H) := by
  intro pins s σ H xs us Q I r h
  obtain ⟨l, rfl, hne, hl, hx, q⟩ := h
  obtain ⟨u, w', rfl, r1, r2⟩ := vals2 r
  obtain ⟨t1, rfl⟩ := r1
  obtain ⟨t2, rfl⟩ := r2
  exact bit_call (x := SX.S l) (by rw [SX.S_len]; exact hl) hx hne ⟨.int ((Tz.worth l : Nat) : Int), H, I.tok _, ⟨_, rfl⟩, q⟩
end TzBit
namespace Tz
open PySem PySem.Spec PyProof.Rows L2 TzF TzRepr
/-! ### the text of a word's bits -/
theorem bt_get (v : Nat) : ∀ (n i : Nat), i < n → (bt v n)[i]? = some (48 + v / 2 ^ (n - 1 - i) % 2)
  | 0, i, h => absurd h (Nat.not_lt_zero i)
  | n + 1, 0, _ => by
    rw [bt]
    rfl
  | n + 1, i + 1, h => by
    have e := bt_get v n i (by omega)
    rw [bt, List.getElem?_cons_succ, e]
    congr 5
    omega
theorem join_ones : ∀ l : List Nat, TL.joinL [] (l.map fun c => [c]) = l
  | [] => rfl
  | [c] => rfl
  | c :: d :: r => by
    have e := join_ones (d :: r)
    rw [List.map_cons, List.map_cons, TL.joinL, ← List.map_cons (f := fun c => [c]), e]
    rfl
theorem join_bits (l : List Nat) : Txt.join ("" : Str) ((l.map fun c => SX.S [c])) = SX.S l := by
  have e := SX.join_S [] (l.map fun c => [c])
  rw [List.map_map, join_ones] at e
  exact e
theorem len_bits (l : List Nat) : ((l.map fun c => SX.S [c]).map (·.length)).sum = l.length := by
  induction l with
  | nil => rfl
  | cons c r ih =>
    rw [List.map_cons, List.map_cons, List.sum_cons, ih, SX.S_len, List.length_cons]
    show 1 + r.length = r.length + 1
    omega
def spStr (C : Addr) : Sp := fun vs H Q _ => ∃ x, ∃ w : Nat, ∃ u : Int, vs = [.ref x] ∧ WordAt C H x w u ∧ ∀ H', Ex H H' → Q (.str (SX.S (bt u.toNat w))) H'
theorem bit_is {u : Int} (u0 : 0 ≤ u) (k : Nat) : Builtin.bitAnd (u / 2 ^ k) 1 = ((u.toNat / 2 ^ k % 2 : Nat) : Int) := by
  have e : Builtin.bitAnd (u / 2 ^ k) (2 ^ 1 - 1) = (u / 2 ^ k) % 2 ^ 1 := PySem.W.kbt_mask _ 1
  have e1 : (2 : Int) ^ 1 - 1 = 1 := by decide
  have e2 : (2 : Int) ^ 1 = 2 := by decide
  rw [e1, e2] at e
  rw [e]
  have hu : u = (u.toNat : Int) := (Int.toNat_of_nonneg u0).symm
  conv => lhs; rw [hu]
  rw [Int.natCast_emod, Int.natCast_ediv, Int.natCast_pow]
  rfl
end Tz
namespace Tz
open PySem PySem.Spec PyProof.Rows L2 TzF TzRepr
/-- what a thing at y needs of the heap stays: all that is no list, and y's own object -/
def Stay (y : V) (H H' : Hp) : Prop := ∀ a o, H a = some o → (∀ ps, o ≠ .tbl ps) → ((∃ xs, o = .lst xs) → y = .ref a) → H' a = some o
theorem Stay.ext {y : V} {H H' : Hp} (e : LamX.ExtN H H') : Stay y H H' := fun a o h n _ => e a o h n
theorem Stay.ex {y : V} {H H' : Hp} (e : Ex H H') : Stay y H H' := fun a o h _ _ => e a o h
theorem Stay.go {y : V} {z : Addr} {H H' : Hp} (g : Go z H H') (hz : ∃ xs, H z = some (.lst xs)) (n : y ≠ .ref z) : Stay y H H' := fun a o h m l => g a o (fun e => by
  obtain ⟨xs, hz⟩ := hz
  subst e
  rw [hz] at h
  cases h
  exact n (l ⟨_, rfl⟩)) m h
theorem Stay.upd {y : V} {z : Addr} {H : Hp} {u : HO} (hz : ∃ xs, H z = some (.lst xs)) (n : y ≠ .ref z) : Stay y H (upd H z u) := Stay.go (z := z) (fun a o na _ h => by rw [upd_ne na]; exact h) hz n
section
variable {C : Addr} {H H' : Hp} {w : Nat} {u : Int} {y : V} {t : Str} {g : Tag} {r : Res}
theorem WordAt.stay {x : Addr} {y : V} (h : WordAt C H x w u) (s : Stay y H H') : WordAt C H' x w u := by
  obtain ⟨⟨dx, h1⟩, h2, h3, h4, h5⟩ := h
  exact ⟨⟨dx, s _ _ h1 (fun _ q => by cases q) (fun ⟨_, q⟩ => by cases q)⟩, h2, h3, h4, h5⟩
theorem Kd.stay (k : Kd C H y g) (s : Stay y H H') : Kd C H' y g := k.step fun a o h m e => s a o h m fun _ => e
theorem Side.stay (k : Side C H w y r) (s : Stay y H H') : Side C H' w y r := k.step fun a o h m e => s a o h m fun _ => e
theorem Flat.stay {x y : V} (f : Flat C x t H) (s : Stay y H H') : Flat C x t H' := by
  rcases f with f | f | ⟨a, dx, fs, h1, h2, w, u, W, h3⟩
  · exact .inl f
  · exact .inr (.inl f)
  · exact .inr (.inr ⟨a, dx, fs, h1, s _ _ h2 (fun _ q => by cases q) (fun ⟨_, q⟩ => by cases q), w, u, W.stay s, h3⟩)
theorem Shown.stay (d : Shown C H y t) (s : Stay y H H') : Shown C H' y t := by
  have each : ∀ {xs : List V} {ts : List Str}, Each (Flat C) xs ts H → Each (Flat C) xs ts H' := fun p => ⟨p.1, fun i x t h1 h2 => (p.2 i x t h1 h2).stay s⟩
  rcases d with d | ⟨a, h1, h2, h3⟩ | ⟨l, xs, ts, h1, h2, h3, h4⟩ | ⟨l, xs, ts, h1, h2, h3, h4⟩
  · exact .inl (d.stay s)
  · exact .inr (.inl ⟨a, h1, s _ _ h2 (fun _ q => by cases q) (fun _ => h1), h3⟩)
  · exact .inr (.inr (.inl ⟨l, xs, ts, h1, s _ _ h2 (fun _ q => by cases q) (fun _ => h1), h3, each h4⟩))
  · exact .inr (.inr (.inr ⟨l, xs, ts, h1, s _ _ h2 (fun _ q => by cases q) (fun _ => h1), h3, each h4⟩))
end
/-! ### what is due -/
def Verd (C : Addr) (H : Hp) (w : Nat) (i0 : Itm) (its : List Itm) (o : Out) : Prop :=
  (∃ u, Lead C H i0.1 w u ∧ (∀ i ∈ its, Side C H w i.1 i.2.1 ∧ Shown C H i.1 i.2.2) ∧ o = outc w u its) ∨ (∃ g, Kd C H i0.1 g ∧ g ≠ .own ∧ Shown C H i0.1 i0.2.2 ∧ o = .word i0.1 i0.2.2)
theorem Verd.stay {C : Addr} {H H' : Hp} {w : Nat} {i0 : Itm} {its : List Itm} {o : Out} (h : Verd C H w i0 its o) (s0 : Stay i0.1 H H') (s : ∀ i ∈ its, Stay i.1 H H') : Verd C H' w i0 its o := by
  rcases h with ⟨u, ⟨x, e, W⟩, h, eo⟩ | ⟨g, d, ng, sh, eo⟩
  · exact .inl ⟨u, ⟨x, e, W.stay s0⟩, fun i hi => ⟨(h i hi).1.stay (s i hi), (h i hi).2.stay (s i hi)⟩, eo⟩
  · exact .inr ⟨g, d.stay s0, ng, sh.stay s0, eo⟩
theorem outc_word {C : Addr} {H : Hp} {w : Nat} {y : V} {tx : Str} : ∀ {its : List Itm} {u : Int}, (∀ i ∈ its, Side C H w i.1 i.2.1 ∧ Shown C H i.1 i.2.2) → outc w u its = .word y tx → Shown C H y tx
  | [], _, _, e => by cases e
  | (x, .val v, t) :: l, u, h, e => outc_word (fun i hi => h i (List.mem_cons_of_mem _ hi)) e
  | (x, .unlike w', t) :: l, u, h, e => by cases e
  | (x, .bad, t) :: l, u, h, e => by
    cases e
    exact (h _ List.mem_cons_self).2
theorem outc_unlike {C : Addr} {H : Hp} {w w' : Nat} : ∀ {its : List Itm} {u : Int}, (∀ i ∈ its, Side C H w i.1 i.2.1 ∧ Shown C H i.1 i.2.2) → outc w u its = .unlike w' → w' ≤ 64
  | [], _, _, e => by cases e
  | (x, .val v, t) :: l, u, h, e => outc_unlike (fun i hi => h i (List.mem_cons_of_mem _ hi)) e
  | (x, .unlike w2, t) :: l, u, h, e => by
    cases e
    have s := (h _ List.mem_cons_self).1
    cases s with
    | unlike W ne => exact W.w64
  | (x, .bad, t) :: l, u, h, e => by cases e
section
variable {K : PySem.W.Frag} {C B1 B2 U p : Addr} {H H' : Hp} {w : Nat} {o : Out} {Q : VK}
theorem th_str {s : Str} : Thg K C p (.str s) (reprText s) H := .inl (.inr (.inl ⟨s, rfl, rfl⟩))
theorem small_log {n : Nat} (h : n ≤ 64) : ((n : Int)).natAbs.log2 < 1920 := by
  have : ((n : Int)).natAbs < 2 ^ 64 := by
    have : n < 2 ^ 64 := Nat.lt_of_le_of_lt h (by decide)
    simpa using this
  have := PySem.Flt.log2_lt_of (by decide) this
  omega
theorem th_nat {n : Nat} (h : n ≤ 64) : Thg K C p (.int (n : Int)) (PyData.shown (.int (n : Int))) H := .inl (.inl (.inr (.inr ⟨_, rfl, small_log h, rfl⟩)))
theorem th_word {a : Addr} {u : Int} (W : WordAt C H a w u) : Thg K C p (.ref a) (wtext w u) H := by
  obtain ⟨dx, h⟩ := W.ob
  exact .inl (.inr (.inr ⟨a, dx, _, rfl, h, w, u, W, rfl⟩))
/-- a tuple that tells it, new at p -/
def Tells (K : PySem.W.Frag) (C : Addr) (w : Nat) (o : Out) (H : Hp) (Q : VK) : Prop := ∀ p H' ys, Ex H H' → H p = none → H' p = some (.tup ys) → Each (Thg K C p) ys (o.ts w) H' → Q (.ref p) H'
theorem Tells.ex (k : Tells K C w o H Q) (e : Ex H H') : Tells K C w o H' Q := fun p H2 ys e2 np h t => k p H2 ys (e.trans e2) (back e np) h t
theorem out_heard (k : Tells K C w o H Q) (w64 : w ≤ 64) (sh : ∀ y tx, o = .word y tx → Shown C H y tx) (un : ∀ w', o = .unlike w' → w' ≤ 64) : OutK C B2 U w o H (fun v H2 => Tup H2 [.str "made", v] Q) (HE3 B1 B2 U Q) := by
  cases o with
  | made v => exact fun a H' e W p H2 np e2 hp => k p H2 _ (e.trans e2) (back e np) hp (two_each th_str (th_word (W.ex e2)))
  | word y tx => exact fly_value fun H1 e1 p H2 np e2 hp => k p H2 _ (e1.trans e2) (back e1 np) hp (two_each th_str (mon_Thg _ _ _ _ e2 (((sh y tx rfl).ex e1).at np)))
  | unlike w' => exact fly_unlike fun H1 e1 p H2 np e2 hp => k p H2 _ (e1.trans e2) (back e1 np) hp (three_each th_str (th_nat w64) (th_nat (un w' rfl)))
end
def spAsked (K : PySem.W.Frag) (C : Addr) (TL : List (Addr × Str)) : Sp := fun vs H Q _ => ∃ l i0 its w o, vs = [.ref l] ∧ H l = some (.lst ((i0 :: its).map (·.1))) ∧ its.length ≤ 3 ∧ LamX.Tabs TL H ∧ w ≤ 64 ∧ Verd C H w i0 its o ∧
  ∀ H1, LamX.ExtN H H1 → LamX.Tabs TL H1 → Tells K C w o H1 Q
def spDue (K : PySem.W.Frag) (C : Addr) : Sp := fun vs H Q _ => ∃ l i0 its w o, vs = [.ref l] ∧ H l = some (.lst ((i0 :: its).map (·.1))) ∧ its.length ≤ 3 ∧ w ≤ 64 ∧ Verd C H w i0 its o ∧ Tells K C w o H Q
/-- a thing that is drawn -/
def spThing (C : Addr) : Sp := fun vs H Q _ => ∃ z c cells t, ∃ w : Nat, vs = [.ref z, .int w] ∧ PenAt H z c cells t ∧ t ≤ 80000 ∧ 1 ≤ w ∧ w ≤ 64 ∧
  ∀ y r tx H', Side C H' w y r → Shown C H' y tx → tx.length ≤ 100 → (∀ a, y = .ref a → H a = none) → PenAt H' z c cells (t + 6) → Fw z H H' → Q y H'
theorem at0 {y : V} {ys : List V} : atI (y :: ys) 0 = some y := by
  have h : (y :: ys)[0]? = some y := rfl
  exact atI_nat h
theorem cut1 (y : V) (ys : List V) : cutV (y :: ys) (some 1) none = ys := by
  unfold cutV
  have e : HT.sIx (y :: ys).length 0 (some (1 : Int)) = min 1 (y :: ys).length := HT.sIx_nat (y :: ys).length 0 1
  rw [HT.sIx_none, e, List.length_cons, Nat.min_eq_left (by omega), List.drop_succ_cons, List.drop_zero, List.take_of_length_le (by omega)]
theorem Fw.back {z p : Addr} {H H' : Hp} (f : Fw z H H') (np : H' p = none) (n : p ≠ z) : H p = none := by
  cases q : H p with
  | none => rfl
  | some o =>
    rw [f _ _ n q] at np
    cases np
section
variable {C : Addr} {H : Hp}
theorem sh_int {i : Int} (h : i.natAbs.log2 < 1920) : Shown C H (.int i) (PyData.shown (.int i)) := .inl (.inl (.inr (.inr ⟨i, rfl, h, rfl⟩)))
theorem sh_bl (b : Bool) : Shown C H (.bl b) (PyData.shown (.bool b)) := .inl (.inl (.inr (.inl ⟨b, rfl, rfl⟩)))
theorem sh_non : Shown C H .non "None" := .inl (.inl (.inl ⟨rfl, rfl⟩))
theorem sh_str (s : Str) : Shown C H (.str s) (reprText s) := .inl (.inr (.inl ⟨s, rfl, rfl⟩))
theorem sh_word {a : Addr} {w : Nat} {u : Int} (W : WordAt C H a w u) : Shown C H (.ref a) (wtext w u) := by
  obtain ⟨dx, h⟩ := W.ob
  exact .inl (.inr (.inr ⟨a, dx, _, rfl, h, w, u, W, rfl⟩))
theorem sh_dic {a : Addr} (h : H a = some (.dK [])) : Shown C H (.ref a) "{}" := .inr (.inl ⟨a, rfl, h, rfl⟩)
theorem log_64 {i : Int} (h0 : 0 ≤ i) (h1 : i ≤ 18446744073709551616) : i.natAbs.log2 < 1920 := by
  have : i.natAbs < 2 ^ 65 := by omega
  have := PySem.Flt.log2_lt_of (by decide) this
  omega
theorem len_64 {i : Int} (h0 : 0 ≤ i) (h1 : i ≤ 18446744073709551616) : (PyData.shown (.int i)).length ≤ 100 := by
  rw [PyData.shown_int]
  exact Nat.le_trans (PyProof.Rows.toString_length_le h0 (k := 20) (by decide) (by omega)) (by decide)
theorem len_bl (b : Bool) : (PyData.shown (.bool b)).length ≤ 100 := by
  rw [PyData.shown_bool]
  cases b <;> decide +kernel
end
theorem minus1 : (-1 : Int).natAbs.log2 < 1920 ∧ (PyData.shown (.int (-1))).length ≤ 100 := by
  refine ⟨by decide, ?_⟩
  rw [PyData.shown_int]
  decide +kernel
def spLawT (K : PySem.W.Frag) (TL : List (Addr × Str)) : Sp := fun vs H Q _ => ∃ (a : Addr) (ns : List Int), vs = [.ref a] ∧ SqL K H a (ns.map V.int) ∧ ns.length ≤ 63 ∧ LamX.Tabs TL H ∧ ∀ H', Q (.bl true) H'
theorem outc_short {C : Addr} {H : Hp} {w : Nat} (w1 : 1 ≤ w) (w64 : w ≤ 64) : ∀ {its : List Itm} {s : Int}, 0 ≤ s → s ≤ mw w → (∀ i ∈ its, Side C H w i.1 i.2.1 ∧ i.2.2.length ≤ 10000) → ∀ t ∈ (outc w s its).ts w, t.length ≤ 10000
  | [], s, s0, s1, _, t, ht => by
    have m64 := mw_64 w64
    have ht : t ∈ [reprText "made", wtext w s] := ht
    rcases List.mem_cons.mp ht with rfl | ht
    · decide +kernel
    · rw [List.mem_singleton.mp ht]
      exact Nat.le_trans (wtext_len w64 s0 (by omega)) (by decide)
  | (x, .val v, tx) :: l, s, s0, s1, h, t, ht => by
    have b := (h _ List.mem_cons_self).1.val_bd
    have cb := cr_bd w1 (s + v)
    exact outc_short w1 w64 cb.1 cb.2 (fun i hi => h i (List.mem_cons_of_mem _ hi)) t ht
  | (x, .unlike w', tx) :: l, s, s0, s1, h, t, ht => by
    have sd := (h _ List.mem_cons_self).1
    have hw : w' ≤ 64 := by
      cases sd with
      | unlike W ne => exact W.w64
    have ht : t ∈ [reprText "unlike", PyData.shown (.int (w : Int)), PyData.shown (.int (w' : Int))] := ht
    rcases List.mem_cons.mp ht with rfl | ht
    · decide +kernel
    · rcases List.mem_cons.mp ht with rfl | ht
      · exact Nat.le_trans (len_64 (by omega) (by omega)) (by decide)
      · rw [List.mem_singleton.mp ht]
        exact Nat.le_trans (len_64 (by omega) (by omega)) (by decide)
  | (x, .bad, tx) :: l, s, s0, s1, h, t, ht => by
    have ht : t ∈ [reprText "word", tx] := ht
    rcases List.mem_cons.mp ht with rfl | ht
    · decide +kernel
    · rw [List.mem_singleton.mp ht]
      exact (h _ List.mem_cons_self).2
theorem ts_len (w : Nat) (o : Out) : (o.ts w).length ≤ 100 := by
  cases o <;> (show _ ≤ 100; simp [Out.ts])
theorem word_short {w : Nat} {y : V} {tx : Str} (h : tx.length ≤ 10000) : ∀ t ∈ (Out.word y tx).ts w, t.length ≤ 10000 := fun t ht => by
  have ht : t ∈ [reprText "word", tx] := ht
  rcases List.mem_cons.mp ht with rfl | ht
  · decide +kernel
  · rw [List.mem_singleton.mp ht]
    exact h
theorem bits_short {u w : Nat} (h : w ≤ 64) : (reprText (SX.S (bt u w))).length ≤ 10000 := by
  have e := StrLaws.reprText_len (SX.S (bt u w)) fun c hc => by
    have z : c ∈ bt u w := hc
    rcases bt_mem z with rfl | rfl <;> decide
  have l : (SX.S (bt u w)).length = w := by rw [SX.S_len, bt_len]
  have s : (reprText (SX.S (bt u w))).length ≤ 10 * (SX.S (bt u w)).length + 2 := by
    refine Nat.le_trans (Nat.le_of_eq ?_) e
    simp [Str.length]
  omega
theorem Kd.told {C a : Addr} {H : Hp} {y : V} {g : Tag} (d : Kd C H y g) (e : y = .ref a) : ¬ H a = none := fun n => by
  cases d with
  | non => cases e
  | bl b => cases e
  | int i => cases e
  | str z => cases e
  | lst h => cases e; rw [n] at h; cases h
  | tup h => cases e; rw [n] at h; cases h
  | dic h => cases e; rw [n] at h; cases h
  | own W =>
    obtain ⟨_, h⟩ := W.ob
    cases e
    rw [n] at h
    cases h
theorem Side.told {C a : Addr} {H : Hp} {w : Nat} {y : V} {r : Res} (s : Side C H w y r) (e : y = .ref a) : ¬ H a = none := by
  obtain ⟨g, d⟩ := s.kd
  exact d.told e
end Tz
namespace Tz
open PySem PySem.Spec PyProof.Rows L2 TzF TzRepr
/-! ### halves -/
def hmax (b : Nat) : Int := 2 ^ b - 1
def Halfs (b : Nat) (hs : List Int) : Prop := ∀ h ∈ hs, 0 ≤ h ∧ h ≤ hmax b
def NoHalf (b : Nat) (y : V) : Prop := ∀ n, y = .int n → ¬ (0 ≤ n ∧ n ≤ hmax b)
def OddW (y : V) : Prop := ∀ b : Nat, 1 ≤ b → b ≤ 32 → y ≠ .int ((2 * b : Nat) : Int)
/-- the j-th word of the halves -/
def pw (b : Nat) (hs : List Int) (j : Nat) : Int := hs.getD (2 * j) 0 * 2 ^ b + hs.getD (2 * j + 1) 0
def pk (b : Nat) (hs : List Int) (i : Nat) : List Int := (List.range i).map (pw b hs)
def hn (hs : List Int) : Nat := (hs.length + 1) / 2
theorem pk_succ (b : Nat) (hs : List Int) (i : Nat) : pk b hs (i + 1) = pk b hs i ++ [pw b hs i] := by
  unfold pk
  rw [List.range_succ, List.map_append]
  rfl
theorem pk_len (b : Nat) (hs : List Int) (i : Nat) : (pk b hs i).length = i := by
  unfold pk
  rw [List.length_map, List.length_range]
theorem hmax_pos {b : Nat} (h : 1 ≤ b) : 1 ≤ hmax b := mw_pos h
theorem hmax_mw (b : Nat) : hmax b = mw b := rfl
theorem getD_half {b : Nat} {hs : List Int} (h : Halfs b hs) (h1 : 1 ≤ b) (i : Nat) : 0 ≤ hs.getD i 0 ∧ hs.getD i 0 ≤ hmax b := by
  have := hmax_pos h1
  rw [List.getD_eq_getElem?_getD]
  cases e : hs[i]? with
  | none => exact ⟨Int.le_refl 0, by show (0 : Int) ≤ _; omega⟩
  | some v => exact h v (List.mem_of_getElem? e)
theorem pw_bd {b : Nat} {hs : List Int} (h : Halfs b hs) (h1 : 1 ≤ b) (j : Nat) : 0 ≤ pw b hs j ∧ pw b hs j ≤ mw (2 * b) := by
  have a := getD_half h h1 (2 * j)
  have c := getD_half h h1 (2 * j + 1)
  have e : (2 : Int) ^ (2 * b) = 2 ^ b * 2 ^ b := by rw [Nat.two_mul, Int.pow_add]
  have p : (0 : Int) < 2 ^ b := by have := mw_pos h1; unfold mw at this; omega
  unfold pw mw
  rw [e]
  generalize hs.getD (2 * j) 0 = x at a
  generalize hs.getD (2 * j + 1) 0 = y at c
  unfold hmax at a c
  generalize (2 : Int) ^ b = n at *
  have q : x * n ≤ (n - 1) * n := Int.mul_le_mul_of_nonneg_right a.2 (Int.le_of_lt p)
  have q0 : 0 ≤ x * n := Int.mul_nonneg a.1 (Int.le_of_lt p)
  rw [Int.sub_mul, Int.one_mul] at q
  omega
theorem pk_bd {b : Nat} {hs : List Int} (h : Halfs b hs) (h1 : 1 ≤ b) (i : Nat) : ∀ v ∈ pk b hs i, 0 ≤ v ∧ v ≤ mw (2 * b) := fun v hv => by
  unfold pk at hv
  obtain ⟨j, _, rfl⟩ := List.mem_map.mp hv
  exact pw_bd h h1 j
/-- by the width and the halves: an error leaves, or all is well -/
def Pk (C B1 B2 : Addr) (y : V) (ys : List V) (H : Hp) (E : XK) (good : Nat → List Int → Prop) : Prop :=
  (OddW y ∧ Flies B1 [("width", y)] H E) ∨ ∃ b : Nat, y = .int ((2 * b : Nat) : Int) ∧ 1 ≤ b ∧ b ≤ 32 ∧
    ((∃ hs z g rest, ys = hs.map V.int ++ z :: rest ∧ Halfs b hs ∧ Kd C H z g ∧ NoHalf b z ∧ Flies B2 [("value", z)] H E) ∨ ∃ hs, ys = hs.map V.int ∧ Halfs b hs ∧ hs.length ≤ 100 ∧ good b hs)
def spEvenX (C B : Addr) : Sp := fun vs H Q E => ∃ y g, vs = [y] ∧ Kd C H y g ∧ ((∃ b : Nat, y = .int ((2 * b : Nat) : Int) ∧ 1 ≤ b ∧ b ≤ 32 ∧ Q y H) ∨ (OddW y ∧ Flies B [("width", y)] H E))
def spHalvesX (C B : Addr) : Sp := fun vs H Q E => ∃ b : Nat, ∃ l ys, vs = [.int ((2 * b : Nat) : Int), .ref l] ∧ 1 ≤ b ∧ b ≤ 32 ∧ H l = some (.lst ys) ∧
  ((∃ hs z g rest, ys = hs.map V.int ++ z :: rest ∧ Halfs b hs ∧ Kd C H z g ∧ NoHalf b z ∧ Flies B [("value", z)] H E) ∨ ∃ hs, ys = hs.map V.int ∧ Halfs b hs ∧ Q .non H)
def spPackedX (C B1 B2 : Addr) : Sp := fun vs H Q E => ∃ y g l ys, vs = [y, .ref l] ∧ Kd C H y g ∧ H l = some (.lst ys) ∧
  Pk C B1 B2 y ys H E fun b hs => ∀ p H' xs, H p = none → Ex H H' → H' p = some (.lst (xs.map V.ref)) → Ws C H' (2 * b) xs (pk b hs (hn hs)) → Q (.ref p) H'
def spHalfTotX (C B1 B2 : Addr) : Sp := fun vs H Q E => ∃ y g l ys, vs = [y, .ref l] ∧ Kd C H y g ∧ H l = some (.lst ys) ∧
  Pk C B1 B2 y ys H E fun b hs => NewW C (2 * b) (cr (2 * b) (pk b hs (hn hs)).sum) H Q
theorem Pk.ex {C B1 B2 : Addr} {y : V} {ys : List V} {H H' : Hp} {E : XK} {good good' : Nat → List Int → Prop} (k : Pk C B1 B2 y ys H E good) (e : Ex H H') (m : ∀ b hs, good b hs → good' b hs) : Pk C B1 B2 y ys H' E good' := by
  rcases k with ⟨o, f⟩ | ⟨b, e1, b1, b2, ⟨hs, z, g, r, e2, h, d, no, f⟩ | ⟨hs, e2, h, l, k⟩⟩
  · exact .inl ⟨o, f.ex e⟩
  · exact .inr ⟨b, e1, b1, b2, .inl ⟨hs, z, g, r, e2, h, d.ex e, no, f.ex e⟩⟩
  · exact .inr ⟨b, e1, b1, b2, .inr ⟨hs, e2, h, l, m _ _ k⟩⟩
theorem passX0 {P : Program} {w : World} {X : Cx} : Passes (L2.CX P w) X E0 := fun _ _ _ _ _ _ _ ⟨_, _, _, _, _, _, _, _, _, _, _, _, h⟩ => h.elim
theorem rsz2 (n : Nat) : Builtin.Range.rangeSize 0 (n : Int) 2 = (((n + 1) / 2 : Nat) : Int) := by
  rw [PyProof.Rows.rangeSize_pos (by decide) (Int.natCast_nonneg n)]
  omega
theorem fits_ {i : Int} (h0 : 0 ≤ i) (h1 : i ≤ 100000) : Builtin.Range.rangeFitsLong i = true := by
  unfold Builtin.Range.rangeFitsLong
  rw [decide_eq_true (show -(2 ^ 63) ≤ i by omega), decide_eq_true (show i < 2 ^ 63 by omega)]
  rfl
theorem rgc2 {n : Nat} (h : n ≤ 1000) : RgC 0 (n : Int) 2 ((n + 1) / 2) := by
  refine ⟨by decide, by decide, ?_, rsz2 n⟩
  unfold Builtin.Range.small
  rw [rsz2, fits_ (Int.le_refl 0) (by decide), fits_ (i := (n : Int)) (by omega) (by omega), fits_ (i := 2) (by decide) (by decide), fits_ (i := (((n + 1) / 2 : Nat) : Int)) (by omega) (by omega), if_pos (by decide), fits_ (i := (n : Int) + (2 - 1)) (by omega) (by omega), Bool.or_true]
  rfl
theorem nat2 (b : Nat) : ((2 * b : Nat) : Int) / 2 = (b : Int) := by omega
theorem shl_half (b : Nat) : (1 : Int) * 2 ^ (((2 * b : Nat) : Int) / 2).toNat - 1 = hmax b := by
  rw [nat2, Int.one_mul, Int.toNat_natCast]
  rfl
theorem Ws.snoc {C : Addr} {H : Hp} {w : Nat} {xs : List Addr} {vs : List Int} {x : Addr} {v : Int} (h : Ws C H w xs vs) (W : WordAt C H x w v) : Ws C H w (xs ++ [x]) (vs ++ [v]) := by
  induction h with
  | nil => exact .cons W .nil
  | cons a _ ih => exact .cons a ih
theorem Shown.atN {K : PySem.W.Frag} {C p : Addr} {H : Hp} {y : V} {t : Str} (s : Shown C H y t) (n : y ≠ .ref p) : Thg K C p y t H := by
  rcases s with s | s | ⟨l, xs, ts, h1, h2, h3, h4⟩ | ⟨l, xs, ts, h1, h2, h3, h4⟩
  · exact .inl s
  · exact .inr (.inl ⟨s, fun b hb z => n (by rw [z, List.mem_singleton.mp hb])⟩)
  · exact .inr (.inr (.inl ⟨l, xs, ts, h1, fun z => n (by rw [h1, List.mem_singleton.mp z]), h2, h3, h4⟩))
  · exact .inr (.inr (.inr ⟨l, xs, ts, h1, fun z => n (by rw [h1, List.mem_singleton.mp z]), .inl (.inl h2), h3, h4⟩))
theorem cut_to {hs : List Int} {n : Nat} (h : n ≤ hs.length) : cutV (hs.map V.int) none (some (n : Int)) = (hs.take n).map V.int := by
  unfold cutV
  rw [HT.sIx_none, HT.sIx_nat, List.length_map, Nat.min_eq_left h, List.drop_zero, Nat.sub_zero, List.map_take]
theorem cut_from {hs : List Int} {n : Nat} (h : n ≤ hs.length) : cutV (hs.map V.int) (some (n : Int)) none = (hs.drop n).map V.int := by
  unfold cutV
  rw [HT.sIx_none, HT.sIx_nat, List.length_map, Nat.min_eq_left h, List.take_of_length_le, List.map_drop]
  rw [List.length_drop, List.length_map]
  exact Nat.le_refl _
theorem two_short {a b : Str} (ha : a.length ≤ 100) (hb : b.length ≤ 100) : (tupleText [a, b]).length ≤ sizeLine := short_tup (fun t ht => by
  rcases List.mem_cons.mp ht with rfl | ht
  · omega
  · rw [List.mem_singleton.mp ht]
    omega) (by show 2 ≤ 100; decide)
theorem short_lst {ts : List Str} (h : ∀ t ∈ ts, t.length ≤ 10000) (n : ts.length ≤ 100) : (listText ts).length ≤ sizeLine := by
  have key : ∀ l : List Str, (∀ t ∈ l, t.length ≤ 10000) → (l.map (·.length)).sum ≤ 10000 * l.length := by
    intro l
    induction l with
    | nil => intro _; exact Nat.le_refl 0
    | cons a r ih =>
      intro hl
      have h1 := hl a List.mem_cons_self
      have h2 := ih fun t ht => hl t (List.mem_cons_of_mem _ ht)
      rw [List.map_cons, List.sum_cons, List.length_cons]
      omega
  have h1 := textFrom_len_le ts 0 "["
  have h2 := key ts h
  have e : (listText ts).length = (textFrom 0 "[" ts).length + 1 := by
    show (textFrom 0 "[" ts ++ "]").length = _
    rw [strLen_append]; rfl
  have e1 : ("[" : Str).length = 1 := rfl
  exact Nat.le_trans (show _ ≤ 2000000 by omega) (by decide)
theorem Ws.each {C : Addr} {H : Hp} {w : Nat} {xs : List Addr} {vs : List Int} (h : Ws C H w xs vs) : Each (RIns C (WText C)) (xs.map V.ref) (vs.map (wtext w)) H := by
  refine ⟨by rw [List.length_map, List.length_map, h.len], fun i x t h1 h2 => ?_⟩
  rw [List.getElem?_map] at h1 h2
  cases q : xs[i]? with
  | none =>
    rw [q] at h1
    cases h1
  | some a =>
    have il := (List.getElem?_eq_some_iff.mp q).1
    obtain ⟨x', v, g1, g2, W⟩ := h.get il
    rw [q] at g1
    cases g1
    rw [q] at h1
    rw [g2] at h2
    cases h1
    cases h2
    obtain ⟨dx, ha⟩ := W.ob
    exact ⟨a, dx, _, rfl, ha, w, v, W, rfl⟩
theorem words_short {w : Nat} {vs : List Int} (w64 : w ≤ 64) (h : ∀ v ∈ vs, 0 ≤ v ∧ v ≤ mw w) (n : vs.length ≤ 100) : (listText (vs.map (wtext w))).length ≤ sizeLine := short_lst (fun t ht => by
  obtain ⟨v, hv, rfl⟩ := List.mem_map.mp ht
  have m64 := mw_64 w64
  have b := h v hv
  exact Nat.le_trans (wtext_len w64 b.1 (by omega)) (by decide)) (by rw [List.length_map]; exact n)
theorem pk_pos {b : Nat} {hs : List Int} (h : Halfs b hs) (h1 : 1 ≤ b) (i : Nat) : 0 ≤ (pk b hs i).sum := by
  have q := pk_bd h h1 i
  generalize pk b hs i = l at q
  induction l with
  | nil => exact Int.le_refl 0
  | cons a r ih =>
    have := (q a List.mem_cons_self).1
    have := ih fun v hv => q v (List.mem_cons_of_mem _ hv)
    rw [List.sum_cons]
    omega
theorem exn {H H' : Hp} (e : Ex H H') : LamX.ExtN H H' := fun a o h _ => e a o h
end Tz
namespace Tz
open PySem PySem.Spec PyProof.Rows L2 TzF TzRepr
/-! ### what makes no word -/
def NoWidth (y : V) : Prop := ∀ n, y = .int n → ¬ (1 ≤ n ∧ n ≤ 64)
def NoVal (w : Nat) (y : V) : Prop := ∀ n, y = .int n → ¬ (0 ≤ n ∧ n ≤ mw w)
/-- no text of 1 to 64 bits -/
def NoBits (y : V) : Prop := ∀ z, y = .str z → (z.length ≤ sizeLine ∧ (z.length = 0 ∨ 64 < z.length)) ∨ (z.length ≤ 64 ∧ ∃ c ∈ z.cps.toList, ¬ TzBit.IsBit c)
def isb (c : Nat) : Bool := decide (c ∈ ("01" : Str).cps.toList)
theorem isb_iff (c : Nat) : c ∈ ("01" : Str).cps.toList ↔ TzBit.IsBit c := by
  have e : ("01" : Str).cps.toList = [48, 49] := by decide +kernel
  rw [e]
  unfold TzBit.IsBit
  simp
def spWidthX (C B : Addr) : Sp := fun vs H Q E => ∃ y g, vs = [y] ∧ Kd C H y g ∧ NoWidth y ∧ Flies B [("width", y)] H E
def spInitX (C B1 B2 : Addr) : Sp := fun vs H Q E => ∃ p dx y g v gv, vs = [.ref p, y, v] ∧ H p = some (.ins C dx []) ∧ Kd C H y g ∧ Kd C H v gv ∧
  ((NoWidth y ∧ Flies B1 [("width", y)] H E) ∨ ∃ w : Nat, y = .int w ∧ 1 ≤ w ∧ w ≤ 64 ∧ NoVal w v ∧ Flies B2 [("value", v)] H E)
def spBitsX (C : Addr) : Sp := fun vs H Q _ => ∃ y g, vs = [y] ∧ Kd C H y g ∧ NoBits y ∧ ∀ H', Ex H H' → Q (.bl false) H'
def spOddW (C B : Addr) : Sp := fun vs H Q E => ∃ y g, vs = [y] ∧ Kd C H y g ∧ NoWidth y ∧ Flies B [("width", y)] H E
def spReadX (C B : Addr) : Sp := fun vs H Q E => ∃ y g, vs = [.ref C, y] ∧ Kd C H y g ∧ NoBits y ∧ Flies B [("value", y)] H E
/-! ### isinstance of a caught error that has fields -/
def rIsEd (K : PySem.W.Frag) (a : Addr) (k : Value) (d : Option Addr) : List V → Hp → VK → Prop := fun xs H Q => ∃ (D dd : Addr) (fs : List (Str × V)) (c : V) (cv : Value) (b : Bool),
  k = .ref D ∧ ExcC K D ∧ d = some dd ∧ H dd = some (.xd fs) ∧ xs = [.ref a, c] ∧ (∀ u, RelV c u → u = cv) ∧ PySem.W.kitOne K (.ref D) cv = some b ∧ Q (.bl b) H
theorem call_isEd {X : Cx} {a : Addr} {k : Value} {d : Option Addr} {oe : Obj} {pn : List (Addr × Obj)} (hz : Zc k d oe) (hf : ∃ vs, oe.data = .fields vs) : CallR (X.suite a ((a, oe) :: pn)) (.builtin "isinstance") (rIsEd X.K a k d) := by
  intro pins s σ H xs us Q I r h
  obtain ⟨D, dd, fs, c, cv, b, rfl, C, rfl, ea, rfl, hcv, e, q⟩ := h
  cases r with
  | cons rx rr =>
    cases rr with
    | cons rt rr =>
      cases rr
      cases rx
      have ec := hcv _ rt
      subst ec
      obtain ⟨ha, _⟩ := I.pin (a, oe) (List.mem_append.mpr (.inl List.mem_cons_self))
      obtain ⟨vs, hd⟩ := hf
      have hx : ObjOk X.prog X.w H s.heap dd (.xd fs) := I.hok dd _ ea
      obtain ⟨mA, hns, hr⟩ := hx
      obtain ⟨od, ho, hl⟩ := lookIn_ns hns
      have J : PySem.W.InstAt s.heap a oe D (some od) := ⟨ha, hz.1, by unfold PySem.W.notCls; rw [hd] <;> rfl, by rw [hz.2]; exact ho⟩
      have hcl : (PySem.W.clsIn X.K D).isSome = true := by
        obtain ⟨cd, hc, _⟩ := PySem.W.any_some C.hd
        rw [hc]
        rfl
      exact PySem.W.kia_one (PySem.W.kitx_exc hcl C.hg C.hk C.hs C.ha C.hn C.ht C.hm) I.kIn J e (fun z => nomatch z) fun tk => ⟨.bl b, H, I.kept (t' := tk) fun _ _ z => z, rfl, q⟩
/-- what a caught error is asked -/
def TTE (HE : VK → XK) : (XK → Hp → VK → Prop) → Hp → VK → Prop := fun tl H Q => tl (HE Q) H (fun _ H1 => Q (.bl false) H1)
def HEE (B1 B2 : Addr) (Q : VK) : XK := fun k d H => ∃ (D dd : Addr) (fs : List (Str × V)), (D = B1 ∨ D = B2) ∧ k = .ref D ∧ d = some dd ∧ H dd = some (.xd fs) ∧ ∀ H1, Ex H H1 → Q (.bl true) H1
theorem fly_e1 {B1 B2 : Addr} {Q : VK} {H : Hp} {fs : List (Str × V)} (h : ∀ H1, Ex H H1 → Q (.bl true) H1) : Flies B1 fs H (HEE B1 B2 Q) := fun d H' e q => ⟨B1, d, fs, .inl rfl, rfl, rfl, q, fun H1 e1 => h H1 (e.trans e1)⟩
theorem fly_e2 {B1 B2 : Addr} {Q : VK} {H : Hp} {fs : List (Str × V)} (h : ∀ H1, Ex H H1 → Q (.bl true) H1) : Flies B2 fs H (HEE B1 B2 Q) := fun d H' e q => ⟨B2, d, fs, .inr rfl, rfl, rfl, q, fun H1 e1 => h H1 (e.trans e1)⟩
/-! ### things -/
section
variable {C a : Addr} {H : Hp}
theorem fl_int {i : Int} (h : i.natAbs.log2 < 1920) : Flat C (.int i) (PyData.shown (.int i)) H := .inl (.inr (.inr ⟨i, rfl, h, rfl⟩))
theorem fl_str (s : Str) : Flat C (.str s) (reprText s) H := .inr (.inl ⟨s, rfl, rfl⟩)
theorem each1 {D : Rpr} {x : V} {t : Str} (h : D x t H) : Each D [x] [t] H := ⟨rfl, fun i y s e1 e2 => by
  match i with
  | 0 => cases e1; cases e2; exact h
  | i + 1 => simp at e1⟩
theorem each0 {D : Rpr} : Each D [] [] H := ⟨rfl, fun i y s e1 e2 => by simp at e1⟩
theorem sh_lst1 {x : V} {t : Str} (h : H a = some (.lst [x])) (f : Flat C x t H) : Shown C H (.ref a) (listText [t]) := .inr (.inr (.inl ⟨a, _, _, rfl, h, rfl, each1 f⟩))
theorem sh_tup1 {x : V} {t : Str} (h : H a = some (.tup [x])) (f : Flat C x t H) : Shown C H (.ref a) (tupleText [t]) := .inr (.inr (.inr ⟨a, _, _, rfl, h, rfl, each1 f⟩))
theorem sh_tup0 (h : H a = some (.tup [])) : Shown C H (.ref a) (tupleText []) := .inr (.inr (.inr ⟨a, _, _, rfl, h, rfl, each0⟩))
theorem sh_tup2 {x y : V} {t u : Str} (h : H a = some (.tup [x, y])) (f : Flat C x t H) (g : Flat C y u H) : Shown C H (.ref a) (tupleText [t, u]) := .inr (.inr (.inr ⟨a, _, _, rfl, h, rfl, two_each f g⟩))
end
/-- a thing that is drawn, of no use -/
def Odd1 (C : Addr) (bad : V → Prop) (H H' : Hp) (y : V) (tx : Str) : Prop := (∃ g, Kd C H' y g) ∧ bad y ∧ Shown C H' y tx ∧ tx.length ≤ 1000 ∧ ∀ a, y = .ref a → H a = none
def DrawnK (C : Addr) (bad : V → Prop) (z c : Addr) (cells : List Int) (t : Nat) (H : Hp) (Q : VK) : Prop := ∀ y tx H', Odd1 C bad H H' y tx → PenAt H' z c cells (t + 1) → Fw z H H' → Q y H'
def spNoWidth (C : Addr) : Sp := fun vs H Q _ => ∃ z c cells t, vs = [.ref z] ∧ PenAt H z c cells t ∧ t ≤ 80000 ∧ DrawnK C NoWidth z c cells t H Q
def spNoValue (C : Addr) : Sp := fun vs H Q _ => ∃ z c cells t, ∃ w : Nat, vs = [.ref z, .int w] ∧ PenAt H z c cells t ∧ t ≤ 80000 ∧ 1 ≤ w ∧ w ≤ 64 ∧ DrawnK C (NoVal w) z c cells t H Q
def spNoText (C : Addr) : Sp := fun vs H Q _ => ∃ z c cells t, ∃ w : Nat, vs = [.ref z, .int w] ∧ PenAt H z c cells t ∧ t ≤ 80000 ∧ 1 ≤ w ∧ w ≤ 64 ∧ DrawnK C NoBits z c cells t H Q
theorem NoBits.off {y : V} (h : ∀ z, y ≠ .str z) : NoBits y := fun z e => absurd e (h z)
theorem NoWidth.off {y : V} (h : ∀ n, y ≠ .int n) : NoWidth y := fun n e => absurd e (h n)
theorem NoVal.off {w : Nat} {y : V} (h : ∀ n, y ≠ .int n) : NoVal w y := fun n e => absurd e (h n)
theorem op_mul_str {X : Cx} : OpR X (binaryOp .Mult) (fun x y H Q => ∃ z n, x = .str z ∧ y = .int n ∧ MulOk z n ∧ Q (.str (Txt.mul z n)) H) := by
  intro pins s σ H x y v u Q I rx ry h
  obtain ⟨z, n, rfl, rfl, ok, q⟩ := h
  obtain ⟨t, rfl⟩ := rx
  obtain ⟨t', rfl⟩ := ry
  exact SB.mul ok fun t'' k => ⟨.str _, H, I.tok _, ⟨_, rfl⟩, q⟩
def bb : List Nat := (List.replicate 33 [48, 49]).flatten
theorem bb_mul : Txt.mul ("01" : Str) 33 = SX.S bb := by decide +kernel
theorem bb_bit : ∀ c ∈ bb, TzBit.IsBit c := by
  unfold TzBit.IsBit
  decide +kernel
theorem cutS_to {l : List Nat} {n : Nat} (h : n ≤ l.length) : cutS (SX.S l) none (some (n : Int)) = SX.S (l.take n) := by rw [C8.cutS_slice, SX.slice_to (by omega), Int.toNat_natCast]
theorem nob {s : Str} (c : Nat) (hl : s.length ≤ 64) (hc : c ∈ s.cps.toList) (nb : ¬ TzBit.IsBit c) : NoBits (.str s) := fun z e => by
  cases e
  exact .inr ⟨hl, c, hc, nb⟩
theorem rep_short {l : List Nat} (h : ∀ c ∈ l, c < 16 ^ 8) (n : l.length ≤ 90) : (reprText (SX.S l)).length ≤ 1000 := by
  have e := StrLaws.reprText_len (SX.S l) h
  have q : (SX.S l).length = l.length := SX.S_len l
  have s : (reprText (SX.S l)).length ≤ 10 * (SX.S l).length + 2 := by
    refine Nat.le_trans (Nat.le_of_eq ?_) e
    simp [Str.length]
  omega
theorem short2 {a b : Str} (ha : a.length ≤ 1000) (hb : b.length ≤ 1000) : (tupleText [a, b]).length ≤ sizeLine := short_tup (fun t ht => by
  rcases List.mem_cons.mp ht with rfl | ht
  · omega
  · rw [List.mem_singleton.mp ht]
    omega) (by show 2 ≤ 100; decide)
structure ExcK (K : PySem.W.Frag) (D : Addr) : Prop where
  ha : PySem.W.findIn K (.ref D) "__class__" = some (some (.builtin "object.__class__"))
  hm : PySem.W.mroIn K D (.type "object") = some true
  kv : PySem.W.kitOne K (.ref D) (.type "ValueError") = some true
def excB (K : PySem.W.Frag) (D : Addr) : Bool := eqV (PySem.W.findIn K (.ref D) "__class__") (some (some (.builtin "object.__class__"))) && (decide (PySem.W.mroIn K D (.type "object") = some true) && decide (PySem.W.kitOne K (.ref D) (.type "ValueError") = some true))
theorem excK_ok {K : PySem.W.Frag} {D : Addr} (h : excB K D = true) : ExcK K D := by
  obtain ⟨h1, h⟩ := two h
  obtain ⟨h2, h3⟩ := two h
  exact ⟨of_decide_eq_true h1, of_decide_eq_true h2, of_decide_eq_true h3⟩
theorem new_two {C x dx : Addr} {H : Hp} (nx : H x = none) (ndx : H dx = none) (ne : dx ≠ x) : Ex H (upd (upd H dx (.own x)) x (.ins C dx [])) := fun b o h => by
  rw [upd_ne (ne_of_none h nx), upd_ne (ne_of_none h ndx)]
  exact h
end Tz
namespace TzOwn
open PySem PySem.Spec PyProof.Rows PySem.W
section
variable {prog : Program} {w : World} {A : Around} {E : Value → Shared → Prop} {s : Shared} {K : Frag} {x C f L : Addr} {ox : Obj} {od : Option Obj} {h0 : Heap} {m : Str → Option Value} {name : Str} {b tb : Value}
/-- a slot of object, bound to an own instance -/
theorem bound_K {M : Model} {args : List Value} {Q : Option Value → Shared → Prop} {id : String} (X : K.In s.heap) (I : InstAt s.heap x ox C od) (hs : findIn K (.ref C) name = some (some (.builtin id))) (S : PySem.Slot "object" name id)
    (h : wpAny M A (call (.builtin id) (.ref x :: args)) (fun v => Q (some v)) E s) : wpAny M A (callSpecialIfBound? (.ref x) name args) Q E s := by
  simp only [callSpecialIfBound?, bindSpecialIfBound?]
  refine wpAny_holding (wpAny_bind (wpAny_bind (wpAny_bind (I.type.here ((looks_findIn X hs).here ?_)))))
  simp only [S.bind]
  refine wpAny_bind (wpAny_askSetting (wpAny_ite ?_))
  have fin : wpAny M A (call (.builtin id) ([.ref x] ++ args) >>= fun v => pure (some v)) Q E s := wpAny_bind (wpAny_mono h (fun v s' h' => wpAny_pure h') fun _ _ h' => h')
  split
  · exact wpAny_bind (wpAny_pure (wpAny_pure fin))
  · exact wpAny_tryCatch (wpAny_bind (wpAny_pure (wpAny_pure fin)))
theorem check_K {M : Model} {id owner n : String} {rest : List Value} {Q : Unit → Shared → Prop} (X : K.In s.heap) (I : InstAt s.heap x ox C od) (hk : builtinKind id = some .slot) (hs : splitId id = some (owner, n)) (ha : argsOk id ⟨.ref x :: rest, []⟩)
    (ho : subIn K (.ref C) (.type owner) = some true) (hq : Q () s) : wpAny M A (checkBuiltinCall id ⟨.ref x :: rest, []⟩) Q E s := by
  simp only [checkBuiltinCall, hk, hs]
  refine wpAny_bind ?_
  unfold isInstance
  refine wpAny_bind (m := typeOf (.ref x)) (I.type.here ((looks_subIn X ho).here ?_))
  simp only [Bool.not_true, Bool.false_eq_true, if_false]
  try refine wpAny_pure ?_
  cases hsig : Manifest.signature? id with
  | none => exact wpAny_pure hq
  | some sig =>
    simp only [argsOk, hsig] at ha
    have h2 : Bind.checkArgs id sig ⟨.ref x :: rest, []⟩ = pure () := ha
    show wpAny M A (Bind.checkArgs id sig ⟨.ref x :: rest, []⟩) Q E _
    rw [h2]; exact wpAny_pure hq
theorem objNe_K (X : K.In s.heap) (I : InstAt s.heap x ox C od) (he : findIn K (.ref C) "__eq__" = some (some (.ref f))) (hf : isFn K (.ref f) = true) (hu : A.units < cLine) {Q : Fin → Shared → Prop}
    (hcall : wpAny (model prog w) A (call (.ref f) [.ref x, b]) (fun v s' => ∃ c, v = .bool c ∧ Q (.done (.ret (.bool (!c)))) s') E s) :
    wpAny (model prog w) A (Builtin.«object.__ne__» ⟨[.ref x, b], []⟩) Q E s := by
  unfold Builtin.«object.__ne__»
  repeat (first
    | with_reducible refine wpAny_cRoomFor hu ?_
    | (refine wpAny_bind (m := callSpecialIfBound? (.ref x) (Str.ofString "__eq__") [b])
        (ifBound_K X I he hf (wpAny_mono hcall (fun r s' hr => by
          obtain ⟨c, rfl, hq⟩ := hr
          repeat (first | exact hq | exact wpAny_pure hq | exact wpAny_truthy_bool hq | (refine wpAny_bind (m := truthy (.bool _)) (wpAny_truthy_bool ?_)) | wp_step)) fun _ _ e => e)))
    | wp_step)
/-- != by the class's own __eq__ -/
theorem ne_K {Q : Value → Shared → Prop} (hu : A.units + 1 < cLine) (F : Fr h0 L s.heap m) (X₀ : K.In h0) (I : InstAt s.heap x ox C od) (hb : Looks (model prog w) s.heap (typeOf b) tb) (hn : notFirst K C tb = true)
    (he : findIn K (.ref C) "__eq__" = some (some (.ref f))) (hf : isFn K (.ref f) = true) (hne : findIn K (.ref C) "__ne__" = some (some (.builtin "object.__ne__"))) (ho : subIn K (.ref C) (.type "object") = some true)
    (h : wpAny (model prog w) A.in1 (call (.ref f) [.ref x, b]) (fun v s' => ∃ c, v = .bool c ∧ Q (.bool (!c)) s') E s) : wpAny (model prog w) A (richCompare .NotEq (.ref x) b) Q E s := by
  have X := X₀.keeps F.keep
  have one : wpAny (model prog w) A (tryCompare (.ref x) "__ne__" b) (fun r s' => ∃ v, r = some v ∧ Q v s') E s := by
    unfold tryCompare
    refine wpAny_bind (bound_K X I hne PySem.F.cmp_object.ne (wpAny_call (codeAny_call_builtin PySem.F.cmp_object.ne.plain PySem.F.cmpEntry_ne
      (check_K X I PySem.F.cmpKind_ne PySem.F.cmpSplit_ne (PySem.F.cmpArgs_ne _ _) ho
        (objNe_K (A := A.in1) X I he hf hu (wpAny_mono h (fun v s' hv => ?_) fun _ _ e => e))))))
    obtain ⟨c, rfl, hq⟩ := hv
    first | exact ⟨c, rfl, wpAny_pure ⟨_, rfl, hq⟩⟩ | exact ⟨c, rfl, wpAny_pure (wpAny_pure ⟨_, rfl, hq⟩)⟩ | exact ⟨c, rfl, ⟨_, rfl, hq⟩⟩
  unfold richCompare
  simp only [oneThing_ref]
  refine wpAny_holding (wpAny_bind (wpAny_cRoomFor (Nat.lt_of_succ_lt hu) ?_))
  rw [cmpInfo_NotEq]
  dsimp only
  refine wpAny_bind (I.type.here (wpAny_bind (hb.here ?_)))
  split
  · rename_i q
    have e : subIn K tb (.ref C) = some false := by
      rcases Bool.or_eq_true_iff.mp hn with e | e
      · rw [beq_iff_eq.mp e] at q; simp at q
      · exact beq_iff_eq.mp e
    refine wpAny_bind ((looks_subIn X e).here ?_)
    simp only [Bool.false_eq_true, if_false]
    refine wpAny_bind (wpAny_mono one (fun r s' z => ?_) fun _ _ e => e)
    obtain ⟨v, rfl, hq⟩ := z
    exact wpAny_pure hq
  · refine wpAny_bind (wpAny_pure ?_)
    simp only [Bool.false_eq_true, if_false]
    refine wpAny_bind (wpAny_mono one (fun r s' z => ?_) fun _ _ e => e)
    obtain ⟨v, rfl, hq⟩ := z
    exact wpAny_pure hq
end
end TzOwn
namespace TzOwn
open PySem PySem.Spec PyProof.Rows PySem.W
section
variable {K : Frag} {C x : Addr} {ox : Obj} {od : Option Obj}
theorem not_inst {prog : Program} {w : World} {A : Around} {E : Value → Shared → Prop} {s : Shared} {T : String} {Q : Bool → Shared → Prop} (X : K.In s.heap) (I : InstAt s.heap x ox C od) (hsub : subIn K (.ref C) (.type T) = some false) (q : Q false s) :
    wpAny (model prog w) A (isInstance (.ref x) (.type T)) Q E s := by
  unfold isInstance
  exact wpAny_bind (m := typeOf (.ref x)) (I.type.here ((looks_subIn X hsub).here q))
theorem list_eq_dec (a : Addr) (hsub : subIn K (.ref C) (.type "list") = some false) : Meets (Builtin.«list.__eq__» ⟨[.ref a, .ref x], []⟩) (fun _ R s => K.In s.heap ∧ InstAt s.heap x ox C od ∧ R (.ok (.ret .notImplemented)) s) :=
  .of_wp fun prog w A R s h => by
    obtain ⟨hp, g, d, tk, os⟩ := s; obtain ⟨X, I, h⟩ := h
    wp_walk using not_inst X I hsub
    exact ⟨_, rfl, h⟩
theorem tuple_eq_dec (a : Addr) (hsub : subIn K (.ref C) (.type "tuple") = some false) : Meets (Builtin.«tuple.__eq__» ⟨[.ref a, .ref x], []⟩) (fun _ R s => K.In s.heap ∧ InstAt s.heap x ox C od ∧ R (.ok (.ret .notImplemented)) s) :=
  .of_wp fun prog w A R s h => by
    obtain ⟨hp, g, d, tk, os⟩ := s; obtain ⟨X, I, h⟩ := h
    wp_walk using not_inst X I hsub
    exact ⟨_, rfl, h⟩
theorem dict_eq_dec (a : Addr) (hsub : subIn K (.ref C) (.type "dict") = some false) : Meets (Builtin.«dict.__eq__» ⟨[.ref a, .ref x], []⟩) (fun _ R s => K.In s.heap ∧ InstAt s.heap x ox C od ∧ R (.ok (.ret .notImplemented)) s) :=
  .of_wp fun prog w A R s h => by
    obtain ⟨hp, g, d, tk, os⟩ := s; obtain ⟨X, I, h⟩ := h
    wp_walk using not_inst X I hsub
    exact ⟨_, rfl, h⟩
end
end TzOwn
namespace TzOwn
open PySem PySem.Spec PyProof.Rows PySem.W
section
variable {prog : Program} {w : World} {A : Around} {E : Value → Shared → Prop} {s : Shared} {K : Frag} {x C f L : Addr} {ox : Obj} {od : Option Obj} {h0 : Heap} {m : Str → Option Value}
/-- a built-in value == an own instance: the left one declines, the class's own __eq__ answers -/
theorem eqr_K {u : Value} {T ida : String} {Q : Value → Shared → Prop} (hu : A.units < cLine) (F : Fr h0 L s.heap m) (X₀ : K.In h0) (I : InstAt s.heap x ox C od) (ht : s.TypeIs u T) (hsub : subIn K (.ref C) (.type T) = some false) (sl : Slot T (cmpInfo .Eq).2.1 ida)
    (hc : ∀ Q' : Value → Shared → Prop, Q' .notImplemented s → wpAny (model prog w) A (call (.builtin ida) [u, .ref x]) Q' E s) (he : findIn K (.ref C) "__eq__" = some (some (.ref f))) (hf : isFn K (.ref f) = true)
    (h : wpAny (model prog w) A (call (.ref f) [.ref x, u]) (PySem.W.CmpBack Q) E s) : wpAny (model prog w) A (richCompare .Eq u (.ref x)) Q E s := by
  have X := X₀.keeps F.keep
  have one : wpAny (model prog w) A (tryCompare (.ref x) "__eq__" u) (fun r s' => ∃ v, r = some v ∧ Q v s') E s := by
    unfold tryCompare
    refine wpAny_bind (ifBound_K X I he hf (wpAny_mono h (fun v s' hv => ?_) fun _ _ e => e))
    cases v <;> first | exact hv.elim | exact wpAny_pure ⟨_, rfl, hv⟩
  have ne : (Value.type T != Value.ref C) = true := bne_iff_ne.mpr fun q => by cases q
  rcases hi : cmpInfo CmpOp.Eq with ⟨sym, n1, n2⟩
  have e1 : n1 = ("__eq__" : Str) := by have := congrArg (·.2.1) hi; exact this.symm
  have e2 : n2 = ("__eq__" : Str) := by have := congrArg (·.2.2) hi; exact this.symm
  subst e1 e2
  rw [hi] at sl
  simp only [richCompare, hi, ht.oneThing_none]
  refine wpAny_holding (wpAny_bind (wpAny_cRoomFor hu ?_))
  refine wpAny_bind (wpAny_typeOf ht (wpAny_bind (I.type.here ?_)))
  simp only [ne, if_true]
  refine wpAny_bind ((looks_subIn X hsub).here ?_)
  simp only [Bool.false_eq_true, if_false, Bool.not_false, if_true]
  refine wpAny_bind (m := tryCompare u _ (.ref x)) (wpAny_tryCompare_declines ht sl (hc _ ⟨rfl, ?_⟩))
  refine wpAny_bind (wpAny_mono one (fun r s' z => ?_) fun _ _ e => e)
  obtain ⟨v, rfl, hq⟩ := z
  exact wpAny_pure hq
end
end TzOwn
namespace TzOwn
open PySem PySem.Spec PyProof.Rows L2
/-! a built-in value == an own instance: the left one declines -/
theorem int_eq_ins (n : Int) (t : Tok) (x C dx : Addr) : Meets (Builtin.«int.__eq__» ⟨[.int n t, .ref x], []⟩) (fun _ R s => s.heap.get? x = some (PySem.W.instObj C dx) ∧ R (.ok (.ret Value.notImplemented)) s) :=
  .of_wp fun prog w A R s h => by obtain ⟨hp, g, d, tk, os⟩ := s; obtain ⟨hl, h⟩ := h; wp_walk; exact ⟨_, rfl, h⟩
theorem str_eq_ins (z : Str) (t : Tok) (x C dx : Addr) : Meets (Builtin.«str.__eq__» ⟨[.str z t, .ref x], []⟩) (fun _ R s => s.heap.get? x = some (PySem.W.instObj C dx) ∧ R (.ok (.ret Value.notImplemented)) s) :=
  .of_wp fun prog w A R s h => by obtain ⟨hp, g, d, tk, os⟩ := s; obtain ⟨hl, h⟩ := h; wp_walk; exact ⟨_, rfl, h⟩
theorem bool_eq_ins (b : Bool) (x C dx : Addr) : Meets (Builtin.«int.__eq__» ⟨[.bool b, .ref x], []⟩) (fun _ R s => s.heap.get? x = some (PySem.W.instObj C dx) ∧ R (.ok (.ret Value.notImplemented)) s) :=
  .of_wp fun prog w A R s h => by obtain ⟨hp, g, d, tk, os⟩ := s; obtain ⟨hl, h⟩ := h; wp_walk; exact ⟨_, rfl, h⟩
theorem non_eq_ins (x C dx : Addr) : Meets (Builtin.«object.__eq__» ⟨[.none, .ref x], []⟩) (fun _ R s => s.heap.get? x = some (PySem.W.instObj C dx) ∧ R (.ok (.ret Value.notImplemented)) s) :=
  .of_wp fun prog w A R s h => by obtain ⟨hp, g, d, tk, os⟩ := s; obtain ⟨hl, h⟩ := h; wp_walk; exact ⟨_, rfl, h⟩
end TzOwn
namespace TzOwn
open PySem PySem.Spec PyProof.Rows L2
theorem none_eq_ins (x C dx : Addr) : Meets (Builtin.«NoneType.__eq__» ⟨[.none, .ref x], []⟩) (fun _ R s => s.heap.get? x = some (PySem.W.instObj C dx) ∧ R (.ok (.ret Value.notImplemented)) s) :=
  .of_wp fun prog w A R s h => by obtain ⟨hp, g, d, tk, os⟩ := s; obtain ⟨hl, h⟩ := h; wp_walk; exact ⟨_, rfl, h⟩
end TzOwn
namespace Tz
open PySem PySem.Spec PyProof.Rows L2 TzF TzRepr
section
variable {X : Cx} {CX : CXT} {C f : Addr} {fd : FuncData} {ps : List Str} {sp : Sp} {E : XK} {k : Nat}
/-- a thing that is no word == a word -/
def rEqR (C : Addr) (sp : Sp) (E : XK) : R2 := fun y x H Q => ∃ a dx fs g, x = .ref a ∧ H a = some (.ins C dx fs) ∧ Kd C H y g ∧ g ≠ .own ∧ sp [.ref a, y] H Q E
theorem op_eqR (N : FnOk X.prog X.w X.K X.mg X.base CX k f fd ps sp) (hr : Room k X.A) (M : Meth X.K C "__eq__" f) (hb : Binds X.K fd ps []) (hx : Passes CX X E) (A : Alone X.K C) : OpR X (compareOp .Eq) (rEqR C sp E) := by
  intro pins s σ H y x v u Q I ry rx h
  obtain ⟨a, dx, fs, g, rfl, ha, d, ng, q⟩ := h
  cases rx
  obtain ⟨od, J⟩ := TzOwn.inst_at I ha
  obtain ⟨mA, J0, _⟩ := ins_get I.hok ha
  obtain ⟨m, hF⟩ := I.fr
  have back : wpAny (model X.prog X.w) X.A (call (.ref f) [.ref a, v]) (PySem.W.CmpBack (EP X pins σ Q)) X.xe s := thn (run_fn (us := [.ref a, v]) (vs := [.ref a, y]) N hr hb .nil hx I (.cons rfl (.cons ry .nil)) q) fun _ _ z => TzOwn.back_cmp z
  show wpAny (model X.prog X.w) X.A (richCompare .Eq v (.ref a)) (EP X pins σ Q) X.xe s
  have XI := I.kIn
  cases d with
  | own W => exact absurd rfl ng
  | non =>
    cases ry
    exact TzOwn.eqr_K hr.units0 hF I.ok.mod.kin J rfl (A.of_ _ (by decide)) PySem.F.slot_NoneType_eq (fun Q' hq => call_meets PySem.F.slot_NoneType_eq rfl PySem.F.entry_NoneType_eq (PySem.F.args_NoneType_eq_2 _ _) (TzOwn.none_eq_ins a C dx) ⟨J0.obj, hq⟩) M.at_ M.fn back
  | bl b =>
    cases ry
    exact TzOwn.eqr_K hr.units0 hF I.ok.mod.kin J rfl (A.of_ _ (by decide)) PySem.F.slot_bool_eq (fun Q' hq => call_meets PySem.F.slot_bool_eq rfl PySem.F.entry_int_eq (PySem.F.args_int_eq_2 _ _) (TzOwn.bool_eq_ins b a C dx) ⟨J0.obj, hq⟩) M.at_ M.fn back
  | int i =>
    obtain ⟨t, rfl⟩ := ry
    exact TzOwn.eqr_K hr.units0 hF I.ok.mod.kin J (typeIs_int s i t) (A.of_ _ (by decide)) PySem.F.slot_int_eq (fun Q' hq => call_meets PySem.F.slot_int_eq (typeIs_int s i t) PySem.F.entry_int_eq (PySem.F.args_int_eq_2 _ _) (TzOwn.int_eq_ins i t a C dx) ⟨J0.obj, hq⟩) M.at_ M.fn back
  | str z =>
    obtain ⟨t, rfl⟩ := ry
    exact TzOwn.eqr_K hr.units0 hF I.ok.mod.kin J (typeIs_str s z t) (A.of_ _ (by decide)) PySem.F.slot_str_eq (fun Q' hq => call_meets PySem.F.slot_str_eq (typeIs_str s z t) PySem.F.entry_str_eq (PySem.F.args_str_eq_2 _ _) (TzOwn.str_eq_ins z t a C dx) ⟨J0.obj, hq⟩) M.at_ M.fn back
  | @lst b xs hb' =>
    cases ry
    obtain ⟨_, its, n, _, e⟩ := (show ObjOk X.prog X.w H s.heap b (.lst xs) from I.hok b _ hb')
    exact TzOwn.eqr_K hr.units0 hF I.ok.mod.kin J ⟨_, e, rfl⟩ (A.of_ _ (by decide)) PySem.F.slot_list_eq (fun Q' hq => call_meets PySem.F.slot_list_eq ⟨_, e, rfl⟩ PySem.F.entry_list_eq (PySem.F.args_list_eq_2 _ _) (TzOwn.list_eq_dec b (A.of_ _ (by decide))) ⟨XI, J, hq⟩) M.at_ M.fn back
  | @tup b xs hb' =>
    cases ry
    obtain ⟨_, its, _, o, e, hc, _⟩ := (show ObjOk X.prog X.w H s.heap b (.tup xs) from I.hok b _ hb')
    exact TzOwn.eqr_K hr.units0 hF I.ok.mod.kin J ⟨_, e, hc⟩ (A.of_ _ (by decide)) PySem.F.slot_tuple_eq (fun Q' hq => call_meets PySem.F.slot_tuple_eq ⟨_, e, hc⟩ PySem.F.entry_tuple_eq (PySem.F.args_tuple_eq_2 _ _) (TzOwn.tuple_eq_dec b (A.of_ _ (by decide))) ⟨XI, J, hq⟩) M.at_ M.fn back
  | @dic b kvs hb' =>
    cases ry
    obtain ⟨_, _, us, _, o, es, ep, e, hc, _⟩ := (show ObjOk X.prog X.w H s.heap b (.dK kvs) from I.hok b _ hb')
    exact TzOwn.eqr_K hr.units0 hF I.ok.mod.kin J ⟨_, e, hc.1⟩ (A.of_ _ (by decide)) PySem.F.slot_dict_eq (fun Q' hq => call_meets PySem.F.slot_dict_eq ⟨_, e, hc.1⟩ PySem.F.entry_dict_eq (PySem.F.args_dict_eq_2 _ _) (TzOwn.dict_eq_dec b (A.of_ _ (by decide))) ⟨XI, J, hq⟩) M.at_ M.fn back
/-- a word != anything -/
def rNe (C : Addr) (sp : Sp) (E : XK) : R2 := fun x y H Q => ∃ a dx fs g, x = .ref a ∧ H a = some (.ins C dx fs) ∧ Kd C H y g ∧ sp [.ref a, y] H (fun v H' => ∃ c, v = .bl c ∧ Q (.bl (!c)) H') E
theorem op_neA (N : FnOk X.prog X.w X.K X.mg X.base CX k f fd ps sp) (hr : Room (k + 1) X.A) (M : Meth X.K C "__eq__" f) (hne : PySem.W.findIn X.K (.ref C) "__ne__" = some (some (.builtin "object.__ne__"))) (hb : Binds X.K fd ps []) (hx : Passes CX X E) (A : Alone X.K C) : OpR X (compareOp .NotEq) (rNe C sp E) := by
  intro pins s σ H x y v u Q I rx ry h
  obtain ⟨a, dx, fs, g, rfl, ha, d, q⟩ := h
  cases rx
  obtain ⟨od, J⟩ := TzOwn.inst_at I ha
  obtain ⟨m, hF⟩ := I.fr
  show wpAny (model X.prog X.w) X.A (richCompare .NotEq (.ref a) u) (EP X pins σ Q) X.xe s
  refine TzOwn.ne_K (tb := g.ty C) hr.in1.units0 hF I.ok.mod.kin J (d.looks I ry) ?_ M.at_ M.fn hne A.hm ?_
  · unfold PySem.W.notFirst
    by_cases hg : g = .own
    · subst hg
      show (Value.ref C == Value.ref C || _) = true
      rw [beq_self_eq_true, Bool.true_or]
    · have e : g.ty C = .type g.nm := by cases g <;> first | rfl | exact absurd rfl hg
      rw [e, A.to _ (Tag.mem hg)]
      simp
  · have en : Env0 X.prog X.w X.K X.mg X.base X.A.in1 X.stack s H := I.env0.in1
    have bd := hb s [.ref a, u] I.kIn (by
      have := N.len _ _ _ _ q
      simpa using this)
    rw [List.append_nil] at bd
    refine wpAny_call (codeAny_mono (N.run X.A.in1 X.stack s H ⟨[.ref a, u], []⟩ [.ref a, u] [.ref a, y] _ E hr.in1 en bd (.cons rfl (.cons ry .nil)) q) fun r s' hq => ?_)
    cases r with
    | error e => exact hx pins σ H s e s' I hq
    | ok fl =>
      cases fl with
      | ret u =>
        have z : EP X pins σ (fun v H' => ∃ c, v = .bl c ∧ Q (.bl (!c)) H') u s' := I.after hq
        obtain ⟨v, H', I', r, c, rfl, q⟩ := z
        cases r
        exact ⟨c, rfl, .bl (!c), H', I', rfl, q⟩
      | next => exact False.elim hq
      | brk => exact False.elim hq
      | cont => exact False.elim hq
end
/-! ### rows of tuples, told -/
def ThgL (K : PySem.W.Frag) (C : Addr) (as : List Addr) : Rpr := fun x t H => Flat C x t H ∨ ((RDic x t H ∧ ∀ a ∈ as, x ≠ .ref a) ∨ (RList (Flat C) as x t H ∨ RTup K (Flat C) as x t H))
theorem mon_ThgL {K : PySem.W.Frag} {C : Addr} {as : List Addr} : Mon (ThgL K C as) := mon_Flat.or (Mon.or (fun x t H H' e d => ⟨mon_dic x t H H' e d.1, d.2⟩) ((mon_list mon_Flat).or (mon_tup mon_Flat)))
theorem Shown.atL {K : PySem.W.Frag} {C : Addr} {as : List Addr} {H : Hp} {y : V} {t : Str} (s : Shown C H y t) (na : ∀ a ∈ as, y ≠ .ref a) : ThgL K C as y t H := by
  rcases s with s | s | ⟨l, xs, ts, h1, h2, h3, h4⟩ | ⟨l, xs, ts, h1, h2, h3, h4⟩
  · exact .inl s
  · exact .inr (.inl ⟨s, na⟩)
  · exact .inr (.inr (.inl ⟨l, xs, ts, h1, fun z => na _ z h1, h2, h3, h4⟩))
  · exact .inr (.inr (.inr ⟨l, xs, ts, h1, fun z => na _ z h1, .inl (.inl h2), h3, h4⟩))
section
variable {X : Cx}
theorem rpG_ThgL {CX : CXT} {C f : Addr} {fd : FuncData} {ps : List Str} {E : XK} (N : FnOk X.prog X.w X.K X.mg X.base CX 1 f fd ps (spRepr (WText C))) (M : Meth X.K C "__repr__" f) (hb : Binds X.K fd ps []) (hx : Passes CX X E) (as : List Addr) : RpG X 3 as (ThgL X.K C as) := by
  have fl : ∀ as, RpG X 1 as (Flat C) := fun as => (rpG_flat.mono (by decide)).or ((rpG_str.mono (by decide)).or (rpG_ins N M hb hx))
  exact ((fl _).mono (by decide)).or ((rpG_dic.mono (by decide)).or (((rpG_list mon_Flat fun a => fl _).mono (by decide)).or ((rpG_tup mon_Flat fun a => fl _).mono (by decide))))
def RTupA (K : PySem.W.Frag) (D : Addr → Rpr) (as : List Addr) : Rpr := fun x t H => ∃ a xs ts, x = .ref a ∧ a ∉ as ∧ H a = some (.tup xs) ∧ t = tupleText ts ∧ Each (D a) xs ts H
theorem mon_tupA {K : PySem.W.Frag} {D : Addr → Rpr} {as : List Addr} (hD : ∀ a, Mon (D a)) : Mon (RTupA K D as) := fun x t H H' e ⟨a, xs, ts, hx, hn, h1, ht, p⟩ => ⟨a, xs, ts, hx, hn, e _ _ h1, ht, p.mon (hD a) e⟩
theorem rpG_tupA {n : Nat} {D : Addr → Rpr} {as : List Addr} (hm : ∀ a, Mon (D a)) (h : ∀ a, RpG X n (a :: as) (D a)) : RpG X (n + 1) as (RTupA X.K D as) := by
  intro A g pins s σ H x u t b hr hf hg hc I r d hs
  obtain ⟨a, xs, ts, rfl, hna, ha, rfl, p⟩ := d
  cases r
  refine wpAny_pyReprUnder_ref (by omega) ?_
  have ha : SqT X.K H a xs := .inl (.inl ha)
  obtain ⟨its, rv, ⟨o, ho, hcls, m, hd⟩, hz⟩ := I.tuple ha
  refine wpAny_pyReprObjUnder_twin (twin := "tuple.__repr__.under") ⟨o, ho, hcls⟩ F.slot_tuple_repr rfl hr.units0 ?_
  exact call_twin_own (F.quiet_tuple_repr_under _) F.entry_tuple_repr_under F.check_tuple_repr_under ⟨o, ho, hcls⟩ F.slot_tuple_repr (F.args_tuple_repr_1 _)
    (tup_at (R := callEnd _ X.xe) (h a) (hm a) hr hf hg hc hna (tupC2 _ _) I ha p hs (fun e s' q => q) fun u H' s' I' e => ⟨⟨_, _, rfl⟩, _, _, rfl, rfl, H', I', e⟩)
/-- repr(x) of a list, told for just this one -/
theorem repr_listA {n : Nat} {D : Addr → Rpr} (hm : ∀ a, Mon (D a)) (h : ∀ a, RpG X n [a] (D a)) (hg : X.A.guards = some []) (hr : Room (n + 2) X.A) :
    CallR X (.builtin "repr") (fun xs H Q => ∃ a ys ts, xs = [.ref a] ∧ H a = some (.lst ys) ∧ Each (D a) ys ts H ∧ (listText ts).length ≤ sizeLine ∧ ∀ H', Ex H H' → Q (.str (listText ts)) H') := by
  intro pins s σ H xs us Q I r hq
  obtain ⟨a, ys, ts, rfl, ha, p, hs, q⟩ := hq
  obtain ⟨u, rfl, ru⟩ := vals1 r
  cases ru
  obtain ⟨_, its, m, rv, hl, he⟩ := I.lstM ha
  refine call_repr_slot hr.in1.units0 ⟨_, he, rfl⟩ F.slot_list_repr.toG ?_
  by_cases hne : ys = []
  · subst hne
    have e1 : its = [] := List.length_eq_zero_iff.mp hl.symm
    subst e1
    have e2 : ts = [] := List.length_eq_zero_iff.mp p.1.symm
    subst e2
    exact call_list_repr_empty ⟨_, he, rfl⟩ he rfl ⟨_, _, rfl, .str "[]", H, I.kept (h' := s.heap) fun _ _ z => z, ⟨_, rfl⟩, q H fun _ _ z => z⟩
  · refine wpAny_call (codeAny_call_builtin F.slot_list_repr.plain F.entry_list_repr (F.slot_list_repr.check _ _ _ _ _ _ _ _ ⟨_, he, rfl⟩ (F.args_list_repr_1 _) ?_))
    exact at_run (base := 0) (R := callEnd _ X.xe) (A := X.A.in1) (g := []) (as := []) (h a) (hm a) hr.in1 rfl hg (fun p _ => Clear.nil p) (fun z => by cases z) I ha hne p (by omega) (fun e s' q => q) fun u H' s' I' e => ⟨_, _, rfl, .str (listText ts), H', I', ⟨_, rfl⟩, q H' e⟩
end
/-! ### a word beside a thing, compared -/
inductive Ord (C : Addr) (H : Hp) (w : Nat) : V → Res → Prop where
  | word {b : Addr} {v : Int} (W : WordAt C H b w v) : Ord C H w (.ref b) (.val v)
  | unlike {b : Addr} {w' : Nat} {v : Int} (W : WordAt C H b w' v) (ne : w' ≠ w) : Ord C H w (.ref b) (.unlike w')
  | bad {y : V} {g : Tag} (k : Kd C H y g) (ng : g ≠ .own) : Ord C H w y .bad
section
variable {K : PySem.W.Frag} {C B1 B2 U p L : Addr} {H H' : Hp} {w : Nat} {u : Int} {y : V} {r : Res} {ty : Str} {Q : VK}
theorem Ord.stay (k : Ord C H w y r) (s : Stay y H H') : Ord C H' w y r := by
  cases k with
  | word W => exact .word (W.stay s)
  | unlike W ne => exact .unlike (W.stay s) ne
  | bad k ng => exact .bad (k.stay s) ng
theorem Ord.ex (k : Ord C H w y r) (e : Ex H H') : Ord C H' w y r := k.stay (Stay.ex e)
theorem Ord.kd (k : Ord C H w y r) : ∃ g, Kd C H y g := by
  cases k with
  | word W => exact ⟨_, .own W⟩
  | unlike W _ => exact ⟨_, .own W⟩
  | bad k _ => exact ⟨_, k⟩
theorem Ord.off (k : Ord C H w y r) (n : H p = none) : y ≠ .ref p := fun e => by
  obtain ⟨g, d⟩ := k.kd
  exact d.told e n
theorem Ord.w64 (k : Ord C H w y (.unlike w')) : w' ≤ 64 := by
  cases k with
  | unlike W _ => exact W.w64
/-- what an order says where it says anything -/
def ob (f : Int → Int → Bool) (u : Int) : Res → Bool
  | .val v => f u v
  | _ => false
def rowV (w : Nat) (y : V) (r : Res) (b : Bool) : List V := match r with
  | .val _ => [.str "made", .bl b]
  | .unlike w' => [.str "unlike", .int w, .int w']
  | .bad => [.str "word", y]
def rowTs (w : Nat) (ty : Str) (r : Res) (b : Bool) : List Str := match r with
  | .val _ => [reprText "made", PyData.shown (.bool b)]
  | .unlike w' => [reprText "unlike", PyData.shown (.int (w : Int)), PyData.shown (.int (w' : Int))]
  | .bad => [reprText "word", ty]
def ords : List (Int → Int → Bool) := [fun u v => decide (u < v), fun u v => decide (u ≤ v), fun u v => decide (u > v), fun u v => decide (u ≥ v)]
def ordT (w : Nat) (u : Int) (ty : Str) (r : Res) : List Str := ords.map fun f => tupleText (rowTs w ty r (ob f u r))
def Told4 (K : PySem.W.Frag) (C L : Addr) : Rpr := RTupA K (fun p => ThgL K C [p, L]) [L]
theorem mon_Told4 : Mon (Told4 K C L) := mon_tupA fun _ => mon_ThgL
theorem got_heard {f : Int → Int → Bool} (k : Tup H (rowV w y r (ob f u r)) Q) : Got B2 U w y r H (HE3 B1 B2 U Q) (fun v => Tup H [.str "made", .bl (f u v)] Q) := by
  cases r with
  | val v => exact k
  | unlike w' => exact fly_unlike fun H1 e1 p H2 np e2 hp => k p H2 (back e1 np) (e1.trans e2) hp
  | bad => exact fly_value fun H1 e1 p H2 np e2 hp => k p H2 (back e1 np) (e1.trans e2) hp
theorem row_each {b : Bool} (w64 : w ≤ 64) (O : Ord C H w y r) (sh : Shown C H y ty) (n1 : y ≠ .ref p) (n2 : y ≠ .ref L) : Each (ThgL K C [p, L]) (rowV w y r b) (rowTs w ty r b) H := by
  have st : ∀ s : Str, ThgL K C [p, L] (.str s) (reprText s) H := fun s => .inl (.inr (.inl ⟨s, rfl, rfl⟩))
  have nt : ∀ n : Nat, n ≤ 64 → ThgL K C [p, L] (.int (n : Int)) (PyData.shown (.int (n : Int))) H := fun n h => .inl (.inl (.inr (.inr ⟨_, rfl, small_log h, rfl⟩)))
  cases r with
  | val v => exact two_each (st _) (.inl (.inl (.inr (.inl ⟨b, rfl, rfl⟩))))
  | unlike w' => exact three_each (st _) (nt _ w64) (nt _ O.w64)
  | bad =>
    refine two_each (st _) (sh.atL fun a ha => ?_)
    rcases List.mem_cons.mp ha with rfl | ha
    · exact n1
    · rw [List.mem_singleton.mp ha]
      exact n2
theorem row_at {b : Bool} (h : H p = some (.tup (rowV w y r b))) (w64 : w ≤ 64) (O : Ord C H w y r) (sh : Shown C H y ty) (n1 : y ≠ .ref p) (n2 : y ≠ .ref L) (np : p ≠ L) : Told4 K C L (.ref p) (tupleText (rowTs w ty r b)) H :=
  ⟨p, _, _, rfl, fun q => np (List.mem_singleton.mp q), h, rfl, row_each w64 O sh n1 n2⟩
theorem four_each {D : Rpr} {a b c d : V} {t1 t2 t3 t4 : Str} (h1 : D a t1 H) (h2 : D b t2 H) (h3 : D c t3 H) (h4 : D d t4 H) : Each D [a, b, c, d] [t1, t2, t3, t4] H := ⟨rfl, fun i x s e1 e2 => by
  match i with
  | 0 => cases e1; cases e2; exact h1
  | 1 => cases e1; cases e2; exact h2
  | 2 => cases e1; cases e2; exact h3
  | 3 => cases e1; cases e2; exact h4
  | i + 4 => simp at e1⟩
theorem ordT_len (w64 : w ≤ 64) (h : ∀ w', r = .unlike w' → w' ≤ 64) (n : ty.length ≤ 10000) : (listText (ordT w u ty r)).length ≤ sizeLine := by
  have nl : ∀ n : Nat, n ≤ 64 → (PyData.shown (.int (n : Int))).length ≤ 1000 := fun n h => Nat.le_trans (len_64 (by omega) (by omega)) (by decide)
  have one : ∀ b, (tupleText (rowTs w ty r b)).length ≤ 20000 := fun b => by
    have key : ∀ ts : List Str, ts.length ≤ 3 → (∀ t ∈ ts, t.length ≤ 10000 ∧ t.length ≤ 10000) → True := fun _ _ _ => trivial
    cases r with
    | val v =>
      have e1 := tupleText_len_le [reprText "made", PyData.shown (.bool b)]
      have e2 : (([reprText "made", PyData.shown (.bool b)] : List Str).map (·.length)).sum ≤ 100 := by cases b <;> decide +kernel
      have e3 : ([reprText "made", PyData.shown (.bool b)] : List Str).length = 2 := rfl
      show (tupleText [reprText "made", PyData.shown (.bool b)]).length ≤ 20000
      omega
    | unlike w' =>
      have e1 := tupleText_len_le [reprText "unlike", PyData.shown (.int (w : Int)), PyData.shown (.int (w' : Int))]
      have e2 : (([reprText "unlike", PyData.shown (.int (w : Int)), PyData.shown (.int (w' : Int))] : List Str).map (·.length)).sum = (reprText "unlike").length + ((PyData.shown (.int (w : Int))).length + ((PyData.shown (.int (w' : Int))).length + 0)) := rfl
      have e3 : ([reprText "unlike", PyData.shown (.int (w : Int)), PyData.shown (.int (w' : Int))] : List Str).length = 3 := rfl
      have e4 : (reprText "unlike").length ≤ 100 := by decide +kernel
      have h1 := nl w w64
      have h2 := nl w' (h w' rfl)
      show (tupleText [reprText "unlike", PyData.shown (.int (w : Int)), PyData.shown (.int (w' : Int))]).length ≤ 20000
      omega
    | bad =>
      have e1 := tupleText_len_le [reprText "word", ty]
      have e2 : (([reprText "word", ty] : List Str).map (·.length)).sum = (reprText "word").length + (ty.length + 0) := rfl
      have e3 : ([reprText "word", ty] : List Str).length = 2 := rfl
      have e4 : (reprText "word").length ≤ 100 := by decide +kernel
      show (tupleText [reprText "word", ty]).length ≤ 20000
      omega
  have e1 := textFrom_len_le (ordT w u ty r) 0 "["
  have e2 : (listText (ordT w u ty r)).length = (textFrom 0 "[" (ordT w u ty r)).length + 1 := by
    show (textFrom 0 "[" (ordT w u ty r) ++ "]").length = _
    rw [strLen_append]; rfl
  have e3 : ((ordT w u ty r).map (·.length)).sum = (tupleText (rowTs w ty r (ob (fun u v => decide (u < v)) u r))).length + ((tupleText (rowTs w ty r (ob (fun u v => decide (u ≤ v)) u r))).length + ((tupleText (rowTs w ty r (ob (fun u v => decide (u > v)) u r))).length + ((tupleText (rowTs w ty r (ob (fun u v => decide (u ≥ v)) u r))).length + 0))) := rfl
  have e4 : (ordT w u ty r).length = 4 := rfl
  have e5 : ("[" : Str).length = 1 := rfl
  have o1 := one (ob (fun u v => decide (u < v)) u r)
  have o2 := one (ob (fun u v => decide (u ≤ v)) u r)
  have o3 := one (ob (fun u v => decide (u > v)) u r)
  have o4 := one (ob (fun u v => decide (u ≥ v)) u r)
  exact Nat.le_trans (show _ ≤ 100000 by omega) (by decide)
end
theorem mut_ext {H C D D' : Hp} {L : Addr} (G : LamX.ExtN H C) (nL : C L = none) (E : LamX.ExtN H D) (f : Fw L D D') : LamX.ExtN H D' := fun a o h n => f a o (fun e => by
  subst e
  have := G _ _ h n
  rw [nL] at this
  cases this) (E _ _ h n)
theorem andT {c1 c2 al : Bool} {t : TE} {σ : L2.St} {H : Hp} {Q : VK} (e : al = (c1 && c2)) (ht : ∀ Q' : VK, Q' (.bl c2) H → t σ H Q') (h : Q (.bl al) H) : ∃ c, V.bl c1 = .bl c ∧ if c = true then t σ H Q else Q (.bl false) H := by
  refine ⟨c1, rfl, ?_⟩
  cases c1 with
  | true =>
    rw [Bool.true_and] at e
    subst e
    exact iteT (ht _ h)
  | false =>
    rw [Bool.false_and] at e
    subst e
    exact iteF h
def Small (s : Str) : Prop := ∀ c ∈ s.cps.toList, c < 16 ^ 8
theorem small_of (s : String) : Small (Str.ofString s) := fun c hc => by
  rw [Str.ofString_eq_toList] at hc
  obtain ⟨ch, _, rfl⟩ := List.mem_map.mp (show c ∈ s.toList.map Char.toNat from by simpa using hc)
  have h := ch.val.toNat_lt
  exact Nat.lt_of_lt_of_le h (by decide)
theorem small_add {a b : Str} (ha : Small a) (hb : Small b) : Small (a ++ b) := fun c hc => by
  have hc : c ∈ a.cps.toList ++ b.cps.toList := by
    have e : (a ++ b).cps = a.cps ++ b.cps := rfl
    rw [e, Array.toList_append] at hc
    exact hc
  rcases List.mem_append.mp hc with h | h
  · exact ha c h
  · exact hb c h
theorem small_word (w : Nat) (u : Int) : Small (wtext w u) := by
  have e : Small Str.empty := fun c hc => by cases hc
  exact small_add (small_add (small_add (small_add (small_add e (small_of _)) (small_of _)) (small_of _)) (small_of _)) (small_of _)
theorem rep_word {w : Nat} {u : Int} (hw : w ≤ 64) (h0 : 0 ≤ u) (h1 : u < 18446744073709551616) : (reprText (wtext w u)).length ≤ 10000 := by
  have e := StrLaws.reprText_len (wtext w u) (small_word w u)
  have l := wtext_len hw h0 h1
  omega
theorem passE0 {X : Cx} : Passes (L2.CX X.prog X.w) X E0 := fun _ _ _ _ _ _ _ ⟨_, _, _, _, _, _, _, _, _, _, _, _, h⟩ => h.elim
def spOrdered (C B U : Addr) : Sp := fun vs H Q E => ∃ x y, ∃ w : Nat, ∃ u r, vs = [.ref x, y] ∧ WordAt C H x w u ∧ Ord C H w y r ∧ Got B U w y r H E fun v => Q (.int v) H
def spCmp (C B U : Addr) (f : Int → Int → Bool) : Sp := fun vs H Q E => ∃ x y, ∃ w : Nat, ∃ u r, vs = [.ref x, y] ∧ WordAt C H x w u ∧ Ord C H w y r ∧ Got B U w y r H E fun v => Q (.bl (f u v)) H
def spEqA (C : Addr) : Sp := fun vs H Q _ => ∃ x y, ∃ w : Nat, ∃ u r, vs = [.ref x, y] ∧ WordAt C H x w u ∧ Ord C H w y r ∧ Q (.bl (ob (fun u v => decide (u = v)) u r)) H
def spOrders (K : PySem.W.Frag) (C : Addr) (TL : List (Addr × Str)) : Sp := fun vs H Q _ => ∃ x y, ∃ w : Nat, ∃ u r ty, vs = [.ref x, y] ∧ WordAt C H x w u ∧ Ord C H w y r ∧ Shown C H y ty ∧ LamX.Tabs TL H ∧
  ∀ L H' ys, LamX.ExtN H H' → LamX.Tabs TL H' → H' L = some (.lst ys) → Each (Told4 K C L) ys (ordT w u ty r) H' → Q (.ref L) H'
def spRight5 (TL : List (Addr × Str)) : Sp := fun vs H Q _ => ∃ w w' : Nat, ∃ u v : Int, vs = [.int w, .int u, .int w', .int v] ∧ 1 ≤ w ∧ w ≤ 64 ∧ 1 ≤ w' ∧ w' ≤ 64 ∧ 0 ≤ u ∧ u ≤ mw w ∧ 0 ≤ v ∧ v ≤ mw w' ∧ LamX.Tabs TL H ∧
  ∀ H', LamX.ExtN H H' → LamX.Tabs TL H' → Q (.bl true) H'
def spBeside (TL : List (Addr × Str)) : Sp := fun vs H Q _ => ∃ z c cells t, ∃ w : Nat, ∃ u : Int, vs = [.ref z, .int w, .int u] ∧ PenAt H z c cells t ∧ t ≤ 80000 ∧ 1 ≤ w ∧ w ≤ 64 ∧ 0 ≤ u ∧ u ≤ mw w ∧ LamX.Tabs TL H ∧
  ∀ H', PenAt H' z c cells (t + 1) → LamX.Tabs TL H' → Q (.bl true) H'
end Tz
namespace Tz
open PySem PySem.Spec PyProof.Rows L2 TzF TzRepr
/-! ### halves by their places, pieces by what stands ahead -/
def wt (b : Nat) (a : Int) : Int := if a % 2 = 0 then 2 ^ b else 1
def pl (b : Nat) : Int → List Int → Int
  | _, [] => 0
  | a, h :: t => h * wt b a + pl b (a + 1) t
def wp (b : Nat) (a : Int) : Int := if a % 2 = 0 then 1 else 2 ^ b
def tp (b : Nat) : Int → List (Int × Int) → Int
  | _, [] => 0
  | a, (n, v) :: r => v * wp b a + tp b (a + n) r
/-- what joined comes to, word by word -/
def jv (b : Nat) : Int → Int → List (Int × Int) → Int
  | s, _, [] => s
  | s, a, (n, v) :: r => jv b (cr (2 * b) (s + cr (2 * b) (v * 2 ^ (((a % 2 * (b : Int)) % ((2 * b : Nat) : Int)).toNat)))) (a + n) r
def Nn (hs : List Int) : Prop := ∀ h ∈ hs, 0 ≤ h
def Vn (ps : List (Int × Int)) : Prop := ∀ q ∈ ps, 0 ≤ q.2
theorem p0 (b : Nat) : (0 : Int) < 2 ^ b := Int.pow_pos (by decide)
theorem wt0 (b : Nat) (a : Int) : 0 ≤ wt b a := by
  have := p0 b
  unfold wt
  split <;> omega
theorem wp0 (b : Nat) (a : Int) : 0 ≤ wp b a := by
  have := p0 b
  unfold wp
  split <;> omega
theorem pl0 {b : Nat} : ∀ {hs : List Int} (a : Int), Nn hs → 0 ≤ pl b a hs
  | [], _, _ => Int.le_refl 0
  | h :: t, a, n => by
    have h1 := pl0 (b := b) (hs := t) (a + 1) fun x hx => n x (List.mem_cons_of_mem _ hx)
    have h2 := Int.mul_nonneg (n h List.mem_cons_self) (wt0 b a)
    show 0 ≤ h * wt b a + pl b (a + 1) t
    omega
theorem tp0 {b : Nat} : ∀ {ps : List (Int × Int)} (a : Int), Vn ps → 0 ≤ tp b a ps
  | [], _, _ => Int.le_refl 0
  | (n, v) :: t, a, h => by
    have h1 := tp0 (b := b) (ps := t) (a + n) fun x hx => h x (List.mem_cons_of_mem _ hx)
    have h2 := Int.mul_nonneg (h (n, v) List.mem_cons_self) (wp0 b a)
    show 0 ≤ v * wp b a + tp b (a + n) t
    have h2 : 0 ≤ v * wp b a := h2
    omega
theorem wt_par {b : Nat} {a c : Int} (h : a % 2 = c % 2) : wt b a = wt b c := by unfold wt; rw [h]
theorem wp_par {b : Nat} {a c : Int} (h : a % 2 = c % 2) : wp b a = wp b c := by unfold wp; rw [h]
theorem pl_par {b : Nat} : ∀ {hs : List Int} {a c : Int}, a % 2 = c % 2 → pl b a hs = pl b c hs
  | [], _, _, _ => rfl
  | h :: t, a, c, e => by
    show h * wt b a + pl b (a + 1) t = h * wt b c + pl b (c + 1) t
    rw [wt_par e, pl_par (hs := t) (show (a + 1) % 2 = (c + 1) % 2 by omega)]
theorem tp_par {b : Nat} : ∀ {ps : List (Int × Int)} {a c : Int}, a % 2 = c % 2 → tp b a ps = tp b c ps
  | [], _, _, _ => rfl
  | (n, v) :: t, a, c, e => by
    show v * wp b a + tp b (a + n) t = v * wp b c + tp b (c + n) t
    rw [wp_par e, tp_par (ps := t) (show (a + n) % 2 = (c + n) % 2 by omega)]
theorem pl_app {b : Nat} : ∀ {xs ys : List Int} (a : Int), pl b a (xs ++ ys) = pl b a xs + pl b (a + xs.length) ys
  | [], ys, a => by
    show pl b a ys = 0 + pl b (a + (0 : Nat)) ys
    rw [Int.zero_add]
    congr 1
    omega
  | h :: t, ys, a => by
    show h * wt b a + pl b (a + 1) (t ++ ys) = h * wt b a + pl b (a + 1) t + pl b (a + ((t.length + 1 : Nat) : Int)) ys
    rw [pl_app (xs := t), show a + 1 + (t.length : Int) = a + ((t.length + 1 : Nat) : Int) by omega, Int.add_assoc]
theorem tp_app {b : Nat} : ∀ {xs ys : List (Int × Int)} (a : Int), tp b a (xs ++ ys) = tp b a xs + tp b (a + (xs.map (·.1)).sum) ys
  | [], ys, a => by
    show tp b a ys = 0 + tp b (a + 0) ys
    rw [Int.zero_add, Int.add_zero]
  | (n, v) :: t, ys, a => by
    show v * wp b a + tp b (a + n) (t ++ ys) = v * wp b a + tp b (a + n) t + tp b (a + (n + (t.map (·.1)).sum)) ys
    rw [tp_app (xs := t), Int.add_assoc, Int.add_assoc]
section
variable {b : Nat}
/-- the same word -/
theorem cr_cong (h : 1 ≤ b) {x x' y y' : Int} (a0 : 0 ≤ x) (a1 : 0 ≤ x') (c0 : 0 ≤ y) (c1 : 0 ≤ y') (e : cr (2 * b) x = cr (2 * b) x') (f : cr (2 * b) y = cr (2 * b) y') : cr (2 * b) (x + y) = cr (2 * b) (x' + y') := by
  rw [← cr_add2 (by omega) a0 c0, e, f, cr_add2 (by omega) a1 c1]
theorem cr_cr (h : 1 ≤ b) (x : Int) : cr (2 * b) (cr (2 * b) x) = cr (2 * b) x := by
  have := cr_bd (w := 2 * b) (by omega) x
  exact cr_self this.1 this.2
theorem cr_mulp (h : 1 ≤ b) {x y k : Int} (k0 : 0 ≤ k) (a0 : 0 ≤ x) (c0 : 0 ≤ y) (e : cr (2 * b) x = cr (2 * b) y) : cr (2 * b) (x * k) = cr (2 * b) (y * k) := by
  rw [Int.mul_comm x, Int.mul_comm y, ← cr_mul (by omega) k0 a0, e, cr_mul (by omega) k0 c0]
theorem twice (h : 1 ≤ b) {x : Int} (x0 : 0 ≤ x) : cr (2 * b) (x * 2 ^ b * 2 ^ b) = cr (2 * b) x := by
  have e : x * 2 ^ b * 2 ^ b = x * 2 ^ (2 * b * 1) := by rw [Int.mul_assoc, ← Int.pow_add]; congr 2; omega
  rw [e]
  exact cr_round (by omega) x0 1
theorem pl_turn (h : 1 ≤ b) : ∀ {hs : List Int} (a : Int), Nn hs → cr (2 * b) (pl b a hs * 2 ^ b) = cr (2 * b) (pl b (a + 1) hs)
  | [], a, _ => by
    show cr (2 * b) (0 * 2 ^ b) = cr (2 * b) 0
    rw [Int.zero_mul]
  | x :: t, a, n => by
    have p := Int.le_of_lt (p0 b)
    have nt : Nn t := fun y hy => n y (List.mem_cons_of_mem _ hy)
    have x0 := n x List.mem_cons_self
    show cr (2 * b) ((x * wt b a + pl b (a + 1) t) * 2 ^ b) = cr (2 * b) (x * wt b (a + 1) + pl b (a + 1 + 1) t)
    rw [Int.add_mul]
    refine cr_cong h (Int.mul_nonneg (Int.mul_nonneg x0 (wt0 b a)) p) (Int.mul_nonneg x0 (wt0 b _)) (Int.mul_nonneg (pl0 _ nt) p) (pl0 _ nt) ?_ (pl_turn h (a + 1) nt)
    unfold wt
    by_cases e : a % 2 = 0
    · rw [if_pos e, if_neg (show ¬ (a + 1) % 2 = 0 by omega), Int.mul_one]
      exact twice h x0
    · rw [if_neg e, if_pos (show (a + 1) % 2 = 0 by omega), Int.mul_one]
theorem tp_turn (h : 1 ≤ b) : ∀ {ps : List (Int × Int)} (a : Int), Vn ps → cr (2 * b) (tp b a ps * 2 ^ b) = cr (2 * b) (tp b (a + 1) ps)
  | [], a, _ => by
    show cr (2 * b) (0 * 2 ^ b) = cr (2 * b) 0
    rw [Int.zero_mul]
  | (m, x) :: t, a, n => by
    have p := Int.le_of_lt (p0 b)
    have nt : Vn t := fun y hy => n y (List.mem_cons_of_mem _ hy)
    have x0 : 0 ≤ x := n (m, x) List.mem_cons_self
    show cr (2 * b) ((x * wp b a + tp b (a + m) t) * 2 ^ b) = cr (2 * b) (x * wp b (a + 1) + tp b (a + 1 + m) t)
    rw [Int.add_mul]
    refine cr_cong h (Int.mul_nonneg (Int.mul_nonneg x0 (wp0 b a)) p) (Int.mul_nonneg x0 (wp0 b _)) (Int.mul_nonneg (tp0 _ nt) p) (tp0 _ nt) ?_ ?_
    · unfold wp
      by_cases e : a % 2 = 0
      · rw [if_pos e, if_neg (show ¬ (a + 1) % 2 = 0 by omega), Int.mul_one]
      · rw [if_neg e, if_pos (show (a + 1) % 2 = 0 by omega), Int.mul_one]
        exact twice h x0
    · rw [tp_turn h (a + m) nt, show a + m + 1 = a + 1 + m by omega]
/-- joined, by plain sums -/
theorem jv_is (h : 1 ≤ b) : ∀ {ps : List (Int × Int)} {s a : Int}, Vn ps → 0 ≤ s → s ≤ mw (2 * b) → jv b s a ps = cr (2 * b) (s + tp b a ps)
  | [], s, a, _, s0, s1 => by
    show s = cr (2 * b) (s + 0)
    rw [Int.add_zero, cr_self s0 s1]
  | (m, x) :: t, s, a, n, s0, s1 => by
    have nt : Vn t := fun y hy => n y (List.mem_cons_of_mem _ hy)
    have x0 : 0 ≤ x := n (m, x) List.mem_cons_self
    have e : x * 2 ^ (((a % 2 * (b : Int)) % ((2 * b : Nat) : Int)).toNat) = x * wp b a := by
      unfold wp
      by_cases q : a % 2 = 0
      · rw [if_pos q, q, Int.zero_mul, Int.zero_emod]
        rfl
      · have q1 : a % 2 = 1 := by omega
        rw [if_neg q, q1, Int.one_mul, Int.emod_eq_of_lt (by omega) (by omega), Int.toNat_natCast]
    have bd := cr_bd (w := 2 * b) (by omega) (s + cr (2 * b) (x * wp b a))
    have w0 := Int.mul_nonneg x0 (wp0 b a)
    show jv b (cr (2 * b) (s + cr (2 * b) (x * 2 ^ (((a % 2 * (b : Int)) % ((2 * b : Nat) : Int)).toNat)))) (a + m) t = cr (2 * b) (s + (x * wp b a + tp b (a + m) t))
    rw [e, jv_is h nt bd.1 bd.2, cr_add (by omega) (Int.add_nonneg s0 (cr_bd (by omega) _).1) (tp0 _ nt), ← Int.add_assoc]
    refine cr_cong h (Int.add_nonneg s0 (cr_bd (by omega) _).1) (Int.add_nonneg s0 w0) (tp0 _ nt) (tp0 _ nt) ?_ rfl
    rw [Int.add_comm, cr_add (by omega) w0 s0, Int.add_comm]
/-- the pieces' own totals -/
def tellP (b : Nat) (rows : List (List Int)) : List (Int × Int) := rows.map fun r => ((r.length : Int), cr (2 * b) (pl b 0 r))
theorem tellP_nn (h : 1 ≤ b) (rows : List (List Int)) : Vn (tellP b rows) := fun q hq => by
  obtain ⟨r, _, rfl⟩ := List.mem_map.mp hq
  exact (cr_bd (by omega) _).1
theorem tell_is (h : 1 ≤ b) : ∀ {rows : List (List Int)} (a : Int), (∀ r ∈ rows, Nn r) → cr (2 * b) (tp b a (tellP b rows)) = cr (2 * b) (pl b a rows.flatten)
  | [], a, _ => rfl
  | r :: t, a, n => by
    have nr := n r List.mem_cons_self
    have nt : ∀ r ∈ t, Nn r := fun y hy => n y (List.mem_cons_of_mem _ hy)
    have nf : Nn t.flatten := fun x hx => by
      obtain ⟨l, hl, hx⟩ := List.mem_flatten.mp hx
      exact nt l hl x hx
    show cr (2 * b) (cr (2 * b) (pl b 0 r) * wp b a + tp b (a + (r.length : Int)) (tellP b t)) = cr (2 * b) (pl b a (r ++ t.flatten))
    rw [pl_app]
    have c0 := (cr_bd (w := 2 * b) (by omega) (pl b 0 r)).1
    refine cr_cong h (Int.mul_nonneg c0 (wp0 b a)) (pl0 _ nr) (tp0 _ (tellP_nn h t)) (pl0 _ nf) ?_ (tell_is h _ nt)
    unfold wp
    by_cases e : a % 2 = 0
    · rw [if_pos e, Int.mul_one, cr_cr h, pl_par (c := a) (by omega)]
    · rw [if_neg e, cr_mulp h (Int.le_of_lt (p0 b)) c0 (pl0 _ nr) (cr_cr h _), pl_turn h 0 nr, pl_par (c := a) (by omega)]
/-- two neighbours joined first -/
theorem both_is (h : 1 ≤ b) {xs ys : List (Int × Int)} {n1 v1 n2 v2 far : Int} (nx : Vn xs) (ny : Vn ys) (z1 : 0 ≤ v1) (z2 : 0 ≤ v2) (ef : far % 2 = 0) :
    cr (2 * b) (tp b 0 (xs ++ (n1 + n2 + far, cr (2 * b) (tp b 0 [(n1, v1), (n2, v2)])) :: ys)) = cr (2 * b) (tp b 0 (xs ++ (n1, v1) :: (n2, v2) :: ys)) := by
  have n2' : Vn [(n1, v1), (n2, v2)] := fun q hq => by
    rcases List.mem_cons.mp hq with rfl | hq
    · exact z1
    · rw [List.mem_singleton.mp hq]
      exact z2
  have c0 := (cr_bd (w := 2 * b) (by omega) (tp b 0 [(n1, v1), (n2, v2)])).1
  rw [tp_app, tp_app]
  generalize (0 : Int) + (xs.map (·.1)).sum = a
  have t0 := tp0 (b := b) (ps := [(n1, v1), (n2, v2)]) 0 n2'
  have ta := tp0 (b := b) (ps := [(n1, v1), (n2, v2)]) a n2'
  have e1 : tp b a ((n1, v1) :: (n2, v2) :: ys) = tp b a [(n1, v1), (n2, v2)] + tp b (a + n1 + n2) ys := by
    show v1 * wp b a + (v2 * wp b (a + n1) + tp b (a + n1 + n2) ys) = v1 * wp b a + (v2 * wp b (a + n1) + 0) + tp b (a + n1 + n2) ys
    omega
  have e2 : tp b a ((n1 + n2 + far, cr (2 * b) (tp b 0 [(n1, v1), (n2, v2)])) :: ys) = cr (2 * b) (tp b 0 [(n1, v1), (n2, v2)]) * wp b a + tp b (a + n1 + n2) ys := by
    show _ + tp b (a + (n1 + n2 + far)) ys = _
    rw [tp_par (ps := ys) (a := a + (n1 + n2 + far)) (c := a + n1 + n2) (by omega)]
  rw [e1, e2]
  refine cr_cong h (tp0 _ nx) (tp0 _ nx) (Int.add_nonneg (Int.mul_nonneg c0 (wp0 b a)) (tp0 _ ny)) (Int.add_nonneg ta (tp0 _ ny)) rfl (cr_cong h (Int.mul_nonneg c0 (wp0 b a)) ta (tp0 _ ny) (tp0 _ ny) ?_ rfl)
  unfold wp
  by_cases e : a % 2 = 0
  · rw [if_pos e, Int.mul_one, cr_cr h, tp_par (c := a) (by omega)]
  · rw [if_neg e, cr_mulp h (Int.le_of_lt (p0 b)) c0 t0 (cr_cr h _), tp_turn h 0 n2', tp_par (c := a) (by omega)]
/-- packed, by places -/
theorem pk_pl : ∀ (hs : List Int), (pk b hs (hn hs)).sum = pl b 0 hs
  | [] => rfl
  | [x] => by
    have e : pk b [x] (hn [x]) = [pw b [x] 0] := by
      have e1 : hn [x] = 1 := by unfold hn; simp
      rw [e1]
      simp [pk, List.range_succ]
    rw [e, List.sum_cons, List.sum_nil]
    show pw b [x] 0 + 0 = x * wt b 0 + 0
    unfold pw wt
    simp
  | x :: y :: t => by
    have ih := pk_pl t
    have e : hn (x :: y :: t) = hn t + 1 := by
      unfold hn
      simp only [List.length_cons]
      omega
    have e2 : pk b (x :: y :: t) (hn t + 1) = pw b (x :: y :: t) 0 :: pk b t (hn t) := by
      unfold pk
      rw [List.range_succ_eq_map, List.map_cons, List.map_map]
      rfl
    rw [e, e2, List.sum_cons, ih]
    show pw b (x :: y :: t) 0 + pl b 0 t = x * wt b 0 + (y * wt b (0 + 1) + pl b (0 + 1 + 1) t)
    rw [pl_par (hs := t) (a := 0 + 1 + 1) (c := 0) (by decide)]
    unfold pw wt
    simp
    omega
/-- a word turned by half, as by_pieces finds it -/
theorem turn_half (h : 1 ≤ b) {v : Int} (v0 : 0 ≤ v) (v1 : v ≤ mw (2 * b)) : cr (2 * b) (v * 2 ^ b) = v % 2 ^ b * 2 ^ b + v / 2 ^ b := by
  obtain ⟨n, rfl⟩ : ∃ n : Nat, v = (n : Int) := ⟨v.toNat, by omega⟩
  have hv : n < 2 ^ (2 * b) := by
    have e : ((2 ^ (2 * b) : Nat) : Int) = 2 ^ (2 * b) := by rw [Int.natCast_pow] <;> rfl
    unfold mw at v1
    omega
  have q := cr_turn (w := 2 * b) (s := b) (by omega) (by omega) hv
  rw [q, show 2 * b - b = b by omega, Int.natCast_add, Int.natCast_mul, Int.natCast_emod, Int.natCast_ediv, Int.natCast_pow]
  rfl
end
/-! ### pieces -/
def ten30 : Int := 1000000000000000000000000000000
def PcAt (C : Addr) (H : Hp) (b : Nat) (y : V) (q : Int × Int) : Prop := ∃ p x, y = .ref p ∧ H p = some (.tup [.int q.1, .ref x]) ∧ 0 ≤ q.1 ∧ q.1 ≤ ten30 ∧ WordAt C H x (2 * b) q.2
inductive NoPc (C : Addr) (H : Hp) (b : Nat) : V → Prop where
  | thing {y : V} {g : Tag} (k : Kd C H y g) (ng : g ≠ .tup) : NoPc C H b y
  | long {p : Addr} {ys : List V} (h : H p = some (.tup ys)) (n : ys.length ≠ 2) : NoPc C H b (.ref p)
  | num {p : Addr} {x z : V} {g : Tag} (h : H p = some (.tup [x, z])) (k : Kd C H x g) (no : ∀ n, x = .int n → ¬ (0 ≤ n ∧ n ≤ ten30)) : NoPc C H b (.ref p)
  | part {p : Addr} {n : Int} {z : V} {g : Tag} (h : H p = some (.tup [.int n, z])) (n0 : 0 ≤ n) (n1 : n ≤ ten30) (k : Kd C H z g) (ng : g ≠ .own) : NoPc C H b (.ref p)
  | wide {p x : Addr} {n v : Int} {w' : Nat} (h : H p = some (.tup [.int n, .ref x])) (n0 : 0 ≤ n) (n1 : n ≤ ten30) (W : WordAt C H x w' v) (ne : w' ≠ 2 * b) : NoPc C H b (.ref p)
section
variable {C : Addr} {H H' : Hp} {b : Nat} {y : V} {q : Int × Int}
theorem PcAt.keep (h : PcAt C H b y q) (e : ∀ a o, H a = some o → (∀ ps, o ≠ .tbl ps) → (∀ xs, o ≠ .lst xs) → H' a = some o) : PcAt C H' b y q := by
  obtain ⟨p, x, rfl, h1, h2, h3, ⟨dx, h4⟩, h5, h6, h7, h8⟩ := h
  exact ⟨p, x, rfl, e _ _ h1 (fun _ q => by cases q) (fun _ q => by cases q), h2, h3, ⟨dx, e _ _ h4 (fun _ q => by cases q) (fun _ q => by cases q)⟩, h5, h6, h7, h8⟩
theorem PcAt.ex (h : PcAt C H b y q) (e : Ex H H') : PcAt C H' b y q := h.keep fun a o z _ _ => e a o z
end
theorem NoPc.keep {C : Addr} {H H' : Hp} {b : Nat} {y : V} (h : NoPc C H b y) (e : ∀ a o, H a = some o → (∀ ps, o ≠ .tbl ps) → ((∃ xs, o = .lst xs) → y = .ref a ∨ ∃ p xs, y = .ref p ∧ H p = some (.tup xs) ∧ V.ref a ∈ xs) → H' a = some o) : NoPc C H' b y := by
  cases h with
  | thing k ng => exact .thing (k.step fun a o h m q => e a o h m fun _ => .inl q) ng
  | long h n => exact .long (e _ _ h (fun _ q => by cases q) fun ⟨_, q⟩ => by cases q) n
  | num h k no => exact .num (e _ _ h (fun _ q => by cases q) fun ⟨_, q⟩ => by cases q) (k.step fun a o h' m q => e a o h' m fun _ => .inr ⟨_, _, rfl, h, by rw [q]; exact List.mem_cons_self⟩) no
  | part h n0 n1 k ng => exact .part (e _ _ h (fun _ q => by cases q) fun ⟨_, q⟩ => by cases q) n0 n1 (k.step fun a o h' m q => e a o h' m fun _ => .inr ⟨_, _, rfl, h, by rw [q]; exact List.mem_cons_of_mem _ List.mem_cons_self⟩) ng
  | wide h n0 n1 W ne =>
    obtain ⟨⟨dx, h1⟩, h2, h3, h4, h5⟩ := W
    exact .wide (e _ _ h (fun _ q => by cases q) fun ⟨_, q⟩ => by cases q) n0 n1 ⟨⟨dx, e _ _ h1 (fun _ q => by cases q) fun ⟨_, q⟩ => by cases q⟩, h2, h3, h4, h5⟩ ne
theorem NoPc.ex {C : Addr} {H H' : Hp} {b : Nat} {y : V} (h : NoPc C H b y) (e : Ex H H') : NoPc C H' b y := h.keep fun a o z _ _ => e a o z
def Pcs (C : Addr) (H : Hp) (b : Nat) (ys : List V) (qs : List (Int × Int)) : Prop := ys.length = qs.length ∧ ∀ (i : Nat) y q, ys[i]? = some y → qs[i]? = some q → PcAt C H b y q
def spIsPiece (C : Addr) : Sp := fun vs H Q _ => ∃ (b : Nat) (y : V), vs = [.int ((2 * b : Nat) : Int), y] ∧ ((∃ q, PcAt C H b y q ∧ Q (.bl true) H) ∨ (NoPc C H b y ∧ Q (.bl false) H))
def spCheckP (C B : Addr) : Sp := fun vs H Q E => ∃ (b : Nat) (l : Addr) (ys : List V), vs = [.int ((2 * b : Nat) : Int), .ref l] ∧ H l = some (.lst ys) ∧
  ((∃ qs, Pcs C H b ys qs ∧ ∀ H', Ex H H' → Q .non H') ∨ ∃ as z rest qs, ys = as ++ z :: rest ∧ Pcs C H b as qs ∧ NoPc C H b z ∧ Flies B [("at", .int as.length)] H E)
def spJoined (C B1 B2 : Addr) : Sp := fun vs H Q E => ∃ (y : V) (g : Tag) (l : Addr) (ys : List V), vs = [y, .ref l] ∧ Kd C H y g ∧ H l = some (.lst ys) ∧
  ((OddW y ∧ Flies B1 [("width", y)] H E) ∨ ∃ b : Nat, y = .int ((2 * b : Nat) : Int) ∧ 1 ≤ b ∧ b ≤ 32 ∧
    ((∃ qs, Pcs C H b ys qs ∧ qs.length ≤ 100 ∧ NewW C (2 * b) (jv b 0 0 qs) H Q) ∨ ∃ as z rest qs, ys = as ++ z :: rest ∧ Pcs C H b as qs ∧ NoPc C H b z ∧ Flies B2 [("at", .int as.length)] H E))
def spPlaces : Sp := fun vs H Q _ => ∃ (b : Nat) (l : Addr) (hs : List Int), vs = [.int ((2 * b : Nat) : Int), .ref l] ∧ 1 ≤ b ∧ b ≤ 32 ∧ H l = some (.lst (hs.map V.int)) ∧ Halfs b hs ∧ hs.length ≤ 100 ∧ Q (.int (cr (2 * b) (pl b 0 hs))) H
def spPieces (C : Addr) : Sp := fun vs H Q _ => ∃ (b : Nat) (l : Addr) (ys : List V) (qs : List (Int × Int)), vs = [.int ((2 * b : Nat) : Int), .ref l] ∧ 1 ≤ b ∧ b ≤ 32 ∧ H l = some (.lst ys) ∧ Pcs C H b ys qs ∧ Vn qs ∧ ∀ H', Ex H H' → Q (.int (cr (2 * b) (tp b 0 qs))) H'
theorem half_turn {b : Nat} (h : 1 ≤ b) {v : Int} (v0 : 0 ≤ v) (v1 : v ≤ mw (2 * b)) : Builtin.bitAnd (v * 2 ^ (((2 * b : Nat) : Int) / 2).toNat) (mw (2 * b)) + v / 2 ^ (((2 * b : Nat) : Int) / 2).toNat = cr (2 * b) (v * 2 ^ b) := by
  rw [nat2, Int.toNat_natCast, turn_half h v0 v1]
  have e : mw (2 * b) = 2 ^ (2 * b) - 1 := rfl
  rw [e, PySem.W.kbt_mask, show 2 * b = b + b by omega, Int.pow_add, Int.mul_comm v, Int.mul_emod_mul_of_pos _ _ (p0 b), Int.mul_comm]
def RowsAt (H : Hp) (as : List Addr) (rows : List (List Int)) : Prop := as.length = rows.length ∧ ∀ (i : Nat) a r, as[i]? = some a → rows[i]? = some r → H a = some (.lst (r.map V.int))
def spCut : Sp := fun vs H Q _ => ∃ z c cells t l, ∃ hs : List Int, vs = [.ref z, .ref l] ∧ PenAt H z c cells t ∧ t ≤ 80000 ∧ H l = some (.lst (hs.map V.int)) ∧ hs.length ≤ 9 ∧ l ≠ z ∧
  ∀ L as rows H', H' L = some (.lst (as.map V.ref)) → RowsAt H' as rows → rows.flatten = hs → 2 ≤ rows.length → rows.length ≤ 6 → H L = none → (∀ a ∈ as, H a = none) → PenAt H' z c cells (t + 12) → Fw z H H' → Q (.ref L) H'
def spStrange (C : Addr) : Sp := fun vs H Q _ => ∃ z c cells t, ∃ b : Nat, vs = [.ref z, .int ((2 * b : Nat) : Int)] ∧ PenAt H z c cells t ∧ t ≤ 80000 ∧ 1 ≤ b ∧ b ≤ 32 ∧
  ∀ y q H', PcAt C H' b y q → PenAt H' z c cells (t + 6) → Fw z H H' → Q y H'
def spNoPiece (C : Addr) : Sp := fun vs H Q _ => ∃ z c cells t, ∃ b : Nat, vs = [.ref z, .int ((2 * b : Nat) : Int)] ∧ PenAt H z c cells t ∧ t ≤ 80000 ∧ 1 ≤ b ∧ b ≤ 32 ∧
  ∀ y H', (∀ H'', Go z H' H'' → NoPc C H'' b y) → PenAt H' z c cells (t + 1) → Fw z H H' → Q y H'
def HE2R (B1 B2 : Addr) (Q : VK) : XK := fun k d H => Catch1 B1 "width" "wide" Q k d H ∨ Catch1 B2 "at" "rows" Q k d H
end Tz
namespace Tz
open PySem PySem.Spec PyProof.Rows L2 TzF TzRepr
/-! ### a list of lists, of tuples -/
def RListA (D : Addr → Rpr) (as : List Addr) : Rpr := fun x t H => ∃ a xs ts, x = .ref a ∧ a ∉ as ∧ H a = some (.lst xs) ∧ t = listText ts ∧ Each (D a) xs ts H
theorem mon_listA {D : Addr → Rpr} {as : List Addr} (hD : ∀ a, Mon (D a)) : Mon (RListA D as) := fun x t H H' e ⟨a, xs, ts, hx, hn, h1, ht, p⟩ => ⟨a, xs, ts, hx, hn, e _ _ h1, ht, p.mon (hD a) e⟩
section
variable {X : Cx} {n : Nat} {as : List Addr}
theorem rpG_listA {D : Addr → Rpr} (hm : ∀ a, Mon (D a)) (h : ∀ a, RpG X n (a :: as) (D a)) : RpG X (n + 1) as (RListA D as) := by
  intro A g pins s σ H x u t b hr hf hg hc I r d hs
  obtain ⟨a, xs, ts, rfl, hna, ha, rfl, p⟩ := d
  cases r
  refine wpAny_pyReprUnder_ref (by omega) ?_
  obtain ⟨_, its, m, rv, hl, he⟩ := I.lstM ha
  by_cases hne : xs = []
  · subst hne
    have e1 : its = [] := List.length_eq_zero_iff.mp hl.symm
    subst e1
    have e2 : ts = [] := List.length_eq_zero_iff.mp p.1.symm
    subst e2
    exact wpAny_pyReprObjUnder_list_empty ⟨_, he, rfl⟩ hr.units0 he rfl ⟨_, _, rfl, rfl, H, I.kept (h' := s.heap) fun _ _ z => z, fun _ _ z => z⟩
  · refine wpAny_pyReprObjUnder_twin (twin := "list.__repr__.under") ⟨_, he, rfl⟩ F.slot_list_repr.toG rfl hr.units0 ?_
    refine call_twin_plain F.plain_list_repr_under F.entry_list_repr_under F.check_list_repr_under ⟨_, he, rfl⟩ F.slot_list_repr.toG (F.args_list_repr_1 _) ?_
    exact at_run (R := callEnd _ X.xe) (h a) (hm a) hr hf hg hc hna I ha hne p hs (fun e s' q => q) fun u H' s' I' e => ⟨⟨_, _, rfl⟩, _, _, rfl, rfl, H', I', e⟩
end
/-- what the law keeps: a list of numbers, a list of pairs -/
def RKept (K : PySem.W.Frag) (C a : Addr) : Rpr := fun x t H => RList RFlat [a] x t H ∨ RListA (fun b => RTupA K (fun _ => Flat C) [b, a]) [a] x t H
theorem mon_Kept {K : PySem.W.Frag} {C a : Addr} : Mon (RKept K C a) := (mon_list mon_flat).or (mon_listA fun _ => mon_tupA fun _ => mon_Flat)
theorem rpG_Kept {X : Cx} {CX : CXT} {C f : Addr} {fd : FuncData} {ps : List Str} {E : XK} (N : FnOk X.prog X.w X.K X.mg X.base CX 1 f fd ps (spRepr (WText C))) (M : Meth X.K C "__repr__" f) (hb : Binds X.K fd ps []) (hx : Passes CX X E) (a : Addr) : RpG X 3 [a] (RKept X.K C a) := by
  have fl : ∀ as, RpG X 1 as (Flat C) := fun as => (rpG_flat.mono (by decide)).or ((rpG_str.mono (by decide)).or (rpG_ins N M hb hx))
  exact ((rpG_list mon_flat fun _ => rpG_flat).mono (by decide)).or (rpG_listA (fun _ => mon_tupA fun _ => mon_Flat) fun b => rpG_tupA (fun _ => mon_Flat) fun c => fl _)
theorem call_len_seqK {X : Cx} {K : PySem.W.Frag} (hK : X.K = K) : CallR X (.builtin "len") (fun xs H Q => ∃ p ys, xs = [V.ref p] ∧ (SqL K H p ys ∨ SqT K H p ys) ∧ Q (V.int ys.length) H) := by
  subst hK
  exact call_len_seq
/-! ### a call by two keywords alone -/
def kw2 {α : Type} : List α → List α → List α
  | [], [a, b] => [a, b]
  | _, _ => []
theorem kw2_vals {vs : List V} {us : List Value} {zs : List V} {ws : List Value} (r : Vals vs us) (z : Vals zs ws) : Vals (kw2 vs zs) (kw2 us ws) := by
  cases r with
  | nil =>
    cases z with
    | nil => exact .nil
    | cons h z =>
      cases z with
      | nil => exact .nil
      | cons g z =>
        cases z with
        | nil => exact .cons h (.cons g .nil)
        | cons _ _ => exact .nil
  | cons _ _ => exact .nil
def kwX {α : Type} : List α → List α → List α
  | [], [a, b] => [b, a]
  | _, _ => []
theorem kwX_vals {vs : List V} {us : List Value} {zs : List V} {ws : List Value} (r : Vals vs us) (z : Vals zs ws) : Vals (kwX vs zs) (kwX us ws) := by
  cases r with
  | nil =>
    cases z with
    | nil => exact .nil
    | cons h z =>
      cases z with
      | nil => exact .nil
      | cons g z =>
        cases z with
        | nil => exact .cons g (.cons h .nil)
        | cons _ _ => exact .nil
  | cons _ _ => exact .nil
theorem pe_callKx {X : Cx} {CX : CXT} {k : Nat} {f : Addr} {fd : FuncData} {ps ks : List Str} {sp : Sp} {E : XK} {x : Str} {p pos : Pos} {kws : List Keyword} {tk : TA} {g : List Value → List Value → List Value} {gV : List V → List V → List V}
    (F : FnOk X.prog X.w X.K X.mg X.base CX k f fd ps sp) (hr : Room k X.A) (gl : Gl X x) (hm : X.mg x = some (.ref f)) (hk : PySem.W.keepIn X.K (.ref f) = true) (hb : KBinds X.K fd ps ks g gV) (hx : Passes CX X E) (hkw : PK X kws tk)
    (hall : (backToKw pos (keywordEach kws X.env)).all (·.1.isSome) = true := by rfl) (hks : (backToKw pos (keywordEach kws X.env)).filterMap (·.1) = ks := by rfl) (hdb : (x == ("__debug__" : Str)) = false := by decide)
    (hpl : ((backTo pos (starEach [] X.env)).any (·.1) || (backToKw pos (keywordEach kws X.env)).any (·.1.isNone)) = false := by rfl) : PE X (.Call (.Name x p) [] kws pos) (fun σ H Q => tk σ H fun zs H2 => sp (gV [] zs) H2 Q E) := by
  refine ⟨fun pins s σ H Q I h => wpAny_Call_Name_kw (ld_glob I gl hm ?_ hdb)⟩
  refine PySem.W.callWith_KW0 (first := []) (h₀ := X.base) I.ok.mod.kin hk hall (thn (hkw.run pos pins s σ H _ I h) fun ws s2 ⟨zs, H2, I2, rz, q⟩ => ⟨I2.kIn, ?_⟩) hpl
  rw [hks]
  exact run_fnk (us := []) (vs := []) F hr hb hx I2 .nil rz q
end Tz
/-! sorted(xs, key=int) of a list of fewer than 64 integers -/
namespace TzSort
open PySem PySem.Spec PyProof.Rows L2

section
variable {prog : Program} {w : World} {A : Around} {E : Value → Shared → Prop} {s : Shared} {a kS : Addr} {vs : List Value} {kz : List Int} {keys : Array Value} {e e1 : Nat} {P : PySem.Fin → Shared → Prop}

/-- all places but two stay -/
def But2 (a b : Addr) (h h' : Heap) : Prop := ∀ c, c ≠ a → c ≠ b → h'.get? c = h.get? c

theorem tail_ {st : SortSt} (nk : s.heap.get? kS = some (seqObj "list" keys e)) (na : s.heap.get? a = some (seqObj "list" #[] e1)) (hka : kS ≠ a)
    (hk : IntsAre keys.toList kz) (hlen : kz.length = vs.length) (h64 : vs.length < 64) (hp : (arrOf st).Perm (keys.zip vs.toArray)) (hs : SortedTo (arrOf st) (arrOf st).size) (hfl : failedOf st = none)
    (h : ∀ h' out c, But2 a kS s.heap h' → h'.get? a = some (seqObj "list" out c) → KskOut false kz vs out.toList → P (.done (.ret .none)) { s with heap := h' }) :
    wpAny (model prog w) A (ksk_tail a false e1 (.ref kS) st) P E s := by
  have hsz : keys.size = vs.length := by
    have h1 := hk.length
    rw [Array.length_toList] at h1
    omega
  have hsz2 : (arrOf st).size = vs.length := by rw [hp.size_eq, Array.size_zip, hsz, List.size_toArray, Nat.min_self]
  have hout : ((arrOf st).map (·.2)).size = vs.length := by
    rw [Array.size_map]
    exact hsz2
  have s1 := Heap.SameBut.update s.heap kS (Obj.mapSeq fun _ => (#[] : Array Value))
  have na1 : (s.heap.update kS (Obj.mapSeq fun _ => (#[] : Array Value))).get? a = some (seqObj "list" #[] e1) := (s1.2 a hka.symm).trans na
  have s2 := Heap.SameBut.update (s.heap.update kS (Obj.mapSeq fun _ => (#[] : Array Value))) a (Obj.mapSeq fun _ => (arrOf st).map (·.2))
  obtain ⟨c2, hc2⟩ : ∃ c2, ((s.heap.update kS (Obj.mapSeq fun _ => (#[] : Array Value))).update a (Obj.mapSeq fun _ => (arrOf st).map (·.2))).get? a = some (seqObj "list" ((arrOf st).map (·.2)) c2) :=
    ⟨_, get?_update_seq na1 fun _ => (arrOf st).map (·.2)⟩
  unfold ksk_tail
  try dsimp only
  refine wpAny_bind (listUpdate_at nk rfl ?_ (by rw [hsz, sizeLine_eq]; omega) (Nat.zero_le _))
  refine wpAny_bind (wpAny_letGo ?_)
  refine wpAny_bind (seqEpoch_at na1 rfl ?_)
  refine wpAny_bind (listUpdate_at na1 rfl ?_ (Nat.zero_le _) (Nat.le_trans (Nat.le_of_eq hout) (by rw [sizeLine_eq]; omega)))
  rw [hfl]
  simp only [bne_self_eq_false, Bool.false_eq_true, if_false]
  refine wpAny_pure (h _ _ c2 (fun c ca ck => ?_) hc2 (ksk_out (b := false) hk hp hs))
  rw [s2.2 c ca]
  exact s1.2 c ck

theorem end_ (nk : s.heap.get? kS = some (seqObj "list" keys e)) (na : s.heap.get? a = some (seqObj "list" #[] e1)) (hka : kS ≠ a)
    (hk : IntsAre keys.toList kz) (hlen : kz.length = vs.length) (h64 : vs.length < 64)
    (h : ∀ h' out c, But2 a kS s.heap h' → h'.get? a = some (seqObj "list" out c) → KskOut false kz vs out.toList → P (.done (.ret .none)) { s with heap := h' }) :
    wpAny (model prog w) A (ksk_end a false vs.toArray e1 (.ref kS) keys) P E s := by
  have hsz : keys.size = vs.length := by
    have h1 := hk.length
    rw [Array.length_toList] at h1
    omega
  have hzs : (keys.zip vs.toArray).size = vs.length := by rw [Array.size_zip, hsz, List.size_toArray, Nat.min_self]
  unfold ksk_end
  simp only [Bool.false_eq_true, if_false]
  by_cases h2 : vs.toArray.size < 2
  · rw [if_pos h2, if_pos h2]
    refine wpAny_bind (wpAny_pure ?_)
    rw [StateT.run_pure]
    refine wpAny_bind (wpAny_pure ?_)
    try dsimp only
    refine tail_ (st := SortSt.mk' general' (keys.zip vs.toArray) #[] 7 none) nk na hka hk hlen h64 (Array.Perm.refl _) ?_ rfl h
    intro i j hij hj
    have hj2 : j < (keys.zip vs.toArray).size := hj
    rw [hzs] at hj2
    rw [List.size_toArray] at h2
    have : i = j := by omega
    subst this
    exact Int.le_refl _
  · rw [if_neg h2, if_neg h2]
    rw [List.size_toArray] at h2
    rw [ksk_kind hk (by rw [hsz]; omega)]
    refine wpAny_bind (wpAny_pure ?_)
    refine wpAny_bind (wpAny_mono (wpS_sortRuns (a₀ := keys.zip vs.toArray) (st := SortSt.mk' oneType' (keys.zip vs.toArray) #[] 7 none)
      (Q := fun _ st' => (arrOf st').Perm (keys.zip vs.toArray) ∧ failedOf st' = none ∧ SortedTo (arrOf st') (keys.zip vs.toArray).size)
      (ksk_intKeys hk) ⟨Array.Perm.refl _, rfl, rfl, rfl⟩ (by rw [hzs]; omega) (by rw [hzs]; exact h64) fun st' a1 a2 a3 => ⟨a1, a2, a3⟩) ?_ fun _ _ e => e)
    rintro ⟨⟨⟩, st'⟩ s' ⟨rfl, hp, hf, hs⟩
    try dsimp only
    exact tail_ nk na hka hk hlen h64 hp (by rw [hp.size_eq]; exact hs) hf h

theorem rest_ (hi : IntsAre vs kz) (nk : s.heap.get? kS = some (seqObj "list" #[] e)) (na : s.heap.get? a = some (seqObj "list" #[] e1)) (hka : kS ≠ a) (h64 : vs.length < 64)
    (h : ∀ h' out c, But2 a kS s.heap h' → h'.get? a = some (seqObj "list" out c) → KskOut false kz vs out.toList → P (.done (.ret .none)) { s with heap := h' }) :
    wpAny (model prog w) A (ksk_rest a (.type "int") false vs.toArray e1 (.ref kS)) P E s := by
  have hlen := hi.length
  unfold ksk_rest
  refine wpAny_bind (wpAny_rule ?_)
  first
    | rw [List.forIn_toArray]
    | (rw [← Array.forIn_toList]; simp only [List.toList_toArray])
    | rw [← Array.forIn_toList]
  refine wpAny_bind (ksk_fold (fun i s' => ∃ h' kA c, s' = { s with heap := h' } ∧ But2 a kS s.heap h' ∧ h'.get? kS = some (seqObj "list" kA c) ∧ h'.get? a = some (seqObj "list" #[] e1) ∧ IntsAre kA.toList (kz.take i)) vs 0 s
    ⟨s.heap, #[], e, rfl, fun _ _ _ => rfl, nk, na, by simpa using IntsAre.nil⟩ ?step ?done)
  case step =>
    rintro j x s' hx ⟨h', kA, c, rfl, F', nk', na', hk⟩
    simp only [Nat.zero_add] at hk ⊢
    have hj : j < vs.length := (List.getElem?_eq_some_iff.mp hx).1
    obtain ⟨k, hkj⟩ : ∃ k, kz[j]? = some k := ⟨_, List.getElem?_eq_getElem (by omega)⟩
    obtain ⟨t2, ht⟩ := hi.get j k hkj
    rw [ht] at hx
    cases hx
    have hz : kA.size ≤ vs.length := by
      have h1 := hk.length
      rw [Array.length_toList, List.length_take] at h1
      omega
    refine wpAny_bind (wpAny_attempt (PySem.call_int_int ?_))
    try dsimp only
    have s1 := Heap.SameBut.update h' kS (Obj.mapSeq (·.push (.int k t2)))
    obtain ⟨c2, hc2⟩ : ∃ c2, (h'.update kS (Obj.mapSeq (·.push (.int k t2)))).get? kS = some (seqObj "list" (kA.push (.int k t2)) c2) := ⟨_, get?_update_seq nk' (·.push (.int k t2))⟩
    have ek : kz.take (j + 1) = kz.take j ++ [k] := by rw [List.take_add_one, hkj]; simp
    have ea : (kA.push (Value.int k t2)).toList = kA.toList ++ [Value.int k t2] := by simp
    refine wpAny_bind (listUpdate_at nk' rfl ?_ (by rw [sizeLine_eq]; omega) (Nat.le_trans (Nat.le_of_eq (Array.size_push ..)) (by rw [sizeLine_eq]; omega)))
    refine wpAny_pure ⟨rfl, _, kA.push (.int k t2), c2, rfl, fun b b1 b2 => (s1.2 b b2).trans (F' b b1 b2), hc2, (s1.2 a hka.symm).trans na', by rw [ea, ek]; exact ksk_snoc hk⟩
  case done =>
    rintro s' ⟨h', kA, c, rfl, F', nk', na', hk⟩
    have hk' : IntsAre kA.toList kz := by
      have e3 : kz.take (0 + vs.length) = kz := List.take_of_length_le (by omega)
      rw [e3] at hk
      exact hk
    try dsimp only
    refine wpAny_bind (listItems_at nk' rfl ?_)
    exact end_ (s := { s with heap := h' }) nk' na' hka hk' (by omega) h64 fun h3 out c3 F3 n3 k3 => h h3 out c3 (fun b b1 b2 => (F3 b b1 b2).trans (F' b b1 b2)) n3 k3

theorem sort_ {n : Nat} (hi : IntsAre vs kz) (ho : s.heap.get? a = some (seqObj "list" vs.toArray n)) (h64 : vs.length < 64)
    (h : ∀ h' out c, (∀ b u, b ≠ a → s.heap.get? b = some u → h'.get? b = some u) → h'.get? a = some (seqObj "list" out c) → KskOut false kz vs out.toList → P (.done (.ret .none)) { s with heap := h' }) :
    wpAny (model prog w) A (ksk_tree a (.type "int") false) P E s := by
  have ha : a < s.heap.objs.size := Heap.lt_size ho
  have s1 := Heap.SameBut.update s.heap a (Obj.mapSeq fun _ => (#[] : Array Value))
  obtain ⟨e1, ho1⟩ : ∃ e1, (s.heap.update a (Obj.mapSeq fun _ => (#[] : Array Value))).get? a = some (seqObj "list" #[] e1) := ⟨_, get?_update_seq ho fun _ => #[]⟩
  have hkS : ((s.heap.update a (Obj.mapSeq fun _ => (#[] : Array Value))).push (seqObj "tuple" vs.toArray 0)).objs.size = s.heap.objs.size + 1 := by rw [size_push', Heap.size_update]
  unfold ksk_tree
  refine wpAny_bind (listItems_at ho rfl ?_)
  refine wpAny_bind (listUpdate_at ho rfl ?_ (by rw [List.size_toArray, sizeLine_eq]; omega) (Nat.zero_le _))
  refine wpAny_bind (seqEpoch_at ho1 rfl ?_)
  refine wpAny_bind (wpAny_newTuple ?_ (by show vs.length ≤ _; rw [sizeLine_eq]; omega))
  refine wpAny_bind (wpAny_newList ?_ (Nat.zero_le _))
  refine wpAny_holding ?_
  refine rest_ (s := { s with heap := ((s.heap.update a (Obj.mapSeq fun _ => (#[] : Array Value))).push (seqObj "tuple" vs.toArray 0)).push (seqObj "list" #[] 0) }) (kS := ((s.heap.update a (Obj.mapSeq fun _ => (#[] : Array Value))).push (seqObj "tuple" vs.toArray 0)).objs.size)
    hi (Heap.get?_push_size _ rfl) (Heap.get?_push_of_some _ (Heap.get?_push_of_some _ ho1)) (by rw [hkS]; exact Nat.ne_of_gt (Nat.lt_succ_of_lt ha)) h64 fun h' out c F n k => h h' out c (fun b u b1 hu => ?_) n k
  have hb : b < s.heap.objs.size := Heap.lt_size hu
  rw [F b b1 (by rw [hkS]; exact Nat.ne_of_lt (Nat.lt_succ_of_lt hb))]
  exact Heap.get?_push_of_some _ (Heap.get?_push_of_some _ ((s1.2 b b1).trans hu))
end

/-- sorted(xs, key=int) of integers -/
def rSortedInt (K : PySem.W.Frag) : List V → List V → Hp → VK → Prop := fun vs zs H Q => ∃ (a : Addr) (ns : List Int), vs = [V.ref a] ∧ zs = [V.ty "int"] ∧ SqL K H a (ns.map V.int) ∧ ns.length < 64 ∧
  ∀ (ns' : List Int) (p : Addr), ns'.Perm ns → ns'.Pairwise (· ≤ ·) → H p = none → Q (.ref p) (upd H p (.lst (ns'.map V.int)))

theorem key_int (x : Addr) : Builtin.«list.sort» ⟨[.ref x], [(Str.ofString "key", .type "int")]⟩ = ksk_tree x (.type "int") false := rfl

theorem cr_sortedInt {X : Cx} : CallRK X (.builtin "sorted") [Str.ofString "key"] (rSortedInt X.K) := by
  intro pins s σ H xs zs us ws Q I r rz h
  obtain ⟨l, ns, rfl, rfl, hs, h64, q⟩ := h
  obtain rfl := Vals.ref1 r
  obtain ⟨w1, rfl, ew⟩ := vals1 rz
  obtain rfl : w1 = Value.type "int" := ew
  obtain ⟨vs, rv, hl, hz⟩ := I.list hs
  have hi := rv.ints
  have hlen := hi.length
  have hv64 : vs.length < 64 := by omega
  refine call_function_entry_kw kind_sorted plain_sorted entry_sorted (ksk_s1 _ _) ?_
  unfold Builtin.«sorted»
  refine wpAny_bind (m := checkCount "sorted" 1 1 _) (wpAny_pure ?_)
  refine wpAny_bind (collect_list hl.isList ?_ (by rw [sizeLine_eq]; omega))
  refine wpAny_bind (wpAny_newList ?_ (by rw [sizeLine_eq]; omega))
  have hsz : ((s.heap.push (seqObj "list" #[] 0)).update s.heap.objs.size (Obj.mapSeq (· ++ vs.toArray))).objs.size = s.heap.objs.size + 1 := by
    rw [Heap.size_update, size_push']
  have hoL : (((s.heap.push (seqObj "list" #[] 0)).update s.heap.objs.size (Obj.mapSeq (· ++ vs.toArray))).push (seqObj "list" vs.toArray 0)).get? (s.heap.objs.size + 1) = some (seqObj "list" vs.toArray 0) := by
    rw [← hsz]; exact Heap.get?_push_size _ rfl
  have keep : ∀ b o, s.heap.get? b = some o → (((s.heap.push (seqObj "list" #[] 0)).update s.heap.objs.size (Obj.mapSeq (· ++ vs.toArray))).push (seqObj "list" vs.toArray 0)).get? b = some o := fun b o q => by
    have hlt : b < s.heap.objs.size := Heap.lt_size q
    rw [Heap.get?_push_ne _ _ _ (by rw [hsz]; exact Nat.ne_of_lt (Nat.lt_succ_of_lt hlt)), Heap.get?_update_ne _ _ _ _ (Nat.ne_of_lt hlt), Heap.get?_push_ne _ _ _ (Nat.ne_of_lt hlt)]
    exact q
  show wpAny _ _ _ _ _ { s with heap := ((s.heap.push (seqObj "list" #[] 0)).update s.heap.objs.size (Obj.mapSeq (· ++ vs.toArray))).push (seqObj "list" vs.toArray 0) }
  rw [hsz]
  refine wpAny_bind (wpAny_holding (wpAny_call_entry_kw slot_list_sort ⟨_, hoL, rfl⟩ entry_list_sort ?body (ksk_l1 _ _)))
  case body =>
    show wpAny _ _ (Builtin.«list.sort» ⟨[.ref (s.heap.objs.size + 1)], [(Str.ofString "key", .type "int")]⟩) _ _ _
    rw [key_int]
    refine sort_ (s := { s with heap := ((s.heap.push (seqObj "list" #[] 0)).update s.heap.objs.size (Obj.mapSeq (· ++ vs.toArray))).push (seqObj "list" vs.toArray 0) }) hi hoL hv64 fun h' out c k n ko => ⟨_, rfl, ?_⟩
    refine wpAny_pure ?_
    obtain ⟨ps, hp, ho, hsd⟩ := ko
    have hrel : ∀ p, p ∈ ns.zip vs → p.1 = numOf p.2 ∧ p.2 ∈ vs := by
      rw [← hi.nums, List.zip_map_left]
      intro p hp
      obtain ⟨⟨u, v⟩, hq, rfl⟩ := List.mem_map.mp hp
      have h1 : u = v ∧ u ∈ vs := mem_zip_self hq
      refine ⟨?_, ?_⟩
      · show numOf u = numOf v
        rw [h1.1]
      · show v ∈ vs
        rw [← h1.1]
        exact h1.2
    have hI : IntsAre (ps.map Prod.snd) ((ps.map Prod.snd).map numOf) := intsAre_map _ fun v hv => by
      obtain ⟨p, hp', rfl⟩ := List.mem_map.mp hv
      exact hi.all _ (hrel p (hp.mem_iff.mp hp')).2
    have hP : ((ps.map Prod.snd).map numOf).Perm ns := by
      have h1 := (hp.map Prod.snd).map numOf
      rw [List.map_snd_zip (by omega), hi.nums] at h1
      exact h1
    have hO : ((ps.map Prod.snd).map numOf).Pairwise (fun x y => x ≤ y) := by
      rw [List.pairwise_map, List.pairwise_map]
      refine hsd.imp_of_mem fun {p q} hp' hq' hr => ?_
      have hr' : p.1 ≤ q.1 := hr
      rw [(hrel p (hp.mem_iff.mp hp')).1, (hrel q (hp.mem_iff.mp hq')).1] at hr'
      exact hr'
    rw [← ho] at hI hP hO
    have hol : (out.toList.map numOf).length = ns.length := hP.length_eq
    have e0 : out.toList.toArray = out := by rw [Array.toArray_toList]
    refine ⟨_, rfl, ?_⟩
    exact ⟨.ref _, upd H (s.heap.objs.size + 1) (.lst ((out.toList.map numOf).map V.int)), I.laid (t' := s.toks) (fun b u hb => k b u (Nat.ne_of_lt (Nat.lt_succ_of_lt (Heap.lt_size hb))) (keep b u hb)) (Nat.le_succ _) ⟨by rw [List.length_map, hol, sizeLine_eq]; omega, _, c, vals_of_ints hI, by rw [e0]; exact n⟩, rfl,
      q _ _ hP hO (I.hok.fresh (Nat.le_succ _))⟩
end TzSort
/-! own __len__, __contains__, __iadd__ that returns what it will; == of objects without an own __eq__ -/
namespace TzOwn
open PySem PySem.Spec PyProof.Rows L2
section
variable {X : Cx} {CX : CXT} {k : Nat} {f C : Addr} {fd : FuncData} {ps : List Str} {sp : Sp} {E : XK}
/-- len(o) by the class's own __len__ -/
theorem len_own (F : FnOk X.prog X.w X.K X.mg X.base CX k f fd ps sp) (hr : Room (k + 1) X.A) (M : Meth X.K C "__len__" f) (hb : Binds X.K fd ps []) (hx : Passes CX X E) :
    CallR X (.builtin "len") (fun xs H Q => ∃ a dx fs, xs = [.ref a] ∧ H a = some (.ins C dx fs) ∧ sp [.ref a] H (fun v H' => ∃ n : Nat, v = .int n ∧ n < 2 ^ 62 ∧ Q (.int n) H') E) := by
  intro pins s σ H xs us Q I r h
  obtain ⟨a, dx, fs, rfl, ha, q⟩ := h
  obtain ⟨u, rfl, ru⟩ := vals1 r
  cases ru
  obtain ⟨od, J⟩ := inst_at I ha
  obtain ⟨m, hF⟩ := I.fr
  refine PySem.W.len_K hF I.ok.mod.kin J M.at_ M.fn ?_
  have en : Env0 X.prog X.w X.K X.mg X.base X.A.in1 X.stack s H := I.env0.in1
  have bd := hb s [.ref a] I.kIn (by
    have := F.len _ _ _ _ q
    simpa using this)
  rw [List.append_nil] at bd
  refine wpAny_call (codeAny_mono (F.run X.A.in1 X.stack s H ⟨[.ref a], []⟩ [.ref a] [.ref a] _ E hr.in1 en bd (.cons rfl .nil) q) fun r s' hq => ?_)
  cases r with
  | error e => exact hx pins σ H s e s' I hq
  | ok fl =>
    cases fl with
    | ret u =>
      obtain ⟨v, H', I', rv, n, rfl, hn, q'⟩ := I.after hq
      obtain ⟨t, rfl⟩ := (show ∃ t, u = Value.int (n : Int) t from rv)
      exact ⟨⟨by omega, by omega⟩, .int n, H', I'.tok _, ⟨_, rfl⟩, q'⟩
    | next => exact False.elim hq
    | brk => exact False.elim hq
    | cont => exact False.elim hq
/-- y in o by the class's own __contains__ -/
def rInOwn (C : Addr) (sp : Sp) (E : XK) (g : Bool → Bool) : R2 := fun y x H Q => ∃ a dx fs, x = .ref a ∧ H a = some (.ins C dx fs) ∧ sp [.ref a, y] H (fun v H' => ∃ b, v = .bl b ∧ Q (.bl (g b)) H') E
theorem op_inOwn (F : FnOk X.prog X.w X.K X.mg X.base CX k f fd ps sp) (hr : Room k X.A) (M : Meth X.K C "__contains__" f) (hb : Binds X.K fd ps []) (hx : Passes CX X E) : OpR X (compareOp .In) (rInOwn C sp E id) := by
  intro pins s σ H y x v u Q I ry rx h
  obtain ⟨a, dx, fs, rfl, ha, q⟩ := h
  cases rx
  obtain ⟨od, J⟩ := inst_at I ha
  obtain ⟨m, hF⟩ := I.fr
  refine PySem.W.in_K hF I.ok.mod.kin J M.at_ M.fn ?_
  refine thn (run_fn (us := [.ref a, v]) (vs := [.ref a, y]) F hr hb .nil hx I (.cons rfl (.cons ry .nil)) q) fun r s' z => ?_
  obtain ⟨v', H', I', rv, b, rfl, q'⟩ := z
  cases (show r = Value.bool b from rv)
  exact wpAny_truthy_bool ⟨.bl b, H', I', rfl, q'⟩
theorem op_notInOwn (F : FnOk X.prog X.w X.K X.mg X.base CX k f fd ps sp) (hr : Room k X.A) (M : Meth X.K C "__contains__" f) (hb : Binds X.K fd ps []) (hx : Passes CX X E) : OpR X (compareOp .NotIn) (rInOwn C sp E not) := by
  intro pins s σ H y x v u Q I ry rx h
  obtain ⟨a, dx, fs, rfl, ha, q⟩ := h
  cases rx
  obtain ⟨od, J⟩ := inst_at I ha
  obtain ⟨m, hF⟩ := I.fr
  refine PySem.W.notIn_K hF I.ok.mod.kin J M.at_ M.fn ?_
  refine thn (run_fn (us := [.ref a, v]) (vs := [.ref a, y]) F hr hb .nil hx I (.cons rfl (.cons ry .nil)) q) fun r s' z => ?_
  obtain ⟨v', H', I', rv, b, rfl, q'⟩ := z
  cases (show r = Value.bool b from rv)
  exact wpAny_truthy_bool ⟨.bl (!b), H', I', rfl, q'⟩
/-- o += y by the class's own __iadd__, whatever y is -/
def rIpOwn (C : Addr) (sp : Sp) (E : XK) : R2 := fun x y H Q => ∃ a dx fs, x = .ref a ∧ H a = some (.ins C dx fs) ∧ sp [.ref a, y] H Q E
theorem ip_any {op : Operator} {nm : Str} (F : FnOk X.prog X.w X.K X.mg X.base CX k f fd ps sp) (hr : Room k X.A) (M : Meth X.K C nm f) (hn : dunderI op.info.2 = nm) (sf : PySem.W.selfFirst X.K C = true) (hb : Binds X.K fd ps []) (hx : Passes CX X E) :
    PIp X op (rIpOwn C sp E) := by
  intro pins s σ H x y v u Q I rx ry h
  obtain ⟨a, dx, fs, rfl, ha, q⟩ := h
  cases rx
  obtain ⟨od, J⟩ := inst_at I ha
  obtain ⟨m, hF⟩ := I.fr
  refine PySem.W.ksp_inplace hF I.ok.mod.kin J sf (hn ▸ M.at_) M.fn ?_
  exact thn (run_fn (us := [.ref a, u]) (vs := [.ref a, y]) F hr hb .nil hx I (.cons rfl (.cons ry .nil)) q) fun _ _ z => back_cmp z
end
/-! ### objects without an own __eq__ -/
section
variable {prog : Program} {w : World} {M : Model} {A : Around} {E : Value → Shared → Prop} {s : Shared} {K : PySem.W.Frag} {x y C : Addr} {ox oy : Obj} {od od' : Option Obj}
theorem one_objEq {Q : Option Value → Shared → Prop} (X : K.In s.heap) (I : PySem.W.InstAt s.heap x ox C od) (J : PySem.W.InstAt s.heap y oy C od') (hnt : ox.cls ≠ .type "tuple") (hx : s.heap.get? x = some ox) (hy : s.heap.get? y = some oy)
    (hm : PySem.W.mroIn K C (.type "object") = some true) (hs : PySem.W.findIn K (.ref C) "__eq__" = some (some (.builtin "object.__eq__"))) (q : Q (if x = y then some (.bool true) else none) s) :
    wpAny (model prog w) A (tryCompare (.ref x) "__eq__" (.ref y)) Q E s := by
  unfold tryCompare
  refine wpAny_bind (HN.ifBound_objEq X I hs (wpAny_call (codeAny_call_builtin F.cmp_object.eq.plain F.cmpEntry_eq (PySem.W.check_slot F.cmpKind_eq F.cmpSplit_eq (I.type.andThen (PySem.W.looks_mroIn X hm)) (F.cmpArgs_eq _ _) ?_))))
  by_cases e : x = y
  · subst e
    rw [if_pos rfl] at q
    exact objEq_entry_same (wpAny_pure q)
  · rw [if_neg e] at q
    exact objEq_entry_other e hx hy hnt (wpAny_pure q)
theorem rc_objEq {Q : Value → Shared → Prop} (hu : A.units < cLine) (X : K.In s.heap) (I : PySem.W.InstAt s.heap x ox C od) (J : PySem.W.InstAt s.heap y oy C od') (hnt : ox.cls ≠ .type "tuple") (hnt' : oy.cls ≠ .type "tuple") (hx : s.heap.get? x = some ox) (hy : s.heap.get? y = some oy)
    (hm : PySem.W.mroIn K C (.type "object") = some true) (hs : PySem.W.findIn K (.ref C) "__eq__" = some (some (.builtin "object.__eq__"))) (q : Q (.bool (decide (x = y))) s) :
    wpAny (model prog w) A (richCompare .Eq (.ref x) (.ref y)) Q E s := by
  simp only [richCompare, cmpInfo_Eq, oneThing_ref]
  refine wpAny_holding (wpAny_bind (wpAny_cRoomFor hu ?_))
  refine wpAny_bind (I.type.here ?_)
  refine wpAny_bind (J.type.here ?_)
  split
  · rename_i z
    exact absurd z (by simp)
  · refine wpAny_bind (wpAny_pure ?_)
    simp only [Bool.false_eq_true, if_false]
    refine wpAny_bind (one_objEq (Q := fun r s' => r = (if x = y then some (.bool true) else none) ∧ s' = s) X I J hnt hx hy hm hs ⟨rfl, rfl⟩ |> fun t => wpAny_mono t (fun r s' z => ?_) fun _ _ e => e)
    obtain ⟨rfl, z2⟩ := z
    rw [z2]
    by_cases e : x = y
    · subst e
      rw [if_pos rfl]
      rw [decide_eq_true rfl] at q
      exact wpAny_pure q
    · rw [if_neg e]
      rw [decide_eq_false e] at q
      show wpAny _ _ (do let r ← tryCompare (.ref y) _ (.ref x); _) _ _ _
      refine wpAny_bind (one_objEq (Q := fun r s' => r = (if y = x then some (.bool true) else none) ∧ s' = s) X J I hnt' hy hx hm hs ⟨rfl, rfl⟩ |> fun t => wpAny_mono t (fun r s' z => ?_) fun _ _ e => e)
      obtain ⟨rfl, z2⟩ := z
      rw [z2, if_neg fun z => e z.symm]
      exact wpAny_bind (wpAny_rule (wpAny_bind (wpAny_isSame_ref_other e hx hy hnt (wpAny_pure q))))
end
section
variable {X : Cx} {C : Addr}
def rEqObj (C : Addr) : R2 := fun u v H Q => ∃ a b dx dy fs gs, u = .ref a ∧ v = .ref b ∧ H a = some (.ins C dx fs) ∧ H b = some (.ins C dy gs) ∧ Q (.bl (decide (a = b))) H
theorem op_eqObj (hu : X.A.units < cLine) (hm : PySem.W.mroIn X.K C (.type "object") = some true) (hs : PySem.W.findIn X.K (.ref C) "__eq__" = some (some (.builtin "object.__eq__"))) : OpR X (compareOp .Eq) (rEqObj C) := by
  intro pins s σ H u v x y Q I ru rv h
  obtain ⟨a, b, dx, dy, fs, gs, rfl, rfl, ha, hb, q⟩ := h
  cases ru
  cases rv
  obtain ⟨od, J⟩ := inst_at I ha
  obtain ⟨od', J'⟩ := inst_at I hb
  obtain ⟨mA, O, _⟩ := ins_get I.hok ha
  obtain ⟨mB, O', _⟩ := ins_get I.hok hb
  show wpAny _ _ (richCompare .Eq (.ref a) (.ref b)) _ _ _
  exact rc_objEq hu I.kIn J J' (fun e => by cases e) (fun e => by cases e) J.at_ J'.at_ hm hs ⟨.bl _, H, I, rfl, q⟩
end
end TzOwn
namespace Tz
open PySem PySem.Spec PyProof.Rows L2 TzF TzRepr
/-! ### a Running: its attributes, its list -/
def rf (w : Nat) (l : Addr) (s : Int) (sv : V) : List (Str × V) := [("width", .int w), ("kept", .ref l), ("plain_sum", .int s), ("saved", sv)]
theorem rne : (¬ (("width" : Str) = "kept")) ∧ (¬ (("width" : Str) = "plain_sum")) ∧ (¬ (("width" : Str) = "saved")) ∧ (¬ (("kept" : Str) = "plain_sum")) ∧ (¬ (("kept" : Str) = "saved")) ∧ (¬ (("plain_sum" : Str) = "saved")) := by decide +kernel
theorem look_cons {f g : Str} {v : V} {fs : List (Str × V)} : List.lookup g ((f, v) :: fs) = if g = f then some v else fs.lookup g := by
  by_cases h : g = f
  · have hb : (g == f) = true := beq_iff_eq.mpr h
    simp only [List.lookup, hb, if_pos h]
  · have hb : (g == f) = false := beq_eq_false_iff_ne.mpr h
    simp only [List.lookup, hb, if_neg h]
section
variable {w : Nat} {l : Addr} {s s' : Int} {sv : V}
theorem rf_width : (rf w l s sv).lookup ("width" : Str) = some (.int w) := by
  unfold rf
  rw [look_cons, if_pos rfl]
theorem rf_kept : (rf w l s sv).lookup ("kept" : Str) = some (.ref l) := by
  unfold rf
  rw [look_cons, if_neg (fun e => rne.1 e.symm), look_cons, if_pos rfl]
theorem rf_sum : (rf w l s sv).lookup ("plain_sum" : Str) = some (.int s) := by
  unfold rf
  rw [look_cons, if_neg (fun e => rne.2.1 e.symm), look_cons, if_neg (fun e => rne.2.2.2.1 e.symm), look_cons, if_pos rfl]
theorem rf_no {m : Str} (h1 : ¬ m = "width") (h2 : ¬ m = "kept") (h3 : ¬ m = "plain_sum") (h4 : ¬ m = "saved") : (rf w l s sv).lookup m = none := by
  unfold rf
  rw [look_cons, if_neg h1, look_cons, if_neg h2, look_cons, if_neg h3, look_cons, if_neg h4]
  rfl
theorem rf_put : putF "plain_sum" (.int s') (rf w l s sv) = rf w l s' sv := by
  unfold rf
  simp only [putF, if_neg rne.2.1, if_neg rne.2.2.2.1, if_pos]
theorem rf_made : putF "saved" .non (putF "plain_sum" (.int s) (putF "kept" (.ref l) (putF "width" (.int w) []))) = rf w l s .non := by
  unfold rf
  simp only [putF, if_neg rne.1, if_neg rne.2.1, if_neg rne.2.2.1, if_neg rne.2.2.2.1, if_neg rne.2.2.2.2.1, if_neg rne.2.2.2.2.2]
theorem rf_len : (rf w l s sv).length = 4 := rfl
end
structure RunAt (C : Addr) (H : Hp) (r l : Addr) (w : Nat) (ns : List Int) (sv : V) : Prop where
  ob : ∃ dr, H r = some (.ins C dr (rf w l ns.sum sv))
  li : H l = some (.lst (ns.map V.int))
  w1 : 1 ≤ w
  w64 : w ≤ 64
  bd : ∀ n ∈ ns, 0 ≤ n ∧ n ≤ mw w
  few : ns.length ≤ 40
/-- all but two is as it was -/
def Two (r l : Addr) (H H' : Hp) : Prop := ∀ a o, a ≠ r → a ≠ l → H a = some o → H' a = some o
section
variable {C r l : Addr} {H H1 H2 : Hp} {w : Nat} {ns : List Int} {sv : V}
theorem Two.refl : Two r l H H := fun _ _ _ _ h => h
theorem Two.trans (a : Two r l H H1) (b : Two r l H1 H2) : Two r l H H2 := fun x o n m h => b x o n m (a x o n m h)
theorem Ex.two (e : Ex H H1) : Two r l H H1 := fun a o _ _ h => e a o h
theorem Fw.two1 (e : Fw r H H1) : Two r l H H1 := fun a o n _ h => e a o n h
theorem Fw.two2 (e : Fw l H H1) : Two r l H H1 := fun a o _ n h => e a o n h
theorem RunAt.ex (h : RunAt C H r l w ns sv) (e : Ex H H1) : RunAt C H1 r l w ns sv := by
  obtain ⟨⟨dr, h1⟩, h2, h3, h4, h5, h6⟩ := h
  exact ⟨⟨dr, e _ _ h1⟩, e _ _ h2, h3, h4, h5, h6⟩
theorem RunAt.ext (h : RunAt C H r l w ns sv) (e : LamX.ExtN H H1) : RunAt C H1 r l w ns sv := by
  obtain ⟨⟨dr, h1⟩, h2, h3, h4, h5, h6⟩ := h
  exact ⟨⟨dr, e _ _ h1 (fun _ q => by cases q)⟩, e _ _ h2 (fun _ q => by cases q), h3, h4, h5, h6⟩
theorem RunAt.fw {z : Addr} (h : RunAt C H r l w ns sv) (e : Fw z H H1) (n : r ≠ z) (m : l ≠ z) : RunAt C H1 r l w ns sv := by
  obtain ⟨⟨dr, h1⟩, h2, h3, h4, h5, h6⟩ := h
  exact ⟨⟨dr, e _ _ n h1⟩, e _ _ m h2, h3, h4, h5, h6⟩
theorem RunAt.ne (h : RunAt C H r l w ns sv) : r ≠ l := by
  obtain ⟨⟨dr, h1⟩, h2, _⟩ := h
  exact ne_of h1 h2 (by intro q; cases q)
theorem sum_nonneg {w : Nat} : ∀ {ns : List Int}, (∀ n ∈ ns, 0 ≤ n ∧ n ≤ mw w) → 0 ≤ ns.sum
  | [], _ => Int.le_refl 0
  | a :: r, h => by
    have h1 := sum_nonneg (fun n hn => h n (List.mem_cons_of_mem _ hn))
    have h2 := (h a List.mem_cons_self).1
    rw [List.sum_cons]
    omega
theorem sum_perm : ∀ {a b : List Int}, a.Perm b → a.sum = b.sum
  | _, _, .nil => rfl
  | _, _, .cons x h => by rw [List.sum_cons, List.sum_cons, sum_perm h]
  | _, _, .swap x y l => by rw [List.sum_cons, List.sum_cons, List.sum_cons, List.sum_cons]; omega
  | _, _, .trans h g => (sum_perm h).trans (sum_perm g)
theorem sum_app (a b : List Int) : (a ++ b).sum = a.sum + b.sum := by
  induction a with
  | nil => rw [List.nil_append]; exact (Int.zero_add _).symm
  | cons x a ih => rw [List.cons_append, List.sum_cons, List.sum_cons, ih]; omega
theorem sum_er {ns : List Int} {v : Int} (h : v ∈ ns) : (ns.erase v).sum = ns.sum - v := by
  have := sum_perm (List.perm_cons_erase h)
  rw [List.sum_cons] at this
  omega
end
/-! ### promises of a Running -/
/-- a new one -/
def NewR (C : Addr) (w : Nat) (H : Hp) (Q : VK) : Prop := ∀ r l H', H r = none → H l = none → Ex H H' → RunAt C H' r l w [] .non → Q (.ref r) H'
def spRunInit (C : Addr) : Sp := fun vs H Q _ => ∃ p dx, ∃ w : Nat, vs = [.ref p, .int w] ∧ H p = some (.ins C dx []) ∧ 1 ≤ w ∧ w ≤ 64 ∧
  ∀ H' l, H l = none → l ≠ p → H' p = some (.ins C dx (rf w l 0 .non)) → H' l = some (.lst []) → (∀ b o, H b = some o → b ≠ p → H' b = some o) → Q .non H'
theorem mk_run {C : Addr} {w : Nat} {H : Hp} {Q : VK} {E : XK} (w1 : 1 ≤ w) (w64 : w ≤ 64) (k : NewR C w H Q) :
    ∀ x dx, H x = none → H dx = none → dx ≠ x → spRunInit C [.ref x, .int w] (upd (upd H dx (.own x)) x (.ins C dx [])) (fun u H2 => u = .non ∧ Q (.ref x) H2) E := fun x dx nx ndx nex => by
  refine ⟨x, dx, w, rfl, upd_same, w1, w64, fun H' l nl nlx hx hl hk => ⟨rfl, ?_⟩⟩
  have nl' : H l = none := by
    rw [upd_ne nlx] at nl
    by_cases q : l = dx
    · rw [q, upd_same] at nl
      cases nl
    · rwa [upd_ne q] at nl
  exact k x l H' nx nl' (fun b o e => hk b o (by rw [upd_ne (ne_of_none e nx), upd_ne (ne_of_none e ndx)]; exact e) (ne_of_none e nx)) ⟨⟨dx, hx⟩, hl, w1, w64, (fun n hn => nomatch hn), Nat.zero_le _⟩
theorem mk_run1 {C : Addr} {w : Nat} {H : Hp} {Q : VK} {E : XK} {x dx : Addr} (w1 : 1 ≤ w) (w64 : w ≤ 64) (nx : H x = none) (ndx : H dx = none) (nex : dx ≠ x) (k : ∀ H' l, H l = none → Ex H H' → RunAt C H' x l w [] .non → Q .non H') :
    spRunInit C [.ref x, .int w] (upd (upd H dx (.own x)) x (.ins C dx [])) Q E := by
  refine ⟨x, dx, w, rfl, upd_same, w1, w64, fun H' l nl nlx hx hl hk => ?_⟩
  have nl' : H l = none := by
    rw [upd_ne nlx] at nl
    by_cases q : l = dx
    · rw [q, upd_same] at nl
      cases nl
    · rwa [upd_ne q] at nl
  exact k H' l nl' (fun b o e => hk b o (by rw [upd_ne (ne_of_none e nx), upd_ne (ne_of_none e ndx)]; exact e) (ne_of_none e nx)) ⟨⟨dx, hx⟩, hl, w1, w64, (fun n hn => nomatch hn), Nat.zero_le _⟩
def spRunInitX (C CR B : Addr) : Sp := fun vs H Q E => ∃ p dx y g, vs = [.ref p, y] ∧ H p = some (.ins CR dx []) ∧ Kd C H y g ∧ NoWidth y ∧ Flies B [("width", y)] H E
/-- what becomes of it -/
def Goes (C r l : Addr) (w : Nat) (ns : List Int) (sv : V) (H : Hp) (Q : Hp → Prop) : Prop := ∀ H', RunAt C H' r l w ns sv → Two r l H H' → Q H'
theorem Goes.ex {C r l : Addr} {w : Nat} {ns : List Int} {sv : V} {H H1 : Hp} {Q : Hp → Prop} (k : Goes C r l w ns sv H Q) (e : Ex H H1) : Goes C r l w ns sv H1 Q := fun H' R t => k H' R (e.two.trans t)
theorem Goes.two {C r l : Addr} {w : Nat} {ns : List Int} {sv : V} {H H1 : Hp} {Q : Hp → Prop} (k : Goes C r l w ns sv H Q) (e : Two r l H H1) : Goes C r l w ns sv H1 Q := fun H' R t => k H' R (e.trans t)
def spKeep (C : Addr) : Sp := fun vs H Q _ => ∃ r l, ∃ w : Nat, ∃ ns : List Int, ∃ sv : V, ∃ v : Int, vs = [.ref r, .int v] ∧ RunAt C H r l w ns sv ∧ 0 ≤ v ∧ v ≤ mw w ∧ ns.length < 40 ∧ Goes C r l w (ns ++ [v]) sv H (Q .non)
def spForget (C : Addr) : Sp := fun vs H Q _ => ∃ r l, ∃ w : Nat, ∃ ns : List Int, ∃ sv : V, ∃ v : Int, vs = [.ref r, .int v] ∧ RunAt C H r l w ns sv ∧ v ∈ ns ∧ Goes C r l w (ns.erase v) sv H (Q .non)
/-- what stands for a value that is kept -/
def ThereK (B N : Addr) (ns : List Int) (y : V) (res : Res) (H : Hp) (E : XK) (q : Int → Prop) : Prop := match res with
  | .val v => if v ∈ ns then q v else Flies N [("word", y)] H E
  | _ => Flies B [("value", y)] H E
def spThere (CW C B N : Addr) : Sp := fun vs H Q E => ∃ r l, ∃ w : Nat, ∃ ns : List Int, ∃ sv : V, ∃ y res, vs = [.ref r, y] ∧ RunAt C H r l w ns sv ∧ Side CW H w y res ∧ ThereK B N ns y res H E fun v => Q (.int v) H
def AnyK (B : Addr) (y : V) (res : Res) (H : Hp) (E : XK) (q : Int → Prop) : Prop := match res with
  | .val v => q v
  | _ => Flies B [("value", y)] H E
def spAddR (CW C B : Addr) : Sp := fun vs H Q E => ∃ r l, ∃ w : Nat, ∃ ns : List Int, ∃ sv : V, ∃ y res, vs = [.ref r, y] ∧ RunAt C H r l w ns sv ∧ Side CW H w y res ∧ ns.length < 40 ∧ AnyK B y res H E fun v => Goes C r l w (ns ++ [v]) sv H (Q .non)
def spDropR (CW C B N : Addr) : Sp := fun vs H Q E => ∃ r l, ∃ w : Nat, ∃ ns : List Int, ∃ sv : V, ∃ y res, vs = [.ref r, y] ∧ RunAt C H r l w ns sv ∧ Side CW H w y res ∧ ThereK B N ns y res H E fun v => Goes C r l w (ns.erase v) sv H (Q .non)
def spExch (CW C B N : Addr) : Sp := fun vs H Q E => ∃ r l, ∃ w : Nat, ∃ ns : List Int, ∃ sv : V, ∃ y res y2 res2, vs = [.ref r, y, y2] ∧ RunAt C H r l w ns sv ∧ Side CW H w y res ∧ Side CW H w y2 res2 ∧
  ThereK B N ns y res H E fun v => AnyK B y2 res2 H E fun v2 => Goes C r l w (ns.erase v ++ [v2]) sv H (Q .non)
def spIAdd (CW C B : Addr) : Sp := fun vs H Q E => ∃ r l, ∃ w : Nat, ∃ ns : List Int, ∃ sv : V, ∃ y res, vs = [.ref r, y] ∧ RunAt C H r l w ns sv ∧ Side CW H w y res ∧ ns.length < 40 ∧ AnyK B y res H E fun v => Goes C r l w (ns ++ [v]) sv H (Q (.ref r))
def spISub (CW C B N : Addr) : Sp := fun vs H Q E => ∃ r l, ∃ w : Nat, ∃ ns : List Int, ∃ sv : V, ∃ y res, vs = [.ref r, y] ∧ RunAt C H r l w ns sv ∧ Side CW H w y res ∧ ThereK B N ns y res H E fun v => Goes C r l w (ns.erase v) sv H (Q (.ref r))
def spLenR (C : Addr) : Sp := fun vs H Q _ => ∃ r l, ∃ w : Nat, ∃ ns : List Int, ∃ sv : V, vs = [.ref r] ∧ RunAt C H r l w ns sv ∧ Q (.int (ns.length : Nat)) H
def hasR (ns : List Int) : Res → Bool
  | .val v => decide (v ∈ ns)
  | _ => false
def spHasR (CW C : Addr) : Sp := fun vs H Q _ => ∃ r l, ∃ w : Nat, ∃ ns : List Int, ∃ sv : V, ∃ y res, vs = [.ref r, y] ∧ RunAt C H r l w ns sv ∧ Side CW H w y res ∧ Q (.bl (hasR ns res)) H
def spTotalR (CW C : Addr) : Sp := fun vs H Q _ => ∃ r l, ∃ w : Nat, ∃ ns : List Int, ∃ sv : V, vs = [.ref r] ∧ RunAt C H r l w ns sv ∧ NewW CW w (cr w ns.sum) H Q
def Asc (ns ss : List Int) : Prop := ss.Perm ns ∧ ss.Pairwise (· ≤ ·)
def spAscR (CW C : Addr) : Sp := fun vs H Q _ => ∃ r l, ∃ w : Nat, ∃ ns : List Int, ∃ sv : V, vs = [.ref r] ∧ RunAt C H r l w ns sv ∧
  ∀ p H' xs ss, H p = none → Ex H H' → H' p = some (.lst (xs.map V.ref)) → Ws CW H' w xs ss → Asc ns ss → Q (.ref p) H'
theorem inV_int {v : Int} : ∀ {ns : List Int}, inV (.int v) (ns.map V.int) = decide (v ∈ ns)
  | [] => rfl
  | a :: r => by
    have ih := inV_int (v := v) (ns := r)
    have e : inV (.int v) ((a :: r).map V.int) = ((a == v) || inV (.int v) (r.map V.int)) := rfl
    rw [e, ih, Bool.eq_iff_iff, Bool.or_eq_true, beq_iff_eq, decide_eq_true_iff, decide_eq_true_iff, List.mem_cons]
    exact ⟨fun h => h.elim (fun q => .inl q.symm) .inr, fun h => h.elim (fun q => .inl q.symm) .inr⟩
theorem inV_non : ∀ {ns : List Int}, inV .non (ns.map V.int) = false
  | [] => rfl
  | a :: r => by
    have e : inV .non ((a :: r).map V.int) = inV .non (r.map V.int) := rfl
    rw [e, inV_non]
theorem flat_ints : ∀ {ns : List Int}, (ns.map V.int).all flatV = true
  | [] => rfl
  | a :: r => by
    have e : ((a :: r).map V.int).all flatV = (r.map V.int).all flatV := rfl
    rw [e, flat_ints]
end Tz
namespace TzWith
open PySem PySem.Spec PyProof.Rows L2 L2H
abbrev St := L2.St
/-! with e: return f — an own class's two methods, also where f raises -/
section
variable {P : Program} {w : World} {A : Around} {E : Value → Shared → Prop} {s : Shared} {env : Env} {K : PySem.W.Frag} {x C f1 f2 : Addr} {ox : Obj} {od : Option Obj} {pos : Pos}
/-- the body raised u, and this frame has noted it: the second method is asked, and u goes on -/
def Rose (P : Program) (w : World) (A : Around) (E : Value → Shared → Prop) (env : Env) (x f2 : Addr) (Q : Flow → Shared → Prop) (u : Value) (s : Shared) : Prop :=
  u ≠ byPass ∧ wpAny (model P w) A (setFlight u none) (fun _ s1 => wpAny (model P w) A (typeOf u) (fun k s2 => wpAny (model P w) A (tracebackOf u) (fun t s3 =>
    codeAny (model P w) (A.mark (some u)) (.call (.ref f2) ⟨[.ref x, k, u, t], []⟩) (fun r s4 => r = .ok (.ret .none) ∧ wpAny (model P w) A (passOn "with" u env) Q E s4) s3) E s2) E s1) E s
theorem of_marked {u : Value} {c : Code} {Q : Value → Shared → Prop} (n : u ≠ byPass) (h : codeAny (model P w) (A.mark (some u)) c (fun r s4 => r = .ok (.ret .none) ∧ Q .none s4) s) : wpAny (model P w) A (withItem.marked u c) Q E s := by
  unfold withItem.marked
  refine wpAny_bind (wpAny_run (codeAny_mono h fun r s4 z => ?_) fun q => n (Option.some.inj q))
  obtain ⟨rfl, z⟩ := z
  exact wpAny_pure z
theorem core {body : Sem Flow} {Q : Flow → Shared → Prop} (Xk : K.In s.heap) (J : PySem.W.InstAt s.heap x ox C od)
    (g1 : PySem.W.findIn K (.ref C) "__enter__" = some (some (.ref f1))) (i1 : PySem.W.isFn K (.ref f1) = true) (g2 : PySem.W.findIn K (.ref C) "__exit__" = some (some (.ref f2))) (i2 : PySem.W.isFn K (.ref f2) = true)
    (go : wpAny (model P w) A (call (.ref f1) [.ref x]) (fun _ s2 => wpAny (model P w) A body (fun fl s3 => wpAny (model P w) A (call (.ref f2) [.ref x, .none, .none, .none]) (fun _ s4 => Q fl s4) E s3)
      (fun u s3 => wpAny (model P w) A (noteFrame u env) (fun _ s4 => Rose P w A E env x f2 Q u s4) E s3) s2) E s) :
    wpAny (model P w) A (withItem false pos env (pure (.ref x)) none body) Q E s := by
  obtain ⟨cd, hc, l1⟩ := PySem.W.kw_along g1
  obtain ⟨cd2, hc2, l2⟩ := PySem.W.kw_along g2
  cases hc.symm.trans hc2
  obtain ⟨h0, gs, dr, tk, oo⟩ := s
  have L1 := PySem.W.kw_special (M := model P w) Xk J hc l1
  have L2 := PySem.W.kw_special (M := model P w) Xk J hc l2
  have L3 : PySem.W.Looks (model P w) h0 (bindSpecial (.ref f1) (.ref x)) (.ref f1, [.ref x]) := PySem.W.bind_fn Xk _ (beq_iff_eq.mp i1)
  have L4 : PySem.W.Looks (model P w) h0 (bindSpecial (.ref f2) (.ref x)) (.ref f2, [.ref x]) := PySem.W.bind_fn Xk _ (beq_iff_eq.mp i2)
  unfold withItem
  refine wpAny_bind (wpAny_pure (wpAny_bind (wpAny_standAt ?_)))
  simp only [Bool.false_eq_true, if_false]
  refine wpAny_bind (wpAny_holding (wpAny_bind (L1.here ?_)))
  dsimp only
  refine wpAny_bind (PySem.W.Looks.here (PySem.W.Looks.of_pure rfl) (r := ()) ?_)
  refine wpAny_bind (L3.here ?_)
  dsimp only
  refine wpAny_holding (wpAny_bind (L2.here ?_))
  dsimp only
  refine wpAny_bind (PySem.W.Looks.here (PySem.W.Looks.of_pure rfl) (r := ()) ?_)
  refine wpAny_bind (L4.here ?_)
  dsimp only
  refine wpAny_pure ?_
  dsimp only
  refine wpAny_holding (wpAny_bind (wpAny_mono go (fun v s2 then_ => ?_) fun _ _ z => z))
  refine wpAny_bind (wpAny_pure ?_)
  refine wpAny_bind (wpAny_attempt (PySem.W.kw_held ?_))
  refine wpAny_mono then_ (fun fl s3 z => ?_) (fun u s3 z => ?_)
  · dsimp only
    refine wpAny_bind (wpAny_standAt (wpAny_bind (wpAny_holding ?_)))
    refine wpAny_mono z (fun _ s4 q => ?_) fun _ _ z => z
    exact wpAny_bind (wpAny_pure (wpAny_pure q))
  · dsimp only
    refine wpAny_bind (wpAny_mono z (fun _ s4 ⟨n, z⟩ => ?_) fun _ _ z => z)
    refine wpAny_bind (wpAny_mono z (fun _ s5 z => ?_) fun _ _ z => z)
    refine wpAny_bind (wpAny_standAt (wpAny_holding ?_))
    refine wpAny_bind (wpAny_mono z (fun k s6 z => ?_) fun _ _ z => z)
    refine wpAny_bind (wpAny_mono z (fun t s7 z => ?_) fun _ _ z => z)
    refine wpAny_bind (of_marked n (codeAny_mono z fun r s8 ⟨e, q⟩ => ⟨e, ?_⟩))
    refine wpAny_bind (wpAny_pure ?_)
    dsimp only
    refine wpAny_bind (wpAny_pure ?_)
    simp only [Bool.false_eq_true, if_false]
    exact q
end
/-! ### a def that may be called while any exception is handled: it lets none out -/
structure FnW (P : Program) (w : World) (K : PySem.W.Frag) (mg : Str → Option Value) (base : Heap) (k : Nat) (f : Addr) (fd : FuncData) (ps : List Str) (sp : Sp) : Prop where
  many : ∀ vs H Q E, sp vs H Q E → vs.length = ps.length
  goes : ∀ (A : Around) (outer : List Env) (s : Shared) (H : Hp) (us : List Value) (vs : List V) (Q : VK) (p : Addr × Obj), RoomH k A → PinOk outer H s p → Env0 P w K mg base A outer s H → BindsTo s fd ⟨us, []⟩ (ps.zip us) → Vals vs us → sp vs H Q E0 →
    codeAny (model P w) A (.call (.ref f) ⟨us, []⟩) (CR CX0 outer P w H s Q E0) s
theorem okW {P : Program} {w : World} {K : PySem.W.Frag} {mg : Str → Option Value} {base : Heap} {x : Str} {qual : Str} {st : Stmt} {f : Addr} {fd : FuncData} {N ps : List Str} {k : Nat} {sp : Sp}
    (F : Fun K x qual st f fd) (S : FnScope N ps (defScope st)) (many : ∀ vs H Q E, sp vs H Q E → vs.length = ps.length)
    (inside : ∀ (cdv : Value) (A : Around) (outer : List Env) (s : Shared) (H : Hp) (vs : List V) (Q : VK) (p : Addr × Obj), RoomH k (A.deeper (envOfC qual (defScope st) s.heap.objs.size f cdv)) → sp vs H Q E0 →
      ∃ t, PSs (cxH CX0 P w K mg base N qual (defScope st) f cdv A outer s H E0 p).nox (defBody st) t ∧ t { nx := fun _ J => Q .non J, rt := Q } (L2.start N vs) H) : FnW P w K mg base (k + 1) f fd ps sp := by
  obtain ⟨oc, od, kV, doc, pm, an, cdv, ct, osl, rfl, at_, code⟩ := F.ex
  refine ⟨many, fun A outer s H us vs Q p room pin e0 binds rel want => ?_⟩
  have there := e0.mod.kin.keeps fun b o e => (e0.bs b o e).1
  have free := e0.mod.nolimit.keeps fun b o e => (e0.bs b o e).1
  refine codeAny_call_function room.depth (there _ _ at_) rfl S.co S.gen rfl (PySem.W.codeRec_of there code) (binds _ _ _ _ ?_)
  refine wpAny_newFunctionEnv_cells S.kind (fun ⟨n, v⟩ m => ?_) fun env is s1 made => ?_
  · rcases S.par n (List.of_mem_zip m).1 with q | q
    · exact Or.inl q
    · exact Or.inr ⟨q, PySem.W.cellsFrom_some _ _ _ (Or.inl q)⟩
  · subst is
    refine ⟨free.keeps made.toInCall.keep, codeAny_func ?_⟩
    obtain ⟨t, runs, q⟩ := inside cdv A outer s H vs Q p (room.deeper _) want
    refine wpAny_mono (runs.nox.run [] s1 _ H _ (inv_startH S pin e0 (many _ _ _ _ want) rel made) q) (fun fl s2 ends => ?_) fun _ _ z => z
    cases fl with
    | brk => exact (ends.choose_spec.choose_spec.2 : False).elim
    | cont => exact (ends.choose_spec.choose_spec.2 : False).elim
    | next =>
      obtain ⟨z, J, I, q⟩ := ends
      exact ⟨.non, J, I.os, I.bare, I.base, I.hok, rfl, q⟩
    | ret u =>
      obtain ⟨v, z, J, I, r, q⟩ := ends
      exact ⟨v, J, I.os, I.bare, I.base, I.hok, r, q⟩
/-- what is wished of an error in the body: the second method, then Wo -/
def wRose (sp : Sp) (x : Addr) (Wo : WX) : WX := fun c d z J => ∃ k : V, RelV k c ∧ ∀ e t : V, sp [.ref x, k, e, t] J (fun v J2 => v = .non ∧ Wo c d z J2) fun _ _ _ => False
def tWith (C : Addr) (sp1 sp2 : Sp) (tc : TE) (te : WX → TE) (Wo : WX) : TS := fun D z J => tc z J fun v J1 => ∃ (x dx : Addr) (fs : List (Str × V)), v = .ref x ∧ J1 x = some (.ins C dx fs) ∧
  sp1 [.ref x] J1 (fun _ J2 => te (wRose sp2 x Wo) z J2 fun r J3 => sp2 [.ref x, .non, .non, .non] J3 (fun _ J4 => D.rt r J4) fun _ _ _ => False) fun _ _ _ => False
section
variable {X : Cx} {pins : List (Addr × Obj)} {out : Value → Shared → Prop} {k1 k2 : Nat} {f1 f2 x C : Addr} {fd1 fd2 : FuncData} {ps1 ps2 : List Str} {sp1 sp2 : Sp} {Wo : WX} {Q : Flow → Shared → Prop} {u : Value} {s' : Shared}
theorem tb_ok {P : Program} {w : World} {A : Around} {E : Value → Shared → Prop} {s : Shared} {a T : Addr} {o oT : Obj} {vs ts : Array Value} {y : Value} {Q : Value → Shared → Prop} (at1 : s.heap.get? a = some o) (d1 : o.data = .fields vs) (v1 : vs[1]? = some (.ref T))
    (at2 : s.heap.get? T = some oT) (d2 : oT.data = .fields ts) (t3 : ts[3]? = some y) (q : ∀ (v : V) (t : Value), RelV v t → Q t s) : wpAny (model P w) A (tracebackOf (.ref a)) Q E s := by
  have lt : 3 < ts.size := (Array.getElem?_eq_some_iff.mp t3).1
  have t1 : ts[1]? = some ts[1] := Array.getElem?_eq_getElem (by omega)
  unfold tracebackOf
  refine wpAny_bind (wpAny_field at1 d1 v1 ?_)
  dsimp only
  refine wpAny_bind (wpAny_field at2 d2 t1 ?_)
  split
  · exact wpAny_pure (q .non _ rfl)
  · exact wpAny_pure (q (.ref T) _ rfl)
theorem roomM {k : Nat} {A : Around} {h : Option Value} (r : Room k A) : RoomH k (A.mark h) := ⟨r.dp, r.un⟩
theorem rose (top : X.stack = X.env :: X.outer) (fr : X.env.frame = some X.env.locals) (noex : X.ex = []) (fine : X.Ok) (tk : Takes X Wo)
    (F2 : FnW X.prog X.w X.K X.mg X.base k2 f2 fd2 ps2 sp2) (room : Room k2 X.A) (b2 : Binds X.K fd2 ps2 []) (air : XE (X.tr (X.pn ++ pins) out) (wRose sp2 x Wo) u s') :
    wpAny (model X.prog X.w) X.A (noteFrame u X.env) (fun _ s4 => Rose X.prog X.w X.A X.xe X.env x f2 Q u s4) X.xe s' := by
  have frames : X.A.frames = some (X.env :: X.outer) := by rw [fine.frames, top]
  obtain ⟨a, B, sb, pins1, z1, J1, k, d, rfl, Ib, nb, upto, sky, na, os, bare, kv, rk, exits⟩ := air
  have I1 : L2.Inv X pins z1 J1 sb := Ib.ofTry fine
  rw [top] at sky
  refine wpAny_mono (Sky.land (E₁ := X.xe) Zc.steady frames fr sky fun h3 fl3 up3 => ?_) (fun _ s2 h => ⟨ref_ne_byPass a, h⟩) fun _ _ z => z
  have I3 : L2.Inv X pins z1 J1 { s' with heap := h3 } := I1.landed nb fl3.1 (upto.trans up3) os bare
  obtain ⟨-, aB, ff, o, vs, T, oT, ts, at3, zc, dt, v1, TB, Ta, atT, dT, t3⟩ := id fl3
  have nT : J1 T = none := (I1.inGround nb).gone TB
  have plain : ∀ (b : Addr) (ob : Obj) (us : Array Value), h3.get? b = some ob → ob.data = .fields us → b ∉ frs (X.env :: X.outer) := fun b ob us e q m => by
    obtain ⟨_, o2, e2, n2⟩ := ff.mem m
    cases e.symm.trans e2
    exact n2 _ q
  have own : X.env.locals ∈ frs (X.env :: X.outer) := List.mem_filterMap.mpr ⟨X.env, List.mem_cons_self, fr⟩
  have more : ∀ b, b ∈ X.fs → b ∈ frs (X.env :: X.outer) := fun b m => by
    obtain ⟨e, m2, q⟩ := List.mem_filterMap.mp m
    exact List.mem_filterMap.mpr ⟨e, List.mem_cons_of_mem _ m2, q⟩
  have a_fr := plain a o vs at3 dt
  have T_fr := plain T oT ts atT dT
  -- whatever was there ahead is neither of the two
  have apart : ∀ b ob, sb.heap.get? b = some ob → b ≠ a ∧ b ≠ T := fun b ob e => by
    by_cases m : b ∈ frs X.stack
    · rw [top] at m
      exact ⟨fun q => a_fr (q ▸ m), fun q => T_fr (q ▸ m)⟩
    · have g := nb b ob e m
      refine ⟨fun q => ?_, fun q => ?_⟩
      · rw [q, aB] at g
        cases g
      · rw [q, TB] at g
        cases g
  have apart0 : ∀ b ob, X.s_0.heap.get? b = some ob → b ≠ a ∧ b ≠ T := fun b ob e => by
    obtain ⟨o2, q⟩ := I1.base.there b ob e (by rw [noex]; simp)
    exact apart b o2 q
  have apartP : ∀ p ∈ X.pn ++ pins, p.1 ≠ a ∧ p.1 ≠ T := fun p m => apart p.1 p.2 (I1.pin p m).1
  have I4 : L2.Inv X ((T, oT) :: pins) z1 J1 { s' with heap := h3 } := ⟨I3.ok, I3.os, I3.bare, I3.base, I3.loc, I3.cell, I3.free, I3.freeC, fun p m => by
    rcases List.mem_append.mp m with m | m
    · exact I3.pin p (List.mem_append_left _ m)
    · rcases List.mem_cons.mp m with m | m
      · rw [m]
        exact ⟨atT, nT, fun q => T_fr (by rw [show T = X.env.locals from q]; exact own), fun q => T_fr (more _ q), fun v q => by
          cases dT.symm.trans (show oT.data = .cell v from q)⟩
      · exact I3.pin p (List.mem_append_right _ m), I3.hok, I3.len⟩
  have S := I4.suite at3 dt na (fun q => a_fr (by rw [show a = X.env.locals from q]; exact own)) fun q => a_fr (more _ q)
  refine wpAny_typeOf_ref at3 ?_
  rw [zc.1]
  refine tb_ok at3 dt v1 atT dT t3 fun tv t rt => ?_
  have sp := exits (.ref a) tv
  have rel : Vals [.ref x, kv, .ref a, tv] [.ref x, k, .ref a, t] := .cons rfl (.cons rk (.cons rfl (.cons rt .nil)))
  have len : ([.ref x, k, .ref a, t] ++ [] : List Value).length = ps2.length := by
    rw [List.append_nil, ← rel.length]
    exact F2.many _ _ _ _ sp
  have binds := b2 { s' with heap := h3 } [.ref x, k, .ref a, t] S.kIn len
  rw [List.append_nil] at binds
  have P1 := S.pin (a, o) (List.mem_append_left _ List.mem_cons_self)
  have pin : PinOk X.stack J1 { s' with heap := h3 } (a, o) := ⟨P1.1, P1.2.1, fun m => by
    rw [top] at m
    exact a_fr m, P1.2.2.2.2⟩
  refine codeAny_mono (F2.goes (X.A.mark (some (.ref a))) X.stack _ J1 [.ref x, k, .ref a, t] _ _ (a, o) (roomM room) pin S.env0 binds rel sp) fun r s6 done => ?_
  cases r with
  | error e => exact False.elim done
  | ok fl =>
    cases fl with
    | next => exact done.elim
    | brk => exact done.elim
    | cont => exact done.elim
    | ret v =>
      obtain ⟨y, J6, S6, ry, rfl, wo⟩ := S.after done
      cases (show v = .none from ry)
      refine ⟨rfl, ?_⟩
      have pa := S6.pin (a, o) (List.mem_append_left _ List.mem_cons_self)
      have pT := S6.pin (T, oT) (List.mem_append_left _ (List.mem_cons_of_mem _ (List.mem_append_right _ List.mem_cons_self)))
      have I6 : L2.Inv X pins z1 J6 s6 := ⟨fine, S6.os, S6.bare, S6.base, S6.loc, S6.cell, S6.free, S6.freeC, fun p m => S6.pin p (List.mem_append_left _ (List.mem_cons_of_mem _ (by
        rcases List.mem_append.mp m with m | m
        · exact List.mem_append_left _ m
        · exact List.mem_append_right _ (List.mem_cons_of_mem _ m)))), S6.hok, S6.len⟩
      -- the state without the two
      obtain ⟨G, on, off⟩ := restrict s6.heap fun b => !(b == a || b == T)
      have inn : ∀ b ob, G.get? b = some ob → s6.heap.get? b = some ob ∧ b ≠ a ∧ b ≠ T := fun b ob e => by
        by_cases q : b = a ∨ b = T
        · rw [off b (by rcases q with q | q <;> simp [q])] at e
          cases e
        · have q1 : b ≠ a := fun z => q (.inl z)
          have q2 : b ≠ T := fun z => q (.inr z)
          rw [on b (by simp [q1, q2])] at e
          exact ⟨e, q1, q2⟩
      have I7 : L2.Inv X pins z1 J6 { s6 with heap := G } := I6.less (fun b ob e => (inn b ob e).1) (fun b ob q1 q2 e => (on b (by simp [q1, q2])).trans e) ⟨o, vs, pa.1, dt⟩ ⟨oT, ts, pT.1, dT⟩ pa.2.1 pT.2.1 apart0 apartP
      obtain ⟨B6, eB⟩ : ∃ B6, B6 = PySem.W.hideAll G (frs X.stack) := ⟨_, rfl⟩
      have B6in : ∀ b ob, B6.get? b = some ob → G.get? b = some ob := fun b ob e => by
        rw [eB] at e
        exact PySem.W.of_hideAll _ e
      have B6no : ∀ b, b = a ∨ b = T → B6.get? b = none := fun b m => by
        cases q : B6.get? b with
        | none => rfl
        | some ob =>
          obtain ⟨_, q1, q2⟩ := inn b ob (B6in b ob q)
          rcases m with m | m
          · exact absurd m q1
          · exact absurd m q2
      have air : HandSPX.FlyingZ B6 (X.env :: X.outer) a (Zc k d) s6.heap := by
        refine ⟨fun b ob e => (inn b ob (B6in b ob e)).1, B6no a (.inl rfl), ?_, o, vs, T, oT, ts, pa.1, zc, dt, v1, B6no T (.inr rfl), Ta, pT.1, dT, t3⟩
        have g := funFrames_none (B := B6) I6.stack fun b m => by
          rw [eB]
          exact PySem.W.hideAll_none _ m
        rw [← top]
        exact g
      unfold PySem.passOn
      refine wpAny_bind (wpAny_field pa.1 dt v1 ?_)
      rw [if_neg (by simp)]
      have last : wpAny (model X.prog X.w) X.A (setFlight (.ref a) X.env.frame) (fun _ s7 => wpAny (model X.prog X.w) X.A (throw (.ref a) : Sem Flow) Q X.xe s7) X.xe s6 := by
        rw [fr]
        refine HandSPX.setFlight_upZ air fun h7 held up7 => wpAny_throw (tk _ _ ?_)
        refine ⟨a, B6, { s6 with heap := G }, pins, z1, J6, k, d, rfl, I7, fun b ob e m => by rw [eB]; exact PySem.W.hideAll_get _ e m, (Heap.UpToSlots.of_keeps fun b ob e => (inn b ob e).1).trans up7, .inr (.inr ?_), pa.2.1, rfl, I6.bare, wo⟩
        rw [top]
        exact held
      first
        | exact wpAny_bind (wpAny_pure (wpAny_bind last))
        | exact wpAny_bind last
/-- with e: return f -/
theorem ps_with {ctx e : Expr} {rp pos : Pos} {tc : TE} {te : WX → TE} (top : X.stack = X.env :: X.outer) (fr : X.env.frame = some X.env.locals) (noex : X.ex = []) (tk : Takes X Wo) (hc : PE X ctx tc)
    (tries : ∀ (W : WX) (ps : List (Addr × Obj)) (out : Value → Shared → Prop), Takes (X.tr ps out) W → PassesOwn (model X.prog X.w) X.A X.env out → PE (X.tr ps out) e (te W))
    (F1 : FnOk X.prog X.w X.K X.mg X.base CX0 k1 f1 fd1 ps1 sp1) (r1 : Room k1 X.A) (M1 : Meth X.K C "__enter__" f1) (b1 : Binds X.K fd1 ps1 [])
    (F2 : FnOk X.prog X.w X.K X.mg X.base CX0 k2 f2 fd2 ps2 sp2) (F3 : FnW X.prog X.w X.K X.mg X.base k2 f2 fd2 ps2 sp2) (r2 : Room k2 X.A) (M2 : Meth X.K C "__exit__" f2) (b2 : Binds X.K fd2 ps2 []) :
    PS X (.With [⟨ctx, none⟩] [.Return (some e) rp] pos) (tWith C sp1 sp2 tc te Wo) := by
  refine ⟨fun pins s z J D I want => ?_⟩
  have fine := I.ok
  refine PySem.W.kw_exec0 (thn (hc.run pins s z J _ I want) fun u s1 got => ?_)
  obtain ⟨v, J1, I1, rv, x, dx, fs, rfl, hx, enter⟩ := got
  cases rv
  obtain ⟨od, J'⟩ := TzOwn.inst_at I1 hx
  refine core I1.kIn J' M1.at_ M1.fn M2.at_ M2.fn ?_
  refine thn (run_fn (us := [.ref x]) (vs := [.ref x]) F1 r1 b1 .nil (fun _ _ _ _ _ _ _ z => False.elim z) I1 (.cons rfl .nil) enter) fun u2 s2 got => ?_
  obtain ⟨v2, J2, I2, rv2, body⟩ := got
  refine wpAny_execs_cons (wpAny_Return_some ?_)
  refine wpAny_mono ((tries (wRose sp2 x Wo) (X.pn ++ pins) (fun u s3 => wpAny (model X.prog X.w) X.A (noteFrame u X.env) (fun _ s4 => Rose X.prog X.w X.A X.xe X.env x f2 (SP X pins D) u s4) X.xe s3) (fun u s3 air => ?_) PassesOwn.looking).run [] s2 z J2 _ (I2.toTry _) body) (fun u s3 got => ?_) fun u s3 q => q
  · exact rose top fr noex fine tk F3 r2 b2 air
  · obtain ⟨r, J3, I3, rr, leave⟩ := got
    refine thn (run_fn (us := [.ref x, .none, .none, .none]) (vs := [.ref x, .non, .non, .non]) F2 r2 b2 .nil (fun _ _ _ _ _ _ _ z => False.elim z) (I3.ofTry fine) (.cons rfl (.cons rfl (.cons rfl (.cons rfl .nil)))) leave) fun u4 s4 got => ?_
    obtain ⟨v4, J4, I4, _, q⟩ := got
    exact ⟨r, z, J4, I4, rr, q⟩
end
end TzWith
namespace TzLam
open PySem PySem.Spec PyProof.Rows L2 LamX
/-! a method that is handed a lambda, and lets its errors go on -/
/-- the method's def, entered with the object at r and the lambda at f: TT tells what it makes of the lambda's reading -/
def GivesM (X : Cx) (k : Nat) (Ng : List Str) (qg : Str) (sg : Scope) (g : Addr) (bg : List Stmt) (a : Str) (q : Str) (TT : Addr → (XK → Hp → VK → Prop) → Hp → VK → XK → Prop) : Prop :=
  ∀ (cdg : Value) (f c' r : Addr) (s : Shared) (H : Hp) (Q : VK) (E : XK) (tl : XK → Hp → VK → Prop), Room k (X.A.deeper (envOfC qg sg s.heap.objs.size g cdg)) →
    (∀ (W : WX) (pn : List (Addr × Obj)) (xe : Value → Shared → Prop) (E' : XK) (p1 p2 : Pos), Takes ((cxOf (L2.CX X.prog X.w) X.prog X.w X.K X.mg X.base Ng qg sg g cdg X.A X.stack s H E).tr pn xe) W → (∀ cls d σ' H', E' cls d H' → W cls d σ' H') →
      PE ((cxOf (L2.CX X.prog X.w) X.prog X.w X.K X.mg X.base Ng qg sg g cdg X.A X.stack s H E).tr pn xe) (.Call (.Name a p1) [] [] p2) (fun σZ HZ Q => σZ[1]? = some (some (.ref f)) ∧ HZ c' = some (CodeO c' q) ∧ tl E' HZ Q)) →
    H c' = some (CodeO c' q) → TT r tl H Q E →
    ∃ t, PSs (cxOf (L2.CX X.prog X.w) X.prog X.w X.K X.mg X.base Ng qg sg g cdg X.A X.stack s H E) bg t ∧ t { nx := fun _ H' => Q .non H', rt := Q } (L2.start Ng [.ref r, .ref f]) H
def tLamM (T : List (Addr × Str)) (C : Addr) (m : Str) (TT : Addr → (XK → Hp → VK → Prop) → Hp → VK → XK → Prop) (E : XK) (to : TE) (t : XK → TE) : TE := fun σ H Q => to σ H fun x H0 => ∃ (r dx : Addr) (fs : List (Str × V)), x = .ref r ∧ H0 r = some (.ins C dx fs) ∧ fs.lookup m = none ∧
  Tabs T H0 ∧ ∀ H1, ExtN H0 H1 → Tabs T H1 → TT r (fun E' H' Q' => t E' σ H' Q') H1 Q E
/-- the lambda called in the def that got it; its body may count on the guards of the lambda's maker -/
theorem pe_actG {X : Cx} {pins : List (Addr × Obj)} {σ : L2.St} {H : Hp} {s : Shared} {CXg : CXT} {Eg : XK} {Ng : List Str} {qg : Str} {sg : Scope} {g f c' : Addr} {cdg pm ctv : Value} {params : Arguments} {body : Expr} {scope : Scope} {k i : Nat} {a : Str} {pn : List (Addr × Obj)} {xe : Value → Shared → Prop} {W : WX} {E : XK} {tb : TE} {p1 p2 : Pos}
    (I : Inv X pins σ H s) (L : LamS X.env.scope scope) (at_ : s.heap.get? f = some (PySem.W.kla_obj "<lambda>" (X.env.qual ++ "<lambda>") params body scope (cloFrom X.env.cells scope.names []) pm c' ctv)) (free : H f = none) (off : f ∉ frs X.stack)
    (binds : bindArgs (PySem.W.kla_fn "<lambda>" (X.env.qual ++ "<lambda>") params body scope (cloFrom X.env.cells scope.names []) pm (.ref c') ctv) ⟨[], []⟩ = pure [])
    (tk : Takes ((cxOf CXg X.prog X.w X.K X.mg X.base Ng qg sg g cdg X.A X.stack s H Eg).tr pn xe) W) (wide : ∀ cls d z J, E cls d J → W cls d z J) (room : Room (k + 1) (X.A.deeper (envOfC qg sg s.heap.objs.size g cdg)))
    (inside : ∀ (A : Around) (outer : List Env) (s : Shared) (H : Hp), A.guards = X.A.guards → Room k (A.deeper (lamEnv X scope s.heap.objs.size f c')) → PE (lamCx X A outer s H E scope f c') body tb)
    (nm : Ng[i]? = some a) (vis : Vis sg a) (hd : (a == ("__debug__" : Str)) = false := by decide) (hcd : (a == ("__classdict__" : Str)) = false := by decide) :
    PE ((cxOf CXg X.prog X.w X.K X.mg X.base Ng qg sg g cdg X.A X.stack s H Eg).tr pn xe) (.Call (.Name a p1) [] [] p2)
      (fun z J Q => z[i]? = some (some (.ref f)) ∧ J c' = some (CodeO c' (X.env.qual ++ "<lambda>")) ∧ tb σ J Q) := by
  refine ⟨fun pins2 s2 z J Q I2 want => ?_⟩
  obtain ⟨slot, code, goes⟩ := want
  refine wpAny_Call_Name_kw (thn ((pe_var (pos := p1) (i := i) nm vis hd hcd).run pins2 s2 z J (fun v J1 => v = .ref f ∧ J1 = J) I2 ⟨.ref f, slot, rfl, rfl⟩) fun u s3 got => ?_)
  obtain ⟨v, J3, I3, rv, rfl, rfl⟩ := got
  cases rv
  have at3 := I3.base.keep f _ at_ free off (fun q => nomatch (show f ∈ ([] : List Addr) from q))
  refine PySem.W.callWith_F0 ⟨_, _, _, _, at3⟩ ?_
  obtain ⟨⟨oc, vs, t, o1, o2, o3⟩, _, _⟩ := I3.hok c' _ code
  have runs : codeAny (model X.prog X.w) (X.A.deeper (envOfC qg sg s.heap.objs.size g cdg)) (.call (.ref f) ⟨[], []⟩) (CR (L2.CX X.prog X.w) (envOfC qg sg s.heap.objs.size g cdg :: X.stack) X.prog X.w J3 s3 Q E) s3 := by
    refine PySem.W.kla_callFunE room.depth at3 rfl L.co L.gen rfl ⟨c', oc, vs, t, rfl, o1, o2, o3⟩ ?_
    rw [binds]
    refine wpAny_pure (wpAny_newFunctionEnv (fun y m => (L.own y m).2) (fun y m => absurd m (by simp)) (fun h4 ns4 sb4 => ⟨I3.nolimit.fresh _ sb4, ?_⟩) L.kind)
    show codeAny _ _ (.expr body (lamEnv X scope s3.heap.objs.size f c')) _ _
    have start := lam_start2 (f := f) (c' := c') (E := E) (tk := s3.toks + ([] : List (Str × Value)).length) I L I3.env0 room.hd I3.base ns4 fun b o e => sb4.extBut b o (Nat.ne_of_lt (Heap.lt_size e)) (Heap.get?_push_of_some _ e)
    refine PySem.W.kla_codeExpr (wpAny_mono ((inside (X.A.deeper (envOfC qg sg s.heap.objs.size g cdg)) (envOfC qg sg s.heap.objs.size g cdg :: X.stack) s3 J3 rfl (room.deeper _)).run [] _ _ J3 Q start goes) (fun v s5 got => ?_) fun _ _ q => q)
    obtain ⟨y, J5, I5, ry, q⟩ := got
    exact ⟨y, J5, I5.os, I5.bare, I5.base, I5.hok, ry, q⟩
  refine wpAny_call (codeAny_mono runs fun r s4 q => ?_)
  cases r with
  | error e => exact passes_call tk wide pins2 z J3 s3 e s4 I3 q
  | ok fl =>
    cases fl with
    | ret u => exact I3.after q
    | next => exact False.elim q
    | brk => exact False.elim q
    | cont => exact False.elim q
section
variable {X : Cx} {T : List (Addr × Str)} {TT : Addr → (XK → Hp → VK → Prop) → Hp → VK → XK → Prop} {m qg a : Str} {g c P C : Addr} {k : Nat} {st : Stmt} {fd : FuncData} {Ng : List Str}
  {params : Arguments} {body : Expr} {scope : Scope} {E : XK} {to : TE} {t : XK → TE} {o : Expr} {apos lpos pos : Pos}
theorem lam_runs {pins : List (Addr × Obj)} {σ : L2.St} {H1 : Hp} {s' : Shared} {f c' r : Addr} {pm' ctv : Value} {args : Args} {Q : VK} (hr : Room (k + 2) X.A) (F : Fun X.K m qg st g fd) (Sg : FnScope Ng ["self", a] (defScope st)) (hNg : Ng[1]? = some a) (hva : Vis (defScope st) a) (hG : ∀ k2, k ≤ k2 → GivesM X (k2 + 1) Ng qg (defScope st) g (defBody st) a (X.env.qual ++ "<lambda>") TT)
    (L : LamS X.env.scope scope) (hbind : ∀ (q : Str) (cl : List (Str × Addr)) (pm cv ctv : Value), bindArgs (PySem.W.kla_fn "<lambda>" q params body scope cl pm cv ctv) ⟨[], []⟩ = pure [])
    (hbody : ∀ (A : Around) (outer : List Env) (s : Shared) (H : Hp) (E : XK) (f c' : Addr), A.guards = X.A.guards → Room k (A.deeper (lamEnv X scope s.heap.objs.size f c')) → PE (lamCx X A outer s H E scope f c') body (t E))
    (I1 : Inv X pins σ H1 s') (hf : s'.heap.get? f = some (PySem.W.kla_obj "<lambda>" (X.env.qual ++ "<lambda>") params body scope (cloFrom X.env.cells scope.names []) pm' c' ctv)) (hfn : H1 f = none) (hfr : f ∉ frs X.stack) (hco : H1 c' = some (CodeO c' (X.env.qual ++ "<lambda>")))
    (hb : BindsTo s' fd args ((["self", a] : List Str).zip [.ref r, .ref f])) (hd : (a == ("__debug__" : Str)) = false) (hcd : (a == ("__classdict__" : Str)) = false)
    (q : TT r (fun E' H' Q' => t E' σ H' Q') H1 Q E) :
    codeAny (model X.prog X.w) X.A (.call (.ref g) args) (CR (L2.CX X.prog X.w) X.stack X.prog X.w H1 s' Q E) s' := by
  obtain ⟨oc, od, kV, doc, pm, an, cdv, ct, osl, rfl, lk, code⟩ := F.ex
  refine run_ofS (N := Ng) (ps := ["self", a]) (us := [.ref r, .ref f]) (vs := [.ref r, .ref f]) lk code Sg hr I1.env0 hb (.cons rfl (.cons rfl .nil)) rfl fun hr' => ?_
  exact hG k (Nat.le_refl k) cdv f c' r s' H1 Q E (fun E' H' Q' => t E' σ H' Q') hr' (fun W pn xe E' p1 p2 tk hW => pe_actG (i := 1) I1 L hf hfn hfr (hbind _ _ _ _ _) tk hW hr' (fun A outer s H gd2 hr2 => hbody A outer s H E' f c' gd2 hr2) hNg hva hd hcd) hco q
/-- o.m(lambda: body) -/
theorem pe_lamM {pl : Sem Bool} (he : PE X o to) (cl : Cls X.K C) (M : Meth X.K C m g) (hr : Room (k + 2) X.A) (F : Fun X.K m qg st g fd) (hbd : L2.Binds X.K fd ["self", a] []) (Sg : FnScope Ng ["self", a] (defScope st)) (hNg : Ng[1]? = some a) (hva : Vis (defScope st) a) (hG : ∀ k2, k ≤ k2 → GivesM X (k2 + 1) Ng qg (defScope st) g (defBody st) a (X.env.qual ++ "<lambda>") TT)
    (TB : TabB X.base X.mg c P) (hcode : X.env.code = .ref c) (hmT : (P, X.env.qual ++ "<lambda>") ∈ T) (hu : ∀ p ∈ T, p.1 = P → p.2 = X.env.qual ++ "<lambda>") (L : LamS X.env.scope scope) (hdef : defaultsOf params X.env = ([], []))
    (hbind : ∀ (q : Str) (cl : List (Str × Addr)) (pm cv ctv : Value), bindArgs (PySem.W.kla_fn "<lambda>" q params body scope cl pm cv ctv) ⟨[], []⟩ = pure []) (hx : Passes (L2.CX X.prog X.w) X E)
    (hbody : ∀ (A : Around) (outer : List Env) (s : Shared) (H : Hp) (E : XK) (f c' : Addr), A.guards = X.A.guards → Room k (A.deeper (lamEnv X scope s.heap.objs.size f c')) → PE (lamCx X A outer s H E scope f c') body (t E))
    (hd : (a == ("__debug__" : Str)) = false := by decide) (hcd : (a == ("__classdict__" : Str)) = false := by decide)
    (ht : eval (.Call (.Attribute o m apos) [.Lambda params body scope lpos] [] pos) X.env = (do
      let ov ← eval o X.env
      standAt apos.atName
      let (f, first) ← holding [ov] (getMethod ov m pl)
      callWith pos f first (backTo pos (starEach [.Lambda params body scope lpos] X.env)) (backToKw pos (keywordEach [] X.env))) := by rfl) :
    PE X (.Call (.Attribute o m apos) [.Lambda params body scope lpos] [] pos) (tLamM T C m TT E to t) := by
  refine ⟨fun pins s σ H Q I h => ?_⟩
  refine PySem.W.methodCall_KW (pl := pl) (thn (he.run pins s σ H _ I h) fun u s1 ⟨x, H1, I1, rx, r, dx, fs, ex, ea, no, hT, q⟩ => ?_) ht
  subst ex
  obtain rfl : u = Value.ref r := rx
  refine getmeth_ok I1 ea cl M no ?_
  refine PySem.W.callWith_K (first := [.ref r]) (h₀ := X.base) I.ok.mod.kin M.kp ?_ (by rfl) (by rfl)
  show wpAny _ _ (spliced ((false, eval (.Lambda params body scope lpos) X.env) :: backTo pos (starEach [] X.env))) _ _ s1
  refine Calls.spliced_cons (lam_make2 I1 TB hcode hmT hu hT hdef (L.has I1.ok) fun f c' pm' ctv H2 s' I2 eN T2 hf hfn hfr hco => ?_)
  refine Calls.spliced_nil ⟨I2.kIn, ?_⟩
  have rc := lam_runs (args := ⟨[.ref r, .ref f], []⟩) hr F Sg hNg hva hG L hbind hbody I2 hf hfn hfr hco (by
    have b := hbd s' [.ref r, .ref f] I2.kIn rfl
    rwa [List.append_nil] at b) hd hcd (q H2 eN T2)
  refine wpAny_call (codeAny_mono rc fun z s2 hq => ?_)
  cases z with
  | error e => exact hx _ _ _ _ _ _ I2 hq
  | ok fl =>
    cases fl with
    | ret u => exact I2.after hq
    | next => exact False.elim hq
    | brk => exact False.elim hq
    | cont => exact False.elim hq
/-- o.m(a=lambda: body) -/
theorem pe_lamMK {pl : Sem Bool} {gs : List Value → List Value → List Value} {gV : List V → List V → List V} {kpos : Pos} (he : PE X o to) (cl : Cls X.K C) (M : Meth X.K C m g) (hr : Room (k + 2) X.A) (F : Fun X.K m qg st g fd) (hbk : KBinds X.K fd ["self", a] [a] gs gV) (hgs : ∀ u v, gs [u] [v] = [u, v]) (Sg : FnScope Ng ["self", a] (defScope st)) (hNg : Ng[1]? = some a) (hva : Vis (defScope st) a) (hG : ∀ k2, k ≤ k2 → GivesM X (k2 + 1) Ng qg (defScope st) g (defBody st) a (X.env.qual ++ "<lambda>") TT)
    (TB : TabB X.base X.mg c P) (hcode : X.env.code = .ref c) (hmT : (P, X.env.qual ++ "<lambda>") ∈ T) (hu : ∀ p ∈ T, p.1 = P → p.2 = X.env.qual ++ "<lambda>") (L : LamS X.env.scope scope) (hdef : defaultsOf params X.env = ([], []))
    (hbind : ∀ (q : Str) (cl : List (Str × Addr)) (pm cv ctv : Value), bindArgs (PySem.W.kla_fn "<lambda>" q params body scope cl pm cv ctv) ⟨[], []⟩ = pure []) (hx : Passes (L2.CX X.prog X.w) X E)
    (hbody : ∀ (A : Around) (outer : List Env) (s : Shared) (H : Hp) (E : XK) (f c' : Addr), A.guards = X.A.guards → Room k (A.deeper (lamEnv X scope s.heap.objs.size f c')) → PE (lamCx X A outer s H E scope f c') body (t E))
    (hd : (a == ("__debug__" : Str)) = false := by decide) (hcd : (a == ("__classdict__" : Str)) = false := by decide)
    (ht : eval (.Call (.Attribute o m apos) [] [⟨some a, .Lambda params body scope lpos, kpos⟩] pos) X.env = (do
      let ov ← eval o X.env
      standAt apos.atName
      let (f, first) ← holding [ov] (getMethod ov m pl)
      callWith pos f first (backTo pos (starEach [] X.env)) (backToKw pos (keywordEach [⟨some a, .Lambda params body scope lpos, kpos⟩] X.env))) := by rfl) :
    PE X (.Call (.Attribute o m apos) [] [⟨some a, .Lambda params body scope lpos, kpos⟩] pos) (tLamM T C m TT E to t) := by
  refine ⟨fun pins s σ H Q I h => ?_⟩
  refine PySem.W.methodCall_KW (pl := pl) (thn (he.run pins s σ H _ I h) fun u s1 ⟨x, H1, I1, rx, r, dx, fs, ex, ea, no, hT, q⟩ => ?_) ht
  subst ex
  obtain rfl : u = Value.ref r := rx
  refine getmeth_ok I1 ea cl M no ?_
  refine PySem.W.callWith_KW0 (first := [.ref r]) (h₀ := X.base) I.ok.mod.kin M.kp rfl ?_ (by rfl)
  show wpAny _ _ (evalAll [do let v ← eval (.Lambda params body scope lpos) X.env; standAt pos; pure v]) _ _ s1
  refine wpAny_evalAll_cons (wpAny_bind (lam_make2 I1 TB hcode hmT hu hT hdef (L.has I1.ok) fun f c' pm' ctv H2 s' I2 eN T2 hf hfn hfr hco => wpAny_bind (wpAny_standAt (wpAny_pure ?_))))
  refine wpAny_evalAll_nil ⟨I2.kIn, ?_⟩
  show wpAny _ _ (call (.ref g) [.ref r] [(a, .ref f)]) _ _ s'
  have rc := lam_runs (args := ⟨[.ref r], [(a, .ref f)]⟩) hr F Sg hNg hva hG L hbind hbody I2 hf hfn hfr hco (by
    have e := hgs (.ref r) (.ref f)
    have b := hbk.to s' [.ref r] [.ref f] I2.kIn (by rw [e]; rfl)
    rw [e] at b
    exact b) hd hcd (q H2 eN T2)
  refine wpAny_call (codeAny_mono rc fun z s2 hq => ?_)
  cases z with
  | error e => exact hx _ _ _ _ _ _ I2 hq
  | ok fl =>
    cases fl with
    | ret u => exact I2.after hq
    | next => exact False.elim hq
    | brk => exact False.elim hq
    | cont => exact False.elim hq
end
end TzLam
namespace Tz
open PySem PySem.Spec PyProof.Rows L2 TzF TzRepr
theorem tl_hu : ∀ {l : List (Addr × Str)}, (l.map (·.1)).Nodup → ∀ {p q : Addr × Str}, p ∈ l → q ∈ l → p.1 = q.1 → p = q
  | [], _, p, _, hp, _, _ => nomatch hp
  | a :: l, nd, p, q, hp, hq, e => by
    have nd := List.nodup_cons.mp (show (a.1 :: l.map (·.1)).Nodup from nd)
    rcases List.mem_cons.mp hp with h1 | h1 <;> rcases List.mem_cons.mp hq with h2 | h2
    · rw [h1, h2]
    · exact absurd (List.mem_map.mpr ⟨q, h2, by rw [← e, h1]⟩) nd.1
    · exact absurd (List.mem_map.mpr ⟨p, h1, by rw [e, h2]⟩) nd.1
    · exact tl_hu nd.2 h1 h2 e
/-! ### a trial: what was saved -/
def sf (l : Addr) (s : Int) (sv : V) : List (Str × V) := [("kept", .ref l), ("plain_sum", .int s), ("older", sv)]
theorem vne : (¬ (("kept" : Str) = "plain_sum")) ∧ (¬ (("kept" : Str) = "older")) ∧ (¬ (("plain_sum" : Str) = "older")) := by decide +kernel
section
variable {w : Nat} {l l' : Addr} {s s' : Int} {sv sv' : V}
theorem sf_kept : (sf l s sv).lookup ("kept" : Str) = some (.ref l) := by
  unfold sf
  rw [look_cons, if_pos rfl]
theorem sf_sum : (sf l s sv).lookup ("plain_sum" : Str) = some (.int s) := by
  unfold sf
  rw [look_cons, if_neg (fun e => vne.1 e.symm), look_cons, if_pos rfl]
theorem sf_older : (sf l s sv).lookup ("older" : Str) = some sv := by
  unfold sf
  rw [look_cons, if_neg (fun e => vne.2.1 e.symm), look_cons, if_neg (fun e => vne.2.2 e.symm), look_cons, if_pos rfl]
theorem sf_made : putF "older" sv (putF "plain_sum" (.int s) (putF "kept" (.ref l) [])) = sf l s sv := by
  unfold sf
  simp only [putF, if_neg vne.1, if_neg vne.2.1, if_neg vne.2.2]
theorem rf_saved : (rf w l s sv).lookup ("saved" : Str) = some sv := by
  unfold rf
  rw [look_cons, if_neg (fun e => rne.2.2.1 e.symm), look_cons, if_neg (fun e => rne.2.2.2.2.1 e.symm), look_cons, if_neg (fun e => rne.2.2.2.2.2 e.symm), look_cons, if_pos rfl]
theorem rf_putS : putF "saved" sv' (rf w l s sv) = rf w l s sv' := by
  unfold rf
  simp only [putF, if_neg rne.2.2.1, if_neg rne.2.2.2.2.1, if_neg rne.2.2.2.2.2, if_pos]
theorem rf_putK : putF "kept" (.ref l') (rf w l s sv) = rf w l' s sv := by
  unfold rf
  simp only [putF, if_neg rne.1, if_pos]
end
/-- what a trial saved -/
structure SavedAt (CS : Addr) (H : Hp) (sd l : Addr) (ns : List Int) (sv : V) : Prop where
  ob : ∃ ds, H sd = some (.ins CS ds (sf l ns.sum sv))
  li : H l = some (.lst (ns.map V.int))
theorem SavedAt.ex {CS sd l : Addr} {H H1 : Hp} {ns : List Int} {sv : V} (h : SavedAt CS H sd l ns sv) (e : Ex H H1) : SavedAt CS H1 sd l ns sv := by
  obtain ⟨⟨ds, h1⟩, h2⟩ := h
  exact ⟨⟨ds, e _ _ h1⟩, e _ _ h2⟩
theorem SavedAt.ext {CS sd l : Addr} {H H1 : Hp} {ns : List Int} {sv : V} (h : SavedAt CS H sd l ns sv) (e : LamX.ExtN H H1) : SavedAt CS H1 sd l ns sv := by
  obtain ⟨⟨ds, h1⟩, h2⟩ := h
  exact ⟨⟨ds, e _ _ h1 (fun _ q => by cases q)⟩, e _ _ h2 (fun _ q => by cases q)⟩
theorem SavedAt.two {CS sd l r l2 : Addr} {H H1 : Hp} {ns : List Int} {sv : V} (h : SavedAt CS H sd l ns sv) (e : Two r l2 H H1) (n1 : sd ≠ r) (n2 : sd ≠ l2) (n3 : l ≠ r) (n4 : l ≠ l2) : SavedAt CS H1 sd l ns sv := by
  obtain ⟨⟨ds, h1⟩, h2⟩ := h
  exact ⟨⟨ds, e _ _ n1 n2 h1⟩, e _ _ n3 n4 h2⟩
/-- new beside what was -/
def spSavedInit (CS : Addr) : Sp := fun vs H Q _ => ∃ (p dx l : Addr) (s : Int) (sv : V), vs = [.ref p, .ref l, .int s, sv] ∧ H p = some (.ins CS dx []) ∧
  ∀ H', H' p = some (.ins CS dx (sf l s sv)) → (∀ b o, H b = some o → b ≠ p → H' b = some o) → Q .non H'
def spTrial (C : Addr) : Sp := fun vs H Q _ => ∃ r l, ∃ w : Nat, ∃ ns : List Int, ∃ sv : V, vs = [.ref r] ∧ RunAt C H r l w ns sv ∧ Q (.ref r) H
def spEnter (C CS : Addr) : Sp := fun vs H Q _ => ∃ r l, ∃ w : Nat, ∃ ns : List Int, ∃ sv : V, vs = [.ref r] ∧ RunAt C H r l w ns sv ∧
  ∀ H' l' sd, H l' = none → H sd = none → RunAt C H' r l' w ns (.ref sd) → SavedAt CS H' sd l ns sv → Fw r H H' → l' ≠ sd → Q .non H'
/-- while a trial goes on -/
structure Under (C CS : Addr) (H : Hp) (r l sd : Addr) (w : Nat) (ns : List Int) (sv : V) : Prop where
  run : ∃ l2 ns2, RunAt C H r l2 w ns2 (.ref sd)
  old : SavedAt CS H sd l ns sv
  bd : ∀ n ∈ ns, 0 ≤ n ∧ n ≤ mw w
  few : ns.length ≤ 40
def spExit (C CS : Addr) : Sp := fun vs H Q _ => ∃ r l sd, ∃ w : Nat, ∃ ns : List Int, ∃ sv a b c : V, vs = [.ref r, a, b, c] ∧ Under C CS H r l sd w ns sv ∧ ∀ H', RunAt C H' r l w ns sv → Fw r H H' → Q .non H'
/-- a call within a trial: what tl makes of it -/
def TTtried (C CS : Addr) : Addr → (XK → Hp → VK → Prop) → Hp → VK → XK → Prop := fun r tl H Q E => ∃ l, ∃ w : Nat, ∃ ns : List Int, ∃ sv : V, RunAt C H r l w ns sv ∧
  ∀ l' sd H1, H l' = none → H sd = none → RunAt C H1 r l' w ns (.ref sd) → SavedAt CS H1 sd l ns sv → Fw r H H1 → l' ≠ sd →
    tl (fun k d H2 => (∃ v : V, RelV v k) ∧ Under C CS H2 r l sd w ns sv ∧ ∀ H3, RunAt C H3 r l w ns sv → Fw r H2 H3 → E k d H3) H1 (fun v H2 => Under C CS H2 r l sd w ns sv ∧ ∀ H3, RunAt C H3 r l w ns sv → Fw r H2 H3 → Q v H3)
/-! ### the law's own defs -/
structure Vals9 (H : Hp) (v : Addr) (w : Nat) (ns : List Int) : Prop where
  at_ : H v = some (.lst (ns.map V.int))
  bd : ∀ n ∈ ns, 0 ≤ n ∧ n ≤ mw w
  few : ns.length ≤ 40
theorem Vals9.ex {H H1 : Hp} {v : Addr} {w : Nat} {ns : List Int} (h : Vals9 H v w ns) (e : Ex H H1) : Vals9 H1 v w ns := ⟨e _ _ h.at_, h.bd, h.few⟩
theorem Vals9.fw {H H1 : Hp} {v z : Addr} {w : Nat} {ns : List Int} (h : Vals9 H v w ns) (e : Fw z H H1) (n : v ≠ z) : Vals9 H1 v w ns := ⟨e _ _ n h.at_, h.bd, h.few⟩
theorem Vals9.ext {H H1 : Hp} {v : Addr} {w : Nat} {ns : List Int} (h : Vals9 H v w ns) (e : LamX.ExtN H H1) : Vals9 H1 v w ns := ⟨e _ _ h.at_ (fun _ q => by cases q), h.bd, h.few⟩
theorem Vals9.two {H H1 : Hp} {v r l : Addr} {w : Nat} {ns : List Int} (h : Vals9 H v w ns) (e : Two r l H H1) (n : v ≠ r) (m : v ≠ l) : Vals9 H1 v w ns := ⟨e _ _ n m h.at_, h.bd, h.few⟩
def kwS {α : Type} : List α → List α → List α
  | [a], [b] => [a, b]
  | _, _ => []
theorem kwS_vals {vs : List V} {us : List Value} {zs : List V} {ws : List Value} (r : Vals vs us) (z : Vals zs ws) : Vals (kwS vs zs) (kwS us ws) := by
  match vs, us, zs, ws, r, z with
  | [], [], _, _, _, _ => exact .nil
  | [_], [_], [], [], _, _ => exact .nil
  | [_], [_], [_], [_], .cons a .nil, .cons b .nil => exact .cons a (.cons b .nil)
  | [_], [_], _ :: _ :: _, _ :: _ :: _, _, _ => exact .nil
  | _ :: _ :: _, _ :: _ :: _, _, _, _, _ => exact .nil
def kwT {α : Type} : List α → List α → List α
  | [a], [b, c] => [a, c, b]
  | _, _ => []
theorem kwT_vals {vs : List V} {us : List Value} {zs : List V} {ws : List Value} (r : Vals vs us) (z : Vals zs ws) : Vals (kwT vs zs) (kwT us ws) := by
  match vs, us, zs, ws, r, z with
  | [], [], _, _, _, _ => exact .nil
  | [_], [_], [], [], _, _ => exact .nil
  | [_], [_], [_], [_], _, _ => exact .nil
  | [_], [_], [_, _], [_, _], .cons a .nil, .cons b (.cons c .nil) => exact .cons a (.cons c (.cons b .nil))
  | [_], [_], _ :: _ :: _ :: _, _ :: _ :: _ :: _, _, _ => exact .nil
  | _ :: _ :: _, _ :: _ :: _, _, _, _, _ => exact .nil
theorem eqV_int {a b : Int} : eqV (.int a) (.int b) = (a == b) := rfl
theorem asc_eq : ∀ {a b : List Int}, a.Perm b → a.Pairwise (· ≤ ·) → b.Pairwise (· ≤ ·) → a = b
  | [], b, p, _, _ => (List.Perm.nil_eq p)
  | x :: a, [], p, _, _ => absurd p.length_eq (by simp)
  | x :: a, y :: b, p, ha, hb => by
    have hx := List.pairwise_cons.mp ha
    have hy := List.pairwise_cons.mp hb
    have e : x = y := by
      have m1 : x ∈ y :: b := p.mem_iff.mp List.mem_cons_self
      have m2 : y ∈ x :: a := p.mem_iff.mpr List.mem_cons_self
      rcases List.mem_cons.mp m1 with q | q
      · exact q
      · rcases List.mem_cons.mp m2 with q2 | q2
        · exact q2.symm
        · have h1 := hy.1 x q
          have h2 := hx.1 y q2
          omega
    subst e
    rw [asc_eq (List.Perm.cons_inv p) hx.2 hy.2]
theorem shift_mw (n : Nat) : (1 : Int) * 2 ^ (n : Int).toNat = mw n + 1 := by
  rw [Int.one_mul, Int.toNat_natCast]
  unfold mw
  omega
section
variable {C CW r l z c v a : Addr} {H H1 : Hp} {w : Nat} {ks : List Int} {cells : List Int} {t : Nat} {y : V} {tx : Str} {sv : V}
theorem PenAt.two (P : PenAt H z c cells t) (R : RunAt C H r l w ks sv) (e : Two r l H H1) (nz : l ≠ z) (nc : l ≠ c) : PenAt H1 z c cells t := by
  obtain ⟨⟨dr, hr⟩, hl, _⟩ := R
  obtain ⟨⟨i, left, h1, h2⟩, h3, h4, h5⟩ := P
  exact ⟨⟨i, left, e _ _ (ne_of h1 hr (by intro q; cases q)) nz.symm h1, h2⟩, e _ _ (ne_of h3 hr (by intro q; cases q)) nc.symm h3, h4, h5⟩
theorem tabs_two {T : List (Addr × Str)} (h : LamX.Tabs T H) (R : RunAt C H r l w ks sv) (e : Two r l H H1) : LamX.Tabs T H1 := fun p hp => by
  obtain ⟨⟨dr, hr⟩, hl, _⟩ := R
  obtain ⟨ps, h1, h2, h3⟩ := h p hp
  refine ⟨ps, e _ _ (ne_of h1 hr (by intro q; cases q)) (ne_of h1 hl (by intro q; cases q)) h1, h2, fun pos cv hc => ?_⟩
  obtain ⟨c, e1, e2⟩ := h3 pos cv hc
  exact ⟨c, e1, e _ _ (ne_of e2 hr (by intro q; unfold LamX.CodeO at q; cases q)) (ne_of e2 hl (by intro q; unfold LamX.CodeO at q; cases q)) e2⟩
end
/-- what a Running of these values tells -/
def Tl3 (w : Nat) (ns ss : List Int) : List V := [.str (wtext w (cr w ns.sum)), .int (ns.length : Nat), .str (listText (ss.map (wtext w)))]
def ToldK (w : Nat) (ns : List Int) (H : Hp) (Q : VK) : Prop := ∀ p H' ss, H p = none → Ex H H' → Asc ns ss → H' p = some (.lst (Tl3 w ns ss)) → Q (.ref p) H'
def spTold (C : Addr) : Sp := fun vs H Q _ => ∃ r l, ∃ w : Nat, ∃ ns : List Int, ∃ sv : V, vs = [.ref r] ∧ RunAt C H r l w ns sv ∧ ToldK w ns H Q
def spDue10 : Sp := fun vs H Q _ => ∃ (w : Nat) (v : Addr) (ns : List Int), vs = [.int w, .ref v] ∧ 1 ≤ w ∧ w ≤ 64 ∧ Vals9 H v w ns ∧ ToldK w ns H Q
def kwU {α : Type} : List α → List α → List α
  | [a], [b, c] => [a, b, c]
  | _, _ => []
theorem kwU_vals {vs : List V} {us : List Value} {zs : List V} {ws : List Value} (r : Vals vs us) (z : Vals zs ws) : Vals (kwU vs zs) (kwU us ws) := by
  match vs, us, zs, ws, r, z with
  | [], [], _, _, _, _ => exact .nil
  | [_], [_], [], [], _, _ => exact .nil
  | [_], [_], [_], [_], _, _ => exact .nil
  | [_], [_], [_, _], [_, _], .cons a .nil, .cons b (.cons c .nil) => exact .cons a (.cons b (.cons c .nil))
  | [_], [_], _ :: _ :: _ :: _, _ :: _ :: _ :: _, _, _ => exact .nil
  | _ :: _ :: _, _ :: _ :: _, _, _, _, _ => exact .nil
theorem ws_last {C : Addr} {H : Hp} {w : Nat} : ∀ {xs : List Addr} {us : List Int}, Ws C H w xs us → us ≠ [] → ∃ xs' x us' u, xs = xs' ++ [x] ∧ us = us' ++ [u] ∧ WordAt C H x w u
  | _, _, .nil, n => absurd rfl n
  | _, _, .cons (x := x) (v := v) h .nil, _ => ⟨[], x, [], v, rfl, rfl, h⟩
  | _, _, .cons (x := x) (v := v) h (.cons h2 t), _ => by
    obtain ⟨xs', y, us', u, e1, e2, W⟩ := ws_last (.cons h2 t) (by simp)
    exact ⟨x :: xs', y, v :: us', u, by rw [e1]; rfl, by rw [e2]; rfl, W⟩
/-! ### all but some is as it was -/
def But (S : List Addr) (H H' : Hp) : Prop := ∀ a o, a ∉ S → (∀ ps, o ≠ .tbl ps) → H a = some o → H' a = some o
section
variable {S S' : List Addr} {H H1 H2 : Hp} {r l : Addr}
theorem But.refl : But S H H := fun _ _ _ _ h => h
theorem But.trans (a : But S H H1) (b : But S H1 H2) : But S H H2 := fun x o n m h => b x o n m (a x o n m h)
theorem But.mono (b : But S H H1) (h : ∀ x, x ∈ S → x ∈ S') : But S' H H1 := fun x o n m q => b x o (fun z => n (h x z)) m q
theorem But.skip {x : Addr} (nx : ∀ o, H x = some o → ∃ ps, o = .tbl ps) (b : But (x :: S) H H1) : But S H H1 := fun a o n m q => b a o (fun z => by
  rcases List.mem_cons.mp z with z | z
  · rw [z] at q
    obtain ⟨ps, e⟩ := nx o q
    exact m ps e
  · exact n z) m q
theorem ext_none {x : Addr} (e : LamX.ExtN H H1) (n : H1 x = none) : ∀ o, H x = some o → ∃ ps, o = .tbl ps := fun o h => by
  refine Classical.byContradiction fun no => ?_
  have z := e _ _ h fun ps q => no ⟨ps, q⟩
  rw [n] at z
  cases z
theorem pss_ex {X : Cx} {ss : List Stmt} {t : XK → TS} {W : WX} (h : ∀ Ech : XK, (∀ k d z J, Ech k d J → W k d z J) → PSs X ss (t Ech)) : PSs X ss (fun D z J => ∃ Ech : XK, (∀ k d z J, Ech k d J → W k d z J) ∧ t Ech D z J) :=
  ⟨fun pins s z J D I ⟨Ech, hW, q⟩ => (h Ech hW).run pins s z J D I q⟩
theorem passes_none {X : Cx} : Passes (L2.CX X.prog X.w) X E0 := fun _ _ _ _ _ _ _ c => by
  obtain ⟨_, _, _, _, _, _, _, _, _, _, _, _, no⟩ := c
  exact no.elim
theorem Ex.but (e : Ex H H1) : But S H H1 := fun a o _ _ h => e a o h
theorem But.ext (e : LamX.ExtN H H1) : But S H H1 := fun a o _ m h => e a o h m
theorem Two.but (e : Two r l H H1) : But (r :: l :: S) H H1 := fun a o n _ h => e a o (fun z => n (by rw [z]; exact List.mem_cons_self)) (fun z => n (by rw [z]; exact List.mem_cons_of_mem _ List.mem_cons_self)) h
theorem Fw.but (e : Fw r H H1) : But (r :: S) H H1 := fun a o n _ h => e a o (fun z => n (by rw [z]; exact List.mem_cons_self)) h
end
/-- a Running stays one while it is left alone -/
theorem RunAt.but {C r l : Addr} {w : Nat} {ns : List Int} {sv : V} {S : List Addr} {H H1 : Hp} (h : RunAt C H r l w ns sv) (b : But S H H1) (n1 : r ∉ S) (n2 : l ∉ S) : RunAt C H1 r l w ns sv := by
  obtain ⟨⟨dr, h1⟩, h2, h3, h4, h5, h6⟩ := h
  exact ⟨⟨dr, b _ _ n1 (fun _ q => by cases q) h1⟩, b _ _ n2 (fun _ q => by cases q) h2, h3, h4, h5, h6⟩
theorem Vals9.but {v : Addr} {w : Nat} {ns : List Int} {S : List Addr} {H H1 : Hp} (h : Vals9 H v w ns) (b : But S H H1) (n : v ∉ S) : Vals9 H1 v w ns := ⟨b _ _ n (fun _ q => by cases q) h.at_, h.bd, h.few⟩
def spBroken (C N : Addr) : Sp := fun vs H _ E => ∃ r l, ∃ w : Nat, ∃ ns : List Int, ∃ sv : V, ∃ u : Int, vs = [.ref r, .int u] ∧ RunAt C H r l w ns sv ∧ 0 ≤ u ∧ u ≤ mw w ∧ ns.length < 39 ∧
  ∀ H', (∃ ns', RunAt C H' r l w ns' sv) → Two r l H H' → Flies N [("word", .int u)] H' E
def spLost (C : Addr) : Sp := fun vs H _ E => ∃ r l, ∃ w : Nat, ∃ ns : List Int, ∃ sv : V, ∃ u : Int, vs = [.ref r, .int u] ∧ RunAt C H r l w ns sv ∧ 0 ≤ u ∧ u ≤ mw w ∧ ns.length < 39 ∧
  ∀ d H', (∃ ns', RunAt C H' r l w ns' sv) → Two r l H H' → E (.type "KeyError") d H'
theorem SavedAt.but {CS sd l : Addr} {H H1 : Hp} {ns : List Int} {sv : V} {S : List Addr} (h : SavedAt CS H sd l ns sv) (b : But S H H1) (n1 : sd ∉ S) (n2 : l ∉ S) : SavedAt CS H1 sd l ns sv := by
  obtain ⟨⟨ds, h1⟩, h2⟩ := h
  exact ⟨⟨ds, b _ _ n1 (fun _ q => by cases q) h1⟩, b _ _ n2 (fun _ q => by cases q) h2⟩
section
variable {C CS r l l1 sd : Addr} {w : Nat} {ns ns3 : List Int} {sv : V} {H H1 H2 H3 : Hp} {T : List (Addr × Str)}
/-- a trial begins -/
theorem trial_in (R : RunAt C H r l w ns sv) (e1 : LamX.ExtN H H1) (T1 : LamX.Tabs T H1) (n1 : H1 l1 = none) (n2 : H1 sd = none) (f2 : Fw r H1 H2) : LamX.Tabs T H2 ∧ sd ≠ r ∧ l ≠ r ∧ l ≠ l1 ∧ sd ≠ l := by
  have R1 := R.ext e1
  obtain ⟨⟨dr, hr⟩, hl, _⟩ := id R1
  exact ⟨tabs_two T1 R1 f2.two1, fun z => ne_of_none hr n2 z.symm, R1.ne.symm, ne_of_none hl n1, fun z => ne_of_none hl n2 z.symm⟩
/-- a trial ends -/
theorem trial_out {S : List Addr} (R : RunAt C H r l w ns sv) (e1 : LamX.ExtN H H1) (n1 : H1 l1 = none) (S2 : SavedAt CS H2 sd l ns sv) (f2 : Fw r H1 H2) (ne : l1 ≠ sd) (far : sd ≠ r ∧ l ≠ r ∧ l ≠ l1) (b : But (r :: l1 :: S) H2 H3) (sS : sd ∉ S) (lS : l ∉ S) (R3 : RunAt C H3 r l1 w ns3 (.ref sd)) (T3 : LamX.Tabs T H3) :
    Under C CS H3 r l sd w ns sv ∧ ∀ H4, RunAt C H4 r l w ns sv → Fw r H3 H4 → But (r :: S) H H4 ∧ LamX.Tabs T H4 := by
  have off : ∀ {x : Addr}, x ≠ r → x ≠ l1 → x ∉ S → x ∉ r :: l1 :: S := fun a c d z => by
    rcases List.mem_cons.mp z with z | z
    · exact a z
    · rcases List.mem_cons.mp z with z | z
      · exact c z
      · exact d z
  refine ⟨⟨⟨l1, ns3, R3⟩, S2.but b (off far.1 ne.symm sS) (off far.2.1 far.2.2 lS), R.bd, R.few⟩, fun H4 R4 f4 => ⟨?_, tabs_two T3 R3 f4.two1⟩⟩
  have sw : ∀ x, x ∈ r :: l1 :: S → x ∈ l1 :: r :: S := fun x m => by
    rcases List.mem_cons.mp m with m | m
    · rw [m]
      exact List.mem_cons_of_mem _ List.mem_cons_self
    · rcases List.mem_cons.mp m with m | m
      · rw [m]
        exact List.mem_cons_self
      · exact List.mem_cons_of_mem _ (List.mem_cons_of_mem _ m)
  have fr : ∀ {K1 K2 : Hp}, Fw r K1 K2 → But (l1 :: r :: S) K1 K2 := fun f => (f.but (S := [])).mono fun x m => by
    rw [List.mem_singleton.mp m]
    exact List.mem_cons_of_mem _ List.mem_cons_self
  exact But.skip (ext_none e1 n1) ((((But.ext e1).trans (fr f2)).trans (b.mono sw)).trans (fr f4))
end
def spFallen (C : Addr) (T : List (Addr × Str)) (y : Int → V) : Sp := fun vs H Q _ => ∃ r l, ∃ w : Nat, ∃ ns : List Int, ∃ sv : V, ∃ u : Int, vs = [.ref r, .int u] ∧ RunAt C H r l w ns sv ∧ 0 ≤ u ∧ u ≤ mw w ∧ ns.length < 39 ∧ LamX.Tabs T H ∧
  ∀ H', RunAt C H' r l w ns sv → But [r] H H' → LamX.Tabs T H' → Q (y u) H'
def spAround (C : Addr) (T : List (Addr × Str)) : Sp := fun vs H Q _ => ∃ r l, ∃ w : Nat, ∃ ns : List Int, ∃ sv : V, ∃ v : Addr, ∃ u : Int, vs = [.ref r, .int w, .ref v, .int u] ∧ RunAt C H r l w ns sv ∧ Vals9 H v w ns ∧ v ≠ l ∧ 0 ≤ u ∧ u ≤ mw w ∧ ns.length < 38 ∧ LamX.Tabs T H ∧
  ∀ H', RunAt C H' r l w (ns ++ [u]) sv → But [r, l] H H' → LamX.Tabs T H' → Q (.bl true) H'
theorem dp_tl3 {K : PySem.W.Frag} {H : Hp} {p : Addr} {w : Nat} {ns ss : List Int} (h : H p = some (.lst (Tl3 w ns ss))) : Dp K H (.ref p) (.list [.str (wtext w (cr w ns.sum)), .int (ns.length : Nat), .str (listText (ss.map (wtext w)))]) := Dp.lst (sq h) (.cons (.str _) (.cons (.int _) (.cons (.str _) .nil)))
end Tz
namespace Tz
open PySem PySem.Spec PyProof.Rows L2 TzF TzRepr
theorem ok_of (s : String) : PyData.strOk (Str.ofString s) = true := by
  rw [Str.ofString_eq_toList]
  unfold PyData.strOk
  rw [List.all_toArray, List.all_eq_true]
  intro c hc
  obtain ⟨x, _, rfl⟩ := List.mem_map.mp hc
  have h := x.valid
  refine decide_eq_true ?_
  show x.val.toNat < 0x110000
  rcases h with h | h
  · exact Nat.lt_trans h (by decide)
  · exact h.2
theorem ok_app {a b : Str} (h : PyData.strOk a = true) (g : PyData.strOk b = true) : PyData.strOk (a ++ b) = true := by
  unfold PyData.strOk at *
  show (a.cps ++ b.cps).all _ = true
  rw [Array.all_append, h, g]
  rfl
theorem ok_wtext {w : Nat} {u : Int} : PyData.strOk (wtext w u) = true := ok_app (ok_app (ok_app (ok_app (ok_app (by decide +kernel) (ok_of _)) (ok_of _)) (ok_of _)) (ok_of _)) (ok_of _)
theorem ok_from : ∀ {ts : List Str} {k : Nat} {acc : Str}, PyData.strOk acc = true → (∀ t ∈ ts, PyData.strOk t = true) → PyData.strOk (textFrom k acc ts) = true
  | [], k, acc, h, _ => h
  | t :: ts, k, acc, h, g => ok_from (ts := ts) (k := k + 1) (ok_app (ok_app h (ok_of _)) (g t List.mem_cons_self)) fun t' m => g t' (List.mem_cons_of_mem _ m)
theorem ok_listText {ts : List Str} (g : ∀ t ∈ ts, PyData.strOk t = true) : PyData.strOk (listText ts) = true := ok_app (ok_from (ok_of _) g) (ok_of _)
theorem lay3 {a b : Str} {n : Int} (ha : PyData.strOk a = true) (hb : PyData.strOk b = true) : (PyData.list [.str a, .int n, .str b]).canLay0 = true := by
  simp [PyData.canLay0, PyData.canLayAll0, ha, hb]
theorem shaped3 {a b : Str} {n : Int} (ha : PyData.strOk a = true) (hb : PyData.strOk b = true) : SeqAt.shaped (.list [.str a, .int n, .str b]) = true := by
  unfold SeqAt.shaped
  rw [lay3 ha hb]
  simp [PyData.depth, PyData.depthAll]
theorem tl3_same {w : Nat} {ns ss : List Int} : SeqAt.shaped (.list [.str (wtext w (cr w ns.sum)), .int (ns.length : Nat), .str (listText (ss.map (wtext w)))]) = true ∧ PyData.eqv (.list [.str (wtext w (cr w ns.sum)), .int (ns.length : Nat), .str (listText (ss.map (wtext w)))]) (.list [.str (wtext w (cr w ns.sum)), .int (ns.length : Nat), .str (listText (ss.map (wtext w)))]) = true := by
  have h : PyData.strOk (listText (ss.map (wtext w))) = true := ok_listText fun t m => by
    obtain ⟨x, _, rfl⟩ := List.mem_map.mp m
    exact ok_wtext
  exact ⟨shaped3 ok_wtext h, SeqAt.eqv_refl _ (lay3 ok_wtext h)⟩
theorem sl_listK {X : Cx} {K : PySem.W.Frag} (e : X.K = K) : SlR X (rSlL K) := by
  subst e
  exact sl_list
theorem cut_tail (x : V) (xs : List V) : cutV (x :: xs) (some 1) none = xs := by
  have h1 : HT.sIx (x :: xs).length 0 (some 1) = 1 := by
    have : (x :: xs).length = xs.length + 1 := rfl
    simp [HT.sIx]
    all_goals omega
  have h2 : HT.sIx (x :: xs).length (x :: xs).length none = xs.length + 1 := rfl
  unfold cutV
  rw [h1, h2]
  show List.take (xs.length + 1 - 1) xs = xs
  exact List.take_of_length_le (by omega)
/-! ### rows of words -/
structure RowsW (H : Hp) (q : Addr) (w : Nat) (rows : List (Addr × List Int)) : Prop where
  at_ : H q = some (.lst (rows.map fun p => V.ref p.1))
  each : ∀ p ∈ rows, H p.1 = some (.lst (p.2.map V.int)) ∧ p.2.length ≤ 3 ∧ ∀ n ∈ p.2, 0 ≤ n ∧ n ≤ mw w
theorem RowsW.but {S : List Addr} {H H1 : Hp} {q : Addr} {w : Nat} {rows : List (Addr × List Int)} (h : RowsW H q w rows) (b : But S H H1) (nq : q ∉ S) (n : ∀ p ∈ rows, p.1 ∉ S) : RowsW H1 q w rows :=
  ⟨b _ _ nq (fun _ z => by cases z) h.at_, fun p m => ⟨b _ _ (n p m) (fun _ z => by cases z) (h.each p m).1, (h.each p m).2⟩⟩
theorem RowsW.ex {H H1 : Hp} {q : Addr} {w : Nat} {rows : List (Addr × List Int)} (h : RowsW H q w rows) (e : Ex H H1) : RowsW H1 q w rows :=
  ⟨e _ _ h.at_, fun p m => ⟨e _ _ (h.each p m).1, (h.each p m).2⟩⟩
def trues (m : Nat) : List V := List.replicate m (.bl true)
theorem trues_snoc (m : Nat) : trues m ++ [.bl true] = trues (m + 1) := by
  unfold trues
  exact List.replicate_succ'.symm
theorem ifNe {x y : V} {A B : Prop} (e : x = y) (h : B) : if (!decide (x = y)) = true then A else B := by
  rw [decide_eq_true e]
  exact h
theorem len_trues (m : Nat) : (trues m).length = m := List.length_replicate
theorem flat_trues : ∀ m : Nat, (trues m).all flatV = true
  | 0 => rfl
  | m + 1 => by
    have e : (trues (m + 1)).all flatV = (flatV (.bl true) && (trues m).all flatV) := rfl
    rw [e, flat_trues m]
    rfl
theorem in_trues : ∀ m : Nat, inV (.bl false) (trues m) = false
  | 0 => rfl
  | m + 1 => by
    have e : inV (.bl false) (trues (m + 1)) = (eqV (.bl true) (.bl false) || inV (.bl false) (trues m)) := rfl
    rw [e, in_trues m]
    rfl
/-- the rows lie apart from what is changed -/
def Apart (q v : Addr) (rows : List (Addr × List Int)) (S : List Addr) : Prop := q ∉ S ∧ v ∉ S ∧ ∀ p ∈ rows, p.1 ∉ S
def spDeep (C : Addr) (T : List (Addr × Str)) (n : Nat) : Sp := fun vs H Q _ => ∃ r l, ∃ w : Nat, ∃ ns : List Int, ∃ sv : V, ∃ v q tl : Addr, ∃ (rows : List (Addr × List Int)) (row0 : Addr × List Int) (m : Nat), vs = [.ref r, .int w, .ref v, .ref q, .ref tl] ∧
  RunAt C H r l w ns sv ∧ Vals9 H v w ns ∧ RowsW H q w (row0 :: rows) ∧ rows.length + 1 = n ∧ H tl = some (.lst (trues m)) ∧ m + 3 * n ≤ 40 ∧ ns.length + 3 * n ≤ 30 ∧ Apart q v (row0 :: rows) [r, l, tl] ∧ tl ≠ l ∧ LamX.Tabs T H ∧
  ∀ H', RunAt C H' r l w (ns ++ row0.2) sv → H' tl = some (.lst (trues (m + 3 * n - 2))) → But [r, l, tl] H H' → LamX.Tabs T H' → Q (.int n) H'
theorem fnq_mono {P : Program} {w : World} {K : PySem.W.Frag} {mg : Str → Option Value} {base : Heap} {j k : Nat} {f : Addr} {fd : FuncData} {ps : List Str} {sp : Sp} (F : FnQ P w K mg base j f fd ps sp) (h : j ≤ k) : FnQ P w K mg base k f fd ps sp :=
  ⟨F.len, fun A out s H args us vs Q gd hr => F.run A out s H args us vs Q gd (hr.mono h)⟩
def spDeepA (C : Addr) (T : List (Addr × Str)) : Sp := fun vs H Q E => ∃ n, 1 ≤ n ∧ n ≤ 3 ∧ spDeep C T n vs H Q E
/-- the law's state -/
structure St10 (C z c r l v : Addr) (cells : List Int) (t w : Nat) (vs : List Int) (T : List (Addr × Str)) (H : Hp) : Prop where
  pen : PenAt H z c cells t
  run : RunAt C H r l w vs .non
  vals : Vals9 H v w vs
  few : vs.length ≤ 5
  tabs : LamX.Tabs T H
  lz : l ≠ z
  lc : l ≠ c
  vl : v ≠ l
  vz : v ≠ z
section
variable {C z c r l v : Addr} {cells : List Int} {t t' w : Nat} {vs : List Int} {T : List (Addr × Str)} {H H1 : Hp}
theorem St10.rz (s : St10 C z c r l v cells t w vs T H) : r ≠ z := by
  obtain ⟨⟨d, h⟩, _⟩ := s.run
  obtain ⟨xs, q⟩ := s.pen.isl
  exact ne_of h q (by intro q; cases q)
theorem St10.rc (s : St10 C z c r l v cells t w vs T H) : r ≠ c := by
  obtain ⟨⟨d, h⟩, _⟩ := s.run
  obtain ⟨_, q, _⟩ := s.pen
  exact ne_of h q (by intro q; cases q)
theorem St10.rv (s : St10 C z c r l v cells t w vs T H) : v ≠ r := by
  obtain ⟨⟨d, h⟩, _⟩ := s.run
  exact ne_of s.vals.at_ h (by intro q; cases q)
theorem St10.ex (s : St10 C z c r l v cells t w vs T H) (e : Ex H H1) : St10 C z c r l v cells t w vs T H1 := ⟨s.pen.ex e, s.run.ex e, s.vals.ex e, s.few, s.tabs.ext e, s.lz, s.lc, s.vl, s.vz⟩
theorem St10.fw (s : St10 C z c r l v cells t w vs T H) (P : PenAt H1 z c cells t') (f : Fw z H H1) : St10 C z c r l v cells t' w vs T H1 := ⟨P, s.run.fw f s.rz s.lz, s.vals.fw f s.vz, s.few, tabs_go s.tabs f s.pen.isl, s.lz, s.lc, s.vl, s.vz⟩
theorem St10.but {S : List Addr} (s : St10 C z c r l v cells t w vs T H) (R : RunAt C H1 r l w vs .non) (b : But S H H1) (T1 : LamX.Tabs T H1) (nz : z ∉ S) (nc : c ∉ S) (nv : v ∉ S) : St10 C z c r l v cells t w vs T H1 := by
  obtain ⟨⟨i, left, h1, h2⟩, h3, h4, h5⟩ := s.pen
  exact ⟨⟨⟨i, left, b _ _ nz (fun _ q => by cases q) h1, h2⟩, b _ _ nc (fun _ q => by cases q) h3, h4, h5⟩, R, s.vals.but b nv, s.few, T1, s.lz, s.lc, s.vl, s.vz⟩
theorem St10.mono (s : St10 C z c r l v cells t w vs T H) (h : t ≤ t') : St10 C z c r l v cells t' w vs T H := ⟨s.pen.mono h, s.run, s.vals, s.few, s.tabs, s.lz, s.lc, s.vl, s.vz⟩
theorem not2 {x a b : Addr} (h1 : x ≠ a) (h2 : x ≠ b) : x ∉ [a, b] := fun z => (List.mem_cons.mp z).elim h1 fun z => h2 (List.mem_singleton.mp z)
theorem not1 {x a : Addr} (h1 : x ≠ a) : x ∉ [a] := fun z => h1 (List.mem_singleton.mp z)
theorem not3 {x a b d : Addr} (h1 : x ≠ a) (h2 : x ≠ b) (h3 : x ≠ d) : x ∉ [a, b, d] := fun z => (List.mem_cons.mp z).elim h1 fun z => not2 h2 h3 z
/-- the new one is none of the law's objects -/
theorem St10.new (s : St10 C z c r l v cells t w vs T H) {x : Addr} (n : H x = none) : x ≠ z ∧ x ≠ c ∧ x ≠ r ∧ x ≠ l ∧ x ≠ v := by
  obtain ⟨⟨d, h⟩, h2, _⟩ := s.run
  exact ⟨(s.pen.off n).1, (s.pen.off n).2, (ne_of_none h n).symm, (ne_of_none h2 n).symm, (ne_of_none s.vals.at_ n).symm⟩
theorem RowsW.snoc {q D : Addr} {rows : List (Addr × List Int)} {us : List Int} (h : RowsW H q w rows) (f : Fw q H H1) (hq : H1 q = some (.lst ((rows.map fun p => V.ref p.1) ++ [.ref D]))) (hD : H D = some (.lst (us.map V.int))) (dq : D ≠ q) (nq : ∀ p ∈ rows, p.1 ≠ q) (l3 : us.length ≤ 3) (b : ∀ n ∈ us, 0 ≤ n ∧ n ≤ mw w) : RowsW H1 q w (rows ++ [(D, us)]) := by
  refine ⟨by rw [hq, List.map_append]; rfl, fun p m => ?_⟩
  rcases List.mem_append.mp m with m | m
  · exact ⟨f _ _ (nq p m) (h.each p m).1, (h.each p m).2⟩
  · rw [List.mem_singleton.mp m]
    exact ⟨f _ _ dq hD, l3, b⟩
end
end Tz
namespace Tz
open PySem L2 TzF TzRepr
structure FnG (K : PySem.W.Frag) (mg : Str → Option Value) (x : Str) (st : Stmt) where
  a : Addr
  fd : FuncData
  F : Fun K x x st a fd
  m : mg x = some (.ref a)
structure FnM (K : PySem.W.Frag) (C : Addr) (x q : Str) (st : Stmt) where
  a : Addr
  fd : FuncData
  F : Fun K x q st a fd
  M : Meth K C x a
structure Kl (K : PySem.W.Frag) (mg : Str → Option Value) (x : Str) where
  C : Addr
  cl : Cls K C
  m : mg x = some (.ref C)
  kp : PySem.W.keepIn K (.ref C) = true
  al : Alone K C
  rd : ClX.CRead K C (.type "type")
structure ErG (K : PySem.W.Frag) (mg : Str → Option Value) (x : Str) where
  C : Addr
  m : mg x = some (.ref C)
  er : Err K C
structure CoI (mg : Str → Option Value) (x : Str) (n : Int) where
  t : Tok
  m : mg x = some (.int n t)
structure CoC (K : PySem.W.Frag) (C : Addr) (x : Str) (n : Int) where
  t : Tok
  c : ClX.CVal K C (.type "type") x (.int n) (.int n t)
structure FnS (K : PySem.W.Frag) (C : Addr) (x q : Str) (st : Stmt) where
  a : Addr
  fd : FuncData
  F : Fun K x q st a fd
  p : Addr
  S : TzOwn.SMet K C (.type "type") x p a
structure FnC (K : PySem.W.Frag) (C : Addr) (x q : Str) (st : Stmt) where
  a : Addr
  fd : FuncData
  F : Fun K x q st a fd
  p : Addr
  S : ClX.CMet K C (.type "type") x p a
structure FnP (K : PySem.W.Frag) (C : Addr) (x q : Str) (st : Stmt) where
  a : Addr
  fd : FuncData
  F : Fun K x q st a fd
  p : Addr
  P : PropOf K C x p a
structure Tx (K : PySem.W.Frag) (mg : Str → Option Value) where
  b_int : mg "int" = none
  b_len : mg "len" = none
  b_abs : mg "abs" = none
  b_list : mg "list" = none
  b_isinstance : mg "isinstance" = none
  b_bool : mg "bool" = none
  b_range : mg "range" = none
  b_repr : mg "repr" = none
  b_sum : mg "sum" = none
  b_sorted : mg "sorted" = none
  b_KeyError : mg "KeyError" = none
  k_Word : Kl K mg "Word"
  mk_w : PySem.W.makesIn K k_Word.C = true
  k_Running : Kl K mg "Running"
  mk_Running_ : PySem.W.makesIn K k_Running.C = true
  n_Running_width : NoAttr K k_Running.C "width"
  n_Running_kept : NoAttr K k_Running.C "kept"
  n_Running_plain_sum : NoAttr K k_Running.C "plain_sum"
  n_Running_saved : NoAttr K k_Running.C "saved"
  k_Saved : Kl K mg "Saved"
  mk_Saved_ : PySem.W.makesIn K k_Saved.C = true
  n_Saved_kept : NoAttr K k_Saved.C "kept"
  n_Saved_plain_sum : NoAttr K k_Saved.C "plain_sum"
  n_Saved_older : NoAttr K k_Saved.C "older"
  e_BadWidth : ErG K mg "BadWidth"
  n_BadWidth_width : PySem.W.findIn K (.ref e_BadWidth.C) "width" = some none
  e_BadWord : ErG K mg "BadWord"
  n_BadWord_value : PySem.W.findIn K (.ref e_BadWord.C) "value" = some none
  e_NotThere : ErG K mg "NotThere"
  n_NotThere_word : PySem.W.findIn K (.ref e_NotThere.C) "word" = some none
  n_Word_width : NoAttr K k_Word.C "width"
  n_Word_value : NoAttr K k_Word.C "value"
  n_Word_rest : NoAttr K k_Word.C "rest"
  n_Word_is_empty : NoAttr K k_Word.C "is_empty"
  n_Word_is_full : NoAttr K k_Word.C "is_full"
  cc_Word_MOST_WIDTH : CoC K k_Word.C "MOST_WIDTH" 64
  nd : ([He.cT K ("law", none), He.cT K ("_law_deep", none), He.cT K ("_law_fallen", none), He.cT K ("_law_undone", none)].map (·.2)).Nodup
  sf_Running : PySem.W.selfFirst K k_Running.C = true
  xm_BadWidth_BadWidth : PySem.W.exmOne K (.ref e_BadWidth.C) (.ref e_BadWidth.C) = some true
  xm_BadWord_BadWord : PySem.W.exmOne K (.ref e_BadWord.C) (.ref e_BadWord.C) = some true
  xm_NotThere_NotThere : PySem.W.exmOne K (.ref e_NotThere.C) (.ref e_NotThere.C) = some true
  f_BadWord_init_ : FnM K e_BadWord.C "__init__" "BadWord.__init__" s_BadWord_init_
  f_BadWidth_init_ : FnM K e_BadWidth.C "__init__" "BadWidth.__init__" s_BadWidth_init_
  f_NotThere_init_ : FnM K e_NotThere.C "__init__" "NotThere.__init__" s_NotThere_init_
  f_is_whole : FnG K mg "is_whole" s_is_whole
  f_is_from : FnG K mg "is_from" s_is_from
  f_most_value : FnG K mg "most_value" s_most_value
  f_checked_width : FnG K mg "checked_width" s_checked_width
  f_Word_init_ : FnM K k_Word.C "__init__" "Word.__init__" s_Word_init_
  f_Word_repr_ : FnM K k_Word.C "__repr__" "Word.__repr__" s_Word_repr_
  f_carried_round : FnG K mg "carried_round" s_carried_round
  f_found_value : FnG K mg "found_value" s_found_value
  f_checked_value : FnG K mg "checked_value" s_checked_value
  f_Running_init_ : FnM K k_Running.C "__init__" "Running.__init__" s_Running_init_
  f_Running_keep : FnM K k_Running.C "_keep" "Running._keep" s_Running_keep
  f_Running_forget : FnM K k_Running.C "_forget" "Running._forget" s_Running_forget
  f_Running_there : FnM K k_Running.C "_there" "Running._there" s_Running_there
  f_Running_add : FnM K k_Running.C "add" "Running.add" s_Running_add
  f_Running_drop : FnM K k_Running.C "drop" "Running.drop" s_Running_drop
  f_Running_exchange : FnM K k_Running.C "exchange" "Running.exchange" s_Running_exchange
  f_Running_len_ : FnM K k_Running.C "__len__" "Running.__len__" s_Running_len_
  f_Running_iadd_ : FnM K k_Running.C "__iadd__" "Running.__iadd__" s_Running_iadd_
  f_Running_total : FnP K k_Running.C "total" "Running.total" s_Running_total
  f_Running_ascending : FnM K k_Running.C "ascending" "Running.ascending" s_Running_ascending
  f_Saved_init_ : FnM K k_Saved.C "__init__" "Saved.__init__" s_Saved_init_
  f_Running_trial : FnM K k_Running.C "trial" "Running.trial" s_Running_trial
  f_Running_enter_ : FnM K k_Running.C "__enter__" "Running.__enter__" s_Running_enter_
  f_Running_exit_ : FnM K k_Running.C "__exit__" "Running.__exit__" s_Running_exit_
  f_Running_tried : FnM K k_Running.C "tried" "Running.tried" s_Running_tried
  f_law_pen : FnG K mg "_law_pen" s_law_pen
  f_law_draw : FnG K mg "_law_draw" s_law_draw
  f_law_width : FnG K mg "_law_width" s_law_width
  f_law_value : FnG K mg "_law_value" s_law_value
  f_law_told : FnG K mg "_law_told" s_law_told
  f_law_due : FnG K mg "_law_due" s_law_due
  f_law_broken : FnG K mg "_law_broken" s_law_broken
  f_law_lost : FnG K mg "_law_lost" s_law_lost
  f_law_fallen : FnG K mg "_law_fallen" s_law_fallen
  f_law_undone : FnG K mg "_law_undone" s_law_undone
  f_law_around : FnG K mg "_law_around" s_law_around
  f_law_deep : FnG K mg "_law_deep" s_law_deep
  f_law : FnG K mg "law" s_law
  t_law : f_law.a = He.ga K "law"
  t_law_deep : f_law_deep.a = He.ga K "_law_deep"
  t_law_fallen : f_law_fallen.a = He.ga K "_law_fallen"
  t_law_undone : f_law_undone.a = He.ga K "_law_undone"
def cPlaw (K : PySem.W.Frag) : Addr × Addr := He.cT K ("law", none)
def cPlaw_deep (K : PySem.W.Frag) : Addr × Addr := He.cT K ("_law_deep", none)
def cPlaw_fallen (K : PySem.W.Frag) : Addr × Addr := He.cT K ("_law_fallen", none)
def cPlaw_undone (K : PySem.W.Frag) : Addr × Addr := He.cT K ("_law_undone", none)
def CS (K : PySem.W.Frag) : List (Addr × Addr) := [cPlaw K, cPlaw_deep K, cPlaw_fallen K, cPlaw_undone K]
def TL (K : PySem.W.Frag) : List (Addr × Str) := [((cPlaw K).2, (("law" : Str) ++ ".<locals>.") ++ "<lambda>"), ((cPlaw_deep K).2, (("_law_deep" : Str) ++ ".<locals>.") ++ "<lambda>"), ((cPlaw_fallen K).2, (("_law_fallen" : Str) ++ ".<locals>.") ++ "<lambda>"), ((cPlaw_undone K).2, (("_law_undone" : Str) ++ ".<locals>.") ++ "<lambda>")]
section
variable {P : Program} {w : World} {K : PySem.W.Frag} {mg : Str → Option Value} {base : Heap}
theorem code_lamlaw (T : Tx K mg) (fd : FuncData) (oc : Value) (od : Option Addr) (osl : Array (Option Value)) (lk : K.lookup T.f_law.a = some ⟨oc, od, .func fd, osl⟩) (ci : PySem.W.codeIn K fd.code "law" = true) : fd.code = .ref (cPlaw K).1 := by
  obtain ⟨c, e⟩ := He.codeIn_ref ci
  rw [T.t_law] at lk
  have l2 : K.lookup (He.fAd K ("law", none)) = some ⟨oc, od, .func fd, osl⟩ := lk
  rw [e, ← He.codeOf_eq l2 e]
  rfl
theorem code_lamlaw_deep (T : Tx K mg) (fd : FuncData) (oc : Value) (od : Option Addr) (osl : Array (Option Value)) (lk : K.lookup T.f_law_deep.a = some ⟨oc, od, .func fd, osl⟩) (ci : PySem.W.codeIn K fd.code "_law_deep" = true) : fd.code = .ref (cPlaw_deep K).1 := by
  obtain ⟨c, e⟩ := He.codeIn_ref ci
  rw [T.t_law_deep] at lk
  have l2 : K.lookup (He.fAd K ("_law_deep", none)) = some ⟨oc, od, .func fd, osl⟩ := lk
  rw [e, ← He.codeOf_eq l2 e]
  rfl
theorem code_lamlaw_fallen (T : Tx K mg) (fd : FuncData) (oc : Value) (od : Option Addr) (osl : Array (Option Value)) (lk : K.lookup T.f_law_fallen.a = some ⟨oc, od, .func fd, osl⟩) (ci : PySem.W.codeIn K fd.code "_law_fallen" = true) : fd.code = .ref (cPlaw_fallen K).1 := by
  obtain ⟨c, e⟩ := He.codeIn_ref ci
  rw [T.t_law_fallen] at lk
  have l2 : K.lookup (He.fAd K ("_law_fallen", none)) = some ⟨oc, od, .func fd, osl⟩ := lk
  rw [e, ← He.codeOf_eq l2 e]
  rfl
theorem code_lamlaw_undone (T : Tx K mg) (fd : FuncData) (oc : Value) (od : Option Addr) (osl : Array (Option Value)) (lk : K.lookup T.f_law_undone.a = some ⟨oc, od, .func fd, osl⟩) (ci : PySem.W.codeIn K fd.code "_law_undone" = true) : fd.code = .ref (cPlaw_undone K).1 := by
  obtain ⟨c, e⟩ := He.codeIn_ref ci
  rw [T.t_law_undone] at lk
  have l2 : K.lookup (He.fAd K ("_law_undone", none)) = some ⟨oc, od, .func fd, osl⟩ := lk
  rw [e, ← He.codeOf_eq l2 e]
  rfl
theorem hmlaw : ((cPlaw K).2, (("law" : Str) ++ ".<locals>.") ++ "<lambda>") ∈ TL K := List.mem_cons_self
theorem hclaw : cPlaw K ∈ CS K := List.mem_cons_self
theorem hulaw (T : Tx K mg) : ∀ p ∈ TL K, p.1 = (cPlaw K).2 → p.2 = (("law" : Str) ++ ".<locals>.") ++ "<lambda>" := fun p hp e => congrArg Prod.snd (tl_hu (show ((TL K).map (·.1)).Nodup from T.nd) hp hmlaw e)
theorem hmlaw_deep : ((cPlaw_deep K).2, (("_law_deep" : Str) ++ ".<locals>.") ++ "<lambda>") ∈ TL K := (List.mem_cons_of_mem _ List.mem_cons_self)
theorem hclaw_deep : cPlaw_deep K ∈ CS K := (List.mem_cons_of_mem _ List.mem_cons_self)
theorem hulaw_deep (T : Tx K mg) : ∀ p ∈ TL K, p.1 = (cPlaw_deep K).2 → p.2 = (("_law_deep" : Str) ++ ".<locals>.") ++ "<lambda>" := fun p hp e => congrArg Prod.snd (tl_hu (show ((TL K).map (·.1)).Nodup from T.nd) hp hmlaw_deep e)
theorem hmlaw_fallen : ((cPlaw_fallen K).2, (("_law_fallen" : Str) ++ ".<locals>.") ++ "<lambda>") ∈ TL K := (List.mem_cons_of_mem _ (List.mem_cons_of_mem _ List.mem_cons_self))
theorem hclaw_fallen : cPlaw_fallen K ∈ CS K := (List.mem_cons_of_mem _ (List.mem_cons_of_mem _ List.mem_cons_self))
theorem hulaw_fallen (T : Tx K mg) : ∀ p ∈ TL K, p.1 = (cPlaw_fallen K).2 → p.2 = (("_law_fallen" : Str) ++ ".<locals>.") ++ "<lambda>" := fun p hp e => congrArg Prod.snd (tl_hu (show ((TL K).map (·.1)).Nodup from T.nd) hp hmlaw_fallen e)
theorem hmlaw_undone : ((cPlaw_undone K).2, (("_law_undone" : Str) ++ ".<locals>.") ++ "<lambda>") ∈ TL K := (List.mem_cons_of_mem _ (List.mem_cons_of_mem _ (List.mem_cons_of_mem _ List.mem_cons_self)))
theorem hclaw_undone : cPlaw_undone K ∈ CS K := (List.mem_cons_of_mem _ (List.mem_cons_of_mem _ (List.mem_cons_of_mem _ List.mem_cons_self)))
theorem hulaw_undone (T : Tx K mg) : ∀ p ∈ TL K, p.1 = (cPlaw_undone K).2 → p.2 = (("_law_undone" : Str) ++ ".<locals>.") ++ "<lambda>" := fun p hp e => congrArg Prod.snd (tl_hu (show ((TL K).map (·.1)).Nodup from T.nd) hp hmlaw_undone e)
theorem tl_cs {p : Addr × Str} (hp : p ∈ TL K) : ∃ c, c ∈ CS K ∧ p.1 = c.2 := by
  rcases List.mem_cons.mp hp with rfl | hp
  · exact ⟨_, hclaw, rfl⟩
  rcases List.mem_cons.mp hp with rfl | hp
  · exact ⟨_, hclaw_deep, rfl⟩
  rcases List.mem_cons.mp hp with rfl | hp
  · exact ⟨_, hclaw_fallen, rfl⟩
  rcases List.mem_cons.mp hp with rfl | hp
  · exact ⟨_, hclaw_undone, rfl⟩
  cases hp
theorem sc_BadWord_init_ : FnScope ["self", "value"] ["self", "value"] (defScope s_BadWord_init_) := ⟨rfl, rfl, rfl, by decide +kernel, rfl, by decide +kernel, by decide +kernel⟩
theorem bd_BadWord_init_ (T : Tx K mg) : Binds K T.f_BadWord_init_.fd ["self", "value"] [] := T.f_BadWord_init_.F.binds (ps := ["self", "value"]) fun _ _ _ _ _ _ us hl => match us, hl with | [_, _], _ => rfl
theorem sc_BadWidth_init_ : FnScope ["self", "width"] ["self", "width"] (defScope s_BadWidth_init_) := ⟨rfl, rfl, rfl, by decide +kernel, rfl, by decide +kernel, by decide +kernel⟩
theorem bd_BadWidth_init_ (T : Tx K mg) : Binds K T.f_BadWidth_init_.fd ["self", "width"] [] := T.f_BadWidth_init_.F.binds (ps := ["self", "width"]) fun _ _ _ _ _ _ us hl => match us, hl with | [_, _], _ => rfl
theorem sc_NotThere_init_ : FnScope ["self", "word"] ["self", "word"] (defScope s_NotThere_init_) := ⟨rfl, rfl, rfl, by decide +kernel, rfl, by decide +kernel, by decide +kernel⟩
theorem bd_NotThere_init_ (T : Tx K mg) : Binds K T.f_NotThere_init_.fd ["self", "word"] [] := T.f_NotThere_init_.F.binds (ps := ["self", "word"]) fun _ _ _ _ _ _ us hl => match us, hl with | [_, _], _ => rfl
theorem sc_is_whole : FnScope ["value"] ["value"] (defScope s_is_whole) := ⟨rfl, rfl, rfl, by decide +kernel, rfl, by decide +kernel, by decide +kernel⟩
theorem bd_is_whole (T : Tx K mg) : Binds K T.f_is_whole.fd ["value"] [] := T.f_is_whole.F.binds (ps := ["value"]) fun _ _ _ _ _ _ us hl => match us, hl with | [_], _ => rfl
theorem sc_is_from : FnScope ["value", "least", "most"] ["value", "least", "most"] (defScope s_is_from) := ⟨rfl, rfl, rfl, by decide +kernel, rfl, by decide +kernel, by decide +kernel⟩
theorem bd_is_from (T : Tx K mg) : Binds K T.f_is_from.fd ["value", "least", "most"] [] := T.f_is_from.F.binds (ps := ["value", "least", "most"]) fun _ _ _ _ _ _ us hl => match us, hl with | [_, _, _], _ => rfl
theorem sc_most_value : FnScope ["width"] ["width"] (defScope s_most_value) := ⟨rfl, rfl, rfl, by decide +kernel, rfl, by decide +kernel, by decide +kernel⟩
theorem bd_most_value (T : Tx K mg) : Binds K T.f_most_value.fd ["width"] [] := T.f_most_value.F.binds (ps := ["width"]) fun _ _ _ _ _ _ us hl => match us, hl with | [_], _ => rfl
theorem sc_checked_width : FnScope ["width"] ["width"] (defScope s_checked_width) := ⟨rfl, rfl, rfl, by decide +kernel, rfl, by decide +kernel, by decide +kernel⟩
theorem bd_checked_width (T : Tx K mg) : Binds K T.f_checked_width.fd ["width"] [] := T.f_checked_width.F.binds (ps := ["width"]) fun _ _ _ _ _ _ us hl => match us, hl with | [_], _ => rfl
theorem mk_Word (T : Tx K mg) : Mk K T.k_Word.C T.f_Word_init_.a := ⟨T.mk_w, T.f_Word_init_.M.at_, T.f_Word_init_.M.fn, T.k_Word.kp⟩
theorem sc_Word_init_ : FnScope ["self", "width", "value", "most"] ["self", "width", "value"] (defScope s_Word_init_) := ⟨rfl, rfl, rfl, by decide +kernel, rfl, by decide +kernel, by decide +kernel⟩
theorem bd_Word_init_ (T : Tx K mg) : Binds K T.f_Word_init_.fd ["self", "width", "value"] [] := T.f_Word_init_.F.binds (ps := ["self", "width", "value"]) fun _ _ _ _ _ _ us hl => match us, hl with | [_, _, _], _ => rfl
theorem sc_Word_repr_ : FnScope ["self"] ["self"] (defScope s_Word_repr_) := ⟨rfl, rfl, rfl, by decide +kernel, rfl, by decide +kernel, by decide +kernel⟩
theorem bd_Word_repr_ (T : Tx K mg) : Binds K T.f_Word_repr_.fd ["self"] [] := T.f_Word_repr_.F.binds (ps := ["self"]) fun _ _ _ _ _ _ us hl => match us, hl with | [_], _ => rfl
theorem sc_carried_round : FnScope ["width", "number"] ["width", "number"] (defScope s_carried_round) := ⟨rfl, rfl, rfl, by decide +kernel, rfl, by decide +kernel, by decide +kernel⟩
theorem bd_carried_round (T : Tx K mg) : Binds K T.f_carried_round.fd ["width", "number"] [] := T.f_carried_round.F.binds (ps := ["width", "number"]) fun _ _ _ _ _ _ us hl => match us, hl with | [_, _], _ => rfl
theorem sc_found_value : FnScope ["width", "word"] ["width", "word"] (defScope s_found_value) := ⟨rfl, rfl, rfl, by decide +kernel, rfl, by decide +kernel, by decide +kernel⟩
theorem bd_found_value (T : Tx K mg) : Binds K T.f_found_value.fd ["width", "word"] [] := T.f_found_value.F.binds (ps := ["width", "word"]) fun _ _ _ _ _ _ us hl => match us, hl with | [_, _], _ => rfl
theorem sc_checked_value : FnScope ["width", "word", "value"] ["width", "word"] (defScope s_checked_value) := ⟨rfl, rfl, rfl, by decide +kernel, rfl, by decide +kernel, by decide +kernel⟩
theorem bd_checked_value (T : Tx K mg) : Binds K T.f_checked_value.fd ["width", "word"] [] := T.f_checked_value.F.binds (ps := ["width", "word"]) fun _ _ _ _ _ _ us hl => match us, hl with | [_, _], _ => rfl
theorem mk_Running (T : Tx K mg) : Mk K T.k_Running.C T.f_Running_init_.a := ⟨T.mk_Running_, T.f_Running_init_.M.at_, T.f_Running_init_.M.fn, T.k_Running.kp⟩
theorem sc_Running_init_ : FnScope ["self", "width"] ["self", "width"] (defScope s_Running_init_) := ⟨rfl, rfl, rfl, by decide +kernel, rfl, by decide +kernel, by decide +kernel⟩
theorem bd_Running_init_ (T : Tx K mg) : Binds K T.f_Running_init_.fd ["self", "width"] [] := T.f_Running_init_.F.binds (ps := ["self", "width"]) fun _ _ _ _ _ _ us hl => match us, hl with | [_, _], _ => rfl
theorem sc_Running_keep : FnScope ["self", "value"] ["self", "value"] (defScope s_Running_keep) := ⟨rfl, rfl, rfl, by decide +kernel, rfl, by decide +kernel, by decide +kernel⟩
theorem bd_Running_keep (T : Tx K mg) : Binds K T.f_Running_keep.fd ["self", "value"] [] := T.f_Running_keep.F.binds (ps := ["self", "value"]) fun _ _ _ _ _ _ us hl => match us, hl with | [_, _], _ => rfl
theorem sc_Running_forget : FnScope ["self", "value"] ["self", "value"] (defScope s_Running_forget) := ⟨rfl, rfl, rfl, by decide +kernel, rfl, by decide +kernel, by decide +kernel⟩
theorem bd_Running_forget (T : Tx K mg) : Binds K T.f_Running_forget.fd ["self", "value"] [] := T.f_Running_forget.F.binds (ps := ["self", "value"]) fun _ _ _ _ _ _ us hl => match us, hl with | [_, _], _ => rfl
theorem sc_Running_there : FnScope ["self", "word", "value"] ["self", "word"] (defScope s_Running_there) := ⟨rfl, rfl, rfl, by decide +kernel, rfl, by decide +kernel, by decide +kernel⟩
theorem bd_Running_there (T : Tx K mg) : Binds K T.f_Running_there.fd ["self", "word"] [] := T.f_Running_there.F.binds (ps := ["self", "word"]) fun _ _ _ _ _ _ us hl => match us, hl with | [_, _], _ => rfl
theorem sc_Running_add : FnScope ["self", "word"] ["self", "word"] (defScope s_Running_add) := ⟨rfl, rfl, rfl, by decide +kernel, rfl, by decide +kernel, by decide +kernel⟩
theorem bd_Running_add (T : Tx K mg) : Binds K T.f_Running_add.fd ["self", "word"] [] := T.f_Running_add.F.binds (ps := ["self", "word"]) fun _ _ _ _ _ _ us hl => match us, hl with | [_, _], _ => rfl
theorem sc_Running_drop : FnScope ["self", "word"] ["self", "word"] (defScope s_Running_drop) := ⟨rfl, rfl, rfl, by decide +kernel, rfl, by decide +kernel, by decide +kernel⟩
theorem bd_Running_drop (T : Tx K mg) : Binds K T.f_Running_drop.fd ["self", "word"] [] := T.f_Running_drop.F.binds (ps := ["self", "word"]) fun _ _ _ _ _ _ us hl => match us, hl with | [_, _], _ => rfl
theorem sc_Running_exchange : FnScope ["self", "old", "new", "leaving", "coming"] ["self", "old", "new"] (defScope s_Running_exchange) := ⟨rfl, rfl, rfl, by decide +kernel, rfl, by decide +kernel, by decide +kernel⟩
theorem bd_Running_exchange (T : Tx K mg) : Binds K T.f_Running_exchange.fd ["self", "old", "new"] [] := T.f_Running_exchange.F.binds (ps := ["self", "old", "new"]) fun _ _ _ _ _ _ us hl => match us, hl with | [_, _, _], _ => rfl
theorem sc_Running_len_ : FnScope ["self"] ["self"] (defScope s_Running_len_) := ⟨rfl, rfl, rfl, by decide +kernel, rfl, by decide +kernel, by decide +kernel⟩
theorem bd_Running_len_ (T : Tx K mg) : Binds K T.f_Running_len_.fd ["self"] [] := T.f_Running_len_.F.binds (ps := ["self"]) fun _ _ _ _ _ _ us hl => match us, hl with | [_], _ => rfl
theorem sc_Running_iadd_ : FnScope ["self", "other"] ["self", "other"] (defScope s_Running_iadd_) := ⟨rfl, rfl, rfl, by decide +kernel, rfl, by decide +kernel, by decide +kernel⟩
theorem bd_Running_iadd_ (T : Tx K mg) : Binds K T.f_Running_iadd_.fd ["self", "other"] [] := T.f_Running_iadd_.F.binds (ps := ["self", "other"]) fun _ _ _ _ _ _ us hl => match us, hl with | [_, _], _ => rfl
theorem sc_Running_total : FnScope ["self"] ["self"] (defScope s_Running_total) := ⟨rfl, rfl, rfl, by decide +kernel, rfl, by decide +kernel, by decide +kernel⟩
theorem bd_Running_total (T : Tx K mg) : Binds K T.f_Running_total.fd ["self"] [] := T.f_Running_total.F.binds (ps := ["self"]) fun _ _ _ _ _ _ us hl => match us, hl with | [_], _ => rfl
theorem sc_Running_ascending : FnScope ["self", "value"] ["self"] (defScope s_Running_ascending) := ⟨rfl, rfl, rfl, by decide +kernel, rfl, by decide +kernel, by decide +kernel⟩
theorem bd_Running_ascending (T : Tx K mg) : Binds K T.f_Running_ascending.fd ["self"] [] := T.f_Running_ascending.F.binds (ps := ["self"]) fun _ _ _ _ _ _ us hl => match us, hl with | [_], _ => rfl
theorem mk_Saved (T : Tx K mg) : Mk K T.k_Saved.C T.f_Saved_init_.a := ⟨T.mk_Saved_, T.f_Saved_init_.M.at_, T.f_Saved_init_.M.fn, T.k_Saved.kp⟩
theorem sc_Saved_init_ : FnScope ["self", "kept", "plain_sum", "older"] ["self", "kept", "plain_sum", "older"] (defScope s_Saved_init_) := ⟨rfl, rfl, rfl, by decide +kernel, rfl, by decide +kernel, by decide +kernel⟩
theorem bd_Saved_init_ (T : Tx K mg) : Binds K T.f_Saved_init_.fd ["self", "kept", "plain_sum", "older"] [] := T.f_Saved_init_.F.binds (ps := ["self", "kept", "plain_sum", "older"]) fun _ _ _ _ _ _ us hl => match us, hl with | [_, _, _, _], _ => rfl
theorem sc_Running_trial : FnScope ["self"] ["self"] (defScope s_Running_trial) := ⟨rfl, rfl, rfl, by decide +kernel, rfl, by decide +kernel, by decide +kernel⟩
theorem bd_Running_trial (T : Tx K mg) : Binds K T.f_Running_trial.fd ["self"] [] := T.f_Running_trial.F.binds (ps := ["self"]) fun _ _ _ _ _ _ us hl => match us, hl with | [_], _ => rfl
theorem sc_Running_enter_ : FnScope ["self"] ["self"] (defScope s_Running_enter_) := ⟨rfl, rfl, rfl, by decide +kernel, rfl, by decide +kernel, by decide +kernel⟩
theorem bd_Running_enter_ (T : Tx K mg) : Binds K T.f_Running_enter_.fd ["self"] [] := T.f_Running_enter_.F.binds (ps := ["self"]) fun _ _ _ _ _ _ us hl => match us, hl with | [_], _ => rfl
theorem sc_Running_exit_ : FnScope ["self", "kind", "value", "trace", "saved"] ["self", "kind", "value", "trace"] (defScope s_Running_exit_) := ⟨rfl, rfl, rfl, by decide +kernel, rfl, by decide +kernel, by decide +kernel⟩
theorem bd_Running_exit_ (T : Tx K mg) : Binds K T.f_Running_exit_.fd ["self", "kind", "value", "trace"] [] := T.f_Running_exit_.F.binds (ps := ["self", "kind", "value", "trace"]) fun _ _ _ _ _ _ us hl => match us, hl with | [_, _, _, _], _ => rfl
theorem sc_Running_tried : FnScope ["self", "ask"] ["self", "ask"] (defScope s_Running_tried) := ⟨rfl, rfl, rfl, by decide +kernel, rfl, by decide +kernel, by decide +kernel⟩
theorem bd_Running_tried (T : Tx K mg) : Binds K T.f_Running_tried.fd ["self", "ask"] [] := T.f_Running_tried.F.binds (ps := ["self", "ask"]) fun _ _ _ _ _ _ us hl => match us, hl with | [_, _], _ => rfl
theorem sc_law_pen : FnScope ["_law_script"] ["_law_script"] (defScope s_law_pen) := ⟨rfl, rfl, rfl, by decide +kernel, rfl, by decide +kernel, by decide +kernel⟩
theorem bd_law_pen (T : Tx K mg) : Binds K T.f_law_pen.fd ["_law_script"] [] := T.f_law_pen.F.binds (ps := ["_law_script"]) fun _ _ _ _ _ _ us hl => match us, hl with | [_], _ => rfl
theorem sc_law_draw : FnScope ["_law_pen_here", "_law_many", "_law_digit", "_law_at", "_law_cell", "_law_great", "_law_mixed"] ["_law_pen_here", "_law_many"] (defScope s_law_draw) := ⟨rfl, rfl, rfl, by decide +kernel, rfl, by decide +kernel, by decide +kernel⟩
theorem bd_law_draw (T : Tx K mg) : Binds K T.f_law_draw.fd ["_law_pen_here", "_law_many"] [] := T.f_law_draw.F.binds (ps := ["_law_pen_here", "_law_many"]) fun _ _ _ _ _ _ us hl => match us, hl with | [_, _], _ => rfl
theorem sc_law_width : FnScope ["_law_pen_here"] ["_law_pen_here"] (defScope s_law_width) := ⟨rfl, rfl, rfl, by decide +kernel, rfl, by decide +kernel, by decide +kernel⟩
theorem bd_law_width (T : Tx K mg) : Binds K T.f_law_width.fd ["_law_pen_here"] [] := T.f_law_width.F.binds (ps := ["_law_pen_here"]) fun _ _ _ _ _ _ us hl => match us, hl with | [_], _ => rfl
theorem sc_law_value : FnScope ["_law_pen_here", "_law_width_here", "_law_top", "_law_low", "_law_high", "_law_some"] ["_law_pen_here", "_law_width_here"] (defScope s_law_value) := ⟨rfl, rfl, rfl, by decide +kernel, rfl, by decide +kernel, by decide +kernel⟩
theorem bd_law_value (T : Tx K mg) : Binds K T.f_law_value.fd ["_law_pen_here", "_law_width_here"] [] := T.f_law_value.F.binds (ps := ["_law_pen_here", "_law_width_here"]) fun _ _ _ _ _ _ us hl => match us, hl with | [_, _], _ => rfl
theorem sc_law_told : FnScope ["_law_running"] ["_law_running"] (defScope s_law_told) := ⟨rfl, rfl, rfl, by decide +kernel, rfl, by decide +kernel, by decide +kernel⟩
theorem bd_law_told (T : Tx K mg) : Binds K T.f_law_told.fd ["_law_running"] [] := T.f_law_told.F.binds (ps := ["_law_running"]) fun _ _ _ _ _ _ us hl => match us, hl with | [_], _ => rfl
theorem sc_law_due : FnScope ["_law_width_here", "_law_values", "_law_s", "_law_whole", "_law_words", "_law_worth", "_law_k"] ["_law_width_here", "_law_values"] (defScope s_law_due) := ⟨rfl, rfl, rfl, by decide +kernel, rfl, by decide +kernel, by decide +kernel⟩
theorem bd_law_due (T : Tx K mg) : Binds K T.f_law_due.fd ["_law_width_here", "_law_values"] [] := T.f_law_due.F.binds (ps := ["_law_width_here", "_law_values"]) fun _ _ _ _ _ _ us hl => match us, hl with | [_, _], _ => rfl
theorem sc_law_broken : FnScope ["_law_running", "_law_worth", "_law_turn"] ["_law_running", "_law_worth"] (defScope s_law_broken) := ⟨rfl, rfl, rfl, by decide +kernel, rfl, by decide +kernel, by decide +kernel⟩
theorem bd_law_broken (T : Tx K mg) : Binds K T.f_law_broken.fd ["_law_running", "_law_worth"] [] := T.f_law_broken.F.binds (ps := ["_law_running", "_law_worth"]) fun _ _ _ _ _ _ us hl => match us, hl with | [_, _], _ => rfl
theorem sc_law_lost : FnScope ["_law_running", "_law_worth"] ["_law_running", "_law_worth"] (defScope s_law_lost) := ⟨rfl, rfl, rfl, by decide +kernel, rfl, by decide +kernel, by decide +kernel⟩
theorem bd_law_lost (T : Tx K mg) : Binds K T.f_law_lost.fd ["_law_running", "_law_worth"] [] := T.f_law_lost.F.binds (ps := ["_law_running", "_law_worth"]) fun _ _ _ _ _ _ us hl => match us, hl with | [_, _], _ => rfl
theorem sc_law_fallen : FnScope ["_law_running", "_law_worth", "error"] ["_law_running", "_law_worth"] (defScope s_law_fallen) := ⟨rfl, rfl, rfl, by decide +kernel, rfl, by decide +kernel, by decide +kernel⟩
theorem bd_law_fallen (T : Tx K mg) : Binds K T.f_law_fallen.fd ["_law_running", "_law_worth"] [] := T.f_law_fallen.F.binds (ps := ["_law_running", "_law_worth"]) fun _ _ _ _ _ _ us hl => match us, hl with | [_, _], _ => rfl
theorem sc_law_undone : FnScope ["_law_running", "_law_worth"] ["_law_running", "_law_worth"] (defScope s_law_undone) := ⟨rfl, rfl, rfl, by decide +kernel, rfl, by decide +kernel, by decide +kernel⟩
theorem bd_law_undone (T : Tx K mg) : Binds K T.f_law_undone.fd ["_law_running", "_law_worth"] [] := T.f_law_undone.F.binds (ps := ["_law_running", "_law_worth"]) fun _ _ _ _ _ _ us hl => match us, hl with | [_, _], _ => rfl
theorem sc_law_around : FnScope ["_law_running", "_law_width_here", "_law_values", "_law_worth"] ["_law_running", "_law_width_here", "_law_values", "_law_worth"] (defScope s_law_around) := ⟨rfl, rfl, rfl, by decide +kernel, rfl, by decide +kernel, by decide +kernel⟩
theorem bd_law_around (T : Tx K mg) : Binds K T.f_law_around.fd ["_law_running", "_law_width_here", "_law_values", "_law_worth"] [] := T.f_law_around.F.binds (ps := ["_law_running", "_law_width_here", "_law_values", "_law_worth"]) fun _ _ _ _ _ _ us hl => match us, hl with | [_, _, _, _], _ => rfl
theorem sc_law_deep : FnScope ["_law_running", "_law_width_here", "_law_values", "_law_rows", "_law_told_here", "_law_worth", "_law_inner", "_law_kept"] ["_law_running", "_law_width_here", "_law_values", "_law_rows", "_law_told_here"] (defScope s_law_deep) := ⟨rfl, rfl, rfl, by decide +kernel, rfl, by decide +kernel, by decide +kernel⟩
theorem bd_law_deep (T : Tx K mg) : Binds K T.f_law_deep.fd ["_law_running", "_law_width_here", "_law_values", "_law_rows", "_law_told_here"] [] := T.f_law_deep.F.binds (ps := ["_law_running", "_law_width_here", "_law_values", "_law_rows", "_law_told_here"]) fun _ _ _ _ _ _ us hl => match us, hl with | [_, _, _, _, _], _ => rfl
theorem sc_law : FnScope ["_law_script", "_law_pen_here", "_law_turn", "_law_deep_here", "_law_many", "_law_rows", "_law_running", "_law_told_here", "_law_values", "_law_width_here", "_law_worth", "_law_k"] ["_law_script"] (defScope s_law) := ⟨rfl, rfl, rfl, by decide +kernel, rfl, by decide +kernel, by decide +kernel⟩
theorem bd_law (T : Tx K mg) : Binds K T.f_law.fd ["_law_script"] [] := T.f_law.F.binds (ps := ["_law_script"]) fun _ _ _ _ _ _ us hl => match us, hl with | [_], _ => rfl
end
section
variable {P : Program} {w : World} {K : PySem.W.Frag} {mg : Str → Option Value} {base : Heap}
theorem ok_BadWord_init_ (T : Tx K mg) : FnOk P w K mg base CX0 1 T.f_BadWord_init_.a T.f_BadWord_init_.fd ["self", "value"] (spErr1 T.e_BadWord.C "value") := by
  refine T.f_BadWord_init_.F.ok sc_BadWord_init_ (fun vs H Q E h => ?_) (fun cdv A outer s H vs Q E hr h => ?_)
  · obtain ⟨a, v, rfl, _⟩ := h
    rfl
  · obtain ⟨a, v, rfl, ha, k⟩ := h
    refine ⟨_, (pss_one (ps_ost (pv 0) (pv 1))), ?_⟩

    exact ⟨v, rfl, _, rfl, a, T.e_BadWord.C, rfl, T.e_BadWord.er.made, T.n_BadWord_value, .inl ⟨ha, fun dx n ne => k dx n ne⟩⟩
theorem ok_BadWidth_init_ (T : Tx K mg) : FnOk P w K mg base CX0 1 T.f_BadWidth_init_.a T.f_BadWidth_init_.fd ["self", "width"] (spErr1 T.e_BadWidth.C "width") := by
  refine T.f_BadWidth_init_.F.ok sc_BadWidth_init_ (fun vs H Q E h => ?_) (fun cdv A outer s H vs Q E hr h => ?_)
  · obtain ⟨a, v, rfl, _⟩ := h
    rfl
  · obtain ⟨a, v, rfl, ha, k⟩ := h
    refine ⟨_, (pss_one (ps_ost (pv 0) (pv 1))), ?_⟩

    exact ⟨v, rfl, _, rfl, a, T.e_BadWidth.C, rfl, T.e_BadWidth.er.made, T.n_BadWidth_width, .inl ⟨ha, fun dx n ne => k dx n ne⟩⟩
theorem ok_NotThere_init_ (T : Tx K mg) : FnOk P w K mg base CX0 1 T.f_NotThere_init_.a T.f_NotThere_init_.fd ["self", "word"] (spErr1 T.e_NotThere.C "word") := by
  refine T.f_NotThere_init_.F.ok sc_NotThere_init_ (fun vs H Q E h => ?_) (fun cdv A outer s H vs Q E hr h => ?_)
  · obtain ⟨a, v, rfl, _⟩ := h
    rfl
  · obtain ⟨a, v, rfl, ha, k⟩ := h
    refine ⟨_, (pss_one (ps_ost (pv 0) (pv 1))), ?_⟩

    exact ⟨v, rfl, _, rfl, a, T.e_NotThere.C, rfl, T.e_NotThere.er.made, T.n_NotThere_word, .inl ⟨ha, fun dx n ne => k dx n ne⟩⟩
theorem ok_is_whole (T : Tx K mg) : FnOk P w K mg base CX0 1 T.f_is_whole.a T.f_is_whole.fd ["value"] (spWhole T.k_Word.C) := by
  refine T.f_is_whole.F.ok sc_is_whole (fun vs H Q E h => ?_) (fun cdv A outer s H vs Q E hr h => ?_)
  · obtain ⟨y, g, rfl, _⟩ := h
    rfl
  · obtain ⟨y, g, rfl, d, k⟩ := h
    refine ⟨_, (pss_one (ps_ret (pe_and (pe_callB call_isi (by rfl) T.b_isinstance (by decide +kernel) (pa_cons (pv 0) (pa_cons (pe_bltn (v := .ty "int") (by rfl) T.b_int (by decide +kernel) rfl) pa_nil))) (pe_one (pe_not (pe_callB call_isi (by rfl) T.b_isinstance (by decide +kernel) (pa_cons (pv 0) (pa_cons (pe_bltn (v := .ty "bool") (by rfl) T.b_bool (by decide +kernel) rfl) pa_nil)))))))), ?_⟩

    have yes : ∀ {A B : Prop}, A → (if true = true then A else B) := fun h => iteT h
    refine ⟨_, rfl, _, _, _, _, _, rfl, .ty "int", d.tyx T.k_Word.al T.k_Word.cl, Tag.kit T.k_Word.al _ (by decide), _, rfl, ?_⟩
    cases g with
    | int => exact iteT ⟨_, rfl, _, _, _, _, _, rfl, .ty "bool", d.tyx T.k_Word.al T.k_Word.cl, Tag.kit T.k_Word.al _ (by decide), _, rfl, k⟩
    | bl => exact iteT ⟨_, rfl, _, _, _, _, _, rfl, .ty "bool", d.tyx T.k_Word.al T.k_Word.cl, Tag.kit T.k_Word.al _ (by decide), _, rfl, k⟩
    | _ => exact iteF k
theorem ok_is_from (T : Tx K mg) : FnOk P w K mg base CX0 2 T.f_is_from.a T.f_is_from.fd ["value", "least", "most"] (spFrom T.k_Word.C) := by
  refine T.f_is_from.F.ok sc_is_from (fun vs H Q E h => ?_) (fun cdv A outer s H vs Q E hr h => ?_)
  · obtain ⟨y, g, lo, hi, rfl, _⟩ := h
    rfl
  · obtain ⟨y, g, lo, hi, rfl, d, k⟩ := h
    refine ⟨_, (pss_one (ps_ret (pe_and (pe_call (ok_is_whole T) (hr.mono (by decide)) (by rfl) T.f_is_whole.m T.f_is_whole.F.kp (bd_is_whole T) .nil pass0 (pa_cons (pv 0) pa_nil)) (pe_one (pe_chain op_le op_le (pv 1) (pv 0) (pv 2)))))), ?_⟩

    refine ⟨_, rfl, y, g, rfl, d, _, rfl, ?_⟩
    have no : g ≠ .int → Q (.bl false) H := fun ng => k false ⟨fun h => absurd h Bool.false_ne_true, fun ⟨n, e, _⟩ => by
      subst e
      cases d
      exact absurd rfl ng⟩
    cases g with
    | int =>
      obtain ⟨n, rfl⟩ := d.int_of
      refine iteT ?_
      refine ⟨_, rfl, _, rfl, _, _, rfl, rfl, _, rfl, ?_⟩
      refine ite2 (fun h1 => ?_) (fun h1 => ?_)
      · refine ⟨_, rfl, _, _, rfl, rfl, ?_⟩
        exact k _ ⟨fun h2 => ⟨n, rfl, of_decide_eq_true h1, of_decide_eq_true h2⟩, fun ⟨m, e, h2⟩ => by
          cases e
          exact decide_eq_true h2.2⟩
      · exact k _ ⟨fun h2 => absurd h2 Bool.false_ne_true, fun ⟨m, e, h2⟩ => by
          cases e
          exact absurd (decide_eq_true h2.1) h1⟩
    | _ => exact iteF (no (by decide))
theorem ok_is_from_int (T : Tx K mg) : FnOk P w K mg base CX0 2 T.f_is_from.a T.f_is_from.fd ["value", "least", "most"] spIsFromI :=
  weak (ok_is_from T) fun vs H Q E ⟨v, lo, hi, e, k⟩ => ⟨.int v, .int, lo, hi, e, .int v, fun b hb => k b (hb.trans ⟨fun ⟨n, e, h⟩ => by cases e; exact h, fun h => ⟨v, rfl, h⟩⟩)⟩
theorem ok_most_value (T : Tx K mg) : FnOk P w K mg base CX0 1 T.f_most_value.a T.f_most_value.fd ["width"] spMost := by
  refine T.f_most_value.F.ok sc_most_value (fun vs H Q E h => ?_) (fun cdv A outer s H vs Q E hr h => ?_)
  · obtain ⟨wd, rfl, _⟩ := h
    rfl
  · obtain ⟨wd, rfl, w1, w64, k⟩ := h
    refine ⟨_, (pss_one (ps_ret (pe_op op_sub (pe_op op_shl pe_int (pv 0)) pe_int))), ?_⟩

    refine ⟨_, rfl, _, _, rfl, rfl, ⟨by omega, by omega, by decide⟩, _, _, rfl, rfl, ?_⟩
    have et : (1 : Int) * 2 ^ (wd : Int).toNat - 1 = mw wd := by
      rw [Int.one_mul, Int.toNat_natCast]
      all_goals rfl
    dsimp only
    rw [et]
    exact k
theorem ok_checked_width_int (T : Tx K mg) : FnOk P w K mg base CX0 3 T.f_checked_width.a T.f_checked_width.fd ["width"] spCheckedWidth := by
  refine T.f_checked_width.F.ok sc_checked_width (fun vs H Q E h => ?_) (fun cdv A outer s H vs Q E hr h => ?_)
  · obtain ⟨wd, rfl, _⟩ := h
    rfl
  · obtain ⟨wd, rfl, w1, w64, k⟩ := h
    refine ⟨_, (pss_cons (ps_if (pt_not (pt_val (pe_call (ok_is_from_int T) (hr.mono (by decide)) (by rfl) T.f_is_from.m T.f_is_from.F.kp (bd_is_from T) .nil pass0 (pa_cons (pv 0) (pa_cons pe_int (pa_cons (ClX.pe_cval (pe_glob (v := .ref T.k_Word.C) (by rfl) T.k_Word.m rfl)) pa_nil)))))) (pss_one ps_never) pss_nil)
      (pss_one (ps_ret (pv 0)))), ?_⟩

    refine ⟨_, rfl, T.k_Word.C, _, .int 64, _, rfl, T.k_Word.rd, T.cc_Word_MOST_WIDTH.c, _, _, _, rfl, fun b hb => ?_⟩
    have e : b = true := hb.mpr ⟨by omega, by omega⟩
    subst e
    refine ⟨_, rfl, iteF ?_⟩
    exact ⟨_, rfl, k⟩
theorem ok_Word_init_ (T : Tx K mg) : FnOk P w K mg base CX0 4 T.f_Word_init_.a T.f_Word_init_.fd ["self", "width", "value"] (spWordInit T.k_Word.C) := by
  refine T.f_Word_init_.F.ok sc_Word_init_ (fun vs H Q E h => ?_) (fun cdv A outer s H vs Q E hr h => ?_)
  · obtain ⟨p, dx, wd, v, rfl, _⟩ := h
    rfl
  · obtain ⟨p, dx, wd, v, rfl, hp, w1, w64, v0, vm, k⟩ := h
    refine ⟨_, (pss_cons (ps_set (i := 3) sc_Word_init_.nd rfl (Or.inl rfl) (pe_call (ok_most_value T) (hr.mono (by decide)) (by rfl) T.f_most_value.m T.f_most_value.F.kp (bd_most_value T) .nil pass0 (pa_cons (pe_call (ok_checked_width_int T) (hr.mono (by decide)) (by rfl) T.f_checked_width.m T.f_checked_width.F.kp (bd_checked_width T) .nil pass0 (pa_cons (pv 1) pa_nil)) pa_nil)))
      (pss_cons (ps_if (pt_not (pt_val (pe_call (ok_is_from_int T) (hr.mono (by decide)) (by rfl) T.f_is_from.m T.f_is_from.F.kp (bd_is_from T) .nil pass0 (pa_cons (pv 2) (pa_cons pe_int (pa_cons (pv 3) pa_nil)))))) (pss_one ps_never) pss_nil)
      (pss_cons (ps_fld (pv 0) (pv 1) rfl)
      (pss_cons (ps_fld (pv 0) (pv 2) rfl)
      (pss_cons (ps_fld (pv 0) (pe_op op_mod (pv 2) (pv 3)) rfl)
      (pss_cons (ps_fld (pv 0) (pe_cmpR op_eq (pv 2) pe_int (nomark _)) rfl)
      (pss_one (ps_fld (pv 0) (pe_cmpR op_eq (pv 2) (pv 3) (nomark _)) rfl)))))))), ?_⟩

    have hM := mw_pos w1
    refine ⟨_, rfl, wd, rfl, w1, w64, wd, rfl, w1, w64, ?_⟩
    refine ⟨_, rfl, _, rfl, _, _, _, rfl, fun b hb => ?_⟩
    have e : b = true := hb.mpr ⟨v0, vm⟩
    subst e
    refine ⟨_, rfl, iteF ?_⟩
    refine ⟨_, rfl, _, rfl, p, _, dx, _, rfl, hp, T.k_Word.cl, T.n_Word_width, by show 0 < 1000; decide, ?_⟩
    refine ⟨_, rfl, _, rfl, p, _, dx, _, rfl, upd_same, T.k_Word.cl, T.n_Word_value, by show 1 < 1000; decide, ?_⟩
    refine ⟨_, rfl, _, rfl, _, _, rfl, rfl, by omega, _, rfl, p, _, dx, _, rfl, upd_same, T.k_Word.cl, T.n_Word_rest, by show 2 < 1000; decide, ?_⟩
    refine ⟨_, rfl, rfl, _, rfl, p, _, dx, _, rfl, upd_same, T.k_Word.cl, T.n_Word_is_empty, by show 3 < 1000; decide, ?_⟩
    refine ⟨_, rfl, _, rfl, rfl, _, rfl, p, _, dx, _, rfl, upd_same, T.k_Word.cl, T.n_Word_is_full, by show 4 < 1000; decide, ?_⟩
    refine k _ ?_ fun b o e hb => ?_
    · rw [upd_same]
      unfold wf
      rw [dec_int, dec_int]
    · rw [upd_ne hb, upd_ne hb, upd_ne hb, upd_ne hb, upd_ne hb]
      exact e
theorem ok_Word_repr_ (T : Tx K mg) : FnOk P w K mg base CX0 1 T.f_Word_repr_.a T.f_Word_repr_.fd ["self"] (TzRepr.spRepr (WText T.k_Word.C)) := by
  refine T.f_Word_repr_.F.ok sc_Word_repr_ (fun vs H Q E h => ?_) (fun cdv A outer s H vs Q E hr h => ?_)
  · obtain ⟨a, t, rfl, _⟩ := h
    rfl
  · obtain ⟨x, t, rfl, ⟨wd, u, W, rfl⟩, k⟩ := h
    obtain ⟨⟨dx, hx⟩, w1, w64, u0, um⟩ := id W
    have m64 := mw_64 w64
    have l1 : ((wd : Int)).natAbs.log2 < 1920 := by
      have : ((wd : Int)).natAbs < 2 ^ 64 := by omega
      have := PySem.Flt.log2_lt_of (by decide) this
      omega
    have l2 : u.natAbs.log2 < 1920 := by
      have : u.natAbs < 2 ^ 64 := by omega
      have := PySem.Flt.log2_lt_of (by decide) this
      omega
    have a := int20 (n := (wd : Int)) (by omega) (by omega)
    have b := int20 u0 (by omega)
    have e0 : (Str.empty : Str).length = 0 := rfl
    have e1 : ("Word(" : Str).length = 5 := rfl
    have e2 : (", " : Str).length = 2 := rfl
    have e3 : (")" : Str).length = 1 := rfl
    have sz : ∀ {n : Nat}, n ≤ 60 → n ≤ sizeLine := fun h => Nat.le_trans h (by decide)
    refine ⟨_, (pss_one (ps_ret (pe_joined (.cons pe_str (.cons (pe_fmt (pe_fld (pv 0) rfl)) (.cons pe_str (.cons (pe_fmt (pe_fld (pv 0) rfl)) (.cons pe_str .nil)))))))), ?_⟩
    refine ⟨_, rfl, sz (by rw [strLen_append, e0, e1]; omega), ?_⟩
    refine ⟨_, rfl, x, _, dx, _, _, rfl, hx, T.k_Word.cl, T.n_Word_width, wf_width _ _, .inr ⟨_, rfl, l1, _, rfl, sz (by rw [strLen_append, strLen_append, e0, e1]; omega), ?_⟩⟩
    refine ⟨_, rfl, sz (by rw [strLen_append, strLen_append, strLen_append, e0, e1, e2]; omega), ?_⟩
    refine ⟨_, rfl, x, _, dx, _, _, rfl, hx, T.k_Word.cl, T.n_Word_value, wf_value _ _, .inr ⟨_, rfl, l2, _, rfl, sz (by rw [strLen_append, strLen_append, strLen_append, strLen_append, e0, e1, e2]; omega), ?_⟩⟩
    refine ⟨_, rfl, sz (by rw [strLen_append, strLen_append, strLen_append, strLen_append, strLen_append, e0, e1, e2, e3]; omega), ?_⟩
    exact k H fun _ _ e => e
theorem ok_carried_round (T : Tx K mg) : FnOk P w K mg base CX0 2 T.f_carried_round.a T.f_carried_round.fd ["width", "number"] spCarried := by
  refine T.f_carried_round.F.ok sc_carried_round (fun vs H Q E h => ?_) (fun cdv A outer s H vs Q E hr h => ?_)
  · obtain ⟨wd, n, rfl, _⟩ := h
    rfl
  · obtain ⟨wd, n, rfl, w1, w64, k⟩ := h
    refine ⟨_, (pss_one (ps_ret (pe_ifExp (pt_cmpR op_gt (pv 1) pe_int (nomark _)) (pe_op op_add (pe_op op_mod (pe_op op_sub (pv 1) pe_int) (pe_call (ok_most_value T) (hr.mono (by decide)) (by rfl) T.f_most_value.m T.f_most_value.F.kp (bd_most_value T) .nil pass0 (pa_cons (pv 0) pa_nil))) pe_int) pe_int))), ?_⟩

    have hM := mw_pos w1
    refine ⟨_, rfl, _, _, rfl, rfl, _, rfl, ?_⟩
    refine ite2 (fun h1 => ?_) (fun h1 => ?_)
    · have h1 := of_decide_eq_true h1
      refine ⟨_, rfl, _, _, rfl, rfl, _, rfl, wd, rfl, w1, w64, _, _, rfl, rfl, by omega, _, _, rfl, rfl, ?_⟩
      have e : (n - 1) % mw wd + 1 = cr wd n := by
        unfold cr
        rw [if_pos h1]
      dsimp only
      rw [e]
      exact k
    · have e : cr wd n = 0 := cr_non fun h => h1 (decide_eq_true h)
      rw [e] at k
      exact k
def spWidthA (C B : Addr) : Sp := fun vs H Q E => ∃ y g, vs = [y] ∧ Kd C H y g ∧ ((∃ w : Nat, y = .int w ∧ 1 ≤ w ∧ w ≤ 64 ∧ Q y H) ∨ (NoWidth y ∧ Flies B [("width", y)] H E))

theorem ok_checked_width_any (T : Tx K mg) : FnOk P w K mg base (L2.CX P w) 3 T.f_checked_width.a T.f_checked_width.fd ["width"] (spWidthA T.k_Word.C T.e_BadWidth.C) := by
  refine T.f_checked_width.F.okX sc_checked_width (fun vs H Q E h => ?_) (fun cdv A outer s H vs Q E hr h => ?_)
  · obtain ⟨y, g, rfl, _⟩ := h
    rfl
  · obtain ⟨y, g, rfl, d, k⟩ := h
    refine ⟨_, (pss_cons (ps_if (pt_not (pt_val (pe_call (ok_is_from T) (hr.mono (by decide)) (by rfl) T.f_is_from.m T.f_is_from.F.kp (bd_is_from T) .nil pass0 (pa_cons (pv 0) (pa_cons pe_int (pa_cons (ClX.pe_cval (pe_glob (v := .ref T.k_Word.C) (by rfl) T.k_Word.m rfl)) pa_nil)))))) (pss_one (ps_raise rfl (takes_of rfl rfl rfl rfl) (pmk_oex T.e_BadWidth.er.made T.f_BadWidth_init_.M.at_ (beq_iff_eq.mp T.f_BadWidth_init_.M.fn) (ok_BadWidth_init_ T) (hr.mono (by decide)) (bd_BadWidth_init_ T) .nil pass0 (by rfl) T.e_BadWidth.m (pa_cons (pv 0) pa_nil)))) pss_nil)
      (pss_one (ps_ret (pv 0)))), ?_⟩

    refine ⟨_, rfl, T.k_Word.C, _, .int 64, _, rfl, T.k_Word.rd, T.cc_Word_MOST_WIDTH.c, y, g, _, _, rfl, d, fun c hc => ?_⟩
    rcases k with ⟨wd, rfl, w1, w64, k⟩ | ⟨no, k⟩
    · have e : c = true := hc.mpr ⟨_, rfl, by omega, by omega⟩
      subst e
      refine ⟨_, rfl, iteF ?_⟩
      exact ⟨_, rfl, k⟩
    · have e : c = false := by
        cases c with
        | false => rfl
        | true =>
          obtain ⟨n, e, h⟩ := hc.mp rfl
          exact absurd h (no n e)
      subst e
      refine ⟨_, rfl, iteT ?_⟩
      exact ⟨_, rfl, err1 k⟩
theorem ok_found_value (T : Tx K mg) : FnOk P w K mg base CX0 3 T.f_found_value.a T.f_found_value.fd ["width", "word"] (spFound T.k_Word.C) := by
  refine T.f_found_value.F.ok sc_found_value (fun vs H Q E h => ?_) (fun cdv A outer s H vs Q E hr h => ?_)
  · obtain ⟨wd, y, r, rfl, _⟩ := h
    rfl
  · obtain ⟨wd, y, r, rfl, w1, w64, S, k⟩ := h
    refine ⟨_, (pss_cons (ps_if (pt_val (pe_callB call_isi (by rfl) T.b_isinstance (by decide +kernel) (pa_cons (pv 1) (pa_cons (pe_glob (v := .ref T.k_Word.C) (by rfl) T.k_Word.m rfl) pa_nil)))) (pss_one (ps_ret (pe_ifExp (pt_cmpR op_eq (pe_fld (pv 1) rfl) (pv 0) (nomark _)) (pe_fld (pv 1) rfl) pe_non))) pss_nil)
      (pss_one (ps_ret (pe_ifExp (pt_val (pe_call (ok_is_from T) (hr.mono (by decide)) (by rfl) T.f_is_from.m T.f_is_from.F.kp (bd_is_from T) .nil pass0 (pa_cons (pv 1) (pa_cons pe_int (pa_cons (pe_call (ok_most_value T) (hr.mono (by decide)) (by rfl) T.f_most_value.m T.f_most_value.F.kp (bd_most_value T) .nil pass0 (pa_cons (pv 0) pa_nil)) pa_nil))))) (pv 1) pe_non)))), ?_⟩

    cases S with
    | word W =>
      obtain ⟨⟨dx, hx⟩, _⟩ := id W
      refine ⟨_, rfl, _, _, _, _, _, rfl, .own _, (Kd.own W).tyx T.k_Word.al T.k_Word.cl, Tag.kitC T.k_Word.al _, _, rfl, iteT ?_⟩
      refine ⟨_, rfl, _, _, dx, _, _, rfl, hx, T.k_Word.cl, T.n_Word_width, wf_width _ _, ?_⟩
      refine ⟨_, rfl, rfl, _, rfl, ite2 (fun _ => ?_) (fun q => absurd (decide_eq_true rfl) q)⟩
      exact ⟨_, rfl, _, _, dx, _, _, rfl, hx, T.k_Word.cl, T.n_Word_value, wf_value _ _, k⟩
    | unlike W ne =>
      obtain ⟨⟨dx, hx⟩, _⟩ := id W
      refine ⟨_, rfl, _, _, _, _, _, rfl, .own _, (Kd.own W).tyx T.k_Word.al T.k_Word.cl, Tag.kitC T.k_Word.al _, _, rfl, iteT ?_⟩
      refine ⟨_, rfl, _, _, dx, _, _, rfl, hx, T.k_Word.cl, T.n_Word_width, wf_width _ _, ?_⟩
      refine ⟨_, rfl, rfl, _, rfl, ite2 (fun q => ?_) (fun _ => k)⟩
      have q := of_decide_eq_true q
      exact absurd (Int.ofNat.inj (V.int.inj q)) ne
    | int h0 h1 =>
      refine ⟨_, rfl, _, _, _, _, _, rfl, .own _, (Kd.int _).tyx T.k_Word.al T.k_Word.cl, Tag.kitC T.k_Word.al _, _, rfl, iteF ?_⟩
      refine ⟨_, rfl, _, rfl, wd, rfl, w1, w64, _, .int, _, _, rfl, .int _, fun b hb => ?_⟩
      have e : b = true := hb.mpr ⟨_, rfl, h0, h1⟩
      subst e
      exact ⟨_, rfl, iteT ⟨_, rfl, k⟩⟩
    | @bad _ g d ng no =>
      have e : decide (g = .own) = false := decide_eq_false ng
      refine ⟨_, rfl, _, _, _, _, false, rfl, .own _, d.tyx T.k_Word.al T.k_Word.cl, (Tag.kitC T.k_Word.al g).trans (by rw [e]), _, rfl, iteF ?_⟩
      refine ⟨_, rfl, _, rfl, wd, rfl, w1, w64, _, _, _, _, rfl, d, fun b hb => ?_⟩
      have e : b = false := by
        cases b with
        | false => rfl
        | true =>
          obtain ⟨n, e, h⟩ := hb.mp rfl
          exact absurd h (no n e)
      subst e
      exact ⟨_, rfl, iteF k⟩
theorem ok_checked_value (T : Tx K mg) : FnOk P w K mg base (L2.CX P w) 4 T.f_checked_value.a T.f_checked_value.fd ["width", "word"] (spCheckedX T.k_Word.C T.e_BadWord.C) := by
  refine T.f_checked_value.F.okX sc_checked_value (fun vs H Q E h => ?_) (fun cdv A outer s H vs Q E hr h => ?_)
  · obtain ⟨wd, y, r, rfl, _⟩ := h
    rfl
  · obtain ⟨wd, y, r, rfl, w1, w64, S, k⟩ := h
    refine ⟨_, (pss_cons (ps_set (i := 2) sc_checked_value.nd rfl (Or.inl rfl) (pe_call (ok_found_value T) (hr.mono (by decide)) (by rfl) T.f_found_value.m T.f_found_value.F.kp (bd_found_value T) .nil pass0 (pa_cons (pv 0) (pa_cons (pv 1) pa_nil))))
      (pss_cons (ps_if (pt_cmp (pc_isN (pv 2))) (pss_one (ps_raise rfl (takes_of rfl rfl rfl rfl) (pmk_oex T.e_BadWord.er.made T.f_BadWord_init_.M.at_ (beq_iff_eq.mp T.f_BadWord_init_.M.fn) (ok_BadWord_init_ T) (hr.mono (by decide)) (bd_BadWord_init_ T) .nil pass0 (by rfl) T.e_BadWord.m (pa_cons (pv 1) pa_nil)))) pss_nil)
      (pss_one (ps_ret (pv 2))))), ?_⟩

    refine ⟨_, rfl, _, rfl, wd, y, r, rfl, w1, w64, S, ?_⟩
    cases r with
    | val v =>
      refine ⟨_, rfl, _, rfl, ite2 (fun q => ?_) (fun _ => ?_)⟩
      · cases of_decide_eq_true q
      · exact ⟨_, rfl, k⟩
    | unlike w' =>
      refine ⟨_, rfl, _, rfl, iteT ?_⟩
      exact ⟨_, rfl, err1 k⟩
    | bad =>
      refine ⟨_, rfl, _, rfl, iteT ?_⟩
      exact ⟨_, rfl, err1 k⟩
theorem ok_Running_init_ (T : Tx K mg) : FnOk P w K mg base CX0 4 T.f_Running_init_.a T.f_Running_init_.fd ["self", "width"] (spRunInit T.k_Running.C) := by
  refine T.f_Running_init_.F.ok sc_Running_init_ (fun vs H Q E h => ?_) (fun cdv A outer s H vs Q E hr h => ?_)
  · obtain ⟨p, dx, wd, rfl, _⟩ := h
    rfl
  · obtain ⟨p, dx, wd, rfl, hp, w1, w64, k⟩ := h
    refine ⟨_, (pss_cons (ps_fld (pv 0) (pe_call (ok_checked_width_int T) (hr.mono (by decide)) (by rfl) T.f_checked_width.m T.f_checked_width.F.kp (bd_checked_width T) .nil pass0 (pa_cons (pv 1) pa_nil)) rfl)
      (pss_cons (ps_fld (pv 0) (pe_lst pa_nil) rfl)
      (pss_cons (ps_fld (pv 0) pe_int rfl)
      (pss_one (ps_fld (pv 0) pe_non rfl))))), ?_⟩

    refine ⟨_, rfl, wd, rfl, w1, w64, ?_⟩
    refine ⟨_, rfl, p, _, dx, _, rfl, hp, T.k_Running.cl, T.n_Running_width, by show 0 < 1000; decide, ?_⟩
    refine ⟨by show 0 ≤ sizeLine; decide, fun l nl => ?_⟩
    have pl : p ≠ l := ne_of_none upd_same nl
    refine ⟨_, rfl, p, _, dx, _, rfl, by rw [upd_ne pl]; exact upd_same, T.k_Running.cl, T.n_Running_kept, by show 1 < 1000; decide, ?_⟩
    refine ⟨_, rfl, p, _, dx, _, rfl, upd_same, T.k_Running.cl, T.n_Running_plain_sum, by show 2 < 1000; decide, ?_⟩
    refine ⟨_, rfl, p, _, dx, _, rfl, upd_same, T.k_Running.cl, T.n_Running_saved, by show 3 < 1000; decide, ?_⟩
    have nl0 : H l = none := by
      rwa [upd_ne pl.symm] at nl
    refine k _ l nl0 pl.symm ?_ ?_ fun b o hb bp => ?_
    · rw [upd_same, rf_made]
    · rw [upd_ne pl.symm, upd_ne pl.symm, upd_ne pl.symm, upd_same]
    · rw [upd_ne bp, upd_ne bp, upd_ne bp, upd_ne (ne_of_none hb nl0), upd_ne bp]
      exact hb
theorem ok_Running_initx (T : Tx K mg) : FnOk P w K mg base (L2.CX P w) 4 T.f_Running_init_.a T.f_Running_init_.fd ["self", "width"] (spRunInitX T.k_Word.C T.k_Running.C T.e_BadWidth.C) := by
  refine T.f_Running_init_.F.okX sc_Running_init_ (fun vs H Q E h => ?_) (fun cdv A outer s H vs Q E hr h => ?_)
  · obtain ⟨p, dx, y, g, rfl, _⟩ := h
    rfl
  · obtain ⟨p, dx, y, g, rfl, hp, d, no, k⟩ := h
    refine ⟨_, (pss_cons (ps_fld (pv 0) (pe_call (ok_checked_width_any T) (hr.mono (by decide)) (by rfl) T.f_checked_width.m T.f_checked_width.F.kp (bd_checked_width T) .nil (passes_call (takes_of rfl rfl rfl rfl) fun _ _ _ _ z => z) (pa_cons (pv 1) pa_nil)) rfl)
      (pss_cons (ps_fld (pv 0) (pe_lst pa_nil) rfl)
      (pss_cons (ps_fld (pv 0) pe_int rfl)
      (pss_one (ps_fld (pv 0) pe_non rfl))))), ?_⟩

    exact ⟨_, rfl, y, g, rfl, d, .inr ⟨no, k⟩⟩
theorem ok_Running_keep (T : Tx K mg) : FnOk P w K mg base CX0 1 T.f_Running_keep.a T.f_Running_keep.fd ["self", "value"] (spKeep T.k_Running.C) := by
  refine T.f_Running_keep.F.ok sc_Running_keep (fun vs H Q E h => ?_) (fun cdv A outer s H vs Q E hr h => ?_)
  · obtain ⟨r, l, w, ns, sv, v, rfl, _⟩ := h
    rfl
  · obtain ⟨r, l, w, ns, sv, v, rfl, R, v0, vm, nf, k⟩ := h
    refine ⟨_, (pss_cons (ps_expr (pe_bm PySem.F.plainAttrs_list PySem.F.slot_list_append PySem.F.type_list_append mt_append (pe_fld (pv 0) rfl) (pa_cons (pv 1) pa_nil)))
      (pss_one (ps_fld (pv 0) (pe_op op_add (pe_fld (pv 0) rfl) (pv 1)) rfl))), ?_⟩
    obtain ⟨⟨dr, hr0⟩, hl, w1, w64, bd, few⟩ := id R

    refine ⟨_, rfl, r, _, dr, _, _, rfl, hr0, T.k_Running.cl, T.n_Running_kept, rf_kept, .inl ⟨rfl, _, sq hl⟩, ?_⟩
    refine ⟨_, rfl, l, _, _, rfl, rfl, hl, by rw [List.length_map]; exact Nat.lt_of_lt_of_le nf (by decide), ?_⟩
    (generalize g_H1 : upd _ l _ = H1); have h1 := gat g_H1; have f1 := gfw g_H1; clear g_H1
    have nrl := R.ne
    have hr1 := f1 _ _ nrl hr0
    refine ⟨_, rfl, r, _, dr, _, _, rfl, hr1, T.k_Running.cl, T.n_Running_plain_sum, rf_sum, _, rfl, _, _, rfl, rfl, _, rfl, r, _, dr, _, rfl, hr1, T.k_Running.cl, T.n_Running_plain_sum, by show 4 < 1000; decide, ?_⟩
    rw [rf_put]
    (generalize g_H2 : upd _ r _ = H2); have h2 := gat g_H2; have f2 := gfw g_H2; clear g_H2
    have h1 := f2 _ _ nrl.symm h1
    refine k H2 ⟨⟨dr, ?_⟩, ?_, w1, w64, fun n hn => ?_, ?_⟩ (f1.two2.trans f2.two1)
    · rw [sum_app]
      show H2 r = some (.ins T.k_Running.C dr (rf w l (ns.sum + (v + 0)) sv))
      rw [Int.add_zero]
      exact h2
    · rw [List.map_append]
      exact h1
    · rcases List.mem_append.mp hn with hn | hn
      · exact bd n hn
      · rw [List.mem_singleton.mp hn]
        exact ⟨v0, vm⟩
    · rw [List.length_append]
      show ns.length + 1 ≤ 40
      omega
theorem ok_Running_forget (T : Tx K mg) : FnOk P w K mg base (L2.CX P w) 1 T.f_Running_forget.a T.f_Running_forget.fd ["self", "value"] (spForget T.k_Running.C) := by
  refine T.f_Running_forget.F.okX sc_Running_forget (fun vs H Q E h => ?_) (fun cdv A outer s H vs Q E hr h => ?_)
  · obtain ⟨r, l, w, ns, sv, v, rfl, _⟩ := h
    rfl
  · obtain ⟨r, l, w, ns, sv, v, rfl, R, hv, k⟩ := h
    refine ⟨_, (pss_cons (ps_expr (pe_remX (by rfl) (takes_of rfl rfl rfl rfl) (pe_fld (pv 0) rfl) (pv 1)))
      (pss_one (ps_fld (pv 0) (pe_op op_sub (pe_fld (pv 0) rfl) (pv 1)) rfl))), ?_⟩
    obtain ⟨⟨dr, hr0⟩, hl, w1, w64, bd, few⟩ := id R

    refine ⟨_, rfl, r, _, dr, _, _, rfl, hr0, T.k_Running.cl, T.n_Running_kept, rf_kept, .inl ⟨rfl, _, sq hl⟩, ?_⟩
    refine ⟨_, rfl, l, ns, v, rfl, rfl, hl, fun _ => ?_, fun no => absurd hv no⟩
    (generalize g_H1 : upd _ l _ = H1); have h1 := gat g_H1; have f1 := gfw g_H1; clear g_H1
    have nrl := R.ne
    have hr1 := f1 _ _ nrl hr0
    refine ⟨_, rfl, r, _, dr, _, _, rfl, hr1, T.k_Running.cl, T.n_Running_plain_sum, rf_sum, _, rfl, _, _, rfl, rfl, _, rfl, r, _, dr, _, rfl, hr1, T.k_Running.cl, T.n_Running_plain_sum, by show 4 < 1000; decide, ?_⟩
    rw [rf_put]
    (generalize g_H2 : upd _ r _ = H2); have h2 := gat g_H2; have f2 := gfw g_H2; clear g_H2
    have h1 := f2 _ _ nrl.symm h1
    refine k H2 ⟨⟨dr, ?_⟩, h1, w1, w64, fun n hn => bd n (List.mem_of_mem_erase hn), ?_⟩ (f1.two2.trans f2.two1)
    · rw [sum_er hv]
      exact h2
    · exact Nat.le_trans (List.length_erase_le) few
theorem ok_Running_there (T : Tx K mg) : FnOk P w K mg base (L2.CX P w) 5 T.f_Running_there.a T.f_Running_there.fd ["self", "word"] (spThere T.k_Word.C T.k_Running.C T.e_BadWord.C T.e_NotThere.C) := by
  refine T.f_Running_there.F.okX sc_Running_there (fun vs H Q E h => ?_) (fun cdv A outer s H vs Q E hr h => ?_)
  · obtain ⟨r, l, w, ns, sv, y, res, rfl, _⟩ := h
    rfl
  · obtain ⟨r, l, w, ns, sv, y, res, rfl, R, S, k⟩ := h
    refine ⟨_, (pss_cons (ps_set (i := 2) sc_Running_there.nd rfl (Or.inl rfl) (pe_call (ok_checked_value T) (hr.mono (by decide)) (by rfl) T.f_checked_value.m T.f_checked_value.F.kp (bd_checked_value T) .nil (passes_call (takes_of rfl rfl rfl rfl) fun _ _ _ _ z => z) (pa_cons (pe_fld (pv 0) rfl) (pa_cons (pv 1) pa_nil))))
      (pss_cons (ps_if (pt_cmpR op_notIn_seq (pv 2) (pe_fld (pv 0) rfl) (by rfl)) (pss_one (ps_raise rfl (takes_of rfl rfl rfl rfl) (pmk_oex T.e_NotThere.er.made T.f_NotThere_init_.M.at_ (beq_iff_eq.mp T.f_NotThere_init_.M.fn) (ok_NotThere_init_ T) (hr.mono (by decide)) (bd_NotThere_init_ T) .nil pass0 (by rfl) T.e_NotThere.m (pa_cons (pv 1) pa_nil)))) pss_nil)
      (pss_one (ps_ret (pv 2))))), ?_⟩
    obtain ⟨⟨dr, hr0⟩, hl, w1, w64, bd, few⟩ := id R

    refine ⟨_, rfl, r, _, dr, _, _, rfl, hr0, T.k_Running.cl, T.n_Running_width, rf_width, ?_⟩
    refine ⟨_, rfl, w, y, res, rfl, w1, w64, S, ?_⟩
    cases res with
    | val v =>
      refine ⟨_, rfl, _, rfl, r, _, dr, _, _, rfl, hr0, T.k_Running.cl, T.n_Running_kept, rf_kept, ?_⟩
      refine ⟨l, _, rfl, .inl (sq hl), rfl, flat_ints, ?_⟩
      rw [inV_int]
      by_cases m : v ∈ ns
      · rw [decide_eq_true m]
        refine ⟨_, rfl, iteF ?_⟩
        refine ⟨_, rfl, ?_⟩
        have k : (if v ∈ ns then Q (.int v) H else _) := k
        rwa [if_pos m] at k
      · rw [decide_eq_false m]
        refine ⟨_, rfl, iteT ?_⟩
        have k : (if v ∈ ns then Q (.int v) H else Flies T.e_NotThere.C [("word", y)] H E) := k
        rw [if_neg m] at k
        exact ⟨_, rfl, err1 k⟩
    | unlike w' => exact k
    | bad => exact k
theorem ok_Running_add (T : Tx K mg) : FnOk P w K mg base (L2.CX P w) 5 T.f_Running_add.a T.f_Running_add.fd ["self", "word"] (spAddR T.k_Word.C T.k_Running.C T.e_BadWord.C) := by
  refine T.f_Running_add.F.okX sc_Running_add (fun vs H Q E h => ?_) (fun cdv A outer s H vs Q E hr h => ?_)
  · obtain ⟨r, l, w, ns, sv, y, res, rfl, _⟩ := h
    rfl
  · obtain ⟨r, l, w, ns, sv, y, res, rfl, R, S, nf, k⟩ := h
    refine ⟨_, (pss_one (ps_expr (pe_meth (pv 0) T.k_Running.cl T.f_Running_keep.M (ok_Running_keep T) (hr.mono (by decide)) (bd_Running_keep T) .nil pass0 (pa_cons (pe_call (ok_checked_value T) (hr.mono (by decide)) (by rfl) T.f_checked_value.m T.f_checked_value.F.kp (bd_checked_value T) .nil (passes_call (takes_of rfl rfl rfl rfl) fun _ _ _ _ z => z) (pa_cons (pe_fld (pv 0) rfl) (pa_cons (pv 1) pa_nil))) pa_nil)))), ?_⟩
    obtain ⟨⟨dr, hr0⟩, hl, w1, w64, bd, few⟩ := id R

    refine ⟨_, rfl, r, dr, _, rfl, hr0, (rf_no (by decide +kernel) (by decide +kernel) (by decide +kernel) (by decide +kernel)), ?_⟩
    refine ⟨_, rfl, r, _, dr, _, _, rfl, hr0, T.k_Running.cl, T.n_Running_width, rf_width, ?_⟩
    refine ⟨_, rfl, w, y, res, rfl, w1, w64, S, ?_⟩
    cases res with
    | val v =>
      have b := S.val_bd
      exact ⟨r, l, w, ns, sv, v, rfl, R, b.1, b.2, nf, k⟩
    | unlike w' => exact k
    | bad => exact k
theorem ok_Running_drop (T : Tx K mg) : FnOk P w K mg base (L2.CX P w) 6 T.f_Running_drop.a T.f_Running_drop.fd ["self", "word"] (spDropR T.k_Word.C T.k_Running.C T.e_BadWord.C T.e_NotThere.C) := by
  refine T.f_Running_drop.F.okX sc_Running_drop (fun vs H Q E h => ?_) (fun cdv A outer s H vs Q E hr h => ?_)
  · obtain ⟨r, l, w, ns, sv, y, res, rfl, _⟩ := h
    rfl
  · obtain ⟨r, l, w, ns, sv, y, res, rfl, R, S, k⟩ := h
    refine ⟨_, (pss_one (ps_expr (pe_meth (pv 0) T.k_Running.cl T.f_Running_forget.M (ok_Running_forget T) (hr.mono (by decide)) (bd_Running_forget T) .nil (passes_call (takes_of rfl rfl rfl rfl) fun _ _ _ _ z => z) (pa_cons (pe_meth (pv 0) T.k_Running.cl T.f_Running_there.M (ok_Running_there T) (hr.mono (by decide)) (bd_Running_there T) .nil (passes_call (takes_of rfl rfl rfl rfl) fun _ _ _ _ z => z) (pa_cons (pv 1) pa_nil)) pa_nil)))), ?_⟩
    obtain ⟨⟨dr, hr0⟩, hl, w1, w64, bd, few⟩ := id R

    refine ⟨_, rfl, r, dr, _, rfl, hr0, (rf_no (by decide +kernel) (by decide +kernel) (by decide +kernel) (by decide +kernel)), ?_⟩
    refine ⟨_, rfl, r, dr, _, rfl, hr0, (rf_no (by decide +kernel) (by decide +kernel) (by decide +kernel) (by decide +kernel)), ?_⟩
    refine ⟨_, rfl, r, l, w, ns, sv, y, res, rfl, R, S, ?_⟩
    cases res with
    | val v =>
      unfold ThereK at k ⊢
      dsimp only at k ⊢
      by_cases m : v ∈ ns
      · rw [if_pos m] at k ⊢
        exact ⟨r, l, w, ns, sv, v, rfl, R, m, k⟩
      · rw [if_neg m] at k ⊢
        exact k
    | unlike w' => exact k
    | bad => exact k
theorem ok_Running_exchange (T : Tx K mg) : FnOk P w K mg base (L2.CX P w) 6 T.f_Running_exchange.a T.f_Running_exchange.fd ["self", "old", "new"] (spExch T.k_Word.C T.k_Running.C T.e_BadWord.C T.e_NotThere.C) := by
  refine T.f_Running_exchange.F.okX sc_Running_exchange (fun vs H Q E h => ?_) (fun cdv A outer s H vs Q E hr h => ?_)
  · obtain ⟨r, l, w, ns, sv, y, res, y2, res2, rfl, _⟩ := h
    rfl
  · obtain ⟨r, l, w, ns, sv, y, res, y2, res2, rfl, R, S, S2, k⟩ := h
    refine ⟨_, (pss_cons (ps_set (i := 3) sc_Running_exchange.nd rfl (Or.inl rfl) (pe_meth (pv 0) T.k_Running.cl T.f_Running_there.M (ok_Running_there T) (hr.mono (by decide)) (bd_Running_there T) .nil (passes_call (takes_of rfl rfl rfl rfl) fun _ _ _ _ z => z) (pa_cons (pv 1) pa_nil)))
      (pss_cons (ps_set (i := 4) sc_Running_exchange.nd rfl (Or.inl rfl) (pe_call (ok_checked_value T) (hr.mono (by decide)) (by rfl) T.f_checked_value.m T.f_checked_value.F.kp (bd_checked_value T) .nil (passes_call (takes_of rfl rfl rfl rfl) fun _ _ _ _ z => z) (pa_cons (pe_fld (pv 0) rfl) (pa_cons (pv 2) pa_nil))))
      (pss_cons (ps_expr (pe_meth (pv 0) T.k_Running.cl T.f_Running_forget.M (ok_Running_forget T) (hr.mono (by decide)) (bd_Running_forget T) .nil (passes_call (takes_of rfl rfl rfl rfl) fun _ _ _ _ z => z) (pa_cons (pv 3) pa_nil)))
      (pss_one (ps_expr (pe_meth (pv 0) T.k_Running.cl T.f_Running_keep.M (ok_Running_keep T) (hr.mono (by decide)) (bd_Running_keep T) .nil pass0 (pa_cons (pv 4) pa_nil))))))), ?_⟩
    obtain ⟨⟨dr, hr0⟩, hl, w1, w64, bd, few⟩ := id R

    refine ⟨_, rfl, r, dr, _, rfl, hr0, (rf_no (by decide +kernel) (by decide +kernel) (by decide +kernel) (by decide +kernel)), ?_⟩
    refine ⟨_, rfl, r, l, w, ns, sv, y, res, rfl, R, S, ?_⟩
    cases res with
    | val v =>
      unfold ThereK at k ⊢
      dsimp only at k ⊢
      by_cases m : v ∈ ns
      · rw [if_pos m] at k ⊢
        refine ⟨_, rfl, r, _, dr, _, _, rfl, hr0, T.k_Running.cl, T.n_Running_width, rf_width, ?_⟩
        refine ⟨_, rfl, w, y2, res2, rfl, w1, w64, S2, ?_⟩
        cases res2 with
        | val v2 =>
          have b := S2.val_bd
          refine ⟨_, rfl, r, dr, _, rfl, hr0, (rf_no (by decide +kernel) (by decide +kernel) (by decide +kernel) (by decide +kernel)), ?_⟩
          refine ⟨_, rfl, r, l, w, ns, sv, v, rfl, R, m, fun H1 R1 t1 => ?_⟩
          obtain ⟨⟨dr1, hr1⟩, _⟩ := id R1
          refine ⟨_, rfl, r, dr1, _, rfl, hr1, (rf_no (by decide +kernel) (by decide +kernel) (by decide +kernel) (by decide +kernel)), ?_⟩
          refine ⟨_, rfl, r, l, w, ns.erase v, sv, v2, rfl, R1, b.1, b.2, ?_, fun H2 R2 t2 => k H2 R2 (t1.trans t2)⟩
          have := List.length_erase_of_mem m
          have : 0 < ns.length := List.length_pos_of_mem m
          omega
        | unlike w' => exact k
        | bad => exact k
      · rw [if_neg m] at k ⊢
        exact k
    | unlike w' => exact k
    | bad => exact k
theorem ok_Running_len_ (T : Tx K mg) : FnOk P w K mg base CX0 1 T.f_Running_len_.a T.f_Running_len_.fd ["self"] (spLenR T.k_Running.C) := by
  refine T.f_Running_len_.F.ok sc_Running_len_ (fun vs H Q E h => ?_) (fun cdv A outer s H vs Q E hr h => ?_)
  · obtain ⟨r, l, w, ns, sv, rfl, _⟩ := h
    rfl
  · obtain ⟨r, l, w, ns, sv, rfl, R, k⟩ := h
    refine ⟨_, (pss_one (ps_ret (pe_callB call_len_seq (by rfl) T.b_len (by decide +kernel) (pa_cons (pe_fld (pv 0) rfl) pa_nil)))), ?_⟩
    obtain ⟨⟨dr, hr0⟩, hl, w1, w64, bd, few⟩ := id R

    refine ⟨_, rfl, r, _, dr, _, _, rfl, hr0, T.k_Running.cl, T.n_Running_kept, rf_kept, l, _, rfl, .inl (sq hl), ?_⟩
    rw [List.length_map]
    exact k
theorem ok_Running_iadd_ (T : Tx K mg) : FnOk P w K mg base (L2.CX P w) 6 T.f_Running_iadd_.a T.f_Running_iadd_.fd ["self", "other"] (spIAdd T.k_Word.C T.k_Running.C T.e_BadWord.C) := by
  refine T.f_Running_iadd_.F.okX sc_Running_iadd_ (fun vs H Q E h => ?_) (fun cdv A outer s H vs Q E hr h => ?_)
  · obtain ⟨r, l, w, ns, sv, y, res, rfl, _⟩ := h
    rfl
  · obtain ⟨r, l, w, ns, sv, y, res, rfl, R, S, nf, k⟩ := h
    refine ⟨_, (pss_cons (ps_expr (pe_meth (pv 0) T.k_Running.cl T.f_Running_add.M (ok_Running_add T) (hr.mono (by decide)) (bd_Running_add T) .nil (passes_call (takes_of rfl rfl rfl rfl) fun _ _ _ _ z => z) (pa_cons (pv 1) pa_nil)))
      (pss_one (ps_ret (pv 0)))), ?_⟩
    obtain ⟨⟨dr, hr0⟩, hl, w1, w64, bd, few⟩ := id R

    refine ⟨_, rfl, r, dr, _, rfl, hr0, (rf_no (by decide +kernel) (by decide +kernel) (by decide +kernel) (by decide +kernel)), ?_⟩
    refine ⟨_, rfl, r, l, w, ns, sv, y, res, rfl, R, S, nf, ?_⟩
    cases res with
    | val v => exact fun H1 R1 t1 => ⟨_, rfl, k H1 R1 t1⟩
    | unlike w' => exact k
    | bad => exact k
theorem ok_Running_total (T : Tx K mg) : FnOk P w K mg base CX0 6 T.f_Running_total.a T.f_Running_total.fd ["self"] (spTotalR T.k_Word.C T.k_Running.C) := by
  refine T.f_Running_total.F.ok sc_Running_total (fun vs H Q E h => ?_) (fun cdv A outer s H vs Q E hr h => ?_)
  · obtain ⟨r, l, w, ns, sv, rfl, _⟩ := h
    rfl
  · obtain ⟨r, l, w, ns, sv, rfl, R, k⟩ := h
    refine ⟨_, (pss_one (ps_ret (pe_make (mk_Word T) (ok_Word_init_ T) (hr.mono (by decide)) (by rfl) T.k_Word.m (bd_Word_init_ T) .nil pass0 (pa_cons (pe_fld (pv 0) rfl) (pa_cons (pe_call (ok_carried_round T) (hr.mono (by decide)) (by rfl) T.f_carried_round.m T.f_carried_round.F.kp (bd_carried_round T) .nil pass0 (pa_cons (pe_fld (pv 0) rfl) (pa_cons (pe_fld (pv 0) rfl) pa_nil))) pa_nil))))), ?_⟩
    obtain ⟨⟨dr, hr0⟩, hl, w1, w64, bd, few⟩ := id R

    have cb := cr_bd w1 ns.sum
    refine ⟨_, rfl, r, _, dr, _, _, rfl, hr0, T.k_Running.cl, T.n_Running_width, rf_width, ?_⟩
    refine ⟨_, rfl, r, _, dr, _, _, rfl, hr0, T.k_Running.cl, T.n_Running_width, rf_width, ?_⟩
    refine ⟨_, rfl, r, _, dr, _, _, rfl, hr0, T.k_Running.cl, T.n_Running_plain_sum, rf_sum, w, _, rfl, w1, w64, ?_⟩
    exact mk_word w1 w64 cb.1 cb.2 k
theorem ok_Running_ascending (T : Tx K mg) : FnOk P w K mg base CX0 6 T.f_Running_ascending.a T.f_Running_ascending.fd ["self"] (spAscR T.k_Word.C T.k_Running.C) := by
  refine T.f_Running_ascending.F.ok sc_Running_ascending (fun vs H Q E h => ?_) (fun cdv A outer s H vs Q E hr h => ?_)
  · obtain ⟨r, l, w, ns, sv, rfl, _⟩ := h
    rfl
  · obtain ⟨r, l, w, ns, sv, rfl, R, k⟩ := h
    refine ⟨_, (pss_one (ps_ret (pe_lc (own := [("value", 1)]) (g := gName 1) (tt := tYes) (by rfl) sc_Running_ascending.nd (pi_list (pe_callBK TzSort.cr_sortedInt (by rfl) T.b_sorted (by decide +kernel) (pa_cons (pe_fld (pv 0) rfl) pa_nil) (pk_cons (pe_bltn (v := .ty "int") (by rfl) T.b_int (by decide +kernel) rfl) pk_nil))) (blkOk_by (own := [("value", 1)]) (N := ["self", "value"]) (sc := defScope s_Running_ascending) (by decide +kernel)) (fun _ _ _ _ _ => pg_name (i := 1) sc_Running_ascending.nd rfl (Or.inl rfl)) (fun _ _ _ _ _ => pts_nil) (fun _ _ _ _ _ => (pe_make (mk_Word T) (ok_Word_init_ T) (hr.mono (by decide)) (by rfl) T.k_Word.m (bd_Word_init_ T) .nil pass0 (pa_cons (pe_fldK (K := K) rfl (pv 0) rfl) (pa_cons (pv 1) pa_nil))))))), ?_⟩
    obtain ⟨⟨dr, hr0⟩, hl, w1, w64, bd, few⟩ := id R

    refine ⟨_, rfl, r, _, dr, _, _, rfl, hr0, T.k_Running.cl, T.n_Running_kept, rf_kept, l, ns, rfl, rfl, sq hl, by omega, fun ss S pm asc nS => ?_⟩
    (generalize g_H1 : upd _ S _ = H1); have hS := gat g_H1; have e1 := gex g_H1 nS; clear g_H1
    have hr1 := e1 _ _ hr0
    have lss := pm.length_eq
    have bs : ∀ n ∈ ss, 0 ≤ n ∧ n ≤ mw w := fun n hn => bd n (pm.mem_iff.mp hn)
    refine ⟨S, rfl, ⟨_, sq hS⟩, fun D nD => lc_list (K := K) (a := S) (xs := ss.map V.int) (fun i H' => Ex H1 H' ∧ ∃ ys : List Addr, H' D = some (.lst (ys.map V.ref)) ∧ Ws T.k_Word.C H' w ys (ss.take i) ∧ ys.length = i) ⟨Ex.new nD, [], upd_same, .nil, rfl⟩ (fun i H' _ y => sq (y.1 _ _ hS)) ?_ ?_⟩
    · rintro j y H11 hy ⟨e11, ys, hD, WY, ly⟩
      have jl : j < ss.length := by
        have := (List.getElem?_eq_some_iff.mp hy).1
        rwa [List.length_map] at this
      rw [List.getElem?_map, List.getElem?_eq_getElem jl] at hy
      have ey := (Option.some.inj hy).symm
      subst ey
      have vb := bs _ (List.getElem_mem jl)
      refine ⟨rfl, yes_go ?_⟩
      refine ⟨_, rfl, r, _, dr, _, _, rfl, e11 _ _ hr1, T.k_Running.cl, T.n_Running_width, rf_width, _, rfl, fun p2 q2 n2 m2 _ => mk_word1 w1 w64 vb.1 vb.2 n2 m2 fun H12 e12 W12 => ⟨rfl, ?_⟩⟩
      have hD12 := e12 _ _ hD
      have st : ∀ x v, WordAt T.k_Word.C H12 x w v → WordAt T.k_Word.C (upd H12 D (.lst (ys.map V.ref ++ [V.ref p2]))) x w v := fun x v W => W.stay (y := .non) (Stay.upd ⟨_, hD12⟩ (by intro q; cases q))
      refine ⟨_, hD12, ?_, fun a o h => ?_, ys ++ [p2], ?_, ?_, ?_⟩
      · rw [List.length_map]
        exact Nat.lt_of_lt_of_le (show ys.length < 200 by omega) (by decide)
      · rw [upd_ne (ne_of_none h nD)]
        exact e12 _ _ (e11 _ _ h)
      · rw [upd_same, List.map_append]
        rfl
      · rw [List.take_add_one, List.getElem?_eq_getElem jl]
        exact ((WY.fw fun x v W => W.ex e12).fw st).snoc (st _ _ W12)
      · rw [List.length_append, ly]
        rfl

    · rintro H11 ⟨e11, ys, hD, WY, ly⟩
      rw [List.length_map, List.take_of_length_le (Nat.le_refl _)] at WY
      exact k D H11 ys ss (back e1 nD) (e1.trans e11) hD WY ⟨pm, asc⟩
theorem ok_Saved_init_ (T : Tx K mg) : FnOk P w K mg base CX0 1 T.f_Saved_init_.a T.f_Saved_init_.fd ["self", "kept", "plain_sum", "older"] (spSavedInit T.k_Saved.C) := by
  refine T.f_Saved_init_.F.ok sc_Saved_init_ (fun vs H Q E h => ?_) (fun cdv A outer s H vs Q E hr h => ?_)
  · obtain ⟨p, dx, l, s, sv, rfl, _⟩ := h
    rfl
  · obtain ⟨p, dx, l, s, sv, rfl, hp, k⟩ := h
    refine ⟨_, (pss_cons (ps_fld (pv 0) (pv 1) rfl)
      (pss_cons (ps_fld (pv 0) (pv 2) rfl)
      (pss_one (ps_fld (pv 0) (pv 3) rfl)))), ?_⟩

    refine ⟨_, rfl, _, rfl, p, _, dx, _, rfl, hp, T.k_Saved.cl, T.n_Saved_kept, by show 0 < 1000; decide, ?_⟩
    refine ⟨_, rfl, _, rfl, p, _, dx, _, rfl, upd_same, T.k_Saved.cl, T.n_Saved_plain_sum, by show 1 < 1000; decide, ?_⟩
    refine ⟨_, rfl, _, rfl, p, _, dx, _, rfl, upd_same, T.k_Saved.cl, T.n_Saved_older, by show 2 < 1000; decide, ?_⟩
    refine k _ ?_ fun b o hb bp => ?_
    · rw [upd_same, sf_made]
    · rw [upd_ne bp, upd_ne bp, upd_ne bp]
      exact hb
theorem ok_Running_trial (T : Tx K mg) : FnOk P w K mg base CX0 1 T.f_Running_trial.a T.f_Running_trial.fd ["self"] (spTrial T.k_Running.C) := by
  refine T.f_Running_trial.F.ok sc_Running_trial (fun vs H Q E h => ?_) (fun cdv A outer s H vs Q E hr h => ?_)
  · obtain ⟨r, l, w, ns, sv, rfl, _⟩ := h
    rfl
  · obtain ⟨r, l, w, ns, sv, rfl, R, k⟩ := h
    refine ⟨_, (pss_one (ps_ret (pv 0))), ?_⟩

    exact ⟨_, rfl, k⟩
theorem ok_Running_enter_ (T : Tx K mg) : FnOk P w K mg base CX0 3 T.f_Running_enter_.a T.f_Running_enter_.fd ["self"] (spEnter T.k_Running.C T.k_Saved.C) := by
  refine T.f_Running_enter_.F.ok sc_Running_enter_ (fun vs H Q E h => ?_) (fun cdv A outer s H vs Q E hr h => ?_)
  · obtain ⟨r, l, w, ns, sv, rfl, _⟩ := h
    rfl
  · obtain ⟨r, l, w, ns, sv, rfl, R, k⟩ := h
    refine ⟨_, (pss_cons (ps_fld (pv 0) (pe_make (mk_Saved T) (ok_Saved_init_ T) (hr.mono (by decide)) (by rfl) T.k_Saved.m (bd_Saved_init_ T) .nil pass0 (pa_cons (pe_fld (pv 0) rfl) (pa_cons (pe_fld (pv 0) rfl) (pa_cons (pe_fld (pv 0) rfl) pa_nil)))) rfl)
      (pss_one (ps_fld (pv 0) (pe_callTy call_list_of (by rfl) T.b_list (by decide +kernel) (pa_cons (pe_fld (pv 0) rfl) pa_nil)) rfl))), ?_⟩
    obtain ⟨⟨dr, hr0⟩, hl, w1, w64, bd, few⟩ := id R

    refine ⟨_, rfl, r, _, dr, _, _, rfl, hr0, T.k_Running.cl, T.n_Running_kept, rf_kept, _, rfl, r, _, dr, _, _, rfl, hr0, T.k_Running.cl, T.n_Running_plain_sum, rf_sum, _, rfl, r, _, dr, _, _, rfl, hr0, T.k_Running.cl, T.n_Running_saved, rf_saved, fun sd q n m ne => ⟨sd, q, l, _, sv, rfl, upd_same, fun H1 h1 k1 => ⟨rfl, ?_⟩⟩⟩
    have e1 : Ex H H1 := fun b o h => k1 b o (by rw [upd_ne (ne_of_none h n), upd_ne (ne_of_none h m)]; exact h) (ne_of_none h n)
    have hr1 := e1 _ _ hr0
    refine ⟨_, rfl, r, _, dr, _, rfl, hr1, T.k_Running.cl, T.n_Running_saved, by show 4 < 1000; decide, ?_⟩
    rw [rf_putS]
    (generalize g_H2 : upd _ r _ = H2); have h2 := gat g_H2; have f2 := gfw g_H2; clear g_H2
    refine ⟨_, rfl, r, _, dr, _, _, rfl, h2, T.k_Running.cl, T.n_Running_kept, rf_kept, l, _, rfl, .inl (sq (f2 _ _ R.ne.symm (e1 _ _ hl))), fun lk nlk => ?_⟩
    (generalize g_H3 : upd _ lk _ = H3); have hl3 := gat g_H3; have e3 := gex g_H3 nlk; clear g_H3
    have h3 := e3 _ _ h2
    refine ⟨_, rfl, r, _, dr, _, rfl, h3, T.k_Running.cl, T.n_Running_kept, by show 4 < 1000; decide, ?_⟩
    rw [rf_putK]
    (generalize g_H4 : upd _ r _ = H4); have h4 := gat g_H4; have f4 := gfw g_H4; clear g_H4
    have rlk : lk ≠ r := fun z => by
      rw [z, h2] at nlk
      cases nlk
    have nl0 : H lk = none := by
      cases h : H lk with
      | none => rfl
      | some o =>
        have z := f2 _ _ rlk (e1 _ _ h)
        rw [z] at nlk
        cases nlk
    have rs : sd ≠ r := fun z => ne_of_none hr0 n z.symm
    have hs2 := f2 _ _ rs h1
    have ls : lk ≠ sd := fun z => by
      rw [z, hs2] at nlk
      cases nlk
    have f14 : Fw r H H4 := (e1.fw.trans f2).trans (e3.fw.trans f4)
    exact k H4 lk sd nl0 n ⟨⟨dr, h4⟩, f4 _ _ rlk hl3, w1, w64, bd, few⟩ ⟨⟨q, f4 _ _ rs (e3 _ _ hs2)⟩, f14 _ _ R.ne.symm hl⟩ f14 ls
theorem ok_Running_exit_ (T : Tx K mg) : FnOk P w K mg base CX0 1 T.f_Running_exit_.a T.f_Running_exit_.fd ["self", "kind", "value", "trace"] (spExit T.k_Running.C T.k_Saved.C) := by
  refine T.f_Running_exit_.F.ok sc_Running_exit_ (fun vs H Q E h => ?_) (fun cdv A outer s H vs Q E hr h => ?_)
  · obtain ⟨r, l, sd, w, ns, sv, a, b, c, rfl, _⟩ := h
    rfl
  · obtain ⟨r, l, sd, w, ns, sv, a, b, c, rfl, U, k⟩ := h
    refine ⟨_, (pss_cons (ps_set (i := 4) sc_Running_exit_.nd rfl (Or.inl rfl) (pe_fld (pv 0) rfl))
      (pss_cons (ps_fld (pv 0) (pe_fld (pv 4) rfl) rfl)
      (pss_cons (ps_fld (pv 0) (pe_fld (pv 4) rfl) rfl)
      (pss_one (ps_fld (pv 0) (pe_fld (pv 4) rfl) rfl))))), ?_⟩

    obtain ⟨⟨l2, ns2, R⟩, ⟨⟨ds, hs⟩, hl⟩, bd, few⟩ := U
    obtain ⟨⟨dr, hr0⟩, hl2, w1, w64, _⟩ := id R
    have nr : sd ≠ r := fun z => by
      rw [z, hr0] at hs
      injection hs with e
      injection e with _ _ e
      exact absurd (congrArg List.length e) (by show ¬ (4 : Nat) = 3; decide)
    have lr : l ≠ r := fun z => by
      rw [z, hr0] at hl
      cases hl
    refine ⟨_, rfl, r, _, dr, _, _, rfl, hr0, T.k_Running.cl, T.n_Running_saved, rf_saved, ?_⟩
    refine ⟨_, rfl, sd, _, ds, _, _, rfl, hs, T.k_Saved.cl, T.n_Saved_kept, sf_kept, _, rfl, r, _, dr, _, rfl, hr0, T.k_Running.cl, T.n_Running_kept, by show 4 < 1000; decide, ?_⟩
    rw [rf_putK]
    (generalize g_H1 : upd _ r _ = H1); have h1 := gat g_H1; have f1 := gfw g_H1; clear g_H1
    have hs1 := f1 _ _ nr hs
    refine ⟨_, rfl, sd, _, ds, _, _, rfl, hs1, T.k_Saved.cl, T.n_Saved_plain_sum, sf_sum, _, rfl, r, _, dr, _, rfl, h1, T.k_Running.cl, T.n_Running_plain_sum, by show 4 < 1000; decide, ?_⟩
    rw [rf_put]
    (generalize g_H2 : upd _ r _ = H2); have h2 := gat g_H2; have f2 := gfw g_H2; clear g_H2
    have hs2 := f2 _ _ nr hs1
    refine ⟨_, rfl, sd, _, ds, _, _, rfl, hs2, T.k_Saved.cl, T.n_Saved_older, sf_older, _, rfl, r, _, dr, _, rfl, h2, T.k_Running.cl, T.n_Running_saved, by show 4 < 1000; decide, ?_⟩
    rw [rf_putS]
    (generalize g_H3 : upd _ r _ = H3); have h3 := gat g_H3; have f3 := gfw g_H3; clear g_H3
    have f13 : Fw r H H3 := (f1.trans f2).trans f3
    exact k H3 ⟨⟨dr, h3⟩, f13 _ _ lr hl, w1, w64, bd, few⟩ f13
theorem okW_Running_exit_ (T : Tx K mg) : TzWith.FnW P w K mg base 1 T.f_Running_exit_.a T.f_Running_exit_.fd ["self", "kind", "value", "trace"] (spExit T.k_Running.C T.k_Saved.C) := by
  refine TzWith.okW T.f_Running_exit_.F sc_Running_exit_ (fun vs H Q E h => ?_) (fun cdv A outer s H vs Q p hr h => ?_)
  · obtain ⟨r, l, sd, w, ns, sv, a, b, c, rfl, _⟩ := h
    rfl
  · obtain ⟨r, l, sd, w, ns, sv, a, b, c, rfl, U, k⟩ := h
    refine ⟨_, (pss_cons (ps_set (i := 4) sc_Running_exit_.nd rfl (Or.inl rfl) (pe_fld (pv 0) rfl))
      (pss_cons (ps_fld (pv 0) (pe_fld (pv 4) rfl) rfl)
      (pss_cons (ps_fld (pv 0) (pe_fld (pv 4) rfl) rfl)
      (pss_one (ps_fld (pv 0) (pe_fld (pv 4) rfl) rfl))))), ?_⟩

    obtain ⟨⟨l2, ns2, R⟩, ⟨⟨ds, hs⟩, hl⟩, bd, few⟩ := U
    obtain ⟨⟨dr, hr0⟩, hl2, w1, w64, _⟩ := id R
    have nr : sd ≠ r := fun z => by
      rw [z, hr0] at hs
      injection hs with e
      injection e with _ _ e
      exact absurd (congrArg List.length e) (by show ¬ (4 : Nat) = 3; decide)
    have lr : l ≠ r := fun z => by
      rw [z, hr0] at hl
      cases hl
    refine ⟨_, rfl, r, _, dr, _, _, rfl, hr0, T.k_Running.cl, T.n_Running_saved, rf_saved, ?_⟩
    refine ⟨_, rfl, sd, _, ds, _, _, rfl, hs, T.k_Saved.cl, T.n_Saved_kept, sf_kept, _, rfl, r, _, dr, _, rfl, hr0, T.k_Running.cl, T.n_Running_kept, by show 4 < 1000; decide, ?_⟩
    rw [rf_putK]
    (generalize g_H1 : upd _ r _ = H1); have h1 := gat g_H1; have f1 := gfw g_H1; clear g_H1
    have hs1 := f1 _ _ nr hs
    refine ⟨_, rfl, sd, _, ds, _, _, rfl, hs1, T.k_Saved.cl, T.n_Saved_plain_sum, sf_sum, _, rfl, r, _, dr, _, rfl, h1, T.k_Running.cl, T.n_Running_plain_sum, by show 4 < 1000; decide, ?_⟩
    rw [rf_put]
    (generalize g_H2 : upd _ r _ = H2); have h2 := gat g_H2; have f2 := gfw g_H2; clear g_H2
    have hs2 := f2 _ _ nr hs1
    refine ⟨_, rfl, sd, _, ds, _, _, rfl, hs2, T.k_Saved.cl, T.n_Saved_older, sf_older, _, rfl, r, _, dr, _, rfl, h2, T.k_Running.cl, T.n_Running_saved, by show 4 < 1000; decide, ?_⟩
    rw [rf_putS]
    (generalize g_H3 : upd _ r _ = H3); have h3 := gat g_H3; have f3 := gfw g_H3; clear g_H3
    have f13 : Fw r H H3 := (f1.trans f2).trans f3
    exact k H3 ⟨⟨dr, h3⟩, f13 _ _ lr hl, w1, w64, bd, few⟩ f13
theorem gives_tried {X : Cx} (T : Tx X.K X.mg) {q : Str} {k : Nat} (hk : 3 ≤ k) : TzLam.GivesM X k ["self", "ask"] "Running.tried" (defScope s_Running_tried) T.f_Running_tried.a (defBody s_Running_tried) "ask" q (TTtried T.k_Running.C T.k_Saved.C) := by
  intro cdg f c' r s H Q E tl hr act hc want
  refine ⟨_, pss_one (TzWith.ps_with (te := fun W z J Q0 => ∃ Ech : XK, (∀ k d z J, Ech k d J → W k d z J) ∧ z[1]? = some (some (.ref f)) ∧ J c' = some (LamX.CodeO c' q) ∧ ∃ Q1 : VK, tl Ech J Q1 ∧ ∀ v J2, Q1 v J2 → Q0 v J2) rfl rfl rfl (takes_of rfl rfl rfl rfl)
    (by exact pe_meth0 (pv 0) T.k_Running.cl T.f_Running_trial.M (ok_Running_trial T) (hr.mono (by omega)) (bd_Running_trial T) .nil pass0)
    (fun W ps out tk _ => ⟨fun pins s' z J Q I ⟨Ech, hW, h1, h2, Q1, h3, h4⟩ => (pe_up (act W ps out Ech _ _ tk hW)).run pins s' z J Q I ⟨Q1, ⟨h1, h2, h3⟩, h4⟩⟩)
    (ok_Running_enter_ T) (hr.mono (by omega)) T.f_Running_enter_.M (bd_Running_enter_ T) (ok_Running_exit_ T) (okW_Running_exit_ T) (hr.mono (by omega)) T.f_Running_exit_.M (bd_Running_exit_ T)), ?_⟩
  obtain ⟨l, w, ns, sv, R, go⟩ := want
  obtain ⟨⟨dr, hr0⟩, hl, w1, w64, bd, few⟩ := id R
  refine ⟨_, rfl, r, dr, _, rfl, hr0, (rf_no (by decide +kernel) (by decide +kernel) (by decide +kernel) (by decide +kernel)), r, l, w, ns, sv, rfl, R, ?_⟩
  refine ⟨r, dr, _, rfl, hr0, r, l, w, ns, sv, rfl, R, fun H1 l1 sd n1 n2 R1 S1 f1 ne => ?_⟩
  have nc : c' ≠ r := ne_of hc hr0 (by intro z; unfold LamX.CodeO at z; cases z)
  refine ⟨fun k d H2 => (∃ v : V, RelV v k) ∧ Under T.k_Running.C T.k_Saved.C H2 r l sd w ns sv ∧ ∀ H3, RunAt T.k_Running.C H3 r l w ns sv → Fw r H2 H3 → E k d H3, fun k d z J h => ?_, rfl, f1 _ _ nc hc, ?_⟩
  · obtain ⟨⟨v, rv⟩, U, go⟩ := h
    exact ⟨v, rv, fun e t => ⟨r, l, sd, w, ns, sv, v, e, t, rfl, U, fun H3 R3 f3 => ⟨rfl, go H3 R3 f3⟩⟩⟩
  · exact ⟨_, go l1 sd H1 n1 n2 R1 S1 f1 ne, fun v H2 ⟨U, q⟩ => ⟨r, l, sd, w, ns, sv, .non, .non, .non, rfl, U, fun H3 R3 f3 => q H3 R3 f3⟩⟩
theorem gives_triedK {X : Cx} {K : PySem.W.Frag} {mg : Str → Option Value} (T : Tx K mg) (eK : X.K = K) (eM : X.mg = mg) {q : Str} {k : Nat} (hk : 3 ≤ k) : TzLam.GivesM X k ["self", "ask"] "Running.tried" (defScope s_Running_tried) T.f_Running_tried.a (defBody s_Running_tried) "ask" q (TTtried T.k_Running.C T.k_Saved.C) := by
  subst eK
  subst eM
  exact gives_tried T hk
theorem ok_law_pen (T : Tx K mg) : FnOk P w K mg base CX0 1 T.f_law_pen.a T.f_law_pen.fd ["_law_script"] (spPen K) := by
  refine T.f_law_pen.F.ok sc_law_pen (fun vs H Q E h => ?_) (fun cdv A outer s H vs Q E hr h => ?_)
  · obtain ⟨a, ns, rfl, _⟩ := h
    rfl
  · obtain ⟨a, ns, rfl, hS, hl, k⟩ := h
    refine ⟨_, (pss_one (ps_ret (pe_lst (pa_cons (pe_callTy call_list_of (by rfl) T.b_list (by decide +kernel) (pa_cons (pe_slice sl_list (pv 0) po_none (po_some pe_int)) pa_nil)) (pa_cons pe_int (pa_cons pe_int pa_nil)))))), ?_⟩
    refine ⟨_, rfl, _, rfl, a, _, rfl, hS, fun b nb => ?_⟩
    (generalize g_H1 : upd _ b _ = H1); have hb := gat g_H1; have e1 := gex g_H1 nb; clear g_H1
    refine ⟨b, _, rfl, .inl (sq hb), fun c nc => ?_⟩
    (generalize g_H2 : upd _ c _ = H2); have hc := gat g_H2; have e2 := gex g_H2 nc; clear g_H2
    refine ⟨by show 3 ≤ sizeLine; decide, fun z nz => ?_⟩
    (generalize g_H3 : upd _ z _ = H3); have hz := gat g_H3; have e3 := gex g_H3 nz; clear g_H3
    have ec : cutV (ns.map V.int) none (some 63) = ns.map V.int := by
      unfold cutV
      have h1 : HT.sIx (ns.map V.int).length 0 none = 0 := rfl
      rw [h1, List.drop_zero, List.take_of_length_le]
      rw [List.length_map]
      have h2 : HT.sIx ns.length ns.length (some 63) = min 63 ns.length := cut63 ns.length
      rw [h2]
      omega
    rw [ec] at hc
    refine k z c H3 ⟨⟨0, 0, hz, by omega, by omega, by omega⟩, e3 _ _ hc, ne_of_none hc nz, hl⟩ ((e1.trans e2).trans e3) ?_ ?_
    · exact back (e1.trans e2) nz
    · exact back e1 nc
theorem ok_law_draw (T : Tx K mg) : FnOk P w K mg base CX0 1 T.f_law_draw.a T.f_law_draw.fd ["_law_pen_here", "_law_many"] spDraw := by
  refine T.f_law_draw.F.ok sc_law_draw (fun vs H Q E h => ?_) (fun cdv A outer s H vs Q E hr h => ?_)
  · obtain ⟨z, c, cells, t, many, rfl, _⟩ := h
    rfl
  · obtain ⟨z, c, cells, t, many, rfl, PA, ht, hm0, hm1, k⟩ := h
    obtain ⟨⟨ix, left, hz, i0, it, l0⟩, hc, cz, few⟩ := id PA
    refine ⟨_, (pss_cons (ps_if (pt_cmpR op_gt (pe_ix ix_list (pv 0) pe_int (fun _ _ => rfl)) pe_int (nomark _)) (pss_cons (ps_set (i := 2) sc_law_draw.nd rfl (Or.inl rfl) (pe_op op_mod (pe_callTy call_int1 (by rfl) T.b_int (by decide +kernel) (pa_cons (pe_ix ix_list (pv 0) pe_int (fun _ _ => rfl)) pa_nil)) (pv 1)))
      (pss_cons (ps_asg (pe_op op_fdivW (pe_ix ix_list (pv 0) pe_int (fun _ _ => rfl)) (pv 1)) (pg_sub (pv 0) pe_int set_list))
      (pss_one (ps_ret (pv 2))))) pss_nil)
      (pss_cons (ps_set (i := 3) sc_law_draw.nd rfl (Or.inl rfl) (pe_ix ix_list (pv 0) pe_int (fun _ _ => rfl)))
      (pss_cons (ps_asg (pe_op op_add (pv 3) pe_int) (pg_sub (pv 0) pe_int set_list))
      (pss_cons (ps_set (i := 4) sc_law_draw.nd rfl (Or.inl rfl) (pe_op op_add (pe_op op_mul pe_int (pv 3)) pe_int))
      (Evl.pss_cut (ps_if (pt_cmpR (op_neD hr.units) (pe_ix ix_list (pv 0) pe_int (fun _ _ => rfl)) (pe_lst pa_nil) (nomark _)) (pss_one (ps_set (i := 4) sc_law_draw.nd rfl (Or.inl rfl) (pe_ix ix_list (pe_ix ix_list (pv 0) pe_int (fun _ _ => rfl)) (pe_op op_mod (pe_callTy call_int1 (by rfl) T.b_int (by decide +kernel) (pa_cons (pv 3) pa_nil)) (pe_callB call_len_seq (by rfl) T.b_len (by decide +kernel) (pa_cons (pe_ix ix_list (pv 0) pe_int (fun _ _ => rfl)) pa_nil))) (fun _ _ => rfl)))) pss_nil)
      (Evl.pss_cut (ps_if (PW.pt (pw_and (pt_cmpR op_lt (pv 3) (pe_callB call_len_seq (by rfl) T.b_len (by decide +kernel) (pa_cons (pe_ix ix_list (pv 0) pe_int (fun _ _ => rfl)) pa_nil)) (nomark _)) (pw_and1 (pt_cmpR op_ge (pe_callB call_abs (by rfl) T.b_abs (by decide +kernel) (pa_cons (pv 4) pa_nil)) (pe_op op_pow pe_int pe_int) (nomark _))))) (pss_cons (ps_set (i := 5) sc_law_draw.nd rfl (Or.inl rfl) (pe_op op_add (pe_op op_mul pe_int (pe_op op_sub (pe_callB call_abs (by rfl) T.b_abs (by decide +kernel) (pa_cons (pv 4) pa_nil)) (pe_op op_pow pe_int pe_int))) (pe_callTy call_int1 (by rfl) T.b_int (by decide +kernel) (pa_cons (pe_cmpR op_lt (pv 4) pe_int (nomark _)) pa_nil))))
      (pss_cons (ps_asg (pe_op op_fdivW (pv 5) (pv 1)) (pg_sub (pv 0) pe_int set_list))
      (pss_one (ps_ret (pe_op op_mod (pe_callTy call_int1 (by rfl) T.b_int (by decide +kernel) (pa_cons (pv 5) pa_nil)) (pv 1)))))) pss_nil)
      (pss_cons (ps_set (i := 6) sc_law_draw.nd rfl (Or.inl rfl) (pe_op op_mod (pe_callTy call_int1 (by rfl) T.b_int (by decide +kernel) (pa_cons (pe_op op_pow (pe_op op_add (pe_op op_add (pe_op op_mod (pe_callTy call_int1 (by rfl) T.b_int (by decide +kernel) (pa_cons (pv 4) pa_nil)) pe_int) (pe_op op_mul pe_int (pv 3))) pe_int) pe_int) pa_nil)) pe_int))
      (pss_cons (ps_set (i := 6) sc_law_draw.nd rfl (Or.inl rfl) (pe_op op_mod (pe_callTy call_int1 (by rfl) T.b_int (by decide +kernel) (pa_cons (pe_op op_pow (pe_op op_add (pe_op op_add (pe_op op_mul (pv 6) (pe_op op_add (pe_op op_mul pe_int (pv 3)) pe_int)) (pe_op op_mul (pe_op op_mul pe_int (pv 3)) (pv 3))) pe_int) pe_int) pa_nil)) pe_int))
      (pss_one (ps_ret (pe_op op_mod (pe_callTy call_int1 (by rfl) T.b_int (by decide +kernel) (pa_cons (pe_op op_fdiv (pv 6) pe_int) pa_nil)) (pv 1)))))))))))), ?_⟩
    refine ⟨_, rfl, z, _, 2, .int left, rfl, rfl, sq hz, rfl, _, _, rfl, rfl, _, rfl, ?_⟩
    have divw : CDivW left many := wide_div hm0 (b := 20) (by omega) (by decide) (by decide)
    refine ite2 (fun _ => ?_) (fun _ => ?_)
    · -- a digit of a great cell
      refine ⟨_, rfl, z, _, 2, .int left, rfl, rfl, sq hz, rfl, .inl ⟨_, rfl, ?_⟩⟩
      refine ⟨_, rfl, _, _, rfl, rfl, hm0, ?_⟩
      refine ⟨_, rfl, z, _, 2, .int left, rfl, rfl, sq hz, rfl, _, rfl, _, _, rfl, rfl, divw, ?_⟩
      refine ⟨_, rfl, z, _, 2, 2, rfl, rfl, hz, rfl, ?_⟩
      refine ⟨_, rfl, ?_⟩
      refine k _ _ (emod_bd hm0).1 (emod_bd hm0).2 ⟨⟨ix, left / many, upd_same, i0, by omega, Int.ediv_nonneg l0 (by omega)⟩, ?_, cz, few⟩ Fw.at
      rw [upd_ne cz]
      exact hc
    · refine ⟨_, rfl, z, _, 1, .int ix, rfl, rfl, sq hz, rfl, ?_⟩
      refine ⟨_, rfl, _, _, rfl, rfl, _, rfl, z, _, 1, 1, rfl, rfl, hz, rfl, ?_⟩
      refine ⟨_, rfl, _, _, rfl, rfl, .inl ⟨by omega, by omega⟩, _, _, rfl, rfl, ?_⟩
      (generalize g_H1 : upd _ z _ = H1); have z1 := gat g_H1; have f1 := gfw g_H1; clear g_H1
      have z1 : H1 z = some (.lst [.ref c, .int (ix + 1), .int left]) := z1
      have c1 : H1 c = some (.lst (cells.map V.int)) := f1 _ _ cz hc
      -- the cell, whatever it is
      refine ⟨fun σ' H' => ∃ cell : Int, σ' = [some (.ref z), some (.int many), none, some (.int ix), some (.int cell), none, none] ∧ H' z = some (.lst [.ref c, .int (ix + 1), .int left]) ∧ H' c = some (.lst (cells.map V.int)) ∧ Fw z H H', ?_, ?_⟩
      · refine ⟨_, rfl, z, _, 0, .ref c, rfl, rfl, sq z1, rfl, ?_⟩
        refine ⟨by show 0 ≤ sizeLine; decide, fun b nb => ?_⟩
        (generalize g_H2 : upd _ b _ = H2); have hb := gat g_H2; have e2 := gex g_H2 nb; clear g_H2
        refine ⟨_, _, Dp.lst (sq (e2 _ _ c1)) (dp_ints cells), Dp.lst (sq hb) DpAll.nil, shaped_ints cells, rfl, _, rfl, ?_⟩
        cases hcl : cells with
        | nil =>
          refine iteF ?_
          exact ⟨_, rfl, e2 _ _ z1, by rw [← hcl]; exact e2 _ _ c1, f1.trans e2.fw⟩
        | cons y ys =>
          refine iteT ?_
          rw [← hcl]
          have hpos : 0 < cells.length := by rw [hcl]; exact Nat.succ_pos _
          have hlen : (0 : Int) < ((cells.map V.int).length : Nat) := by rw [List.length_map]; omega
          obtain ⟨j, hj⟩ : ∃ j : Nat, ix % ((cells.map V.int).length : Nat) = (j : Int) := ⟨(ix % ((cells.map V.int).length : Nat)).toNat, by rw [Int.toNat_of_nonneg (emod_bd hlen).1]⟩
          have hjl : j < cells.length := by
            have h1 := (emod_bd (a := ix) hlen).2
            rw [hj, List.length_map] at h1
            omega
          obtain ⟨v, hv⟩ := cell_get hjl
          refine ⟨_, rfl, z, _, 0, .ref c, rfl, rfl, sq (e2 _ _ z1), rfl, ?_⟩
          refine ⟨_, rfl, .inl ⟨_, rfl, ?_⟩⟩
          refine ⟨_, rfl, z, _, 0, .ref c, rfl, rfl, sq (e2 _ _ z1), rfl, c, _, rfl, .inl (sq (e2 _ _ c1)), _, _, rfl, rfl, hlen, ?_⟩
          refine ⟨c, _, _, .int v, rfl, rfl, sq (e2 _ _ c1), by rw [hj]; exact atI_nat hv, ?_⟩
          exact ⟨v, rfl, e2 _ _ z1, e2 _ _ c1, f1.trans e2.fw⟩
      · rintro σ' H2 ⟨cell, rfl, z2, c2, f2⟩
        have lenc : (((cells.map V.int).length : Nat) : Int) ≤ 63 := by rw [List.length_map]; omega
        have ix1 : ix ≤ 100000 := by omega
        refine ⟨fun σ' H' => σ' = [some (.ref z), some (.int many), none, some (.int ix), some (.int cell), none, none] ∧ H' = H2, ?_, ?_⟩
        · refine ⟨_, rfl, _, rfl, z, _, 0, .ref c, rfl, rfl, sq z2, rfl, c, _, rfl, .inl (sq c2), _, _, rfl, rfl, _, rfl, ?_⟩
          refine ite2 (fun _ => ?_) (fun _ => iteF ⟨rfl, rfl⟩)
          refine ⟨_, rfl, _, rfl, _, _, rfl, rfl, ⟨by decide, by decide, by decide⟩, _, _, rfl, rfl, _, rfl, ?_⟩
          refine ite2 (fun hg => ?_) (fun _ => ⟨rfl, rfl⟩)
          have hg := of_decide_eq_true hg
          rw [pow18] at hg
          -- a great cell
          refine ⟨_, rfl, _, rfl, _, _, rfl, rfl, ⟨by decide, by decide, by decide⟩, _, _, rfl, rfl, _, _, rfl, rfl, .inl ⟨by decide, by decide⟩, _, rfl, _, _, rfl, rfl, .inr ⟨_, rfl, _, _, rfl, rfl, ?_⟩⟩
          dsimp only
          rw [pow18]
          have g0 : 0 ≤ 2 * ((if cell < 0 then -cell else cell) - 1000000000000000000) + (if decide (cell < 0) = true then 1 else 0) := by
            split at hg <;> split <;> omega
          generalize 2 * ((if cell < 0 then -cell else cell) - 1000000000000000000) + (if decide (cell < 0) = true then 1 else 0) = great at g0
          refine ⟨_, rfl, _, rfl, _, _, rfl, rfl, divw, _, rfl, z, _, 2, 2, rfl, rfl, z2, rfl, ?_⟩
          (generalize g_H3 : upd _ z _ = H3); have z3 := gat g_H3; have f3 := gfw g_H3; clear g_H3
          refine ⟨_, rfl, .inl ⟨_, rfl, _, rfl, _, _, rfl, rfl, hm0, ?_⟩⟩
          exact k _ _ (emod_bd hm0).1 (emod_bd hm0).2 ⟨⟨ix + 1, great / many, z3, by omega, by omega, Int.ediv_nonneg g0 (by omega)⟩, f3 _ _ cz c2, cz, few⟩ (f2.trans f3)
        · rintro σ' H' ⟨rfl, rfl⟩
          refine ⟨_, rfl, .inl ⟨_, rfl, _, _, rfl, rfl, by show (0 : Int) < 2147483563; decide, _, rfl, _, _, rfl, rfl, .inl ⟨by decide, by decide⟩, _, _, rfl, rfl, _, _, rfl, rfl, _, _, rfl, rfl,
            draw_pw5 i0 ix1 (by decide) (by decide) (by decide) (by decide), .inl ⟨_, rfl, _, _, rfl, rfl, by show (0 : Int) < 2147483629; decide, ?_⟩⟩⟩
          dsimp only
          generalize hm : (_ % 2147483629 : Int) = m
          have mb : 0 ≤ m ∧ m < 2147483629 := by rw [← hm]; exact emod_bd (by decide)
          refine ⟨_, rfl, _, rfl, _, _, rfl, rfl, .inl ⟨by decide, by decide⟩, _, _, rfl, rfl, _, _, rfl, rfl, .inl ⟨by omega, by omega⟩, _, rfl, _, _, rfl, rfl, .inl ⟨by decide, by decide⟩, _, rfl, _, _, rfl, rfl, .inr ⟨by omega, by omega⟩,
            _, _, rfl, rfl, _, _, rfl, rfl, _, _, rfl, rfl, draw_pw3 i0 ix1 mb.1 mb.2 (by decide) (by decide) (by decide) (by decide) (by decide) (by decide), .inl ⟨_, rfl, _, _, rfl, rfl, by show (0 : Int) < 2147483587; decide, ?_⟩⟩
          dsimp only
          generalize (_ % 2147483587 : Int) = m2
          refine ⟨_, rfl, _, _, rfl, rfl, ⟨by decide, by decide⟩, .inl ⟨_, rfl, _, rfl, _, _, rfl, rfl, hm0, ?_⟩⟩
          exact k _ _ (emod_bd hm0).1 (emod_bd hm0).2 ⟨⟨ix + 1, left, z2, by omega, by omega, l0⟩, c2, cz, few⟩ f2
theorem ok_law_width (T : Tx K mg) : FnOk P w K mg base CX0 2 T.f_law_width.a T.f_law_width.fd ["_law_pen_here"] spWidth := by
  refine T.f_law_width.F.ok sc_law_width (fun vs H Q E h => ?_) (fun cdv A outer s H vs Q E hr h => ?_)
  · obtain ⟨z, c, cells, t, rfl, _⟩ := h
    rfl
  · obtain ⟨z, c, cells, t, rfl, PA, ht, k⟩ := h
    refine ⟨_, (pss_one (ps_ret (pe_ix ix_list (pe_lst (pa_cons pe_int (pa_cons pe_int (pa_cons pe_int (pa_cons pe_int (pa_cons pe_int (pa_cons pe_int (pa_cons pe_int (pa_cons pe_int (pa_cons pe_int (pa_cons (pe_op op_add pe_int (pe_call (ok_law_draw T) (hr.mono (by decide)) (by rfl) T.f_law_draw.m T.f_law_draw.F.kp (bd_law_draw T) .nil pass0 (pa_cons (pv 0) (pa_cons pe_int pa_nil)))) pa_nil))))))))))) (pe_call (ok_law_draw T) (hr.mono (by decide)) (by rfl) T.f_law_draw.m T.f_law_draw.F.kp (bd_law_draw T) .nil pass0 (pa_cons (pv 0) (pa_cons pe_int pa_nil))) (fun _ _ => rfl)))), ?_⟩
    refine ⟨_, rfl, z, c, cells, t, 64, rfl, PA, by omega, by decide, by decide, fun n H1 n0 n1 P1 f1 => ?_⟩
    refine ⟨_, _, rfl, rfl, by show 10 ≤ sizeLine; decide, fun b nb => ?_⟩
    (generalize g_H2 : upd _ b _ = H2); have hb := gat g_H2; have e2 := gex g_H2 nb; clear g_H2
    refine ⟨_, rfl, z, c, cells, t + 1, 10, rfl, P1.ex e2, by omega, by decide, by decide, fun j H3 j0 j1 P3 f3 => ?_⟩
    have bz : b ≠ z := by
      obtain ⟨⟨i, l, h1, _⟩, _⟩ := P1
      exact (ne_of_none h1 nb).symm
    obtain ⟨j, rfl⟩ : ∃ i : Nat, j = (i : Int) := ⟨j.toNat, by omega⟩
    have fin : ∀ m : Int, ([V.int 1, .int 2, .int 3, .int 4, .int 7, .int 8, .int 16, .int 63, .int 64, .int (1 + n)] : List V)[j]? = some (.int m) → 1 ≤ m → m ≤ 64 → rIxL K (.ref b) (.int j) H3 fun x H' => Q x H' := fun m hm h1 h2 =>
      ⟨b, _, _, _, rfl, rfl, sq (f3 _ _ bz hb), atI_nat hm, k m H3 h1 h2 P3 ((f1.trans e2.fw).trans f3)⟩
    match j, j1 with
    | 0, _ => exact fin 1 rfl (by decide) (by decide)
    | 1, _ => exact fin 2 rfl (by decide) (by decide)
    | 2, _ => exact fin 3 rfl (by decide) (by decide)
    | 3, _ => exact fin 4 rfl (by decide) (by decide)
    | 4, _ => exact fin 7 rfl (by decide) (by decide)
    | 5, _ => exact fin 8 rfl (by decide) (by decide)
    | 6, _ => exact fin 16 rfl (by decide) (by decide)
    | 7, _ => exact fin 63 rfl (by decide) (by decide)
    | 8, _ => exact fin 64 rfl (by decide) (by decide)
    | 9, _ => exact fin (1 + n) rfl (by omega) (by omega)
    | j + 10, h => exact absurd h (by omega)
theorem ok_law_value (T : Tx K mg) : FnOk P w K mg base CX0 2 T.f_law_value.a T.f_law_value.fd ["_law_pen_here", "_law_width_here"] spValue := by
  refine T.f_law_value.F.ok sc_law_value (fun vs H Q E h => ?_) (fun cdv A outer s H vs Q E hr h => ?_)
  · obtain ⟨z, c, cells, t, wd, rfl, _⟩ := h
    rfl
  · obtain ⟨z, c, cells, t, wd, rfl, PA, ht, w1, w64, k⟩ := h
    refine ⟨_, (pss_cons (ps_set (i := 2) sc_law_value.nd rfl (Or.inl rfl) (pe_op op_sub (pe_op op_shl pe_int (pv 1)) pe_int))
      (pss_cons (ps_par (i := 3) (j := 4) (by rfl) sc_law_value.nd rfl rfl (by decide) rfl rfl (pa_cons (pe_call (ok_law_draw T) (hr.mono (by decide)) (by rfl) T.f_law_draw.m T.f_law_draw.F.kp (bd_law_draw T) .nil pass0 (pa_cons (pv 0) (pa_cons pe_int pa_nil))) (pa_cons (pe_call (ok_law_draw T) (hr.mono (by decide)) (by rfl) T.f_law_draw.m T.f_law_draw.F.kp (bd_law_draw T) .nil pass0 (pa_cons (pv 0) (pa_cons pe_int pa_nil))) pa_nil)) (by rfl))
      (pss_cons (ps_set (i := 5) sc_law_value.nd rfl (Or.inl rfl) (pe_op op_and (pe_op op_add (pe_op op_add (pe_op op_mul (pv 4) pe_int) (pe_op op_mul (pv 3) pe_int)) (pv 4)) (pv 2)))
      (pss_one (ps_ret (pe_ix ix_list (pe_lst (pa_cons pe_int (pa_cons (pv 2) (pa_cons pe_int (pa_cons (pe_op op_sub (pv 2) pe_int) (pa_cons (pv 5) (pa_cons (pv 5) (pa_cons (pv 5) pa_nil)))))))) (pe_call (ok_law_draw T) (hr.mono (by decide)) (by rfl) T.f_law_draw.m T.f_law_draw.F.kp (bd_law_draw T) .nil pass0 (pa_cons (pv 0) (pa_cons pe_int pa_nil))) (fun _ _ => rfl))))))), ?_⟩
    refine ⟨_, rfl, _, _, rfl, rfl, ⟨by omega, by omega, by decide⟩, _, _, rfl, rfl, ?_⟩
    have et : (1 : Int) * 2 ^ (wd : Int).toNat - 1 = 2 ^ wd - 1 := by rw [Int.one_mul, Int.toNat_natCast]
    dsimp only
    rw [et]
    have p0 : (1 : Int) < 2 ^ wd := pow_gt w1
    have p64 : (2 : Int) ^ wd ≤ 18446744073709551616 := pow_le64 w64
    refine ⟨_, rfl, z, c, cells, t, 65536, rfl, PA, by omega, by decide, by decide, fun lo H1 l0 l1 P1 f1 => ?_⟩
    refine ⟨_, rfl, z, c, cells, t + 1, 65536, rfl, P1, by omega, by decide, by decide, fun hi H2 h0 h1 P2 f2 => ?_⟩
    refine ⟨_, _, rfl, ?_⟩
    refine ⟨_, rfl, _, _, rfl, rfl, .inl ⟨by omega, by omega⟩, _, rfl, _, _, rfl, rfl, .inl ⟨by omega, by omega⟩, _, _, rfl, rfl, _, rfl, _, _, rfl, rfl, _, rfl, _, _, rfl, rfl, ?_⟩
    have sb := and_top (wd := wd) (x := hi * 281479271677953 + lo * 65537 + hi) (by omega)
    dsimp only
    generalize Builtin.bitAnd _ _ = some_ at sb
    refine ⟨_, rfl, _, rfl, _, _, rfl, rfl, _, rfl, _, rfl, _, rfl, by show 7 ≤ sizeLine; decide, fun b nb => ?_⟩
    (generalize g_H3 : upd _ b _ = H3); have hb := gat g_H3; have e3 := gex g_H3 nb; clear g_H3
    refine ⟨_, rfl, z, c, cells, t + 2, 7, rfl, P2.ex e3, by omega, by decide, by decide, fun j H4 j0 j1 P4 f4 => ?_⟩
    have bz : b ≠ z := by
      obtain ⟨⟨i, l, h1, _⟩, _⟩ := P2
      exact (ne_of_none h1 nb).symm
    obtain ⟨j, rfl⟩ : ∃ i : Nat, j = (i : Int) := ⟨j.toNat, by omega⟩
    have fin : ∀ m : Int, ([V.int 0, .int (2 ^ wd - 1), .int 1, .int (2 ^ wd - 1 - 1), .int some_, .int some_, .int some_] : List V)[j]? = some (.int m) → 0 ≤ m → m < 2 ^ wd → rIxL K (.ref b) (.int j) H4 fun x H' => Q x H' := fun m hm h1 h2 =>
      ⟨b, _, _, _, rfl, rfl, sq (f4 _ _ bz hb), atI_nat hm, k m H4 h1 h2 P4 (((f1.trans f2).trans e3.fw).trans f4)⟩
    match j, j1 with
    | 0, _ => exact fin _ rfl (by omega) (by omega)
    | 1, _ => exact fin _ rfl (by omega) (by omega)
    | 2, _ => exact fin _ rfl (by omega) (by omega)
    | 3, _ => exact fin _ rfl (by omega) (by omega)
    | 4, _ => exact fin _ rfl sb.1 sb.2
    | 5, _ => exact fin _ rfl sb.1 sb.2
    | 6, _ => exact fin _ rfl sb.1 sb.2
    | j + 7, h => exact absurd h (by omega)
theorem ok_law_told {Pr : Program} (T : Tx K mg) : FnQ Pr w K mg base 9 T.f_law_told.a T.f_law_told.fd ["_law_running"] (spTold T.k_Running.C) := by
  refine fnq T.f_law_told.F sc_law_told (fun vs H Q E h => ?_) (fun cdv A outer s H vs Q gd hr h => ?_)
  · obtain ⟨r, l, w, ns, sv, rfl, _⟩ := h
    rfl
  · obtain ⟨r, l, wd, ns, sv, rfl, R, k⟩ := h
    refine ⟨_, (pss_one (ps_ret (pe_lst (pa_cons (pe_callB (TzRepr.repr_ins (ok_Word_repr_ T) (hr.mono (by decide)) T.f_Word_repr_.M (bd_Word_repr_ T) pass0) (by rfl) T.b_repr (by decide +kernel) (pa_cons (pe_prop (pv 0) T.k_Running.cl T.f_Running_total.P (ok_Running_total T) (hr.mono (by decide)) (bd_Running_total T) .nil pass0 rfl) pa_nil)) (pa_cons (pe_callB (TzOwn.len_own (ok_Running_len_ T) (hr.mono (by decide)) T.f_Running_len_.M (bd_Running_len_ T) pass0) (by rfl) T.b_len (by decide +kernel) (pa_cons (pv 0) pa_nil)) (pa_cons (pe_callB (TzRepr.repr_list mon_words (fun a => TzRepr.rpG_ins (ok_Word_repr_ T) T.f_Word_repr_.M (bd_Word_repr_ T) pass0) gd (hr.mono (by decide))) (by rfl) T.b_repr (by decide +kernel) (pa_cons (pe_meth0 (pv 0) T.k_Running.cl T.f_Running_ascending.M (ok_Running_ascending T) (hr.mono (by decide)) (bd_Running_ascending T) .nil pass0) pa_nil)) pa_nil)))))), ?_⟩
    obtain ⟨⟨dr, hr0⟩, hl, w1, w64, bd, few⟩ := id R
    refine ⟨_, rfl, r, dr, _, rfl, hr0, r, l, wd, ns, sv, rfl, R, fun a H1 na e1 W1 => ?_⟩
    obtain ⟨da, ha⟩ := W1.ob
    refine ⟨a, da, _, rfl, ha, a, _, rfl, ⟨wd, _, W1, rfl⟩, fun H2 e2 => ⟨⟨_, rfl⟩, ?_⟩⟩
    have E2 := e1.trans e2
    have R2 := R.ex E2
    obtain ⟨⟨dr2, hr2⟩, _⟩ := id R2
    refine ⟨_, rfl, r, dr2, _, rfl, hr2, r, l, wd, ns, sv, rfl, R2, _, rfl, Nat.lt_of_le_of_lt few (by decide), ?_⟩
    refine ⟨_, rfl, r, dr2, _, rfl, hr2, (rf_no (by decide +kernel) (by decide +kernel) (by decide +kernel) (by decide +kernel)), r, l, wd, ns, sv, rfl, R2, fun p H3 xs ss np e3 hp WW asc => ?_⟩
    have lss := asc.1.length_eq
    have bss : ∀ n ∈ ss, 0 ≤ n ∧ n ≤ mw wd := fun n hn => bd n (asc.1.mem_iff.mp hn)
    refine ⟨.ref p, _, rfl, ⟨p, _, _, rfl, List.not_mem_nil, hp, rfl, WW.each⟩, words_short w64 bss (by omega), fun H4 e4 => ?_⟩
    have E4 := (E2.trans e3).trans e4
    refine ⟨by show 3 ≤ sizeLine; decide, fun q nq => ?_⟩
    (generalize g_H5 : upd _ q _ = H5); have hq := gat g_H5; have e5 := gex g_H5 nq; clear g_H5
    exact k q H5 ss (back E4 nq) (E4.trans e5) asc hq
theorem ok_law_due {Pr : Program} (T : Tx K mg) : FnQ Pr w K mg base 9 T.f_law_due.a T.f_law_due.fd ["_law_width_here", "_law_values"] spDue10 := by
  refine fnq T.f_law_due.F sc_law_due (fun vs H Q E h => ?_) (fun cdv A outer s H vs Q gd hr h => ?_)
  · obtain ⟨w, v, ns, rfl, _⟩ := h
    rfl
  · obtain ⟨wd, v, ns, rfl, w1, w64, VV, k⟩ := h
    refine ⟨_, (pss_cons (ps_set (i := 2) sc_law_due.nd rfl (Or.inl rfl) (pe_callB (cr_sum rfl) (by rfl) T.b_sum (by decide +kernel) (pa_cons (pv 1) pa_nil)))
      (Evl.pss_cut (ps_set (i := 3) sc_law_due.nd rfl (Or.inl rfl) (pe_ifExp (pt_cmpR op_eq (pv 2) pe_int (nomark _)) pe_int (pe_op op_add (pe_op op_mod (pe_callTy call_int1 (by rfl) T.b_int (by decide +kernel) (pa_cons (pe_op op_sub (pv 2) pe_int) pa_nil)) (pe_op op_sub (pe_op op_shl pe_int (pv 0)) pe_int)) pe_int)))
      (pss_cons (ps_setLc (i := 4) (own := [("_law_worth", 5)]) (g := gName 5) (tt := tYes) rfl sc_law_due.nd rfl rfl (sw_true rfl rfl rfl (by decide +kernel)) (pi_list (pe_callB cr_sorted (by rfl) T.b_sorted (by decide +kernel) (pa_cons (pe_lc (own := [("_law_k", 6)]) (g := gName 6) (tt := tYes) (by rfl) sc_law_due.nd (pi_list (pv 1)) (blkOk_by (own := [("_law_k", 6)]) (N := ["_law_width_here", "_law_values", "_law_s", "_law_whole", "_law_words", "_law_worth", "_law_k"]) (sc := defScope s_law_due) (by decide +kernel)) (fun _ _ _ _ _ => pg_name (i := 6) sc_law_due.nd rfl (Or.inl rfl)) (fun _ _ _ _ _ => pts_nil) (fun _ _ _ _ _ => (pe_callTy call_int1 (by rfl) T.b_int (by decide +kernel) (pa_cons (pv 6) pa_nil)))) pa_nil))) (blkOk_by (own := [("_law_worth", 5)]) (N := ["_law_width_here", "_law_values", "_law_s", "_law_whole", "_law_words", "_law_worth", "_law_k"]) (sc := defScope s_law_due) (by decide +kernel)) (fun _ _ _ _ _ => pg_name (i := 5) sc_law_due.nd rfl (Or.inl rfl)) (fun _ _ _ _ _ => pts_nil) (fun _ _ _ _ _ => (pe_make (mk_Word T) (ok_Word_init_ T) (hr.mono (by decide)) (by rfl) T.k_Word.m (bd_Word_init_ T) .nil pass0 (pa_cons (pv 0) (pa_cons (pv 5) pa_nil)))))
      (pss_one (ps_ret (pe_lst (pa_cons (pe_callB (TzRepr.repr_ins (ok_Word_repr_ T) (hr.mono (by decide)) T.f_Word_repr_.M (bd_Word_repr_ T) pass0) (by rfl) T.b_repr (by decide +kernel) (pa_cons (pe_make (mk_Word T) (ok_Word_init_ T) (hr.mono (by decide)) (by rfl) T.k_Word.m (bd_Word_init_ T) .nil pass0 (pa_cons (pv 0) (pa_cons (pv 3) pa_nil))) pa_nil)) (pa_cons (pe_callB call_len_seq (by rfl) T.b_len (by decide +kernel) (pa_cons (pv 1) pa_nil)) (pa_cons (pe_callB (TzRepr.repr_list mon_words (fun a => TzRepr.rpG_ins (ok_Word_repr_ T) T.f_Word_repr_.M (bd_Word_repr_ T) pass0) gd (hr.mono (by decide))) (by rfl) T.b_repr (by decide +kernel) (pa_cons (pv 4) pa_nil)) pa_nil))))))))), ?_⟩
    have hM := mw_pos w1
    have s0 := sum_nonneg VV.bd
    have cb := cr_bd w1 ns.sum
    have hv := VV.at_
    refine ⟨_, rfl, v, ns, rfl, sq hv, ?_⟩
    refine ⟨fun σ' H' => σ' = [some (.int (wd : Int)), some (.ref v), some (.int ns.sum), some (.int (cr wd ns.sum)), none, none, none] ∧ H' = H, ?_, ?_⟩
    · refine ⟨_, rfl, rfl, _, rfl, ite2 (fun q => ?_) (fun q => ?_)⟩
      · have q := V.int.inj (of_decide_eq_true q)
        refine ⟨?_, rfl⟩
        rw [q, cr_zero]
        rfl
      · have q : ¬ ns.sum = 0 := fun z => q (decide_eq_true (congrArg V.int z))
        refine ⟨_, rfl, _, _, rfl, rfl, .inl ⟨_, rfl, _, rfl, _, _, rfl, rfl, ⟨by omega, by omega, by decide⟩, _, _, rfl, rfl, ?_⟩⟩
        dsimp only
        rw [shift_mw]
        have e : (ns.sum - 1) % (mw wd + 1 - 1) + 1 = cr wd ns.sum := by
          unfold cr
          rw [if_pos (by omega), show mw wd + 1 - 1 = mw wd by omega]
        refine ⟨_, _, rfl, rfl, by omega, _, _, rfl, rfl, ?_⟩
        dsimp only
        rw [e]
        exact ⟨rfl, rfl⟩
    rintro σ' H' ⟨rfl, rfl⟩
    refine ⟨_, rfl, v, rfl, ⟨_, sq hv⟩, fun D nD => lc_list (K := K) (a := v) (xs := ns.map V.int) (fun i J => Ex H' J ∧ J D = some (.lst ((ns.take i).map V.int))) ⟨Ex.new nD, upd_same⟩ (fun i J _ y => sq (y.1 _ _ hv)) ?_ ?_⟩
    · rintro j y H6 hy ⟨e6, hD⟩
      have jl : j < ns.length := by
        have := (List.getElem?_eq_some_iff.mp hy).1
        rwa [List.length_map] at this
      rw [List.getElem?_map, List.getElem?_eq_getElem jl] at hy
      have ey := (Option.some.inj hy).symm
      subst ey
      refine ⟨rfl, yes_go ?_⟩
      refine ⟨_, rfl, .inl ⟨_, rfl, _, hD, ?_, fun a o h => ?_, ?_⟩⟩
      · rw [List.length_map, List.length_take]
        have := VV.few
        exact Nat.lt_of_lt_of_le (show _ < 200 by omega) (by decide)
      · rw [upd_ne (ne_of_none h nD)]
        exact e6 _ _ h
      · rw [upd_same, List.take_add_one, List.getElem?_eq_getElem jl, List.map_append]
        rfl
    rintro H6 ⟨e6, hD⟩
    rw [List.length_map, List.take_of_length_le (Nat.le_refl _)] at hD
    refine ⟨D, ns, rfl, sq hD, by have := VV.few; omega, fun ss S pm2 asc2 nS => ?_⟩
    (generalize g_H7 : upd _ S _ = H7); have hS := gat g_H7; have e7 := gex g_H7 nS; clear g_H7
    have E7 := e6.trans e7
    have bss : ∀ n ∈ ss, 0 ≤ n ∧ n ≤ mw wd := fun n hn => VV.bd n (pm2.mem_iff.mp hn)
    have lss := pm2.length_eq
    have few := VV.few
    refine ⟨S, rfl, ⟨_, sq hS⟩, fun D2 nD2 => lc_list (K := K) (a := S) (xs := ss.map V.int) (fun i H' => Ex H7 H' ∧ ∃ ys : List Addr, H' D2 = some (.lst (ys.map V.ref)) ∧ Ws T.k_Word.C H' wd ys (ss.take i) ∧ ys.length = i) ⟨Ex.new nD2, [], upd_same, .nil, rfl⟩ (fun i H' _ y => sq (y.1 _ _ hS)) ?_ ?_⟩
    · rintro j y H11 hy ⟨e11, ys, hD, WY, ly⟩
      have jl : j < ss.length := by
        have := (List.getElem?_eq_some_iff.mp hy).1
        rwa [List.length_map] at this
      rw [List.getElem?_map, List.getElem?_eq_getElem jl] at hy
      have ey := (Option.some.inj hy).symm
      subst ey
      have vb := bss _ (List.getElem_mem jl)
      refine ⟨rfl, yes_go ?_⟩
      refine ⟨_, rfl, _, rfl, fun p2 q2 n2 m2 _ => mk_word1 w1 w64 vb.1 vb.2 n2 m2 fun H12 e12 W12 => ⟨rfl, ?_⟩⟩
      have hD12 := e12 _ _ hD
      have st : ∀ x v, WordAt T.k_Word.C H12 x wd v → WordAt T.k_Word.C (upd H12 D2 (.lst (ys.map V.ref ++ [V.ref p2]))) x wd v := fun x v W => W.stay (y := .non) (Stay.upd ⟨_, hD12⟩ (by intro q; cases q))
      refine ⟨_, hD12, ?_, fun a o h => ?_, ys ++ [p2], ?_, ?_, ?_⟩
      · rw [List.length_map]
        exact Nat.lt_of_lt_of_le (show ys.length < 200 by omega) (by decide)
      · rw [upd_ne (ne_of_none h nD2)]
        exact e12 _ _ (e11 _ _ h)
      · rw [upd_same, List.map_append]
        rfl
      · rw [List.take_add_one, List.getElem?_eq_getElem jl]
        exact ((WY.fw fun x v W => W.ex e12).fw st).snoc (st _ _ W12)
      · rw [List.length_append, ly]
        rfl

    rintro H8 ⟨e8, ys, hD2, WY, ly⟩
    rw [List.length_map, List.take_of_length_le (Nat.le_refl _)] at WY
    refine ⟨_, rfl, _, rfl, fun x dx nx ndx _ => mk_word1 w1 w64 cb.1 cb.2 nx ndx fun H9 e9 W9 => ⟨rfl, ?_⟩⟩
    obtain ⟨da, ha⟩ := W9.ob
    refine ⟨x, da, _, rfl, ha, x, _, rfl, ⟨wd, _, W9, rfl⟩, fun H10 e10 => ⟨⟨_, rfl⟩, ?_⟩⟩
    have e80 := e9.trans e10
    have E10 := (E7.trans e8).trans e80
    refine ⟨_, rfl, v, _, rfl, .inl (sq (E10 _ _ hv)), ?_⟩
    rw [List.length_map]
    have W10 := WY.fw fun x v W => W.ex e80
    refine ⟨_, rfl, .ref D2, _, rfl, ⟨D2, _, _, rfl, List.not_mem_nil, e80 _ _ hD2, rfl, W10.each⟩, words_short w64 bss (by omega), fun H11 e11 => ?_⟩
    have E11 := E10.trans e11
    refine ⟨by show 3 ≤ sizeLine; decide, fun q nq => ?_⟩
    (generalize g_H12 : upd _ q _ = H12); have hq := gat g_H12; have e12 := gex g_H12 nq; clear g_H12
    exact k q H12 ss (back E11 nq) (E11.trans e12) ⟨pm2, asc2⟩ hq
theorem kb_exchange (T : Tx K mg) : KBinds K T.f_Running_exchange.fd ["self", "old", "new"] ["old", "new"] kwU kwU where
  to := by
    obtain ⟨oc, od, kV, doc, pm, an, cdv, ct, osl, e, lk, hcd⟩ := T.f_Running_exchange.F.ex
    rw [e]
    intro s us ws _ hl
    match us, ws, hl with
    | [_], [_, _], _ => exact .of_eq rfl
  rel := kwU_vals

theorem kb_tried (T : Tx K mg) : KBinds K T.f_Running_tried.fd ["self", "ask"] ["ask"] kwS kwS where
  to := by
    obtain ⟨oc, od, kV, doc, pm, an, cdv, ct, osl, e, lk, hcd⟩ := T.f_Running_tried.F.ex
    rw [e]
    intro s us ws _ hl
    match us, ws, hl with
    | [_], [_], _ => exact .of_eq rfl
  rel := kwS_vals

theorem ok_law_broken (T : Tx K mg) : FnOk P w K mg base (L2.CX P w) 8 T.f_law_broken.a T.f_law_broken.fd ["_law_running", "_law_worth"] (spBroken T.k_Running.C T.e_NotThere.C) := by
  refine T.f_law_broken.F.okX sc_law_broken (fun vs H Q E h => ?_) (fun cdv A outer s H vs Q E hr h => ?_)
  · obtain ⟨r, l, w, ns, sv, u, rfl, _⟩ := h
    rfl
  · obtain ⟨r, l, w, ns, sv, u, rfl, R, u0, um, nf, k⟩ := h
    refine ⟨_, (pss_cons (ps_expr (pe_meth (pv 0) T.k_Running.cl T.f_Running_add.M (ok_Running_add T) (hr.mono (by decide)) (bd_Running_add T) .nil (passes_call (takes_of rfl rfl rfl rfl) fun _ _ _ _ z => z) (pa_cons (pv 1) pa_nil)))
      (pss_cons (ps_expr (TzOwn.pe_methK (pv 0) T.k_Running.cl T.f_Running_exchange.M (ok_Running_exchange T) (hr.mono (by decide)) (kb_exchange T) (passes_call (takes_of rfl rfl rfl rfl) fun _ _ _ _ z => z) (pk_cons (pv 1) (pk_cons (pv 1) pk_nil))))
      (pss_cons (ps_expr (pe_meth (pv 0) T.k_Running.cl T.f_Running_drop.M (ok_Running_drop T) (hr.mono (by decide)) (bd_Running_drop T) .nil (passes_call (takes_of rfl rfl rfl rfl) fun _ _ _ _ z => z) (pa_cons (pv 1) pa_nil)))
      (pss_cons (ps_for (passes_of rfl) rfl (pi_range1 (by rfl) T.b_range (pa_cons (pe_op op_add (pe_callB (TzOwn.len_own (ok_Running_len_ T) (hr.mono (by decide)) T.f_Running_len_.M (bd_Running_len_ T) pass0) (by rfl) T.b_len (by decide +kernel) (pa_cons (pv 0) pa_nil)) pe_int) pa_nil)) (pg_name (i := 2) sc_law_broken.nd rfl (Or.inl rfl)) (pss_one (ps_expr (pe_meth (pv 0) T.k_Running.cl T.f_Running_drop.M (ok_Running_drop T) (hr.mono (by decide)) (bd_Running_drop T) .nil (passes_call (takes_of rfl rfl rfl rfl) fun _ _ _ _ z => z) (pa_cons (pe_ifExp (pt_cmpR op_gt (pe_callB (TzOwn.len_own (ok_Running_len_ T) (hr.mono (by decide)) T.f_Running_len_.M (bd_Running_len_ T) pass0) (by rfl) T.b_len (by decide +kernel) (pa_cons (pv 0) pa_nil)) pe_int (nomark _)) (pe_ix ix_list (pe_meth0 (pv 0) T.k_Running.cl T.f_Running_ascending.M (ok_Running_ascending T) (hr.mono (by decide)) (bd_Running_ascending T) .nil pass0) (pe_un un_neg pe_int) (fun _ _ => rfl)) (pv 1)) pa_nil)))))
      (pss_one (ps_ret pe_int)))))), ?_⟩
    obtain ⟨⟨dr, hr0⟩, hl, w1, w64, bd, few⟩ := id R

    have b1 : ∀ n ∈ ns ++ [u], 0 ≤ n ∧ n ≤ mw w := fun n hn => by
      rcases List.mem_append.mp hn with h | h
      · exact bd n h
      · rw [List.mem_singleton.mp h]
        exact ⟨u0, um⟩
    have m1 : u ∈ ns ++ [u] := List.mem_append_right _ List.mem_cons_self
    refine ⟨_, rfl, r, dr, _, rfl, hr0, (rf_no (by decide +kernel) (by decide +kernel) (by decide +kernel) (by decide +kernel)), _, rfl, r, l, w, ns, sv, .int u, .val u, rfl, R, .int u0 um, by omega, fun H1 R1 t1 => ?_⟩
    obtain ⟨⟨dr1, hr1⟩, _⟩ := id R1
    refine ⟨_, rfl, r, dr1, _, rfl, hr1, (rf_no (by decide +kernel) (by decide +kernel) (by decide +kernel) (by decide +kernel)), _, rfl, _, rfl, r, l, w, ns ++ [u], sv, .int u, .val u, .int u, .val u, rfl, R1, .int u0 um, .int u0 um, ?_⟩
    unfold ThereK
    dsimp only
    rw [if_pos m1]
    refine fun H2 R2 t2 => ?_
    obtain ⟨⟨dr2, hr2⟩, _⟩ := id R2
    have m2 : u ∈ (ns ++ [u]).erase u ++ [u] := List.mem_append_right _ List.mem_cons_self
    refine ⟨_, rfl, r, dr2, _, rfl, hr2, (rf_no (by decide +kernel) (by decide +kernel) (by decide +kernel) (by decide +kernel)), _, rfl, r, l, w, _, sv, .int u, .val u, rfl, R2, .int u0 um, ?_⟩
    unfold ThereK
    dsimp only
    rw [if_pos m2]
    refine fun H3 R3 t3 => ?_
    obtain ⟨ks, eks⟩ : ∃ ks, ks = ((ns ++ [u]).erase u ++ [u]).erase u := ⟨_, rfl⟩
    rw [← eks] at R3
    have lks : ks.length = ns.length := by
      rw [eks, List.length_erase_of_mem m2, List.length_append, List.length_erase_of_mem m1, List.length_append]
      show ns.length + 1 - 1 + 1 - 1 = ns.length
      omega
    obtain ⟨⟨dr3, hr3⟩, _⟩ := id R3
    have T3 := (t1.trans t2).trans t3
    have sm : ∀ {m : List Int}, m.length ≤ 40 → m.length < 2 ^ 62 := fun h => Nat.lt_of_le_of_lt h (by decide)
    refine ⟨_, rfl, r, dr3, _, rfl, hr3, r, l, w, ks, sv, rfl, R3, _, rfl, sm R3.few, ?_⟩
    refine ⟨_, _, rfl, rfl, _, rfl, by have := R3.few; omega, by have := R3.few; omega, ?_⟩
    have en : ((ks.length : Nat) + 1 : Int).toNat = ks.length + 1 := by omega
    rw [en]
    refine for_range (n := ks.length + 1) (fun i σ' H' => i ≤ ks.length ∧ ∃ o k4, σ' = [some (.ref r), some (.int u), o] ∧ k4.length + i = ks.length ∧ RunAt T.k_Running.C H' r l w k4 sv ∧ Two r l H H') ⟨Nat.zero_le _, _, ks, rfl, rfl, R3, T3⟩ ?_ ?_
    · rintro i σ' H4 hi ⟨hi2, o, k4, rfl, l4, R4, T4⟩
      obtain ⟨⟨dr4, hr4⟩, _⟩ := id R4
      refine ⟨_, rfl, r, dr4, _, rfl, hr4, (rf_no (by decide +kernel) (by decide +kernel) (by decide +kernel) (by decide +kernel)), ?_⟩
      refine ⟨_, rfl, r, dr4, _, rfl, hr4, r, l, w, k4, sv, rfl, R4, _, rfl, sm R4.few, _, _, rfl, rfl, _, rfl, ite2 (fun q => ?_) (fun q => ?_)⟩
      · have q := of_decide_eq_true q
        refine ⟨_, rfl, r, dr4, _, rfl, hr4, (rf_no (by decide +kernel) (by decide +kernel) (by decide +kernel) (by decide +kernel)), r, l, w, k4, sv, rfl, R4, fun p H5 xs ss np e5 hp WW asc => ?_⟩
        have sn : ss ≠ [] := fun z => by
          have := asc.1.length_eq
          rw [z] at this
          have : k4.length = 0 := this.symm
          omega
        obtain ⟨xs', x, us', u1, ex, eu, Wx⟩ := ws_last WW sn
        have mu : u1 ∈ k4 := asc.1.mem_iff.mp (by rw [eu]; exact List.mem_append_right _ List.mem_cons_self)
        have hp2 : H5 p = some (.lst (xs'.map V.ref ++ [.ref x])) := by
          rw [hp, ex, List.map_append]
          rfl
        refine ⟨_, rfl, p, _, _, _, rfl, rfl, sq hp2, atI_last _ _, ?_⟩
        have R5 := R4.ex e5
        refine ⟨r, l, w, k4, sv, .ref x, .val u1, rfl, R5, .word Wx, ?_⟩
        unfold ThereK
        dsimp only
        rw [if_pos mu]
        refine fun H6 R6 t6 => ⟨by omega, _, _, rfl, ?_, R6, (T4.trans e5.two).trans t6⟩
        rw [List.length_erase_of_mem mu]
        have := List.length_pos_of_mem mu
        omega
      · have q : ¬ (0 : Int) < (k4.length : Nat) := fun z => q (decide_eq_true z)
        have e4 : k4 = [] := List.length_eq_zero_iff.mp (by omega)
        refine ⟨_, rfl, r, l, w, k4, sv, .int u, .val u, rfl, R4, .int u0 um, ?_⟩
        unfold ThereK
        dsimp only
        rw [if_neg (by rw [e4]; exact List.not_mem_nil)]
        exact k H4 ⟨_, R4⟩ T4
    · rintro σ' H4 ⟨hi, _⟩
      omega
theorem ok_law_lost (T : Tx K mg) : FnOk P w K mg base (L2.CX P w) 7 T.f_law_lost.a T.f_law_lost.fd ["_law_running", "_law_worth"] (spLost T.k_Running.C) := by
  refine T.f_law_lost.F.okX sc_law_lost (fun vs H Q E h => ?_) (fun cdv A outer s H vs Q E hr h => ?_)
  · obtain ⟨r, l, w, ns, sv, u, rfl, _⟩ := h
    rfl
  · obtain ⟨r, l, w, ns, sv, u, rfl, R, u0, um, nf, k⟩ := h
    refine ⟨_, (pss_cons (ps_expr (pe_meth (pv 0) T.k_Running.cl T.f_Running_add.M (ok_Running_add T) (hr.mono (by decide)) (bd_Running_add T) .nil (passes_call (takes_of rfl rfl rfl rfl) fun _ _ _ _ z => z) (pa_cons (pv 1) pa_nil)))
      (pss_one (ps_ret (pe_dgetX rfl (hu_of hr) (takes_of rfl rfl rfl rfl) pe_dnewK pe_str (fun _ _ => rfl))))), ?_⟩
    obtain ⟨⟨dr, hr0⟩, hl, w1, w64, bd, few⟩ := id R

    refine ⟨_, rfl, r, dr, _, rfl, hr0, (rf_no (by decide +kernel) (by decide +kernel) (by decide +kernel) (by decide +kernel)), _, rfl, r, l, w, ns, sv, .int u, .val u, rfl, R, .int u0 um, by omega, fun H1 R1 t1 => ?_⟩
    refine fun p np => ⟨p, none, rfl, DGet.k (kvs := []) (k := .inr "none") upd_same, (fun v h => nomatch h), fun _ d => ?_⟩
    have e2 : Ex H1 (upd H1 p (.dK [])) := Ex.new np
    exact k d _ ⟨_, R1.ex e2⟩ (t1.trans e2.two)
theorem ok_law_fallen {Pr : Program} (T : Tx K mg) (TB : ∀ p ∈ CS K, LamX.TabB base mg p.1 p.2) : FnQ Pr w K mg base 11 T.f_law_fallen.a T.f_law_fallen.fd ["_law_running", "_law_worth"] (spFallen T.k_Running.C (TL K) V.int) := by
  refine fnqC T.f_law_fallen.F sc_law_fallen (fun fd oc od osl lk ci => code_lamlaw_fallen T fd oc od osl lk ci) (fun vs H Q E h => ?_) (fun A outer s H vs Q gd hr h => ?_)
  · obtain ⟨r, l, w, ns, sv, u, rfl, _⟩ := h
    rfl
  · obtain ⟨r, l, w, ns, sv, u, rfl, R, u0, um, nf, tabs, k⟩ := h
    refine ⟨_, pss_cons (TzTry.ps_try_all rfl rfl sc_law_fallen.nd (fun W pn xe tk _ => pss_ex fun Ech hW => pss_one (ps_expr (TzLam.pe_lamMK (TT := TTtried T.k_Running.C T.k_Saved.C) (k := 8) (pv 0) T.k_Running.cl T.f_Running_tried.M (hr.mono (by decide)) T.f_Running_tried.F (kb_tried T) (fun _ _ => rfl) sc_Running_tried rfl (.inl rfl) (fun k2 h2 => gives_triedK T rfl rfl (k := k2 + 1) (by omega)) (TB _ hclaw_fallen) (by rfl) hmlaw_fallen (hulaw_fallen T) (show LamX.LamS (defScope s_law_fallen) _ from LamX.lamS_by (by decide +kernel)) (by rfl) (by exact fun _ _ _ _ _ => rfl) (passes_call tk hW) (fun A outer s H E f c' gd2 hr2 => (pe_call (ok_law_broken T) (hr2.mono (by decide)) (by rfl) T.f_law_broken.m T.f_law_broken.F.kp (bd_law_broken T) .nil (passes_call (takes_of rfl rfl rfl rfl) fun _ _ _ _ z => z) (pa_cons (pv 0) (pa_cons (pv 1) pa_nil)))))))
      (.cons (c := .ref T.e_NotThere.C) (i := 2) ⟨rfl, by decide, .inl T.e_NotThere.m⟩ rfl rfl (fun a oe cls d pn hz hf => pss_one (ps_ret (pe_xf T.e_NotThere.er.read T.n_NotThere_word hz hf (pv 2)))) .nil)) (pss_one (ps_ret pe_non)), ?_⟩
    obtain ⟨⟨dr, hr0⟩, hl, w1, w64, bd, few⟩ := id R
    refine ⟨fun k d J => k = .ref T.e_NotThere.C ∧ (∃ dd, d = some dd ∧ J dd = some (.xd [("word", .int u)])) ∧ RunAt T.k_Running.C J r l w ns sv ∧ But [r] H J ∧ LamX.Tabs (TL K) J, fun k' d z J hE len => ?_, ?_⟩
    · obtain ⟨rfl, ⟨dd, rfl, hd⟩, R', b, tb⟩ := hE
      match z, len with
      | [z0, z1, z2], _ =>
        refine ⟨true, T.xm_NotThere_NotThere, fun _ a _ => ?_, fun q => Bool.noConfusion q⟩
        exact ⟨_, rfl, rfl, rfl, dd, _, _, rfl, hd, by simp [List.lookup], k J R' b tb⟩
    · refine ⟨_, rfl, r, dr, _, rfl, hr0, (rf_no (by decide +kernel) (by decide +kernel) (by decide +kernel) (by decide +kernel)), tabs, fun H1 e1 T1 => ⟨l, w, ns, sv, R.ext e1, fun l1 sd H2 n1 n2 R2 S2 f2 ne => ?_⟩⟩
      obtain ⟨T2, sr, lr, ll, sl⟩ := trial_in R e1 T1 n1 n2 f2
      refine ⟨_, rfl, _, rfl, r, l1, w, ns, .ref sd, u, rfl, R2, u0, um, nf, fun H3 ⟨ns3, R3⟩ t3 d H4 e4 hd => ?_⟩
      have T3 := tabs_two T2 R2 t3
      obtain ⟨U, fin⟩ := trial_out (S := []) R e1 n1 S2 f2 ne ⟨sr, lr, ll⟩ (t3.but.trans e4.but) List.not_mem_nil List.not_mem_nil (R3.ex e4) (T3.ext e4)
      refine ⟨⟨.ref _, rfl⟩, U, fun H5 R5 f5 => ?_⟩
      obtain ⟨b, T5⟩ := fin H5 R5 f5
      obtain ⟨⟨dr4, hr4⟩, _⟩ := R3.ex e4
      exact ⟨rfl, ⟨d, rfl, f5 _ _ (ne_of hd hr4 (by intro q; cases q)) hd⟩, R5, b, T5⟩
theorem ok_law_undone {Pr : Program} (T : Tx K mg) (TB : ∀ p ∈ CS K, LamX.TabB base mg p.1 p.2) : FnQ Pr w K mg base 11 T.f_law_undone.a T.f_law_undone.fd ["_law_running", "_law_worth"] (spFallen T.k_Running.C (TL K) fun _ => .bl true) := by
  refine fnqC T.f_law_undone.F sc_law_undone (fun fd oc od osl lk ci => code_lamlaw_undone T fd oc od osl lk ci) (fun vs H Q E h => ?_) (fun A outer s H vs Q gd hr h => ?_)
  · obtain ⟨r, l, w, ns, sv, u, rfl, _⟩ := h
    rfl
  · obtain ⟨r, l, w, ns, sv, u, rfl, R, u0, um, nf, tabs, k⟩ := h
    refine ⟨_, pss_cons (ps_try_only rfl rfl (names_blt rfl T.b_KeyError boot_KeyError) LamX.takes0 (fun W pn xe tk _ => pss_ex fun Ech hW => pss_one (ps_expr (TzLam.pe_lamM (TT := TTtried T.k_Running.C T.k_Saved.C) (k := 8) (pv 0) T.k_Running.cl T.f_Running_tried.M (hr.mono (by decide)) T.f_Running_tried.F (bd_Running_tried T) sc_Running_tried rfl (.inl rfl) (fun k2 h2 => gives_triedK T rfl rfl (k := k2 + 1) (by omega)) (TB _ hclaw_undone) (by rfl) hmlaw_undone (hulaw_undone T) (show LamX.LamS (defScope s_law_undone) _ from LamX.lamS_by (by decide +kernel)) (by rfl) (by exact fun _ _ _ _ _ => rfl) (passes_call tk hW) (fun A outer s H E f c' gd2 hr2 => (pe_call (ok_law_lost T) (hr2.mono (by decide)) (by rfl) T.f_law_lost.m T.f_law_lost.F.kp (bd_law_lost T) .nil (passes_call (takes_of rfl rfl rfl rfl) fun _ _ _ _ z => z) (pa_cons (pv 0) (pa_cons (pv 1) pa_nil)))))))
      (fun a oe cls d pn _ _ => pss_one (ps_ret pe_bl))) (pss_one (ps_ret pe_bl)), ?_⟩
    obtain ⟨⟨dr, hr0⟩, hl, w1, w64, bd, few⟩ := id R
    refine ⟨fun k d J => k = .type "KeyError" ∧ RunAt T.k_Running.C J r l w ns sv ∧ But [r] H J ∧ LamX.Tabs (TL K) J, fun k' d z J hE => ?_, ?_⟩
    · obtain ⟨rfl, R', b, tb⟩ := hE
      exact ⟨true, exm_KE, fun _ a _ => k J R' b tb, fun q => Bool.noConfusion q⟩
    · refine ⟨_, rfl, r, dr, _, rfl, hr0, (rf_no (by decide +kernel) (by decide +kernel) (by decide +kernel) (by decide +kernel)), tabs, fun H1 e1 T1 => ⟨l, w, ns, sv, R.ext e1, fun l1 sd H2 n1 n2 R2 S2 f2 ne => ?_⟩⟩
      obtain ⟨T2, sr, lr, ll, sl⟩ := trial_in R e1 T1 n1 n2 f2
      refine ⟨_, rfl, _, rfl, r, l1, w, ns, .ref sd, u, rfl, R2, u0, um, nf, fun d H3 ⟨ns3, R3⟩ t3 => ?_⟩
      obtain ⟨U, fin⟩ := trial_out (S := []) R e1 n1 S2 f2 ne ⟨sr, lr, ll⟩ t3.but List.not_mem_nil List.not_mem_nil R3 (tabs_two T2 R2 t3)
      refine ⟨⟨.ty _, rfl⟩, U, fun H5 R5 f5 => ?_⟩
      obtain ⟨b, T5⟩ := fin H5 R5 f5
      exact ⟨rfl, R5, b, T5⟩
theorem ok_law_around {Pr : Program} (T : Tx K mg) (TB : ∀ p ∈ CS K, LamX.TabB base mg p.1 p.2) : FnQ Pr w K mg base 12 T.f_law_around.a T.f_law_around.fd ["_law_running", "_law_width_here", "_law_values", "_law_worth"] (spAround T.k_Running.C (TL K)) := by
  refine fnq T.f_law_around.F sc_law_around (fun vs H Q E h => ?_) (fun cdv A outer s H vs Q gd hr h => ?_)
  · obtain ⟨r, l, w, ns, sv, v, u, rfl, _⟩ := h
    rfl
  · obtain ⟨r, l, wd, ns, sv, v, u, rfl, R, VV, vl, u0, um, nf, tabs, k⟩ := h
    refine ⟨_, (pss_cons (ps_expr (pe_meth (pv 0) T.k_Running.cl T.f_Running_add.M (ok_Running_add T) (hr.mono (by decide)) (bd_Running_add T) .nil passes_none (pa_cons (pv 3) pa_nil)))
      (pss_cons (ps_expr (pe_callQ (ok_law_fallen T TB) gd (hr.mono (by decide)) (by rfl) T.f_law_fallen.m T.f_law_fallen.F.kp (bd_law_fallen T) (pa_cons (pv 0) (pa_cons (pv 3) pa_nil))))
      (pss_one (ps_ret (pe_cmpR (op_eqD hr.units) (pe_callQ (ok_law_told T) gd (hr.mono (by decide)) (by rfl) T.f_law_told.m T.f_law_told.F.kp (bd_law_told T) (pa_cons (pv 0) pa_nil)) (pe_callQ (ok_law_due T) gd (hr.mono (by decide)) (by rfl) T.f_law_due.m T.f_law_due.F.kp (bd_law_due T) (pa_cons (pv 1) (pa_cons (pe_op op_cat (pv 2) (pe_lst (pa_cons (pv 3) pa_nil))) pa_nil))) (nomark _)))))), ?_⟩
    obtain ⟨⟨dr, hr0⟩, hl, w1, w64, bd, few⟩ := id R
    have rv : v ≠ r := fun z => by
      have q := VV.at_
      rw [z, hr0] at q
      cases q
    refine ⟨_, rfl, r, dr, _, rfl, hr0, (rf_no (by decide +kernel) (by decide +kernel) (by decide +kernel) (by decide +kernel)), _, rfl, r, l, wd, ns, sv, .int u, .val u, rfl, R, .int u0 um, by omega, fun H1 R1 t1 => ?_⟩
    have T1 := tabs_two tabs R t1
    refine ⟨_, rfl, _, rfl, r, l, wd, ns ++ [u], sv, u, rfl, R1, u0, um, by rw [List.length_append]; show ns.length + 1 < 39; omega, T1, fun H2 R2 b2 T2 => ?_⟩
    have b02 : But [r, l] H H2 := t1.but.trans (b2.mono fun x m => by rw [List.mem_singleton.mp m]; exact List.mem_cons_self)
    have V2 := VV.but b02 (fun z => by
      rcases List.mem_cons.mp z with z | z
      · exact rv z
      · exact vl (List.mem_singleton.mp z))
    refine ⟨_, rfl, r, l, wd, ns ++ [u], sv, rfl, R2, fun p H3 ss np e3 asc hp => ?_⟩
    have V3 := V2.ex e3
    refine ⟨_, rfl, _, rfl, _, rfl, by show 1 ≤ sizeLine; decide, fun q nq => ?_⟩
    (generalize g_H4 : upd _ q _ = H4); have hq := gat g_H4; have e4 := gex g_H4 nq; clear g_H4
    have V4 := V3.ex e4
    refine ⟨v, q, _, _, rfl, rfl, V4.at_, hq, by have := V4.few; rw [List.length_map]; exact Nat.le_of_lt (Nat.lt_of_le_of_lt (Nat.add_le_add_right this 1) (by decide)), fun c nc => ?_⟩
    (generalize g_H5 : upd _ c _ = H5); have hc := gat g_H5; have e5 := gex g_H5 nc; clear g_H5
    have V5 : Vals9 H5 c wd (ns ++ [u]) := ⟨by rw [hc, List.map_append]; rfl, R2.bd, R2.few⟩
    refine ⟨wd, c, _, rfl, w1, w64, V5, fun p2 H6 ss2 np2 e6 asc2 hp2 => ?_⟩
    have es : ss = ss2 := asc_eq (asc.1.trans asc2.1.symm) asc.2 asc2.2
    subst es
    have e36 := (e4.trans e5).trans e6
    refine ⟨_, _, dp_tl3 (e36 _ _ hp), dp_tl3 hp2, tl3_same.1, tl3_same.1, ?_⟩
    rw [tl3_same.2]
    have e26 := e3.trans e36
    exact k H6 (R2.ex e26) (b02.trans e26.but) (T2.ext e26)
theorem ok_deep_step {Pr : Program} (T : Tx K mg) (TB : ∀ p ∈ CS K, LamX.TabB base mg p.1 p.2) {spI : Sp} {L n : Nat} (hL : 9 ≤ L) (ih : FnQ Pr w K mg base L T.f_law_deep.a T.f_law_deep.fd ["_law_running", "_law_width_here", "_law_values", "_law_rows", "_law_told_here"] spI) (use : 1 < n → spI = spDeep T.k_Running.C (TL K) (n - 1)) :
    FnQ Pr w K mg base (L + 3) T.f_law_deep.a T.f_law_deep.fd ["_law_running", "_law_width_here", "_law_values", "_law_rows", "_law_told_here"] (spDeep T.k_Running.C (TL K) n) := by
  refine fnqC T.f_law_deep.F sc_law_deep (fun fd oc od osl lk ci => code_lamlaw_deep T fd oc od osl lk ci) (fun vs H Q E h => ?_) (fun A outer s H vs Q gd hr h => ?_)
  · obtain ⟨r, l, w, ns, sv, v, q, tl, rows, row0, m, rfl, _⟩ := h
    rfl
  · obtain ⟨r, l, wd, ns, sv, v, q, tl, rows, row0, m, rfl, R, VV, RW_, en, ht, m40, few, ap, tll, tabs, k⟩ := h
    refine ⟨_, (pss_cons (ps_set (i := 7) sc_law_deep.nd rfl (Or.inr rfl) (pe_callTy call_list_of (by rfl) T.b_list (by decide +kernel) (pa_cons (pv 2) pa_nil)))
      (Evl.pss_cut (ps_for PassesOwn.never rfl (pi_list (pe_ix ix_list (pv 3) pe_int (fun _ _ => rfl))) (pg_name (i := 5) sc_law_deep.nd rfl (Or.inl rfl)) (pss_cons (ps_expr (pe_meth (pv 0) T.k_Running.cl T.f_Running_add.M (ok_Running_add T) (hr.mono (by omega)) (bd_Running_add T) .nil passes_none (pa_cons (pv 5) pa_nil)))
      (pss_one (ps_expr (pe_bm PySem.F.plainAttrs_list PySem.F.slot_list_append PySem.F.type_list_append mt_append (pv 7) (pa_cons (pv 5) pa_nil))))))
      (pss_cons (ps_expr (pe_bm PySem.F.plainAttrs_list PySem.F.slot_list_append PySem.F.type_list_append mt_append (pv 4) (pa_cons (pe_cmpR (op_eqD hr.units) (pe_callQ (ok_law_told T) gd (hr.mono (by omega)) (by rfl) T.f_law_told.m T.f_law_told.F.kp (bd_law_told T) (pa_cons (pv 0) pa_nil)) (pe_callQ (ok_law_due T) gd (hr.mono (by omega)) (by rfl) T.f_law_due.m T.f_law_due.F.kp (bd_law_due T) (pa_cons (pv 1) (pa_cons (pv 7) pa_nil))) (nomark _)) pa_nil)))
      (pss_cons (ps_if (pt_cmpR op_gt (pe_callB call_len_seq (by rfl) T.b_len (by decide +kernel) (pa_cons (pv 3) pa_nil)) pe_int (nomark _)) (pss_cons (ps_set (i := 6) sc_law_deep.nd rfl (Or.inl rfl) (TzLam.pe_lamM (TT := TTtried T.k_Running.C T.k_Saved.C) (k := L) (pv 0) T.k_Running.cl T.f_Running_tried.M (hr.mono (by omega)) T.f_Running_tried.F (bd_Running_tried T) sc_Running_tried rfl (.inl rfl) (fun k2 h2 => gives_triedK T rfl rfl (k := k2 + 1) (by omega)) (TB _ hclaw_deep) (by rfl) hmlaw_deep (hulaw_deep T) (show LamX.LamS (defScope s_law_deep) _ from LamX.lamS_by (by decide +kernel)) (by rfl) (by exact fun _ _ _ _ _ => rfl) passes_none (fun A outer s H E f c' gd2 hr2 => (pe_callQ ih (gd2.trans gd) (hr2.mono (by omega)) (by rfl) T.f_law_deep.m T.f_law_deep.F.kp (bd_law_deep T) (pa_cons (pv 0) (pa_cons (pv 1) (pa_cons (pv 7) (pa_cons (pe_slice (sl_listK (K := K) rfl) (pv 3) (po_some pe_int) po_none) (pa_cons (pv 4) pa_nil)))))))))
      (pss_cons (ps_expr (pe_bm PySem.F.plainAttrs_list PySem.F.slot_list_append PySem.F.type_list_append mt_append (pv 4) (pa_cons (pe_cmpR op_eq (pv 6) (pe_op op_sub (pe_callB call_len_seq (by rfl) T.b_len (by decide +kernel) (pa_cons (pv 3) pa_nil)) pe_int) (nomark _)) pa_nil)))
      (pss_one (ps_expr (pe_bm PySem.F.plainAttrs_list PySem.F.slot_list_append PySem.F.type_list_append mt_append (pv 4) (pa_cons (pe_cmpR (op_eqD hr.units) (pe_callQ (ok_law_told T) gd (hr.mono (by omega)) (by rfl) T.f_law_told.m T.f_law_told.F.kp (bd_law_told T) (pa_cons (pv 0) pa_nil)) (pe_callQ (ok_law_due T) gd (hr.mono (by omega)) (by rfl) T.f_law_due.m T.f_law_due.F.kp (bd_law_due T) (pa_cons (pv 1) (pa_cons (pv 7) pa_nil))) (nomark _)) pa_nil)))))) pss_nil)
      (pss_one (ps_ret (pe_callB call_len_seq (by rfl) T.b_len (by decide +kernel) (pa_cons (pv 3) pa_nil)))))))), ?_⟩
    obtain ⟨⟨dr, hr0⟩, hl, w1, w64, bd, few40⟩ := id R
    have rl : r ≠ l := R.ne
    have tr : tl ≠ r := fun z => by
      rw [z, hr0] at ht
      cases ht
    obtain ⟨apq, apv, apr⟩ := ap
    have at0 := RW_.each row0 List.mem_cons_self
    refine ⟨_, rfl, v, _, rfl, .inl (sq VV.at_), fun kp nkp => ?_⟩
    (generalize g_H1 : upd _ kp _ = H1); have hk := gat g_H1; have e1 := gex g_H1 nkp; clear g_H1
    refine ⟨fun σ' H' => ∃ o, σ' = [some (.ref r), some (.int (wd : Int)), some (.ref v), some (.ref q), some (.ref tl), o, none, some (.ref kp)] ∧ RunAt T.k_Running.C H' r l wd (ns ++ row0.2) sv ∧ H' kp = some (.lst ((ns ++ row0.2).map V.int)) ∧ But [r, l] H H' ∧ LamX.Tabs (TL K) H', ?_, ?_⟩
    · have b0 : row0.1 ∉ [r, l, kp] := fun z => by
        rcases List.mem_cons.mp z with z | z
        · exact apr row0 List.mem_cons_self (by rw [z]; exact List.mem_cons_self)
        · rcases List.mem_cons.mp z with z | z
          · exact apr row0 List.mem_cons_self (by rw [z]; exact List.mem_cons_of_mem _ List.mem_cons_self)
          · exact ne_of_none at0.1 nkp (List.mem_singleton.mp z)
      refine ⟨_, rfl, q, _, 0, .ref row0.1, rfl, rfl, sq (e1 _ _ RW_.at_), atI_nat (j := 0) rfl, ?_⟩
      have hq0 := e1 _ _ at0.1
      refine ⟨row0.1, rfl, ⟨_, sq hq0⟩, for_list (K := K) (a := row0.1) (xs := row0.2.map V.int) (fun i σ' H' => ∃ o, σ' = [some (.ref r), some (.int (wd : Int)), some (.ref v), some (.ref q), some (.ref tl), o, none, some (.ref kp)] ∧ RunAt T.k_Running.C H' r l wd (ns ++ row0.2.take i) sv ∧ H' kp = some (.lst ((ns ++ row0.2.take i).map V.int)) ∧ But [r, l, kp] H1 H' ∧ LamX.Tabs (TL K) H')
        ⟨_, rfl, by rw [List.take_zero, List.append_nil]; exact R.ex e1, by rw [List.take_zero, List.append_nil]; exact hk, But.refl, tabs.ext e1⟩ (fun i σ' H' _ y => by obtain ⟨o, _, _, _, b, _⟩ := y; exact sq (b _ _ b0 (fun _ q => by cases q) hq0)) ?_ ?_⟩
      · rintro i y σ' H2 hy ⟨o, rfl, R2, hk2, b2, T2⟩
        have il : i < row0.2.length := by
          have := (List.getElem?_eq_some_iff.mp hy).1
          rwa [List.length_map] at this
        rw [List.getElem?_map, List.getElem?_eq_getElem il] at hy
        have ey := (Option.some.inj hy).symm
        subst ey
        have xb := at0.2.2 _ (List.getElem_mem il)
        have ln : (ns ++ row0.2.take i).length ≤ 33 := by
          rw [List.length_append, List.length_take]
          have := at0.2.1
          omega
        obtain ⟨⟨dr2, hr2⟩, _⟩ := id R2
        have kr : kp ≠ r := (ne_of_none hr0 nkp).symm
        have kl : kp ≠ l := (ne_of_none hl nkp).symm
        refine ⟨_, rfl, r, dr2, _, rfl, hr2, (rf_no (by decide +kernel) (by decide +kernel) (by decide +kernel) (by decide +kernel)), _, rfl, r, l, wd, _, sv, .int _, .val _, rfl, R2, .int xb.1 xb.2, by omega, fun H3 R3 t3 => ?_⟩
        have hk3 := t3 _ _ kr kl hk2
        refine ⟨_, rfl, .inl ⟨rfl, _, sq hk3⟩, _, rfl, kp, _, _, rfl, rfl, hk3, by rw [List.length_map]; exact Nat.lt_of_le_of_lt ln (by decide), ?_⟩
        (generalize g_H4 : upd _ kp _ = H4); have h4 := gat g_H4; have f4 := gfw g_H4; clear g_H4
        have tk : ns ++ row0.2.take (i + 1) = ns ++ row0.2.take i ++ [row0.2[i]] := by rw [List.take_add_one, List.getElem?_eq_getElem il, List.append_assoc]; rfl
        have T3 := tabs_two T2 R2 t3
        refine ⟨_, rfl, ?_, ?_, ?_, ?_⟩
        · rw [tk]
          exact R3.fw f4 kr.symm kl.symm
        · rw [tk, List.map_append (l₁ := ns ++ row0.2.take i) (l₂ := [row0.2[i]])]
          exact h4
        · exact (b2.trans (t3.but.mono fun x m => by
            rcases List.mem_cons.mp m with m | m
            · rw [m]
              exact List.mem_cons_self
            · rw [List.mem_singleton.mp m]
              exact List.mem_cons_of_mem _ List.mem_cons_self)).trans ((f4.but (S := [])).mono fun x m => by
            rw [List.mem_singleton.mp m]
            exact List.mem_cons_of_mem _ (List.mem_cons_of_mem _ List.mem_cons_self))
        · exact tabs_go T3 f4 ⟨_, hk3⟩
      · rintro σ' H2 ⟨o, rfl, R2, hk2, b2, T2⟩
        rw [List.length_map, List.take_of_length_le (Nat.le_refl _)] at R2 hk2
        exact ⟨o, rfl, R2, hk2, But.skip (fun o h => by rw [nkp] at h; cases h) ((e1.but.trans b2).mono fun x m => by
          rcases List.mem_cons.mp m with m | m
          · rw [m]
            exact List.mem_cons_of_mem _ List.mem_cons_self
          · rcases List.mem_cons.mp m with m | m
            · rw [m]
              exact List.mem_cons_of_mem _ (List.mem_cons_of_mem _ List.mem_cons_self)
            · rw [List.mem_singleton.mp m]
              exact List.mem_cons_self), T2⟩
    rintro σ' H2 ⟨o, rfl, R2, hk2, b2, T2⟩
    have ln2 : (ns ++ row0.2).length ≤ 33 := by
      rw [List.length_append]
      have := at0.2.1
      omega
    have in2 : ∀ {x : Addr}, x ∉ [r, l, tl] → x ∉ [r, l] := fun {x} n z => by
      rcases List.mem_cons.mp z with z | z
      · exact n (by rw [z]; exact List.mem_cons_self)
      · exact n (by rw [List.mem_singleton.mp z]; exact List.mem_cons_of_mem _ List.mem_cons_self)
    have m2 : ∀ x, x ∈ [r, l] → x ∈ [r, l, tl] := fun x z => Classical.byContradiction fun n => in2 n z
    have mt : ∀ x, x ∈ [tl] → x ∈ [r, l, tl] := fun x z => by
      rw [List.mem_singleton.mp z]
      exact List.mem_cons_of_mem _ (List.mem_cons_of_mem _ List.mem_cons_self)
    have tin : tl ∉ [r, l] := fun z => by
      rcases List.mem_cons.mp z with z | z
      · exact tr z
      · exact tll (List.mem_singleton.mp z)
    have kt : kp ≠ tl := (ne_of_none ht nkp).symm
    have kr : kp ≠ r := (ne_of_none hr0 nkp).symm
    have kl : kp ≠ l := (ne_of_none hl nkp).symm
    have ht2 := b2 _ _ tin (fun _ q => by cases q) ht
    have V2 : Vals9 H2 kp wd (ns ++ row0.2) := ⟨hk2, R2.bd, R2.few⟩
    refine ⟨_, rfl, .inl ⟨rfl, _, sq ht2⟩, _, rfl, r, l, wd, _, sv, rfl, R2, fun p H3 ss np e3 asc hp => ?_⟩
    refine ⟨_, rfl, _, rfl, wd, kp, _, rfl, w1, w64, V2.ex e3, fun p2 H4 ss2 np2 e4 asc2 hp2 => ?_⟩
    have es : ss = ss2 := asc_eq (asc.1.trans asc2.1.symm) asc.2 asc2.2
    subst es
    refine ⟨_, _, dp_tl3 (e4 _ _ hp), dp_tl3 hp2, tl3_same.1, tl3_same.1, ?_⟩
    rw [tl3_same.2]
    have e24 := e3.trans e4
    have ht4 := e24 _ _ ht2
    refine ⟨tl, _, _, rfl, rfl, ht4, by unfold trues; rw [List.length_replicate]; exact Nat.lt_of_le_of_lt (show m ≤ 40 by omega) (by decide), ?_⟩
    (generalize g_H5 : upd _ tl _ = H5); have h5 := gat g_H5; have f5 := gfw g_H5; clear g_H5
    have h5 : H5 tl = some (.lst (trues (m + 1))) := by
      rw [← trues_snoc]
      exact h5
    have R5 := (R2.ex e24).fw f5 tr.symm tll.symm
    have k5 := f5 _ _ kt (e24 _ _ hk2)
    have b5 : But [r, l, tl] H H5 := (b2.mono m2).trans (e24.but.trans ((f5.but (S := [])).mono mt))
    have T5 := tabs_go (T2.ext e24) f5 ⟨_, ht4⟩
    have RW5 := RW_.but b5 apq apr
    obtain ⟨⟨dr5, hr5⟩, hl5, _⟩ := id R5
    refine ⟨_, rfl, q, _, rfl, .inl (sq RW5.at_), _, _, rfl, rfl, _, rfl, ite2 (fun g => ?_) (fun g => ?_)⟩
    · have g := of_decide_eq_true g
      rw [List.length_map, List.length_cons] at g
      have n1 : 1 < n := by omega
      have eI := use n1
      subst eI
      cases hrows : rows with
      | nil =>
        rw [hrows] at en
        exact absurd (show 0 + 1 = n from en) (by omega)
      | cons row1 rows' =>
      subst hrows
      have en' : rows'.length + 1 + 1 = n := en
      refine ⟨_, rfl, r, dr5, _, rfl, hr5, (rf_no (by decide +kernel) (by decide +kernel) (by decide +kernel) (by decide +kernel)), T5, fun H6 e6 T6 => ⟨l, wd, _, sv, R5.ext e6, fun l1 sd H7 n1 n2 R7 S7 f7 ne => ?_⟩⟩
      obtain ⟨T7, sr, lr, ll, sl⟩ := trial_in R5 e6 T6 n1 n2 f7
      have up : ∀ {x : Addr} {xs : List V}, x ≠ r → H5 x = some (.lst xs) → H7 x = some (.lst xs) := fun {x xs} nx h => f7 _ _ nx (e6 _ _ h (fun _ q => by cases q))
      have nw : ∀ {x : Addr} {xs : List V}, H5 x = some (.lst xs) → x ≠ l1 := fun {x xs} h => ne_of_none (e6 _ _ h (fun _ q => by cases q)) n1
      have nr : ∀ {x : Addr} {xs : List V}, H5 x = some (.lst xs) → x ≠ r := fun {x xs} h => ne_of h hr5 (by intro q; cases q)
      have up' : ∀ {x : Addr} {xs : List V}, H5 x = some (.lst xs) → H7 x = some (.lst xs) := fun {x xs} h => up (nr h) h
      refine ⟨_, rfl, _, rfl, _, rfl, _, rfl, _, rfl, q, _, rfl, sq (up' RW5.at_), fun b nb => ?_⟩
      (generalize g_H8 : upd _ b _ = H8); have hb := gat g_H8; have e8 := gex g_H8 nb; clear g_H8
      have hb : H8 b = some (.lst ((row1 :: rows').map fun p => V.ref p.1)) := by
        rw [hb]
        exact congrArg (fun z => some (HO.lst z)) (cut_tail _ _)
      have R8 := R7.ex e8
      have b7 : ∀ {x : Addr}, x ≠ r → ∀ {xs : List V}, H5 x = some (.lst xs) → H8 x = some (.lst xs) := fun {x} nx {xs} h => e8 _ _ (up nx h)
      have RW8 : RowsW H8 b wd (row1 :: rows') := ⟨hb, fun p m => by
        have z := RW5.each p (List.mem_cons_of_mem _ m)
        exact ⟨e8 _ _ (up' z.1), z.2⟩⟩
      have newb : ∀ {x : Addr} {xs : List V}, H5 x = some (.lst xs) → b ≠ x := fun {x xs} h => (ne_of_none (up' h) nb).symm
      have apart8 : Apart b kp (row1 :: rows') [r, l1, tl] := by
        have off : ∀ {x : Addr}, x ≠ r → x ≠ l1 → x ≠ tl → x ∉ [r, l1, tl] := fun a c d z => by
          rcases List.mem_cons.mp z with z | z
          · exact a z
          · rcases List.mem_cons.mp z with z | z
            · exact c z
            · exact d (List.mem_singleton.mp z)
        obtain ⟨⟨dr7, hr7⟩, hl7, _⟩ := id R7
        refine ⟨off (ne_of_none hr7 nb).symm (ne_of_none hl7 nb).symm (newb h5), off kr (nw k5) kt, fun p m => ?_⟩
        have z := RW5.each p (List.mem_cons_of_mem _ m)
        exact off (nr z.1) (nw z.1) (fun q => apr p (List.mem_cons_of_mem _ m) (by rw [q]; exact List.mem_cons_of_mem _ (List.mem_cons_of_mem _ List.mem_cons_self)))
      refine ⟨_, rfl, r, l1, wd, _, .ref sd, kp, b, tl, rows', row1, m + 1, rfl, R8, ⟨b7 kr k5, R8.bd, R8.few⟩, RW8, by omega, b7 tr h5, by omega, by have := at0.2.1; rw [List.length_append]; omega, apart8, nw h5, T7.ext e8, fun H9 R9 h9 b9 T9 => ?_⟩
      have sl' : sd ≠ tl := (ne_of_none (e6 _ _ h5 (fun _ q => by cases q)) n2).symm
      obtain ⟨U, fin⟩ := trial_out (S := [tl]) R5 e6 n1 S7 f7 ne ⟨sr, lr, ll⟩ (e8.but.trans b9) (fun z => sl' (List.mem_singleton.mp z)) (fun z => tll (List.mem_singleton.mp z).symm) R9 T9
      refine ⟨U, fun H10 R10 f10 => ?_⟩
      obtain ⟨b10, T10⟩ := fin H10 R10 f10
      have h10 := f10 _ _ tr h9
      have rt : ∀ x, x ∈ [r, tl] → x ∈ [r, l, tl] := fun x z => by
        rcases List.mem_cons.mp z with z | z
        · rw [z]
          exact List.mem_cons_self
        · exact mt x z
      have b010 := b5.trans (b10.mono rt)
      have RW10 := RW_.but b010 apq apr
      have k10 := b10 _ _ (fun z => by
        rcases List.mem_cons.mp z with z | z
        · exact kr z
        · exact kt (List.mem_singleton.mp z)) (fun _ q => by cases q) k5
      refine ⟨_, rfl, .inl ⟨rfl, _, sq h10⟩, _, rfl, _, rfl, q, _, rfl, .inl (sq RW10.at_), _, _, rfl, rfl, ?_⟩
      have M1 : m + 1 + 3 * (n - 1) - 2 = m + 3 * n - 4 := by omega
      rw [M1] at h10
      have lt : ∀ {j : Nat}, j ≤ m + 3 * n → (trues j).length < sizeLine := fun {j} h => by
        unfold trues
        rw [List.length_replicate]
        exact Nat.lt_of_le_of_lt (show j ≤ 40 by omega) (by decide)
      refine ⟨rfl, tl, _, _, rfl, rfl, h10, lt (by omega), ?_⟩
      (generalize g_H11 : upd _ tl _ = H11); have h11 := gat g_H11; have f11 := gfw g_H11; clear g_H11
      have ev : (((row0 :: row1 :: rows').map fun p => V.ref p.1).length : Int) - 1 = ((n - 1 : Nat) : Int) := by
        rw [List.length_map]
        show ((rows'.length + 1 + 1 : Nat) : Int) - 1 = _
        omega
      have h11 : H11 tl = some (.lst (trues (m + 3 * n - 4 + 1))) := by
        rw [← trues_snoc]
        refine h11.trans (congrArg (fun z => some (HO.lst (trues _ ++ [V.bl z]))) ?_)
        exact decide_eq_true (congrArg V.int ev.symm)
      have R11 := R10.fw f11 tr.symm tll.symm
      have k11 := f11 _ _ kt k10
      have T11 := tabs_go T10 f11 ⟨_, h10⟩
      have b011 := b010.trans ((f11.but (S := [])).mono mt)
      have V11 : Vals9 H11 kp wd (ns ++ row0.2) := ⟨k11, R11.bd, R11.few⟩
      refine ⟨_, rfl, .inl ⟨rfl, _, sq h11⟩, _, rfl, r, l, wd, _, sv, rfl, R11, fun p' H12 ss' np' e12 asc' hp' => ?_⟩
      refine ⟨_, rfl, _, rfl, wd, kp, _, rfl, w1, w64, V11.ex e12, fun p3 H13 ss3 np3 e13 asc3 hp3 => ?_⟩
      have es' : ss' = ss3 := asc_eq (asc'.1.trans asc3.1.symm) asc'.2 asc3.2
      subst es'
      refine ⟨_, _, dp_tl3 (e13 _ _ hp'), dp_tl3 hp3, tl3_same.1, tl3_same.1, ?_⟩
      rw [tl3_same.2]
      have e113 := e12.trans e13
      have h13 := e113 _ _ h11
      refine ⟨tl, _, _, rfl, rfl, h13, lt (by omega), ?_⟩
      (generalize g_H14 : upd _ tl _ = H14); have h14 := gat g_H14; have f14 := gfw g_H14; clear g_H14
      have h14 : H14 tl = some (.lst (trues (m + 3 * n - 4 + 1 + 1))) := by
        rw [← trues_snoc]
        exact h14
      have b014 := b011.trans (e113.but.trans ((f14.but (S := [])).mono mt))
      have RW14 := RW_.but b014 apq apr
      refine ⟨_, rfl, q, _, rfl, .inl (sq RW14.at_), ?_⟩
      rw [List.length_map, List.length_cons, en]
      refine k H14 ((R11.ex e113).fw f14 tr.symm tll.symm) ?_ b014 (tabs_go (T11.ext e113) f14 ⟨_, h13⟩)
      rw [show m + 3 * n - 2 = m + 3 * n - 4 + 1 + 1 by omega]
      exact h14
    · have g : ¬ (1 : Int) < ((row0 :: rows).map fun p => V.ref p.1).length := fun z => g (decide_eq_true z)
      rw [List.length_map, List.length_cons] at g
      refine ⟨_, rfl, q, _, rfl, .inl (sq RW5.at_), ?_⟩
      rw [List.length_map, List.length_cons, en]
      refine k H5 R5 ?_ b5 T5
      rw [show m + 3 * n - 2 = m + 1 by omega]
      exact h5
theorem ok_law_deep {Pr : Program} (T : Tx K mg) (TB : ∀ p ∈ CS K, LamX.TabB base mg p.1 p.2) : FnQ Pr w K mg base 18 T.f_law_deep.a T.f_law_deep.fd ["_law_running", "_law_width_here", "_law_values", "_law_rows", "_law_told_here"] (spDeepA T.k_Running.C (TL K)) := by
  have none_ : FnQ Pr w K mg base 9 T.f_law_deep.a T.f_law_deep.fd ["_law_running", "_law_width_here", "_law_values", "_law_rows", "_law_told_here"] (fun _ _ _ _ => False) := ⟨fun _ _ _ _ h => h.elim, fun _ _ _ _ _ _ _ _ _ _ _ _ _ h => h.elim⟩
  have d1 : FnQ Pr w K mg base 12 T.f_law_deep.a T.f_law_deep.fd ["_law_running", "_law_width_here", "_law_values", "_law_rows", "_law_told_here"] (spDeep T.k_Running.C (TL K) 1) := ok_deep_step T TB (by decide) none_ (fun h => absurd h (by decide))
  have d2 : FnQ Pr w K mg base 15 T.f_law_deep.a T.f_law_deep.fd ["_law_running", "_law_width_here", "_law_values", "_law_rows", "_law_told_here"] (spDeep T.k_Running.C (TL K) 2) := ok_deep_step T TB (by decide) d1 (fun _ => rfl)
  have d3 : FnQ Pr w K mg base 18 T.f_law_deep.a T.f_law_deep.fd ["_law_running", "_law_width_here", "_law_values", "_law_rows", "_law_told_here"] (spDeep T.k_Running.C (TL K) 3) := ok_deep_step T TB (by decide) d2 (fun _ => rfl)
  have d1 := fnq_mono d1 (show 12 ≤ 18 by decide)
  have d2 := fnq_mono d2 (show 15 ≤ 18 by decide)
  refine ⟨fun vs H Q E h => ?_, fun A out s H args us vs Q gd hr e0 hb rv h => ?_⟩
  · obtain ⟨n, _, _, r, l, w, ns, sv, v, q, tl, rows, row0, m, rfl, _⟩ := h
    rfl
  · obtain ⟨n, n1, n3, h⟩ := h
    rcases (show n = 1 ∨ n = 2 ∨ n = 3 by omega) with rfl | rfl | rfl
    · exact d1.run A out s H args us vs Q gd hr e0 hb rv h
    · exact d2.run A out s H args us vs Q gd hr e0 hb rv h
    · exact d3.run A out s H args us vs Q gd hr e0 hb rv h
theorem ok_law {Pr : Program} (T : Tx K mg) (TB : ∀ p ∈ CS K, LamX.TabB base mg p.1 p.2) : FnQ Pr w K mg base 21 T.f_law.a T.f_law.fd ["_law_script"] (spLawT K (TL K)) := by
  refine fnqC T.f_law.F sc_law (fun fd oc od osl lk ci => code_lamlaw T fd oc od osl lk ci) (fun vs H Q E h => ?_) (fun A outer s H vs Q gd hr h => ?_)
  · obtain ⟨a, ns, rfl, _⟩ := h
    rfl
  · obtain ⟨a, ns, rfl, hS, hl, TS, k⟩ := h
    refine ⟨_, (pss_cons (ps_set (i := 1) sc_law.nd rfl (Or.inr rfl) (pe_call (ok_law_pen T) (hr.mono (by decide)) (by rfl) T.f_law_pen.m T.f_law_pen.F.kp (bd_law_pen T) .nil pass0 (pa_cons (pv 0) pa_nil)))
      (pss_cons (ps_set (i := 9) sc_law.nd rfl (Or.inr rfl) (pe_call (ok_law_width T) (hr.mono (by decide)) (by rfl) T.f_law_width.m T.f_law_width.F.kp (bd_law_width T) .nil pass0 (pa_cons (pv 1) pa_nil)))
      (Evl.pss_cut (ps_asg (pe_tup (pa_cons (pe_make (mk_Running T) (ok_Running_init_ T) (hr.mono (by decide)) (by rfl) T.k_Running.m (bd_Running_init_ T) .nil pass0 (pa_cons (pv 9) pa_nil)) (pa_cons (pe_lc (own := [("_law_k", 11)]) (g := gName 11) (tt := tYes) (by rfl) sc_law.nd (pi_range1 (by rfl) T.b_range (pa_cons (pe_call (ok_law_draw T) (hr.mono (by decide)) (by rfl) T.f_law_draw.m T.f_law_draw.F.kp (bd_law_draw T) .nil pass0 (pa_cons (pv 1) (pa_cons pe_int pa_nil))) pa_nil)) (blkOk_by (own := [("_law_k", 11)]) (N := ["_law_script", "_law_pen_here", "_law_turn", "_law_deep_here", "_law_many", "_law_rows", "_law_running", "_law_told_here", "_law_values", "_law_width_here", "_law_worth", "_law_k"]) (sc := defScope s_law) (by decide +kernel)) (fun _ _ _ _ _ => pg_name (i := 11) sc_law.nd rfl (Or.inl rfl)) (fun _ _ _ _ _ => pts_nil) (fun _ _ _ _ _ => (pe_call (ok_law_value T) (hr.mono (by decide)) (by rfl) T.f_law_value.m T.f_law_value.F.kp (bd_law_value T) .nil pass0 (pa_cons (pv 1) (pa_cons (pv 9) pa_nil))))) pa_nil))) (pg_tup rfl (pgs_cons (pg_name (i := 6) sc_law.nd rfl (Or.inr rfl)) (pgs_cons (pg_name (i := 8) sc_law.nd rfl (Or.inr rfl)) pgs_nil))))
      (Evl.pss_cut (ps_for PassesOwn.never rfl (pi_list (pv 8)) (pg_name (i := 10) sc_law.nd rfl (Or.inr rfl)) (pss_one (ps_aug (i := 6) sc_law.nd rfl (Or.inr rfl) (pv 10) (TzOwn.ip_any (ok_Running_iadd_ T) (hr.mono (by decide)) T.f_Running_iadd_.M (by decide +kernel) T.sf_Running (bd_Running_iadd_ T) passes_none))))
      (pss_cons (ps_for PassesOwn.never rfl (pi_range1 (by rfl) T.b_range (pa_cons pe_int pa_nil)) (pg_name (i := 2) sc_law.nd rfl (Or.inl rfl)) (pss_cons (ps_asg (pe_tup (pa_cons (pe_lst pa_nil) (pa_cons (pe_lst pa_nil) pa_nil))) (pg_tup rfl (pgs_cons (pg_name (i := 5) sc_law.nd rfl (Or.inr rfl)) (pgs_cons (pg_name (i := 7) sc_law.nd rfl (Or.inr rfl)) pgs_nil))))
      (Evl.pss_cut (ps_for PassesOwn.never rfl (pi_range1 (by rfl) T.b_range (pa_cons (pe_op op_add pe_int (pe_call (ok_law_draw T) (hr.mono (by decide)) (by rfl) T.f_law_draw.m T.f_law_draw.F.kp (bd_law_draw T) .nil pass0 (pa_cons (pv 1) (pa_cons pe_int pa_nil)))) pa_nil)) (pg_name (i := 3) sc_law.nd rfl (Or.inl rfl)) (pss_one (ps_expr (pe_bm PySem.F.plainAttrs_list PySem.F.slot_list_append PySem.F.type_list_append mt_append (pv 5) (pa_cons (pe_lc (own := [("_law_k", 11)]) (g := gName 11) (tt := tYes) (by rfl) sc_law.nd (pi_range1 (by rfl) T.b_range (pa_cons (pe_call (ok_law_draw T) (hr.mono (by decide)) (by rfl) T.f_law_draw.m T.f_law_draw.F.kp (bd_law_draw T) .nil pass0 (pa_cons (pv 1) (pa_cons pe_int pa_nil))) pa_nil)) (blkOk_by (own := [("_law_k", 11)]) (N := ["_law_script", "_law_pen_here", "_law_turn", "_law_deep_here", "_law_many", "_law_rows", "_law_running", "_law_told_here", "_law_values", "_law_width_here", "_law_worth", "_law_k"]) (sc := defScope s_law) (by decide +kernel)) (fun _ _ _ _ _ => pg_name (i := 11) sc_law.nd rfl (Or.inl rfl)) (fun _ _ _ _ _ => pts_nil) (fun _ _ _ _ _ => (pe_call (ok_law_value T) (hr.mono (by decide)) (by rfl) T.f_law_value.m T.f_law_value.F.kp (bd_law_value T) .nil pass0 (pa_cons (pv 1) (pa_cons (pv 9) pa_nil))))) pa_nil)))))
      (Evl.pss_cut (ps_set (i := 4) sc_law.nd rfl (Or.inl rfl) (TzLam.pe_lamM (TT := TTtried T.k_Running.C T.k_Saved.C) (k := 18) (pv 6) T.k_Running.cl T.f_Running_tried.M (hr.mono (by decide)) T.f_Running_tried.F (bd_Running_tried T) sc_Running_tried rfl (.inl rfl) (fun k2 h2 => gives_triedK T rfl rfl (k := k2 + 1) (by omega)) (TB _ hclaw) (by rfl) hmlaw (hulaw T) (show LamX.LamS (defScope s_law) _ from LamX.lamS_by (by decide +kernel)) (by rfl) (by exact fun _ _ _ _ _ => rfl) passes_none (fun A outer s H E f c' gd2 hr2 => (pe_callQ (ok_law_deep T TB) (gd2.trans gd) (hr2.mono (by decide)) (by rfl) T.f_law_deep.m T.f_law_deep.F.kp (bd_law_deep T) (pa_cons (pv 6) (pa_cons (pv 9) (pa_cons (pv 8) (pa_cons (pv 5) (pa_cons (pv 7) pa_nil)))))))))
      (Evl.pss_cut (ps_if (PW.pt (pw_or (pt_cmpR op_ne (pv 4) (pe_callB call_len_seq (by rfl) T.b_len (by decide +kernel) (pa_cons (pv 5) pa_nil)) (nomark _)) (pw_or1 (pt_cmpR op_in_seq pe_bl (pv 7) (by rfl))))) (pss_one (ps_ret pe_bl)) pss_nil)
      (Evl.pss_cut (ps_if (PW.pt (pw_or (pt_cmpR op_ne (pe_callB call_len_seq (by rfl) T.b_len (by decide +kernel) (pa_cons (pv 7) pa_nil)) (pe_op op_sub (pe_op op_mul pe_int (pe_callB call_len_seq (by rfl) T.b_len (by decide +kernel) (pa_cons (pv 5) pa_nil))) pe_int) (nomark _)) (pw_or1 (pt_cmpR (op_neD hr.units) (pe_callQ (ok_law_told T) gd (hr.mono (by decide)) (by rfl) T.f_law_told.m T.f_law_told.F.kp (bd_law_told T) (pa_cons (pv 6) pa_nil)) (pe_callQ (ok_law_due T) gd (hr.mono (by decide)) (by rfl) T.f_law_due.m T.f_law_due.F.kp (bd_law_due T) (pa_cons (pv 9) (pa_cons (pv 8) pa_nil))) (nomark _))))) (pss_one (ps_ret pe_bl)) pss_nil)
      (pss_cons (ps_set (i := 10) sc_law.nd rfl (Or.inr rfl) (pe_call (ok_law_value T) (hr.mono (by decide)) (by rfl) T.f_law_value.m T.f_law_value.F.kp (bd_law_value T) .nil pass0 (pa_cons (pv 1) (pa_cons (pv 9) pa_nil))))
      (Evl.pss_cut (ps_if (pt_cmpR op_isnot_bl (TzLam.pe_lamM (TT := TTtried T.k_Running.C T.k_Saved.C) (k := 18) (pv 6) T.k_Running.cl T.f_Running_tried.M (hr.mono (by decide)) T.f_Running_tried.F (bd_Running_tried T) sc_Running_tried rfl (.inl rfl) (fun k2 h2 => gives_triedK T rfl rfl (k := k2 + 1) (by omega)) (TB _ hclaw) (by rfl) hmlaw (hulaw T) (show LamX.LamS (defScope s_law) _ from LamX.lamS_by (by decide +kernel)) (by rfl) (by exact fun _ _ _ _ _ => rfl) passes_none (fun A outer s H E f c' gd2 hr2 => (pe_callQ (ok_law_around T TB) (gd2.trans gd) (hr2.mono (by decide)) (by rfl) T.f_law_around.m T.f_law_around.F.kp (bd_law_around T) (pa_cons (pv 6) (pa_cons (pv 9) (pa_cons (pv 8) (pa_cons (pv 10) pa_nil))))))) pe_bl (by rfl)) (pss_one (ps_ret pe_bl)) pss_nil)
      (Evl.pss_cut (ps_if (PW.pt (pw_or (pt_not (pt_val (pe_callQ (ok_law_undone T TB) gd (hr.mono (by decide)) (by rfl) T.f_law_undone.m T.f_law_undone.F.kp (bd_law_undone T) (pa_cons (pv 6) (pa_cons (pv 10) pa_nil))))) (pw_or1 (pt_cmpR (op_neD hr.units) (pe_callQ (ok_law_told T) gd (hr.mono (by decide)) (by rfl) T.f_law_told.m T.f_law_told.F.kp (bd_law_told T) (pa_cons (pv 6) pa_nil)) (pe_callQ (ok_law_due T) gd (hr.mono (by decide)) (by rfl) T.f_law_due.m T.f_law_due.F.kp (bd_law_due T) (pa_cons (pv 9) (pa_cons (pv 8) pa_nil))) (nomark _))))) (pss_one (ps_ret pe_bl)) pss_nil)
      (pss_one (ps_if (PW.pt (pw_or (pt_cmpR op_ne (pe_callB SkE.call_repr_int (by rfl) T.b_repr (by decide +kernel) (pa_cons (pe_callQ (ok_law_fallen T TB) gd (hr.mono (by decide)) (by rfl) T.f_law_fallen.m T.f_law_fallen.F.kp (bd_law_fallen T) (pa_cons (pv 6) (pa_cons (pv 10) pa_nil))) pa_nil)) (pe_callB SkE.call_repr_int (by rfl) T.b_repr (by decide +kernel) (pa_cons (pv 10) pa_nil)) (nomark _)) (pw_or1 (pt_cmpR (op_neD hr.units) (pe_callQ (ok_law_told T) gd (hr.mono (by decide)) (by rfl) T.f_law_told.m T.f_law_told.F.kp (bd_law_told T) (pa_cons (pv 6) pa_nil)) (pe_callQ (ok_law_due T) gd (hr.mono (by decide)) (by rfl) T.f_law_due.m T.f_law_due.F.kp (bd_law_due T) (pa_cons (pv 9) (pa_cons (pv 8) pa_nil))) (nomark _))))) (pss_one (ps_ret pe_bl)) pss_nil)))))))))))
      (pss_one (ps_ret pe_bl))))))), ?_⟩
    refine ⟨_, rfl, a, ns, rfl, hS, hl, fun z c H1 P1 e1 nz nc => ?_⟩
    have T1 := TS.ext e1
    refine ⟨_, rfl, z, c, ns, _, rfl, P1, by omega, fun wd H2 w1 w64 P2 f2 => ?_⟩
    have T2 := tabs_go T1 f2 P1.isl
    obtain ⟨wd, rfl⟩ : ∃ n : Nat, wd = (n : Int) := ⟨wd.toNat, by omega⟩
    have w1 : 1 ≤ wd := by omega
    have w64 : wd ≤ 64 := by omega
    refine ⟨fun σ' H' => ∃ r l v vs, σ' = [some (.ref a), some (.ref z), none, none, none, none, some (.ref r), none, some (.ref v), some (.int (wd : Int)), none, none] ∧ PenAt H' z c ns 20 ∧ RunAt T.k_Running.C H' r l wd [] .non ∧ Vals9 H' v wd vs ∧ vs.length ≤ 5 ∧ LamX.Tabs (TL K) H' ∧ l ≠ z ∧ l ≠ c ∧ v ≠ l ∧ v ≠ z, ?_, ?_⟩
    · refine ⟨_, rfl, fun r dr nr ndr nex => mk_run1 w1 w64 nr ndr nex fun H3 l nl e3 R3 => ⟨rfl, ?_⟩⟩
      have P3 := P2.ex e3
      have lz := (P2.off nl).1
      have lc := (P2.off nl).2
      have rz : r ≠ z := (P2.off nr).1
      refine ⟨_, rfl, z, c, ns, _, 6, rfl, P3, by omega, by decide, by decide, fun n H5 n0 n1 P5 f5 => ?_⟩
      refine ⟨_, rfl, by omega, by omega, fun D nD => lc_range (lo := 0) (n := (n : Int).toNat) (fun jj H' => PenAt H' z c ns (3 + 3 * jj) ∧ Fw z H5 H' ∧ ∃ us : List Int, H' D = some (.lst (us.map V.int)) ∧ us.length = jj ∧ ∀ n ∈ us, 0 ≤ n ∧ n ≤ mw wd) ?_ ?_ ?_⟩
      · have b := P5.off nD
        exact ⟨(P5.upd b.1 b.2).mono (by omega), fun a o n h => by rw [upd_ne (ne_of_none h nD)]; exact h, [], upd_same, rfl, fun v hv => nomatch hv⟩
      · rintro jj Hj hj ⟨Pj, fj, us, hD, hlen, hus⟩
        refine ⟨rfl, yes_go ?_⟩
        refine ⟨_, rfl, _, rfl, z, c, ns, _, wd, rfl, Pj, by omega, w1, w64, fun u Hu u0 u1 Pu fu => ?_⟩
        have b := P5.off nD
        have hDu := fu _ _ b.1 hD
        refine ⟨_, hDu, by rw [List.length_map]; exact Nat.lt_of_lt_of_le (show us.length < 100 by omega) (by decide), (Pu.upd b.1 b.2).mono (by omega), fun a o n h => by rw [upd_ne (ne_of_none h nD)]; exact fu _ _ n (fj _ _ n h), us ++ [u], ?_, ?_, ?_⟩
        · rw [upd_same, List.map_append]
          rfl
        · rw [List.length_append, hlen]
          rfl
        · intro x hx
          rcases List.mem_append.mp hx with hx | hx
          · exact hus x hx
          · rw [List.mem_singleton.mp hx]
            exact ⟨u0, mw_lt.mp u1⟩

      rintro H6 ⟨P6, f6, us, hD, lus, hus⟩
      have S6 : True := trivial
      refine ⟨by show 2 ≤ sizeLine; decide, fun tp ntp => ?_⟩
      (generalize g_H7 : upd _ tp _ = H7); have htp := gat g_H7; have e7 := gex g_H7 ntp; clear g_H7
      refine ⟨tp, _, rfl, .inl (.inl htp), rfl, _, _, rfl, _, _, rfl, rfl, ?_⟩
      have f36 := f5.trans f6
      have R6 := R3.fw f36 rz lz
      have T6 := tabs_go (T2.ext e3) f36 P3.isl
      have Dz := (P5.off nD).1
      have hl5 := f5 _ _ lz R3.li
      exact ⟨r, l, D, us, rfl, (P6.ex e7).mono (by omega), R6.ex e7, ⟨e7 _ _ hD, hus, by omega⟩, by omega, T6.ext e7, lz, lc, (ne_of_none hl5 nD).symm, Dz⟩
    rintro σ' H7 ⟨r, l, v, vs, rfl, P7, R7, V7, few, T7, lz, lc, vl, vz⟩
    have hr7 := R7.ob
    have vr : v ≠ r := by
      obtain ⟨d, h⟩ := hr7
      exact ne_of V7.at_ h (by intro q; cases q)
    refine ⟨fun σ' H' => ∃ o, σ' = [some (.ref a), some (.ref z), none, none, none, none, some (.ref r), none, some (.ref v), some (.int (wd : Int)), o, none] ∧ St10 T.k_Running.C z c r l v ns 20 wd vs (TL K) H', ?_, ?_⟩
    · refine ⟨_, rfl, v, rfl, ⟨_, sq V7.at_⟩, for_list (K := K) (a := v) (xs := vs.map V.int) (fun i σ' H' => ∃ o, σ' = [some (.ref a), some (.ref z), none, none, none, none, some (.ref r), none, some (.ref v), some (.int (wd : Int)), o, none] ∧ PenAt H' z c ns 20 ∧ RunAt T.k_Running.C H' r l wd (vs.take i) .non ∧ Vals9 H' v wd vs ∧ LamX.Tabs (TL K) H')
        ⟨_, rfl, P7, R7, V7, T7⟩ (fun i σ' H' _ y => by obtain ⟨o, _, _, _, V, _⟩ := y; exact sq V.at_) ?_ ?_⟩
      · rintro i y σ' H8 hy ⟨o, rfl, P8, R8, V8, T8⟩
        have il : i < vs.length := by
          have := (List.getElem?_eq_some_iff.mp hy).1
          rwa [List.length_map] at this
        rw [List.getElem?_map, List.getElem?_eq_getElem il] at hy
        have ey := (Option.some.inj hy).symm
        subst ey
        have xb := V7.bd _ (List.getElem_mem il)
        obtain ⟨⟨dr8, hr8⟩, _⟩ := id R8
        refine ⟨_, rfl, _, rfl, r, dr8, _, rfl, hr8, r, l, wd, _, .non, .int _, .val _, rfl, R8, .int xb.1 xb.2, by rw [List.length_take]; omega, fun H9 R9 t9 => ?_⟩
        refine ⟨_, rfl, P8.two R8 t9 lz lc, ?_, V8.two t9 vr vl, tabs_two T8 R8 t9⟩
        rw [List.take_add_one, List.getElem?_eq_getElem il]
        exact R9
      · rintro σ' H8 ⟨o, rfl, P8, R8, V8, T8⟩
        rw [List.length_map, List.take_of_length_le (Nat.le_refl _)] at R8
        exact ⟨o, rfl, P8, R8, V8, few, T8, lz, lc, vl, vz⟩
    rintro σ' H8 ⟨o10, rfl, S8⟩
    refine ⟨3, rfl, by decide, by decide, for_range (n := 3) (fun i σ' H' => ∃ o2 o3 o4 o5 o7 o10, σ' = [some (.ref a), some (.ref z), o2, o3, o4, o5, some (.ref r), o7, some (.ref v), some (.int (wd : Int)), o10, none] ∧ St10 T.k_Running.C z c r l v ns (20 + 40 * i) wd vs (TL K) H')
      ⟨_, _, _, _, _, _, rfl, S8⟩ ?_ fun σ' H' _ => k H'⟩
    rintro i σ' Ha hi ⟨o2, o3, o4, o5, o7, o10, rfl, Sa⟩
    refine ⟨by show 0 ≤ sizeLine; decide, fun p np => ?_⟩
    (generalize g_Hb : upd _ p _ = Hb); have hp := gat g_Hb; have eb := gex g_Hb np; clear g_Hb
    refine ⟨by show 0 ≤ sizeLine; decide, fun q nq => ?_⟩
    (generalize g_Hc : upd _ q _ = Hc); have hq := gat g_Hc; have ec := gex g_Hc nq; clear g_Hc
    refine ⟨by show 2 ≤ sizeLine; decide, fun tp ntp => ?_⟩
    (generalize g_Hd : upd _ tp _ = Hd); have htp := gat g_Hd; have ed := gex g_Hd ntp; clear g_Hd
    refine ⟨tp, _, rfl, .inl (.inl htp), rfl, _, _, rfl, _, _, rfl, rfl, ?_⟩
    have Np := Sa.new np
    have Sb := Sa.ex eb
    have Nq := Sb.new nq
    have pq : p ≠ q := ne_of_none hp nq
    have Sd := (Sb.ex ec).ex ed
    have hpd := ed _ _ (ec _ _ hp)
    have hqd := ed _ _ hq
    refine ⟨fun σ' H' => ∃ o2 o3 rows, σ' = [some (.ref a), some (.ref z), o2, o3, o4, some (.ref p), some (.ref r), some (.ref q), some (.ref v), some (.int (wd : Int)), o10, none] ∧ St10 T.k_Running.C z c r l v ns (20 + 40 * i + 31) wd vs (TL K) H' ∧ RowsW H' p wd rows ∧ 1 ≤ rows.length ∧ rows.length ≤ 3 ∧ H' q = some (.lst []) ∧ Apart p v rows [r, l, q], ?_, ?_⟩
    · refine ⟨_, rfl, z, c, ns, _, 3, rfl, Sd.pen, by omega, by decide, by decide, fun n He n0 n1 Pe fe => ?_⟩
      refine ⟨_, _, rfl, rfl, _, rfl, by omega, by omega, ?_⟩
      have en : (1 + n).toNat = n.toNat + 1 := by omega
      rw [en]
      have Se := Sd.fw Pe fe
      refine for_range (n := n.toNat + 1) (fun j σ' H' => ∃ o2 o3 rows, σ' = [some (.ref a), some (.ref z), o2, o3, o4, some (.ref p), some (.ref r), some (.ref q), some (.ref v), some (.int (wd : Int)), o10, none] ∧ St10 T.k_Running.C z c r l v ns (20 + 40 * i + 1 + 10 * j) wd vs (TL K) H' ∧ RowsW H' p wd rows ∧ rows.length = j ∧ H' q = some (.lst []) ∧ Apart p v rows [r, l, q] ∧ ∀ x ∈ rows, x.1 ≠ z ∧ x.1 ≠ p)
        ⟨_, _, [], rfl, Se.mono (by omega), ⟨fe _ _ Np.1 hpd, fun p m => nomatch m⟩, rfl, fe _ _ Nq.1 hqd, ⟨not3 Np.2.2.1 Np.2.2.2.1 pq, not3 Sa.rv Sa.vl Nq.2.2.2.2.symm, fun p m => nomatch m⟩, fun x m => nomatch m⟩ ?_ ?_
      · rintro j σ' Hf hj ⟨o2, o3, rows, rfl, Sf, RWf, lr, hqf, apf, zf⟩
        refine ⟨_, rfl, .inl ⟨rfl, _, sq RWf.at_⟩, _, rfl, z, c, ns, _, 4, rfl, Sf.pen, by omega, by decide, by decide, fun n2 Hg m0 m1 Pg fg => ?_⟩
        refine ⟨_, rfl, by omega, by omega, fun D nD => lc_range (lo := 0) (n := (n2 : Int).toNat) (fun jj H' => PenAt H' z c ns (20 + 40 * i + 1 + 10 * j + 1 + 3 * jj) ∧ Fw z Hg H' ∧ ∃ us : List Int, H' D = some (.lst (us.map V.int)) ∧ us.length = jj ∧ ∀ n ∈ us, 0 ≤ n ∧ n ≤ mw wd) ?_ ?_ ?_⟩
        · have b := Pg.off nD
          exact ⟨(Pg.upd b.1 b.2).mono (by omega), fun a o n h => by rw [upd_ne (ne_of_none h nD)]; exact h, [], upd_same, rfl, fun v hv => nomatch hv⟩
        · rintro jj Hj hj ⟨Pj, fj, us, hD, hlen, hus⟩
          refine ⟨rfl, yes_go ?_⟩
          refine ⟨_, rfl, _, rfl, z, c, ns, _, wd, rfl, Pj, by omega, w1, w64, fun u Hu u0 u1 Pu fu => ?_⟩
          have b := Pg.off nD
          have hDu := fu _ _ b.1 hD
          refine ⟨_, hDu, by rw [List.length_map]; exact Nat.lt_of_lt_of_le (show us.length < 100 by omega) (by decide), (Pu.upd b.1 b.2).mono (by omega), fun a o n h => by rw [upd_ne (ne_of_none h nD)]; exact fu _ _ n (fj _ _ n h), us ++ [u], ?_, ?_, ?_⟩
          · rw [upd_same, List.map_append]
            rfl
          · rw [List.length_append, hlen]
            rfl
          · intro x hx
            rcases List.mem_append.mp hx with hx | hx
            · exact hus x hx
            · rw [List.mem_singleton.mp hx]
              exact ⟨u0, mw_lt.mp u1⟩

        rintro Hh ⟨Ph, fh, us, hD, lus, hus⟩
        have Sg := Sf.fw Pg fg
        have ND := Sg.new nD
        have Sh := Sg.fw Ph fh
        have bz : But [z] Hf Hh := (fg.trans fh).but
        have RWh := RWf.but bz (not1 Np.1) (fun x m => not1 (zf x m).1)
        have Dp : D ≠ p := (ne_of_none (fg _ _ Np.1 RWf.at_) nD).symm
        have hqh := bz _ _ (not1 Nq.1) (fun _ q => by cases q) hqf
        have Dq : D ≠ q := (ne_of_none (fg _ _ Nq.1 hqf) nD).symm
        refine ⟨p, _, _, rfl, rfl, RWh.at_, by rw [List.length_map]; exact Nat.lt_of_lt_of_le (show rows.length < 100 by omega) (by decide), ?_⟩
        (generalize g_Hi : upd _ p _ = Hi); have hpi := gat g_Hi; have fi := gfw g_Hi; clear g_Hi
        have Si := Sh.but (Sh.run.fw fi Np.2.2.1.symm Np.2.2.2.1.symm) (fi.but (S := [])) (tabs_go Sh.tabs fi ⟨_, RWh.at_⟩) (not1 Np.1.symm) (not1 Np.2.1.symm) (not1 Np.2.2.2.2.symm)
        refine ⟨_, _, rows ++ [(D, us)], rfl, Si.mono (by omega), RWh.snoc fi hpi hD Dp (fun x m => (zf x m).2) (by omega) hus, by rw [List.length_append, lr]; rfl, fi _ _ pq.symm hqh, ⟨apf.1, apf.2.1, fun x m => ?_⟩, fun x m => ?_⟩
        · rcases List.mem_append.mp m with m | m
          · exact apf.2.2 x m
          · rw [List.mem_singleton.mp m]
            exact not3 ND.2.2.1 ND.2.2.2.1 Dq
        · rcases List.mem_append.mp m with m | m
          · exact zf x m
          · rw [List.mem_singleton.mp m]
            exact ⟨ND.1, Dp⟩
      · rintro σ' Hf ⟨o2, o3, rows, rfl, Sf, RWf, lr, hqf, apf, zf⟩
        exact ⟨_, _, rows, rfl, Sf.mono (by omega), RWf, by omega, by omega, hqf, apf⟩
    clear hp hq hpd hqd
    rintro σ' Hf ⟨o2, o3, rows, rfl, Sf, RWf, r1, r3, hqf, apf⟩
    obtain ⟨⟨drf, hrf⟩, hlf, _⟩ := id Sf.run
    have pr : p ≠ r := Np.2.2.1
    have qr : q ≠ r := Nq.2.2.1
    refine ⟨fun σ' H' => ∃ o2 o3, σ' = [some (.ref a), some (.ref z), o2, o3, some (.int (rows.length : Nat)), some (.ref p), some (.ref r), some (.ref q), some (.ref v), some (.int (wd : Int)), o10, none] ∧ St10 T.k_Running.C z c r l v ns (20 + 40 * i + 31) wd vs (TL K) H' ∧ H' p = some (.lst (rows.map fun p => V.ref p.1)) ∧ H' q = some (.lst (trues (3 * rows.length - 2))), ?_, ?_⟩
    · cases hrows : rows with
      | nil =>
        rw [hrows] at r1
        exact absurd r1 (by decide)
      | cons row0 rest =>
      subst hrows
      have r3 : rest.length + 1 ≤ 3 := r3
      refine ⟨_, rfl, r, drf, _, rfl, hrf, (rf_no (by decide +kernel) (by decide +kernel) (by decide +kernel) (by decide +kernel)), Sf.tabs, fun G1 e1 U1 => ⟨l, wd, vs, .non, Sf.run.ext e1, fun l1 sd G2 n1 n2 R2 S2 f2 ne => ?_⟩⟩
      obtain ⟨U2, sr, lr', ll, sl⟩ := trial_in Sf.run e1 U1 n1 n2 f2
      have up : ∀ {x : Addr} {xs : List V}, x ≠ r → Hf x = some (.lst xs) → G2 x = some (.lst xs) := fun {x xs} nx h => f2 _ _ nx (e1 _ _ h (fun _ q => by cases q))
      have nw : ∀ {x : Addr} {xs : List V}, Hf x = some (.lst xs) → x ≠ l1 := fun {x xs} h => ne_of_none (e1 _ _ h (fun _ q => by cases q)) n1
      have nr : ∀ {x : Addr} {xs : List V}, Hf x = some (.lst xs) → x ≠ r := fun {x xs} h => ne_of h hrf (by intro q; cases q)
      have av := Sf.vals.at_
      have ap3 : Apart p v (row0 :: rest) [r, l1, q] := by
        refine ⟨not3 pr (nw RWf.at_) pq, not3 Sf.rv (nw av) Nq.2.2.2.2.symm, fun x m => ?_⟩
        have h := (RWf.each x m).1
        exact not3 (nr h) (nw h) (fun e => apf.2.2 x m (by rw [e]; exact List.mem_cons_of_mem _ (List.mem_cons_of_mem _ List.mem_cons_self)))
      refine ⟨_, rfl, _, rfl, _, rfl, _, rfl, _, rfl, rest.length + 1, by omega, r3, r, l1, wd, vs, .ref sd, v, p, q, rest, row0, 0, rfl, R2, ⟨up Sf.rv av, Sf.vals.bd, Sf.vals.few⟩, ⟨up pr RWf.at_, fun x m => ⟨up (nr (RWf.each x m).1) (RWf.each x m).1, (RWf.each x m).2⟩⟩, rfl, up qr hqf, by omega, by have := Sf.few; omega, ap3, nw hqf, U2, fun G3 R3 h3 b3 U3 => ?_⟩
      have sq' : sd ≠ q := (ne_of_none (e1 _ _ hqf (fun _ q => by cases q)) n2).symm
      obtain ⟨U, fin⟩ := trial_out (S := [q]) Sf.run e1 n1 S2 f2 ne ⟨sr, lr', ll⟩ b3 (not1 sq') (not1 Nq.2.2.2.1.symm) R3 U3
      refine ⟨U, fun G4 R4 f4 => ?_⟩
      obtain ⟨b4, U4⟩ := fin G4 R4 f4
      have h4 := f4 _ _ qr h3
      rw [Nat.zero_add] at h4
      exact ⟨_, _, rfl, Sf.but R4 b4 U4 (not2 Sf.rz.symm Nq.1.symm) (not2 Sf.rc.symm Nq.2.1.symm) (not2 Sf.rv Nq.2.2.2.2.symm), b4 _ _ (not2 pr pq) (fun _ q => by cases q) RWf.at_, h4⟩
    clear hrf hlf hqf apf RWf Sf
    rintro σ' Hg ⟨o2, o3, rfl, Sg, hpg, hqg⟩
    refine ⟨fun σ' H' => σ' = [some (.ref a), some (.ref z), o2, o3, some (.int (rows.length : Nat)), some (.ref p), some (.ref r), some (.ref q), some (.ref v), some (.int (wd : Int)), o10, none] ∧ H' = Hg, ?_, ?_⟩
    · refine ⟨_, rfl, _, rfl, p, _, rfl, .inl (sq hpg), rfl, _, rfl, ite2 (fun g => ?_) (fun _ => ?_)⟩
      · rw [List.length_map, decide_eq_true rfl] at g
        cases g
      refine ⟨_, rfl, q, _, rfl, .inl (sq hqg), rfl, flat_trues _, ?_⟩
      rw [in_trues]
      exact ⟨_, rfl, iteF ⟨rfl, rfl⟩⟩
    rintro σ' H' ⟨rfl, rfl⟩
    have Rg := Sg.run
    refine ⟨fun σ' J => ∃ o5 o7, σ' = [some (.ref a), some (.ref z), o2, o3, some (.int (rows.length : Nat)), o5, some (.ref r), o7, some (.ref v), some (.int (wd : Int)), o10, none] ∧ St10 T.k_Running.C z c r l v ns (20 + 40 * i + 31) wd vs (TL K) J, ?_, ?_⟩
    · refine ⟨_, rfl, q, _, rfl, .inl (sq hqg), _, rfl, p, _, rfl, .inl (sq hpg), _, _, rfl, rfl, .inl ⟨by decide, by decide⟩, _, _, rfl, rfl, rfl, _, rfl, ifNe ?_ ?_⟩
      · rw [len_trues, List.length_map]
        refine congrArg V.int ?_
        omega
      refine ⟨_, rfl, r, l, wd, vs, .non, rfl, Rg, fun t1 J1 ss _ x1 asc ht1 => ?_⟩
      refine ⟨_, rfl, _, rfl, wd, v, vs, rfl, w1, w64, Sg.vals.ex x1, fun t2 J2 ss2 _ x2 asc2 ht2 => ?_⟩
      have es : ss = ss2 := asc_eq (asc.1.trans asc2.1.symm) asc.2 asc2.2
      subst es
      refine ⟨_, _, dp_tl3 (x2 _ _ ht1), dp_tl3 ht2, tl3_same.1, tl3_same.1, ?_⟩
      rw [tl3_same.2]
      exact ⟨_, rfl, iteF ⟨_, _, rfl, Sg.ex (x1.trans x2)⟩⟩
    rintro σ' Hj ⟨o5, o7, rfl, Sj⟩
    refine ⟨_, rfl, _, rfl, z, c, ns, _, wd, rfl, Sj.pen, by omega, w1, w64, fun u Hk u0 u1 Pk fk => ?_⟩
    have u1 := mw_lt.mp u1
    have Sk := Sj.fw Pk fk
    refine ⟨fun σ' J => ∃ o2 o3 o4 o5 o7, σ' = [some (.ref a), some (.ref z), o2, o3, o4, o5, some (.ref r), o7, some (.ref v), some (.int (wd : Int)), some (.int u), none] ∧ St10 T.k_Running.C z c r l v ns (20 + 40 * i + 40) wd vs (TL K) J, ?_, ?_⟩
    · obtain ⟨⟨drk, hrk⟩, hlk, _⟩ := id Sk.run
      refine ⟨_, rfl, r, drk, _, rfl, hrk, (rf_no (by decide +kernel) (by decide +kernel) (by decide +kernel) (by decide +kernel)), Sk.tabs, fun G1 e1 U1 => ⟨l, wd, vs, .non, Sk.run.ext e1, fun l1 sd G2 n1 n2 R2 S2 f2 ne => ?_⟩⟩
      obtain ⟨U2, sr, lr', ll, sl⟩ := trial_in Sk.run e1 U1 n1 n2 f2
      have av := f2 _ _ Sk.rv (e1 _ _ Sk.vals.at_ (fun _ q => by cases q))
      have vl1 : v ≠ l1 := ne_of_none (e1 _ _ Sk.vals.at_ (fun _ q => by cases q)) n1
      refine ⟨_, rfl, _, rfl, _, rfl, _, rfl, r, l1, wd, vs, .ref sd, v, u, rfl, R2, ⟨av, Sk.vals.bd, Sk.vals.few⟩, vl1, u0, u1, by have := Sk.few; omega, U2, fun G3 R3 b3 U3 => ?_⟩
      obtain ⟨U, fin⟩ := trial_out (S := []) Sk.run e1 n1 S2 f2 ne ⟨sr, lr', ll⟩ b3 List.not_mem_nil List.not_mem_nil R3 U3
      refine ⟨U, fun G4 R4 f4 => ?_⟩
      obtain ⟨b4, U4⟩ := fin G4 R4 f4
      exact ⟨true, true, rfl, rfl, _, rfl, iteNS rfl ⟨_, _, _, _, _, rfl, (Sk.but R4 b4 U4 (not1 Sk.rz.symm) (not1 Sk.rc.symm) (not1 Sk.rv)).mono (by omega)⟩⟩
    clear Sk Sj Sg Sa Sb Sd
    rintro σ' Hl ⟨o2, o3, o4, o5, o7, rfl, Sl⟩
    refine ⟨fun σ' J => ∃ o2 o3 o4 o5 o7, σ' = [some (.ref a), some (.ref z), o2, o3, o4, o5, some (.ref r), o7, some (.ref v), some (.int (wd : Int)), some (.int u), none] ∧ St10 T.k_Running.C z c r l v ns (20 + 40 * i + 40) wd vs (TL K) J, ?_, ?_⟩
    · refine ⟨_, rfl, _, rfl, r, l, wd, vs, .non, u, rfl, Sl.run, u0, u1, by have := Sl.few; omega, Sl.tabs, fun G4 R4 b4 U4 => ?_⟩
      have Sm := Sl.but R4 b4 U4 (not1 Sl.rz.symm) (not1 Sl.rc.symm) (not1 Sl.rv)
      refine ⟨true, rfl, iteF ?_⟩
      refine ⟨_, rfl, r, l, wd, vs, .non, rfl, Sm.run, fun t1 J1 ss _ x1 asc ht1 => ?_⟩
      refine ⟨_, rfl, _, rfl, wd, v, vs, rfl, w1, w64, Sm.vals.ex x1, fun t2 J2 ss2 _ x2 asc2 ht2 => ?_⟩
      have es : ss = ss2 := asc_eq (asc.1.trans asc2.1.symm) asc.2 asc2.2
      subst es
      refine ⟨_, _, dp_tl3 (x2 _ _ ht1), dp_tl3 ht2, tl3_same.1, tl3_same.1, ?_⟩
      rw [tl3_same.2]
      exact ⟨_, rfl, iteF ⟨_, _, _, _, _, rfl, Sm.ex (x1.trans x2)⟩⟩
    clear Sl
    rintro σ' Hm ⟨o2, o3, o4, o5, o7, rfl, Sm⟩
    refine ⟨_, rfl, _, rfl, r, l, wd, vs, .non, u, rfl, Sm.run, u0, u1, by have := Sm.few; omega, Sm.tabs, fun G4 R4 b4 U4 => ?_⟩
    have Sn := Sm.but R4 b4 U4 (not1 Sm.rz.symm) (not1 Sm.rc.symm) (not1 Sm.rv)
    have small : u.natAbs.log2 < 1920 := log_64 u0 (by have := mw_64 w64; omega)
    refine ⟨u, rfl, small, _, rfl, u, rfl, small, rfl, _, rfl, ifNe rfl ?_⟩
    refine ⟨_, rfl, r, l, wd, vs, .non, rfl, Sn.run, fun t1 J1 ss _ x1 asc ht1 => ?_⟩
    refine ⟨_, rfl, _, rfl, wd, v, vs, rfl, w1, w64, Sn.vals.ex x1, fun t2 J2 ss2 _ x2 asc2 ht2 => ?_⟩
    have es : ss = ss2 := asc_eq (asc.1.trans asc2.1.symm) asc.2 asc2.2
    subst es
    refine ⟨_, _, dp_tl3 (x2 _ _ ht1), dp_tl3 ht2, tl3_same.1, tl3_same.1, ?_⟩
    rw [tl3_same.2]
    exact ⟨_, rfl, iteF ⟨_, _, _, _, _, _, rfl, (Sn.ex (x1.trans x2)).mono (by omega)⟩⟩
end
end Tz
namespace TzH
open PySem PySem.Spec PyProof.Rows L2 TzF Tz
theorem facts {w : World} {K : PySem.W.Frag} {h : Heap} {mg : Str → Option Value} {f : Addr} (KX : K.In h) (G : h.Ns mainGlobals mg) (hfa : mg ("law" : Str) = some (.ref f)) (c : TzF.SaysY fa fn sm tf ex h K) : LawQ PySem.Challenge.rw_twozeros_k10_running_totals_tried w K 21 63 "_law_script" mg f h := by
  have x_0 : ex0 K = true := List.all_eq_true.mp c.more ex0 (by simp)
  have x_1 : ex1 K = true := List.all_eq_true.mp c.more ex1 (by simp)
  have x_2 : ex2 K = true := List.all_eq_true.mp c.more ex2 (by simp)
  have x_3 : ex3 K = true := List.all_eq_true.mp c.more ex3 (by simp)
  have x_4 : ex4 K = true := List.all_eq_true.mp c.more ex4 (by simp)
  have x_5 : ex5 K = true := List.all_eq_true.mp c.more ex5 (by simp)
  have x_6 : ex6 K = true := List.all_eq_true.mp c.more ex6 (by simp)
  have x_7 : ex7 K = true := List.all_eq_true.mp c.more ex7 (by simp)
  have x_8 : ex8 K = true := List.all_eq_true.mp c.more ex8 (by simp)
  have x_9 : ex9 K = true := List.all_eq_true.mp c.more ex9 (by simp)
  have x_10 : ex10 K = true := List.all_eq_true.mp c.more ex10 (by simp)
  have x_11 : ex11 K = true := List.all_eq_true.mp c.more ex11 (by simp)
  have x_12 : ex12 K = true := List.all_eq_true.mp c.more ex12 (by simp)
  have x_13 : ex13 K = true := List.all_eq_true.mp c.more ex13 (by simp)
  have x_14 : ex14 K = true := List.all_eq_true.mp c.more ex14 (by simp)
  have x_15 : ex15 K = true := List.all_eq_true.mp c.more ex15 (by simp)
  have x_16 : ex16 K = true := List.all_eq_true.mp c.more ex16 (by simp)
  have x_17 : ex17 K = true := List.all_eq_true.mp c.more ex17 (by simp)
  have x_18 : ex18 K = true := List.all_eq_true.mp c.more ex18 (by simp)
  have x_19 : ex19 K = true := List.all_eq_true.mp c.more ex19 (by simp)
  have x_20 : ex20 K = true := List.all_eq_true.mp c.more ex20 (by simp)
  obtain ⟨t_MOST_WIDTH, h_MOST_WIDTH⟩ := cval_ok x_15
  obtain ⟨fd_BadWord_init_, D_BadWord_init_⟩ := c.d.def_ 0 (d := ⟨("BadWord", some "__init__"), "__init__", "BadWord.__init__", defArgs s_BadWord_init_, defBody s_BadWord_init_, defScope s_BadWord_init_, [], []⟩) rfl
  obtain ⟨fd_BadWidth_init_, D_BadWidth_init_⟩ := c.d.def_ 1 (d := ⟨("BadWidth", some "__init__"), "__init__", "BadWidth.__init__", defArgs s_BadWidth_init_, defBody s_BadWidth_init_, defScope s_BadWidth_init_, [], []⟩) rfl
  obtain ⟨fd_NotThere_init_, D_NotThere_init_⟩ := c.d.def_ 2 (d := ⟨("NotThere", some "__init__"), "__init__", "NotThere.__init__", defArgs s_NotThere_init_, defBody s_NotThere_init_, defScope s_NotThere_init_, [], []⟩) rfl
  obtain ⟨fd_is_whole, D_is_whole⟩ := c.d.def_ 3 (d := ⟨("is_whole", none), "is_whole", "is_whole", defArgs s_is_whole, defBody s_is_whole, defScope s_is_whole, [], []⟩) rfl
  obtain ⟨fd_is_from, D_is_from⟩ := c.d.def_ 4 (d := ⟨("is_from", none), "is_from", "is_from", defArgs s_is_from, defBody s_is_from, defScope s_is_from, [], []⟩) rfl
  obtain ⟨fd_most_value, D_most_value⟩ := c.d.def_ 5 (d := ⟨("most_value", none), "most_value", "most_value", defArgs s_most_value, defBody s_most_value, defScope s_most_value, [], []⟩) rfl
  obtain ⟨fd_checked_width, D_checked_width⟩ := c.d.def_ 6 (d := ⟨("checked_width", none), "checked_width", "checked_width", defArgs s_checked_width, defBody s_checked_width, defScope s_checked_width, [], []⟩) rfl
  obtain ⟨fd_Word_init_, D_Word_init_⟩ := c.d.def_ 7 (d := ⟨("Word", some "__init__"), "__init__", "Word.__init__", defArgs s_Word_init_, defBody s_Word_init_, defScope s_Word_init_, [], []⟩) rfl
  obtain ⟨fd_Word_repr_, D_Word_repr_⟩ := c.d.def_ 8 (d := ⟨("Word", some "__repr__"), "__repr__", "Word.__repr__", defArgs s_Word_repr_, defBody s_Word_repr_, defScope s_Word_repr_, [], []⟩) rfl
  obtain ⟨fd_carried_round, D_carried_round⟩ := c.d.def_ 9 (d := ⟨("carried_round", none), "carried_round", "carried_round", defArgs s_carried_round, defBody s_carried_round, defScope s_carried_round, [], []⟩) rfl
  obtain ⟨fd_found_value, D_found_value⟩ := c.d.def_ 10 (d := ⟨("found_value", none), "found_value", "found_value", defArgs s_found_value, defBody s_found_value, defScope s_found_value, [], []⟩) rfl
  obtain ⟨fd_checked_value, D_checked_value⟩ := c.d.def_ 11 (d := ⟨("checked_value", none), "checked_value", "checked_value", defArgs s_checked_value, defBody s_checked_value, defScope s_checked_value, [], []⟩) rfl
  obtain ⟨fd_Running_init_, D_Running_init_⟩ := c.d.def_ 12 (d := ⟨("Running", some "__init__"), "__init__", "Running.__init__", defArgs s_Running_init_, defBody s_Running_init_, defScope s_Running_init_, [], []⟩) rfl
  obtain ⟨fd_Running_keep, D_Running_keep⟩ := c.d.def_ 13 (d := ⟨("Running", some "_keep"), "_keep", "Running._keep", defArgs s_Running_keep, defBody s_Running_keep, defScope s_Running_keep, [], []⟩) rfl
  obtain ⟨fd_Running_forget, D_Running_forget⟩ := c.d.def_ 14 (d := ⟨("Running", some "_forget"), "_forget", "Running._forget", defArgs s_Running_forget, defBody s_Running_forget, defScope s_Running_forget, [], []⟩) rfl
  obtain ⟨fd_Running_there, D_Running_there⟩ := c.d.def_ 15 (d := ⟨("Running", some "_there"), "_there", "Running._there", defArgs s_Running_there, defBody s_Running_there, defScope s_Running_there, [], []⟩) rfl
  obtain ⟨fd_Running_add, D_Running_add⟩ := c.d.def_ 16 (d := ⟨("Running", some "add"), "add", "Running.add", defArgs s_Running_add, defBody s_Running_add, defScope s_Running_add, [], []⟩) rfl
  obtain ⟨fd_Running_drop, D_Running_drop⟩ := c.d.def_ 17 (d := ⟨("Running", some "drop"), "drop", "Running.drop", defArgs s_Running_drop, defBody s_Running_drop, defScope s_Running_drop, [], []⟩) rfl
  obtain ⟨fd_Running_exchange, D_Running_exchange⟩ := c.d.def_ 18 (d := ⟨("Running", some "exchange"), "exchange", "Running.exchange", defArgs s_Running_exchange, defBody s_Running_exchange, defScope s_Running_exchange, [], []⟩) rfl
  obtain ⟨fd_Running_len_, D_Running_len_⟩ := c.d.def_ 19 (d := ⟨("Running", some "__len__"), "__len__", "Running.__len__", defArgs s_Running_len_, defBody s_Running_len_, defScope s_Running_len_, [], []⟩) rfl
  obtain ⟨fd_Running_iadd_, D_Running_iadd_⟩ := c.d.def_ 20 (d := ⟨("Running", some "__iadd__"), "__iadd__", "Running.__iadd__", defArgs s_Running_iadd_, defBody s_Running_iadd_, defScope s_Running_iadd_, [], []⟩) rfl
  obtain ⟨⟨fd_Running_total, F_Running_total⟩, r_Running_total⟩ := c.sm 0 (d := ⟨"property", ("Running", "total"), "Running.total", s_Running_total⟩) rfl
  obtain ⟨r1_Running_total, r2_Running_total, r3_Running_total⟩ := recB_ok r_Running_total
  obtain ⟨fd_Running_ascending, D_Running_ascending⟩ := c.d.def_ 21 (d := ⟨("Running", some "ascending"), "ascending", "Running.ascending", defArgs s_Running_ascending, defBody s_Running_ascending, defScope s_Running_ascending, [], []⟩) rfl
  obtain ⟨fd_Saved_init_, D_Saved_init_⟩ := c.d.def_ 22 (d := ⟨("Saved", some "__init__"), "__init__", "Saved.__init__", defArgs s_Saved_init_, defBody s_Saved_init_, defScope s_Saved_init_, [], []⟩) rfl
  obtain ⟨fd_Running_trial, D_Running_trial⟩ := c.d.def_ 23 (d := ⟨("Running", some "trial"), "trial", "Running.trial", defArgs s_Running_trial, defBody s_Running_trial, defScope s_Running_trial, [], []⟩) rfl
  obtain ⟨fd_Running_enter_, D_Running_enter_⟩ := c.d.def_ 24 (d := ⟨("Running", some "__enter__"), "__enter__", "Running.__enter__", defArgs s_Running_enter_, defBody s_Running_enter_, defScope s_Running_enter_, [], []⟩) rfl
  obtain ⟨fd_Running_exit_, D_Running_exit_⟩ := c.d.def_ 25 (d := ⟨("Running", some "__exit__"), "__exit__", "Running.__exit__", defArgs s_Running_exit_, defBody s_Running_exit_, defScope s_Running_exit_, [], []⟩) rfl
  obtain ⟨fd_Running_tried, D_Running_tried⟩ := c.d.def_ 26 (d := ⟨("Running", some "tried"), "tried", "Running.tried", defArgs s_Running_tried, defBody s_Running_tried, defScope s_Running_tried, [], []⟩) rfl
  obtain ⟨fd_law_pen, D_law_pen⟩ := c.d.def_ 27 (d := ⟨("_law_pen", none), "_law_pen", "_law_pen", defArgs s_law_pen, defBody s_law_pen, defScope s_law_pen, [], []⟩) rfl
  obtain ⟨fd_law_draw, D_law_draw⟩ := c.d.def_ 28 (d := ⟨("_law_draw", none), "_law_draw", "_law_draw", defArgs s_law_draw, defBody s_law_draw, defScope s_law_draw, [], []⟩) rfl
  obtain ⟨fd_law_width, D_law_width⟩ := c.d.def_ 29 (d := ⟨("_law_width", none), "_law_width", "_law_width", defArgs s_law_width, defBody s_law_width, defScope s_law_width, [], []⟩) rfl
  obtain ⟨fd_law_value, D_law_value⟩ := c.d.def_ 30 (d := ⟨("_law_value", none), "_law_value", "_law_value", defArgs s_law_value, defBody s_law_value, defScope s_law_value, [], []⟩) rfl
  obtain ⟨fd_law_told, D_law_told⟩ := c.d.def_ 31 (d := ⟨("_law_told", none), "_law_told", "_law_told", defArgs s_law_told, defBody s_law_told, defScope s_law_told, [], []⟩) rfl
  obtain ⟨fd_law_due, D_law_due⟩ := c.d.def_ 32 (d := ⟨("_law_due", none), "_law_due", "_law_due", defArgs s_law_due, defBody s_law_due, defScope s_law_due, [], []⟩) rfl
  obtain ⟨fd_law_broken, D_law_broken⟩ := c.d.def_ 33 (d := ⟨("_law_broken", none), "_law_broken", "_law_broken", defArgs s_law_broken, defBody s_law_broken, defScope s_law_broken, [], []⟩) rfl
  obtain ⟨fd_law_lost, D_law_lost⟩ := c.d.def_ 34 (d := ⟨("_law_lost", none), "_law_lost", "_law_lost", defArgs s_law_lost, defBody s_law_lost, defScope s_law_lost, [], []⟩) rfl
  obtain ⟨fd_law_fallen, D_law_fallen⟩ := c.d.def_ 35 (d := ⟨("_law_fallen", none), "_law_fallen", "_law_fallen", defArgs s_law_fallen, defBody s_law_fallen, defScope s_law_fallen, [], []⟩) rfl
  obtain ⟨fd_law_undone, D_law_undone⟩ := c.d.def_ 36 (d := ⟨("_law_undone", none), "_law_undone", "_law_undone", defArgs s_law_undone, defBody s_law_undone, defScope s_law_undone, [], []⟩) rfl
  obtain ⟨fd_law_around, D_law_around⟩ := c.d.def_ 37 (d := ⟨("_law_around", none), "_law_around", "_law_around", defArgs s_law_around, defBody s_law_around, defScope s_law_around, [], []⟩) rfl
  obtain ⟨fd_law_deep, D_law_deep⟩ := c.d.def_ 38 (d := ⟨("_law_deep", none), "_law_deep", "_law_deep", defArgs s_law_deep, defBody s_law_deep, defScope s_law_deep, [], []⟩) rfl
  obtain ⟨fd_law, D_law⟩ := c.d.def_ 39 (d := ⟨("law", none), "law", "law", defArgs s_law, defBody s_law, defScope s_law, [], []⟩) rfl
  have e := hfa.symm.trans (He.glo_ok KX G (c.d.fact 80 rfl))
  cases e
  let T : Tx K mg := {
    b_int := He.free_ok KX G (c.d.fact 0 rfl),
    b_len := He.free_ok KX G (c.d.fact 1 rfl),
    b_abs := He.free_ok KX G (c.d.fact 2 rfl),
    b_list := He.free_ok KX G (c.d.fact 3 rfl),
    b_isinstance := He.free_ok KX G (c.d.fact 4 rfl),
    b_bool := He.free_ok KX G (c.d.fact 5 rfl),
    b_range := He.free_ok KX G (c.d.fact 6 rfl),
    b_repr := He.free_ok KX G (c.d.fact 7 rfl),
    b_sum := He.free_ok KX G (c.d.fact 8 rfl),
    b_sorted := He.free_ok KX G (c.d.fact 9 rfl),
    b_KeyError := He.free_ok KX G (c.d.fact 10 rfl),
    k_Word := ⟨He.ga K "Word", He.cls_ok (c.d.fact 11 rfl), He.glo_ok KX G (c.d.fact 12 rfl), He.keep_ok (c.d.fact 13 rfl), alone_ok x_0, ⟨x_1, of_decide_eq_true x_2⟩⟩,
    mk_w := x_3,
    k_Running := ⟨He.ga K "Running", He.cls_ok (c.d.fact 14 rfl), He.glo_ok KX G (c.d.fact 15 rfl), He.keep_ok (c.d.fact 16 rfl), alone_ok x_4, ⟨x_5, of_decide_eq_true x_6⟩⟩,
    mk_Running_ := x_7,
    n_Running_width := He.noat_ok (c.d.fact 17 rfl),
    n_Running_kept := He.noat_ok (c.d.fact 18 rfl),
    n_Running_plain_sum := He.noat_ok (c.d.fact 19 rfl),
    n_Running_saved := He.noat_ok (c.d.fact 20 rfl),
    k_Saved := ⟨He.ga K "Saved", He.cls_ok (c.d.fact 21 rfl), He.glo_ok KX G (c.d.fact 22 rfl), He.keep_ok (c.d.fact 23 rfl), alone_ok x_8, ⟨x_9, of_decide_eq_true x_10⟩⟩,
    mk_Saved_ := x_11,
    n_Saved_kept := He.noat_ok (c.d.fact 24 rfl),
    n_Saved_plain_sum := He.noat_ok (c.d.fact 25 rfl),
    n_Saved_older := He.noat_ok (c.d.fact 26 rfl),
    e_BadWidth := ⟨He.ga K "BadWidth", He.glo_ok KX G (c.d.fact 27 rfl), err_ok x_12⟩,
    n_BadWidth_width := He.noat_ok (c.d.fact 28 rfl),
    e_BadWord := ⟨He.ga K "BadWord", He.glo_ok KX G (c.d.fact 29 rfl), err_ok x_13⟩,
    n_BadWord_value := He.noat_ok (c.d.fact 30 rfl),
    e_NotThere := ⟨He.ga K "NotThere", He.glo_ok KX G (c.d.fact 31 rfl), err_ok x_14⟩,
    n_NotThere_word := He.noat_ok (c.d.fact 32 rfl),
    n_Word_width := He.noat_ok (c.d.fact 33 rfl),
    n_Word_value := He.noat_ok (c.d.fact 34 rfl),
    n_Word_rest := He.noat_ok (c.d.fact 35 rfl),
    n_Word_is_empty := He.noat_ok (c.d.fact 36 rfl),
    n_Word_is_full := He.noat_ok (c.d.fact 37 rfl),
    cc_Word_MOST_WIDTH := ⟨t_MOST_WIDTH, h_MOST_WIDTH⟩,
    nd := of_decide_eq_true x_16,
    sf_Running := x_17,
    xm_BadWidth_BadWidth := He.exm_ok (c.d.fact 38 rfl),
    xm_BadWord_BadWord := He.exm_ok (c.d.fact 39 rfl),
    xm_NotThere_NotThere := He.exm_ok (c.d.fact 40 rfl),
    t_law := rfl,
    t_law_deep := rfl,
    t_law_fallen := rfl,
    t_law_undone := rfl,
    f_BadWord_init_ := ⟨_, fd_BadWord_init_, fun_of_D D_BadWord_init_, He.meth_ok (c.d.fact 41 rfl)⟩,
    f_BadWidth_init_ := ⟨_, fd_BadWidth_init_, fun_of_D D_BadWidth_init_, He.meth_ok (c.d.fact 42 rfl)⟩,
    f_NotThere_init_ := ⟨_, fd_NotThere_init_, fun_of_D D_NotThere_init_, He.meth_ok (c.d.fact 43 rfl)⟩,
    f_is_whole := ⟨_, fd_is_whole, fun_of_D D_is_whole, He.glo_ok KX G (c.d.fact 44 rfl)⟩,
    f_is_from := ⟨_, fd_is_from, fun_of_D D_is_from, He.glo_ok KX G (c.d.fact 45 rfl)⟩,
    f_most_value := ⟨_, fd_most_value, fun_of_D D_most_value, He.glo_ok KX G (c.d.fact 46 rfl)⟩,
    f_checked_width := ⟨_, fd_checked_width, fun_of_D D_checked_width, He.glo_ok KX G (c.d.fact 47 rfl)⟩,
    f_Word_init_ := ⟨_, fd_Word_init_, fun_of_D D_Word_init_, He.meth_ok (c.d.fact 48 rfl)⟩,
    f_Word_repr_ := ⟨_, fd_Word_repr_, fun_of_D D_Word_repr_, He.meth_ok (c.d.fact 49 rfl)⟩,
    f_carried_round := ⟨_, fd_carried_round, fun_of_D D_carried_round, He.glo_ok KX G (c.d.fact 50 rfl)⟩,
    f_found_value := ⟨_, fd_found_value, fun_of_D D_found_value, He.glo_ok KX G (c.d.fact 51 rfl)⟩,
    f_checked_value := ⟨_, fd_checked_value, fun_of_D D_checked_value, He.glo_ok KX G (c.d.fact 52 rfl)⟩,
    f_Running_init_ := ⟨_, fd_Running_init_, fun_of_D D_Running_init_, He.meth_ok (c.d.fact 53 rfl)⟩,
    f_Running_keep := ⟨_, fd_Running_keep, fun_of_D D_Running_keep, He.meth_ok (c.d.fact 54 rfl)⟩,
    f_Running_forget := ⟨_, fd_Running_forget, fun_of_D D_Running_forget, He.meth_ok (c.d.fact 55 rfl)⟩,
    f_Running_there := ⟨_, fd_Running_there, fun_of_D D_Running_there, He.meth_ok (c.d.fact 56 rfl)⟩,
    f_Running_add := ⟨_, fd_Running_add, fun_of_D D_Running_add, He.meth_ok (c.d.fact 57 rfl)⟩,
    f_Running_drop := ⟨_, fd_Running_drop, fun_of_D D_Running_drop, He.meth_ok (c.d.fact 58 rfl)⟩,
    f_Running_exchange := ⟨_, fd_Running_exchange, fun_of_D D_Running_exchange, He.meth_ok (c.d.fact 59 rfl)⟩,
    f_Running_len_ := ⟨_, fd_Running_len_, fun_of_D D_Running_len_, He.meth_ok (c.d.fact 60 rfl)⟩,
    f_Running_iadd_ := ⟨_, fd_Running_iadd_, fun_of_D D_Running_iadd_, He.meth_ok (c.d.fact 61 rfl)⟩,
    f_Running_total := ⟨_, fd_Running_total, F_Running_total, recA K ("Running", "total"), ⟨of_decide_eq_true x_18, of_decide_eq_true x_19, of_decide_eq_true x_20, r2_Running_total⟩⟩,
    f_Running_ascending := ⟨_, fd_Running_ascending, fun_of_D D_Running_ascending, He.meth_ok (c.d.fact 62 rfl)⟩,
    f_Saved_init_ := ⟨_, fd_Saved_init_, fun_of_D D_Saved_init_, He.meth_ok (c.d.fact 63 rfl)⟩,
    f_Running_trial := ⟨_, fd_Running_trial, fun_of_D D_Running_trial, He.meth_ok (c.d.fact 64 rfl)⟩,
    f_Running_enter_ := ⟨_, fd_Running_enter_, fun_of_D D_Running_enter_, He.meth_ok (c.d.fact 65 rfl)⟩,
    f_Running_exit_ := ⟨_, fd_Running_exit_, fun_of_D D_Running_exit_, He.meth_ok (c.d.fact 66 rfl)⟩,
    f_Running_tried := ⟨_, fd_Running_tried, fun_of_D D_Running_tried, He.meth_ok (c.d.fact 67 rfl)⟩,
    f_law_pen := ⟨_, fd_law_pen, fun_of_D D_law_pen, He.glo_ok KX G (c.d.fact 68 rfl)⟩,
    f_law_draw := ⟨_, fd_law_draw, fun_of_D D_law_draw, He.glo_ok KX G (c.d.fact 69 rfl)⟩,
    f_law_width := ⟨_, fd_law_width, fun_of_D D_law_width, He.glo_ok KX G (c.d.fact 70 rfl)⟩,
    f_law_value := ⟨_, fd_law_value, fun_of_D D_law_value, He.glo_ok KX G (c.d.fact 71 rfl)⟩,
    f_law_told := ⟨_, fd_law_told, fun_of_D D_law_told, He.glo_ok KX G (c.d.fact 72 rfl)⟩,
    f_law_due := ⟨_, fd_law_due, fun_of_D D_law_due, He.glo_ok KX G (c.d.fact 73 rfl)⟩,
    f_law_broken := ⟨_, fd_law_broken, fun_of_D D_law_broken, He.glo_ok KX G (c.d.fact 74 rfl)⟩,
    f_law_lost := ⟨_, fd_law_lost, fun_of_D D_law_lost, He.glo_ok KX G (c.d.fact 75 rfl)⟩,
    f_law_fallen := ⟨_, fd_law_fallen, fun_of_D D_law_fallen, He.glo_ok KX G (c.d.fact 76 rfl)⟩,
    f_law_undone := ⟨_, fd_law_undone, fun_of_D D_law_undone, He.glo_ok KX G (c.d.fact 77 rfl)⟩,
    f_law_around := ⟨_, fd_law_around, fun_of_D D_law_around, He.glo_ok KX G (c.d.fact 78 rfl)⟩,
    f_law_deep := ⟨_, fd_law_deep, fun_of_D D_law_deep, He.glo_ok KX G (c.d.fact 79 rfl)⟩,
    f_law := ⟨_, fd_law, fun_of_D D_law, He.glo_ok KX G (c.d.fact 80 rfl)⟩ }
  refine ⟨T.f_law.fd, tf.map (He.cT K), spLawT K (TL K), fun q hq => ?_, fun q hq => ?_, fun q hq => ?_, fun s v => FunD.bindsA (ps := ["_law_script"]) D_law (fun _ _ _ _ _ _ us hl => match us, hl with | [_], _ => rfl) s [v] rfl, ?_, fun base _ _ B => ?_⟩
  · obtain ⟨d, hd, rfl⟩ := List.mem_map.mp hq
    exact c.empty d hd
  · obtain ⟨d, hd, rfl⟩ := List.mem_map.mp hq
    exact c.out d hd
  · obtain ⟨d, hd, rfl⟩ := List.mem_map.mp hq
    exact PySem.W.codeHd_of_K KX (c.hd d hd)
  · intro H a ns hl tb hS
    exact ⟨a, ns, rfl, hS, hl, fun q hq => by obtain ⟨c, h1, h2⟩ := tl_cs hq; exact LamX.TabS.nil (by rw [h2]; exact tb _ h1), fun _ => rfl⟩
  · exact ok_law T B
end TzH
open PySem PySem.W PyProof.Rows
set_option maxRecDepth 100000 in
set_option maxHeartbeats 0 in
theorem PySem.Challenge.cw_twozeros_k10_running_totals_tried_holds : PySem.Challenge.rw_twozeros_k10_running_totals_tried.Holds := by
  w_on; o_law
  refine HandSHeadRun.head_any (r := TzH.R) (q := view TzH.R.prog [41]) (H := TzH.hk) (ob := TzH.ob) (M := 20000) (loose := TzH.loose) (d := HandSHeadRun.topDef TzH.R.prog 41) (kwd := []) TzH.ob_eq
    (by kernel_rfl) (fun s => by kernel_rfl) TzH.run (by kernel_rfl) (by kernel_rfl) (by kernel_rfl) (by rfl) (by first | assumption | decide +kernel) (by decide +kernel) ⟨rfl, rfl, rfl, rfl, rfl, by decide +kernel⟩ ?hw ?hc
  case hw => w_witness2
  case hc =>
    refine Tz.walk_qt (l := PySem.Challenge.rw_twozeros_k10_running_totals_tried) (n := 63) (k := 21) (x := "_law_script") rfl (by decide) (by kernel_rfl) ⟨rfl, by decide, by decide⟩ ?F
    intro w mg fa h Y G hmg0
    obtain ⟨K, KX, c⟩ := Y
    have hmg : mg ("law" : PySem.Str) = some (.ref fa) := by
      have e : (HandSHeadRun.topDef TzH.R.prog 41).name = ("law" : PySem.Str) := by kernel_rfl
      rw [← e]
      exact hmg0
    exact ⟨K, KX, TzH.facts KX G hmg c⟩
