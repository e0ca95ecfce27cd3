import PyProof.Rows.All
import Wide.All
import OpenK.AllK
import Wide.FinOn
import HandS.ForMost
import HandS.Wide
import HandS.Style
import HandS.Evl
import HandS.WideBits
import HandS.ClsMeth
import KE.KOpsOwn
import PyProof.TwoTypes
import PyProof.ListMulRoad
import PyProof.NeKinds
import HandS.IsInst
import KE.KEqDict
import HandS.RaiseMore
import HandS.Codes
import PyProof.ReprRoads
import HandS.Walk
import OpenK.KOps
import PyProof.ReprReads
import HandS.FStr
import KE.KFmtOwn
import HandS.Small
import HandS.MakeKw
import HandS.CallLocal
import HandS.TryMany
import HandS.TryOnly
import HandS.ExcInit
import HandS.ExcField
import HandS.HeadHook4
import HandS.HeadWalk
import PyProof.ReprDict
import HandS.Lambda
import HandS.WordsExc
import HandS.Star
import HandS.IntHex
import HandS.RevRange
import PyProof.StrLawsRepr
import PyProof.Rows.ChunkEnd
import PyProof.InstNe
import PyProof.EqKinds
import HandS.ExcIs
import KE.KExcIs
import PyProof.StrBlock2
import HandS.Head2
import HandS.HeadHook4
import PySem.Challenge.RW_twozeros_k12_whole_pieces_at_odd_places
set_option Elab.async false
set_option linter.all false
set_option maxRecDepth 100000
set_option maxHeartbeats 4000000
namespace Tz
open PySem L2
/-! ### heaps -/
/-- all but z is as it was -/
def Fw (z : Addr) (H H' : Hp) : Prop := ∀ a o, a ≠ z → H a = some o → H' a = some o
theorem Fw.refl (z : Addr) (H : Hp) : Fw z H H := fun _ _ _ h => h
theorem Fw.trans {z : Addr} {H H1 H2 : Hp} (a : Fw z H H1) (b : Fw z H1 H2) : Fw z H H2 := fun x o n h => b x o n (a x o n h)
theorem Fw.new {z : Addr} {H : Hp} {p : Addr} {o : HO} (h : H p = none) : Fw z H (upd H p o) := fun a u _ e => by
  rw [upd_ne (ne_of_none e h)]
  exact e
theorem Fw.at {z : Addr} {H : Hp} {o : HO} : Fw z H (upd H z o) := fun a u n e => by
  rw [upd_ne n]
  exact e
/-- all is as it was -/
def Ex (H H' : Hp) : Prop := ∀ a o, H a = some o → H' a = some o
theorem Ex.refl (H : Hp) : Ex H H := fun _ _ h => h
theorem Ex.trans {H H1 H2 : Hp} (a : Ex H H1) (b : Ex H1 H2) : Ex H H2 := fun x o h => b x o (a x o h)
theorem Ex.fw {z : Addr} {H H' : Hp} (e : Ex H H') : Fw z H H' := fun a o _ h => e a o h
theorem Ex.new {H : Hp} {p : Addr} {o : HO} (h : H p = none) : Ex H (upd H p o) := fun a u e => by
  rw [upd_ne (ne_of_none e h)]
  exact e
/-- a new object, told without its heap -/
theorem anew {H : Hp} {o : HO} {Q : V → Hp → Prop} (k : ∀ p H', H p = none → H' p = some o → Ex H H' → Q (.ref p) H') : ∀ p, H p = none → Q (.ref p) (upd H p o) := fun p hp => k p _ hp upd_same (Ex.new hp)
theorem sq {K : PySem.W.Frag} {H : Hp} {a : Addr} {xs : List V} (h : H a = some (.lst xs)) : SqL K H a xs := Or.inl (Or.inl h)
theorem sqt {K : PySem.W.Frag} {H : Hp} {a : Addr} {xs : List V} (h : H a = some (.tup xs)) : SqT K H a xs := Or.inl (Or.inl h)
theorem szl {n : Nat} (h : n ≤ 10000) : n ≤ sizeLine := Nat.le_trans h (by decide)
theorem gat {H H1 : Hp} {p : Addr} {o : HO} (g : upd H p o = H1) : H1 p = some o := by rw [← g]; exact upd_same
theorem gex {H H1 : Hp} {p : Addr} {o : HO} (g : upd H p o = H1) (h : H p = none) : Ex H H1 := by rw [← g]; exact Ex.new h
theorem gfw {H H1 : Hp} {p : Addr} {o : HO} (g : upd H p o = H1) : Fw p H H1 := by rw [← g]; exact Fw.at
/-! ### the pen -/
structure PenAt (H : Hp) (z c : Addr) (cells : List Int) (t : Nat) : Prop where
  pen : ∃ ix left : Int, H z = some (.lst [.ref c, .int ix, .int left]) ∧ 0 ≤ ix ∧ ix ≤ t ∧ 0 ≤ left
  cs : H c = some (.lst (cells.map V.int))
  ne : c ≠ z
  few : cells.length ≤ 63
theorem PenAt.ex {H H' : Hp} {z c : Addr} {cells : List Int} {t : Nat} (h : PenAt H z c cells t) (e : Ex H H') : PenAt H' z c cells t := by
  obtain ⟨⟨i, l, h1, h2⟩, h3, h4, h5⟩ := h
  exact ⟨⟨i, l, e _ _ h1, h2⟩, e _ _ h3, h4, h5⟩
theorem PenAt.mono {H : Hp} {z c : Addr} {cells : List Int} {t u : Nat} (h : PenAt H z c cells t) (e : t ≤ u) : PenAt H z c cells u := by
  obtain ⟨⟨i, l, h1, h2, h3, h6⟩, h4, h5, h7⟩ := h
  exact ⟨⟨i, l, h1, h2, by omega, h6⟩, h4, h5, h7⟩
theorem cell_get {cells : List Int} {j : Nat} (h : j < cells.length) : ∃ v : Int, (cells.map V.int)[j]? = some (.int v) := by
  refine ⟨cells[j], ?_⟩
  rw [List.getElem?_map, List.getElem?_eq_getElem h] <;> rfl
/-- one draw: what it asks, what it gives -/
def spDraw : Sp := fun vs H Q _ => ∃ z c cells t many, vs = [.ref z, .int many] ∧ PenAt H z c cells t ∧ t ≤ 100000 ∧ 0 < many ∧ many ≤ 100000 ∧
  ∀ n H', 0 ≤ n → n < many → PenAt H' z c cells (t + 1) → Fw z H H' → Q (.int n) H'
def spPen (K : PySem.W.Frag) : Sp := fun vs H Q _ => ∃ (a : Addr) (ns : List Int), vs = [.ref a] ∧ SqL K H a (ns.map V.int) ∧ ns.length ≤ 63 ∧
  ∀ z c H', PenAt H' z c ns 0 → Ex H H' → H z = none → H c = none → Q (.ref z) H'
def spWidth : Sp := fun vs H Q _ => ∃ z c cells t, vs = [.ref z] ∧ PenAt H z c cells t ∧ t ≤ 90000 ∧
  ∀ n H', 1 ≤ n → n ≤ 64 → PenAt H' z c cells (t + 2) → Fw z H H' → Q (.int n) H'
def spValue : Sp := fun vs H Q _ => ∃ z c cells t, ∃ w : Nat, vs = [.ref z, .int w] ∧ PenAt H z c cells t ∧ t ≤ 90000 ∧ 1 ≤ w ∧ w ≤ 64 ∧
  ∀ n H', 0 ≤ n → n < 2 ^ w → PenAt H' z c cells (t + 3) → Fw z H H' → Q (.int n) H'
/-! ### mathematics -/
theorem emod_bd {a m : Int} (h : 0 < m) : 0 ≤ a % m ∧ a % m < m := ⟨Int.emod_nonneg _ (by omega), Int.emod_lt_of_pos _ h⟩
theorem sq_le {i : Int} (h0 : 0 ≤ i) (h1 : i ≤ 100000) : 0 ≤ i * i ∧ i * i ≤ 10000000000 := by
  refine ⟨Int.mul_nonneg h0 h0, ?_⟩
  have := Int.mul_le_mul h1 h1 h0 (by decide : (0 : Int) ≤ 100000)
  omega
theorem mul_bd {a b A B : Int} (a0 : 0 ≤ a) (a1 : a ≤ A) (b0 : 0 ≤ b) (b1 : b ≤ B) : 0 ≤ a * b ∧ a * b ≤ A * B :=
  ⟨Int.mul_nonneg a0 b0, Int.mul_le_mul a1 b1 b0 (by omega)⟩
theorem cpow_of {i j : Int} (h0 : 0 ≤ i) (h1 : i < 18446744073709551616) (h2 : 0 ≤ j) (h3 : j ≤ 1000000) : CPow i j := ⟨h2, h3, by omega⟩
theorem draw_pw5 {cell ix a b : Int} (h0 : 0 ≤ ix) (h1 : ix ≤ 100000) (ha : 0 ≤ a) (ha2 : a ≤ 1000000) (hb : 0 ≤ b) (hb2 : b ≤ 1000000) : CPow (cell % 2147483563 + a * ix + b) 5 := by
  have h := emod_bd (a := cell) (m := 2147483563) (by decide)
  have m := mul_bd ha ha2 h0 h1
  exact cpow_of (by omega) (by omega) (by decide) (by decide)
theorem draw_pw3 {m ix c d e : Int} (h0 : 0 ≤ ix) (h1 : ix ≤ 100000) (m0 : 0 ≤ m) (m1 : m < 2147483629) (hc : 0 ≤ c) (hc2 : c ≤ 1000000) (hd : 0 ≤ d) (hd2 : d ≤ 1000000) (he : 0 ≤ e) (he2 : e ≤ 1000000) :
    CPow (m * (2 * ix + c) + d * ix * ix + e) 3 := by
  have a := mul_bd m0 (A := 2147483629) (by omega) (b := 2 * ix + c) (by omega) (B := 1200000) (by omega)
  have b := mul_bd hd hd2 h0 h1
  have g := mul_bd b.1 b.2 h0 h1
  exact cpow_of (by omega) (by omega) (by decide) (by decide)
theorem pow18 : (10 : Int) ^ (18 : Int).toNat = 1000000000000000000 := by decide
theorem pow_gt {n : Nat} (h : 1 ≤ n) : (1 : Int) < 2 ^ n := by
  obtain ⟨m, rfl⟩ : ∃ m, n = m + 1 := ⟨n - 1, by omega⟩
  have := Int.pow_pos (n := (2 : Int)) (m := m) (by decide)
  rw [Int.pow_succ]
  omega
theorem pow_le64 {n : Nat} (h : n ≤ 64) : (2 : Int) ^ n ≤ 18446744073709551616 := by
  have h1 : (2 : Nat) ^ n ≤ 2 ^ 64 := Nat.pow_le_pow_right (by decide) h
  have h2 : ((2 ^ n : Nat) : Int) = 2 ^ n := by rw [Int.natCast_pow] <;> rfl
  have h3 : (2 : Nat) ^ 64 = 18446744073709551616 := by decide
  omega
theorem and_top {wd : Nat} {x : Int} (hx : 0 ≤ x) : 0 ≤ Builtin.bitAnd x (2 ^ wd - 1) ∧ Builtin.bitAnd x (2 ^ wd - 1) < 2 ^ wd := by
  have e : Builtin.bitAnd x (2 ^ wd - 1) = x % 2 ^ wd := PySem.W.kbt_mask x wd
  rw [e]
  exact emod_bd (Int.pow_pos (by decide))
theorem back {H H' : Hp} {p : Addr} (e : Ex H H') (h : H' p = none) : H p = none := by
  cases q : H p with
  | none => rfl
  | some o =>
    rw [e _ _ q] at h
    cases h
theorem cut63 (n : Nat) : HT.sIx n n (some 63) = min 63 n := by
  show HT.sIx n n (some (63 : Int)) = min 63 n
  simp [HT.sIx]
  all_goals omega
theorem dp_ints {K : PySem.W.Frag} {H : Hp} : ∀ cells : List Int, DpAll K H (cells.map V.int) (cells.map PyData.int)
  | [] => DpAll.nil
  | c :: r => DpAll.cons (Dp.int c) (dp_ints r)
theorem lay_ints : ∀ cells : List Int, PyData.canLayAll0 (cells.map PyData.int) = true
  | [] => by rw [List.map_nil, PyData.canLayAll0]
  | c :: r => by rw [List.map_cons, PyData.canLayAll0, PyData.canLay0, lay_ints r] <;> rfl
theorem deep_ints : ∀ cells : List Int, PyData.depthAll (cells.map PyData.int) = 0
  | [] => by rw [List.map_nil, PyData.depthAll]
  | c :: r => by rw [List.map_cons, PyData.depthAll, PyData.depth, deep_ints r] <;> rfl
theorem shaped_ints (cells : List Int) : SeqAt.shaped (.list (cells.map PyData.int)) = true := by
  unfold SeqAt.shaped
  rw [PyData.canLay0, lay_ints, PyData.depth, deep_ints] <;> decide
end Tz
namespace TzOwn
open PySem L2 ClX
section
variable {X : Cx} {CX : CXT} {k : Nat} {f C g p : Addr} {fd : FuncData} {ps : List Str} {sp : Sp} {E : XK} {pins : List (Addr × Obj)} {σ : L2.St} {H : Hp} {s : Shared} {mc : Value} {m : Str} {o e : Expr} {es : List Expr} {apos pos : Pos} {ta : TE} {t : TA} {pl : Sem Bool}
theorem back_cmp {Q : VK} {u : Value} {s' : Shared} (h : EP X pins σ Q u s') : PySem.W.CmpBack (EP X pins σ Q) u s' := by
  obtain ⟨v, H', I, r, q⟩ := id h
  cases v with
  | non => cases (show u = Value.none from r); exact h
  | bl b => cases (show u = Value.bool b from r); exact h
  | int i => obtain ⟨t, e⟩ := (show ∃ t, u = Value.int i t from r); subst e; exact h
  | str i => obtain ⟨t, e⟩ := (show ∃ t, u = Value.str i t from r); subst e; exact h
  | byt i => obtain ⟨t, e⟩ := (show ∃ t, u = Value.bytes i t from r); subst e; exact h
  | flt i => obtain ⟨t, e⟩ := (show ∃ t, u = Value.float i t from r); subst e; exact h
  | ref a => cases (show u = Value.ref a from r); exact h
  | ty a => cases (show u = Value.type a from r); exact h
theorem inst_at (I : Inv X pins σ H s) {a dx : Addr} {fs : List (Str × V)} (h : H a = some (.ins C dx fs)) : ∃ od, PySem.W.InstAt s.heap a (PySem.W.instObj C dx) C (some od) := by
  obtain ⟨mA, J, _⟩ := ins_get I.hok h
  obtain ⟨od, J, _⟩ := J.look
  exact ⟨od, J⟩
/-- a, b instances of the class at C: its own method, by its promise -/
def rOwn (C : Addr) (sp : Sp) (E : XK) : R2 := fun x y H Q => ∃ a b dx dy fs gs, x = .ref a ∧ y = .ref b ∧ H a = some (.ins C dx fs) ∧ H b = some (.ins C dy gs) ∧ sp [.ref a, .ref b] H Q E
/-- a an instance, b an int -/
def rOwnI (C : Addr) (sp : Sp) (E : XK) : R2 := fun x y H Q => ∃ a n dx fs, x = .ref a ∧ y = .int n ∧ H a = some (.ins C dx fs) ∧ sp [.ref a, .int n] H Q E
def rIOwn (C : Addr) (sp : Sp) (E : XK) : R2 := fun x y H Q => ∃ a n dx fs, x = .int n ∧ y = .ref a ∧ H a = some (.ins C dx fs) ∧ sp [.ref a, .int n] H Q E
def rOwn1 (C : Addr) (sp : Sp) (E : XK) : V → Hp → VK → Prop := fun x H Q => ∃ a dx fs, x = .ref a ∧ H a = some (.ins C dx fs) ∧ sp [.ref a] H Q E
theorem op_own {op : Operator} {nm : Str} (F : FnOk X.prog X.w X.K X.mg X.base CX k f fd ps sp) (hr : Room k X.A) (M : Meth X.K C nm f) (hn : PySem.dunder op.info.2 = nm) (sf : PySem.W.selfFirst X.K C = true) (hb : Binds X.K fd ps []) (hx : Passes CX X E) :
    OpR X (binaryOp op) (rOwn C sp E) := by
  intro pins s σ H x y v u Q I rx ry h
  obtain ⟨a, b, dx, dy, fs, gs, rfl, rfl, ha, hb', q⟩ := h
  cases rx
  cases ry
  obtain ⟨od, J⟩ := inst_at I ha
  obtain ⟨od', J'⟩ := inst_at I hb'
  obtain ⟨m, hF⟩ := I.fr
  refine PySem.W.binop_K hF I.ok.mod.kin J J'.type sf (hn ▸ M.at_) M.fn ?_
  exact thn (run_fn (us := [.ref a, .ref b]) (vs := [.ref a, .ref b]) F hr hb .nil hx I (.cons rfl (.cons rfl .nil)) q) fun _ _ z => back_cmp z
theorem op_ownI {op : Operator} {nm nr : Str} {fo ro rc : Option Value} (F : FnOk X.prog X.w X.K X.mg X.base CX k f fd ps sp) (hr : Room k X.A) (M : Meth X.K C nm f) (hn : PySem.dunder op.info.2 = nm) (sf : PySem.W.selfFirst X.K C = true) (hb : Binds X.K fd ps []) (hx : Passes CX X E)
    (hnr : dunderR op.info.2 = nr) (hc : PySem.W.findIn X.K (.ref C) nr = some rc) (hp : rc = none ∨ ∃ g : Addr, rc = some (.ref g)) (h1 : PySem.W.findIn X.K (.type "int") nm = some fo) (h2 : PySem.W.findIn X.K (.type "int") nr = some ro)
    (hsub : PySem.W.subIn X.K (.type "int") (.ref C) = some false) :
    OpR X (binaryOp op) (rOwnI C sp E) := by
  intro pins s σ H x y v u Q I rx ry h
  obtain ⟨a, n, dx, fs, rfl, rfl, ha, q⟩ := h
  cases rx
  obtain ⟨t, rfl⟩ := ry
  obtain ⟨od, J⟩ := inst_at I ha
  obtain ⟨m, hF⟩ := I.fr
  refine PySem.W.ksp_binT (T := "int") hF I.ok.mod.kin J rfl sf (hn ▸ M.at_) M.fn (hnr ▸ hc) hp (hn ▸ h1) (hnr ▸ h2) hsub ?_
  exact thn (run_fn (us := [.ref a, .int n t]) (vs := [.ref a, .int n]) F hr hb .nil hx I (.cons rfl (.cons ⟨_, rfl⟩ .nil)) q) fun _ _ z => back_cmp z
theorem un_inv_own {nm : Str} (F : FnOk X.prog X.w X.K X.mg X.base CX k f fd ps sp) (hr : Room k X.A) (M : Meth X.K C nm f) (hn : "__invert__" = nm) (hb : Binds X.K fd ps []) (hx : Passes CX X E) : UnR X (unaryOp .Invert) (rOwn1 C sp E) := by
  intro pins s σ H x v Q I rx h
  obtain ⟨a, dx, fs, rfl, ha, q⟩ := h
  cases rx
  obtain ⟨od, J⟩ := inst_at I ha
  obtain ⟨m, hF⟩ := I.fr
  refine PySem.W.ksp_inv hF I.ok.mod.kin J (hn ▸ M.at_) M.fn ?_
  exact run_fn (us := [.ref a]) (vs := [.ref a]) F hr hb .nil hx I (.cons rfl .nil) q
theorem cmp_own {op : CmpOp} {nm : Str} (F : FnOk X.prog X.w X.K X.mg X.base CX k f fd ps sp) (hr : Room k X.A) (M : Meth X.K C nm f) (hn : (cmpInfo op).2.1 = nm) (ho : compareOp op = richCompare op) (hb : Binds X.K fd ps []) (hx : Passes CX X E) : OpR X (compareOp op) (rOwn C sp E) := by
  intro pins s σ H x y v u Q I rx ry h
  obtain ⟨a, b, dx, dy, fs, gs, rfl, rfl, ha, hb', q⟩ := h
  cases rx
  cases ry
  obtain ⟨od, J⟩ := inst_at I ha
  obtain ⟨od', J'⟩ := inst_at I hb'
  obtain ⟨m, hF⟩ := I.fr
  rw [ho]
  refine PySem.W.cmp_K (op := op) (tb := .ref C) hr.units0 hF I.ok.mod.kin J J'.type (by simp [PySem.W.notFirst]) (hn ▸ M.at_) M.fn ?_
  exact thn (run_fn (us := [.ref a, .ref b]) (vs := [.ref a, .ref b]) F hr hb .nil hx I (.cons rfl (.cons rfl .nil)) q) fun _ _ z => back_cmp z
theorem int_mul_ins (n : Int) (t : Tok) (x C dx : Addr) : Meets (Builtin.«int.__mul__» ⟨[.int n t, .ref x], []⟩) (fun _ R s => s.heap.get? x = some (PySem.W.instObj C dx) ∧ R (.ok (.ret Value.notImplemented)) s) :=
  .of_wp fun prog w A R s h => by obtain ⟨hp, g, d, tk, os⟩ := s; obtain ⟨hl, h⟩ := h; wp_walk; exact ⟨_, rfl, h⟩
theorem int_add_ins (n : Int) (t : Tok) (x C dx : Addr) : Meets (Builtin.«int.__add__» ⟨[.int n t, .ref x], []⟩) (fun _ R s => s.heap.get? x = some (PySem.W.instObj C dx) ∧ R (.ok (.ret Value.notImplemented)) s) :=
  .of_wp fun prog w A R s h => by obtain ⟨hp, g, d, tk, os⟩ := s; obtain ⟨hl, h⟩ := h; wp_walk; exact ⟨_, rfl, h⟩
theorem int_sub_ins (n : Int) (t : Tok) (x C dx : Addr) : Meets (Builtin.«int.__sub__» ⟨[.int n t, .ref x], []⟩) (fun _ R s => s.heap.get? x = some (PySem.W.instObj C dx) ∧ R (.ok (.ret Value.notImplemented)) s) :=
  .of_wp fun prog w A R s h => by obtain ⟨hp, g, d, tk, os⟩ := s; obtain ⟨hl, h⟩ := h; wp_walk; exact ⟨_, rfl, h⟩
theorem int_xor_ins (n : Int) (t : Tok) (x C dx : Addr) : Meets (Builtin.«int.__xor__» ⟨[.int n t, .ref x], []⟩) (fun _ R s => s.heap.get? x = some (PySem.W.instObj C dx) ∧ R (.ok (.ret Value.notImplemented)) s) :=
  .of_wp fun prog w A R s h => by obtain ⟨hp, g, d, tk, os⟩ := s; obtain ⟨hl, h⟩ := h; wp_walk; exact ⟨_, rfl, h⟩
/-- int op instance: the left one declines, the class's reflected method answers -/
theorem op_iown {op : Operator} {nm nl : Str} {fl : Addr} {idl : String} {B : Builtin} (F : FnOk X.prog X.w X.K X.mg X.base CX k f fd ps sp) (hr : Room k X.A) (M : Meth X.K C nm f) (hn : dunderR op.info.2 = nm) (ML : Meth X.K C nl fl) (hnl : PySem.dunder op.info.2 = nl) (sf : PySem.W.selfFirst X.K C = true)
    (hb : Binds X.K fd ps []) (hx : Passes CX X E) (hsub : PySem.W.subIn X.K (.ref C) (.type "int") = some false)
    (fills : fillsNumberSlot (.type "int") op.info.2 = pure true) (slot : Slot "int" (PySem.dunder op.info.2) idl) (entry : entryFor table idl = some B) (args : ∀ n t a, argsOk idl ⟨[.int n t, .ref a], []⟩)
    (meets : ∀ n t x dx, Meets (B ⟨[.int n t, .ref x], []⟩) (fun _ R s => s.heap.get? x = some (PySem.W.instObj C dx) ∧ R (.ok (.ret Value.notImplemented)) s)) :
    OpR X (binaryOp op) (rIOwn C sp E) := by
  intro pins s σ H x y v u Q I rx ry h
  obtain ⟨a, n, dx, fs, rfl, rfl, ha, q⟩ := h
  cases ry
  obtain ⟨t, rfl⟩ := rx
  obtain ⟨mA, J0, _⟩ := ins_get I.hok ha
  obtain ⟨od, J, _⟩ := J0.look
  have Xk := I.kIn
  obtain ⟨cd, rest, hcd, hm⟩ := PySem.W.ksp_first sf
  rcases hi : op.info with ⟨sym, nm'⟩
  rw [hi] at hn hnl fills slot
  dsimp only at hn hnl fills slot
  have L3 : PySem.W.Looks (model X.prog X.w) s.heap (fillsNumberSlot (.ref C) nm') true := PySem.W.fills_K Xk hcd hm (hnl ▸ ML.at_)
  have L5 : PySem.W.Looks (model X.prog X.w) s.heap (isSubtype (.ref C) (.type "int")) false := PySem.W.looks_subIn Xk hsub
  have hne : (Value.type "int" == Value.ref C) = false := Bool.eq_false_iff.mpr fun q => by cases beq_iff_eq.mp q
  have L0 : typeOf (.int n t) = pure (.type "int") := rfl
  simp only [binaryOp, hi]
  refine wpAny_holding (wpAny_bind ?_)
  unfold binaryOp1
  refine wpAny_bind (wpAny_of_eq L0 (wpAny_bind (J.type.here (wpAny_bind (wpAny_of_eq fills ?_)))))
  simp only [hne, Bool.false_eq_true, if_false]
  refine wpAny_bind (L3.here ?_)
  simp only [Bool.and_self, if_true]
  refine wpAny_bind (L5.here ?_)
  have hpy : numberSlotInPython (.type "int") nm' = pure false := rfl
  simp only [Bool.false_eq_true, if_false, pure_bind, Bool.not_false, Bool.and_self, if_true, hpy]
  refine wpAny_bind (wpAny_tryMethod_declines (T := "int") rfl slot (call_meets slot rfl entry (args n t a) (meets n t a dx) ⟨J0.obj, rfl, ?_⟩))
  refine wpAny_bind ?_
  have z := PySem.W.ksp_try (Q := EP X pins σ Q) Xk J (hn ▸ M.at_) M.fn (thn (run_fn (us := [.ref a, .int n t]) (vs := [.ref a, .int n]) F hr hb .nil hx I (.cons rfl (.cons ⟨_, rfl⟩ .nil)) q) fun _ _ z => back_cmp z)
  refine wpAny_mono z (fun r s' hr' => ?_) fun _ _ e => e
  obtain ⟨v, rfl, hq⟩ := hr'
  exact wpAny_bind (wpAny_rule (wpAny_pure (wpAny_pure hq)))
/-- C.m is a staticmethod: its record at p, its def at g -/
structure SMet (K : PySem.W.Frag) (C : Addr) (mc : Value) (m : Str) (p g : Addr) : Prop where
  at_ : PySem.W.findCls K (.ref C) mc m = some (.get (.builtin "staticmethod.__get__") (.ref p) .none (.ref C))
  rc : ∃ rest, PySem.W.recIn K p "staticmethod" = some (.ref g :: rest)
  kp : PySem.W.keepIn K (.ref g) = true
theorem getsmet_ok {b : Bool} {A : Around} {E : Value → Shared → Prop} {Q : Value → Shared → Prop} (I : Inv X pins σ H s) (r : CRead X.K C mc) (c : SMet X.K C mc m p g)
    (h : ∀ s', Inv X pins σ H s' → Q (.ref g) s') : wpAny (model X.prog X.w) A (getAttr (.ref C) m b) Q E s := by
  obtain ⟨rest, hp⟩ := c.rc
  refine PySem.W.cls_bind I.kIn r.rd c.at_ ?_
  exact wpAny_call (PySem.W.sm_get (s := { s with toks := s.toks + 1 }) I.kIn hp (PySem.W.handed_on rfl (h _ (I.tok _))))
def tSMeth (C : Addr) (sp : Sp) (E : XK) (ta : TE) (t : TA) : TE := fun σ H Q => ta σ H fun x H1 => x = .ref C ∧ t σ H1 fun vs H2 => sp vs H2 Q E
theorem pe_smeth (he : PE X o ta) (r : CRead X.K C mc) (c : SMet X.K C mc m p g) (F : FnOk X.prog X.w X.K X.mg X.base CX k g fd ps sp) (hr : Room k X.A) (hb : Binds X.K fd ps []) (hx : Passes CX X E) (ha : PA X (e :: es) t)
    (hst : starEach (e :: es) X.env = (false, eval e X.env) :: starEach es X.env := by rfl) (hpl : (backTo pos (starEach es X.env)).any (·.1) = false := by rfl)
    (ht : eval (.Call (.Attribute o m apos) (e :: es) [] pos) X.env = (do
      let ov ← eval o X.env
      standAt apos.atName
      let (f, first) ← holding [ov] (getMethod ov m pl)
      callWith pos f first (backTo pos (starEach (e :: es) X.env)) (backToKw pos (keywordEach [] X.env))) := by rfl) :
    PE X (.Call (.Attribute o m apos) (e :: es) [] pos) (tSMeth C sp E ta t) := by
  refine ⟨fun pins s σ H Q I h => ?_⟩
  refine PySem.W.methodCall_KW (pl := pl) (thn (he.run pins s σ H _ I h) fun u s1 ⟨x, H1, I1, rx, ex, q⟩ => ?_) ht
  subst ex
  obtain rfl : u = Value.ref C := rx
  refine PySem.W.method_cls I1.kIn r.ga (getsmet_ok I1 r c fun s2 I2 => ?_)
  refine PySem.W.callWith_K (first := []) (h₀ := X.base) I.ok.mod.kin c.kp (thn (ha.run pos _ s2 σ H1 _ I2 q) fun us s3 ⟨vs, H2, I3, rv, q2⟩ => ⟨I3.kIn, ?_⟩) hst hpl
  exact run_fn (us := us) (vs := vs) F hr hb .nil hx I3 rv (by rw [List.append_nil]; exact q2)
end
end TzOwn
namespace TzOwn
open PySem L2 SeqAt
section
variable {X : Cx}
/-- xs != [], xs == [], whatever the items are: the second list is empty -/
def rNeNil : R2 := fun x y H Q => ∃ a b xs, x = .ref a ∧ y = .ref b ∧ H a = some (.lst xs) ∧ H b = some (.lst []) ∧ Q (.bl (!xs.isEmpty)) H
def rEqNil : R2 := fun x y H Q => ∃ a b xs, x = .ref a ∧ y = .ref b ∧ H a = some (.lst xs) ∧ H b = some (.lst []) ∧ Q (.bl xs.isEmpty) H
theorem op_neNil (hu : X.A.units < cLine) : OpR X (compareOp .NotEq) rNeNil := by
  intro pins s σ H x y v u Q I rx ry h
  obtain ⟨a, b, xs, rfl, rfl, ha, hb, q⟩ := h
  cases rx
  cases ry
  obtain ⟨_, its, n, r, e⟩ := I.hok a _ ha
  obtain ⟨_, its2, n2, r2, e2⟩ := I.hok b _ hb
  have l2 : its2 = [] := List.length_eq_zero_iff.mp r2.length.symm
  subst l2
  show wpAny (model X.prog X.w) X.A (richCompare .NotEq (.ref a) (.ref b)) (EP X pins σ Q) X.xe s
  cases xs with
  | nil =>
    have l1 : its = [] := List.length_eq_zero_iff.mp r.length.symm
    subst l1
    exact RcNeAt.lists (e := fun _ => true) ⟨_, e, rfl, n, rfl⟩ ⟨_, e2, rfl, n2, rfl⟩ rfl hu (fun i h1 => absurd h1 (Nat.not_lt_zero _)) _ _ _ _ ⟨.bl false, H, I, rfl, q⟩
  | cons y ys =>
    have l1 : its.length = ys.length + 1 := r.length.symm
    exact RcNeAt.lists_lengths ⟨_, e, rfl, n, rfl⟩ ⟨_, e2, rfl, n2, rfl⟩ (by simp [l1]) hu _ _ _ _ ⟨.bl true, H, I, rfl, q⟩
end
end TzOwn
namespace Tz
open PySem L2
/-! ### mathematics of carried sums -/
/-- the greatest value -/
def mw (w : Nat) : Int := 2 ^ w - 1
theorem mw_pos {w : Nat} (h : 1 ≤ w) : 1 ≤ mw w := by
  have := pow_gt h
  unfold mw
  omega
theorem mw_64 {w : Nat} (h : w ≤ 64) : mw w < 18446744073709551616 := by
  have := pow_le64 h
  unfold mw
  omega
theorem mw_lt {w : Nat} {v : Int} : v < 2 ^ w ↔ v ≤ mw w := by
  unfold mw
  omega
/-- the value of a sum of words whose plain sum is n -/
def cr (w : Nat) (n : Int) : Int := if 0 < n then (n - 1) % mw w + 1 else 0
theorem cr_bd {w : Nat} (h : 1 ≤ w) (n : Int) : 0 ≤ cr w n ∧ cr w n ≤ mw w := by
  have hm := mw_pos h
  unfold cr
  split
  · have := emod_bd (a := n - 1) (m := mw w) (by omega)
    omega
  · omega
theorem cr_pos {w : Nat} (h : 1 ≤ w) {n : Int} (hn : 0 < n) : 1 ≤ cr w n := by
  have hm := mw_pos h
  unfold cr
  rw [if_pos hn]
  have := emod_bd (a := n - 1) (m := mw w) (by omega)
  omega
theorem cr_zero (w : Nat) : cr w 0 = 0 := rfl
theorem cr_non {w : Nat} {n : Int} (h : ¬ 0 < n) : cr w n = 0 := if_neg h
/-- the one word from 1 to M with the rest of n -/
theorem cr_eq {w : Nat} {n r q : Int} (hn : 0 < n) (h1 : 1 ≤ r) (h2 : r ≤ mw w) (e : n = r + mw w * q) : cr w n = r := by
  unfold cr
  rw [if_pos hn, show n - 1 = (r - 1) + mw w * q by omega, Int.add_mul_emod_self_left, Int.emod_eq_of_lt (by omega) (by omega)]
  omega
theorem cr_ex {w : Nat} (n : Int) (hn : 0 < n) : ∃ q, n = cr w n + mw w * q := by
  refine ⟨(n - 1) / mw w, ?_⟩
  unfold cr
  rw [if_pos hn]
  have := Int.emod_add_mul_ediv (n - 1) (mw w)
  omega
theorem cr_self {w : Nat} {x : Int} (h0 : 0 ≤ x) (h1 : x ≤ mw w) : cr w x = x := by
  by_cases h : 0 < x
  · exact cr_eq (q := 0) h (by omega) h1 (by omega)
  · rw [cr_non h]
    omega
/-- the carry may be done ahead -/
theorem cr_add {w : Nat} (h : 1 ≤ w) {a b : Int} (ha : 0 ≤ a) (hb : 0 ≤ b) : cr w (cr w a + b) = cr w (a + b) := by
  by_cases h0 : 0 < a
  · obtain ⟨q, e⟩ := cr_ex (w := w) a h0
    have p1 := cr_pos h h0
    have p2 := cr_bd h (a + b)
    have p3 := cr_pos h (n := a + b) (by omega)
    obtain ⟨r, e2⟩ := cr_ex (w := w) (a + b) (by omega)
    refine cr_eq (q := r - q) (by omega) p3 p2.2 ?_
    rw [Int.mul_sub]
    omega
  · rw [cr_non h0, show a = 0 by omega]
theorem cr_add2 {w : Nat} (h : 1 ≤ w) {a b : Int} (ha : 0 ≤ a) (hb : 0 ≤ b) : cr w (cr w a + cr w b) = cr w (a + b) := by
  rw [cr_add h ha (cr_bd h b).1, Int.add_comm, cr_add h hb ha, Int.add_comm]
theorem cr_mul {w : Nat} (h : 1 ≤ w) {k a : Int} (hk : 0 ≤ k) (ha : 0 ≤ a) : cr w (k * cr w a) = cr w (k * a) := by
  by_cases h0 : 0 < a
  · by_cases k0 : 0 < k
    · obtain ⟨q, e⟩ := cr_ex (w := w) a h0
      have p1 := cr_pos h h0
      have hka := Int.mul_pos k0 h0
      have hkc := Int.mul_pos k0 (show 0 < cr w a by omega)
      have p2 := cr_bd h (k * a)
      have p3 := cr_pos h hka
      obtain ⟨r, e2⟩ := cr_ex (w := w) (k * a) hka
      refine cr_eq (q := r - k * q) hkc p3 p2.2 ?_
      have e3 : k * a = k * cr w a + mw w * (k * q) := by
        conv => lhs; rw [e]
        rw [Int.mul_add, Int.mul_left_comm]
      rw [Int.mul_sub]
      omega
    · rw [show k = 0 by omega, Int.zero_mul, Int.zero_mul]
  · rw [cr_non h0, show a = 0 by omega]
/-! ### what a word is -/
/-- its attributes, in the order in which __init__ stores them -/
def wf (w : Nat) (v : Int) : List (Str × V) :=
  putF "is_full" (.bl (v == mw w)) (putF "is_empty" (.bl (v == 0)) (putF "rest" (.int (v % mw w)) (putF "value" (.int v) (putF "width" (.int w) []))))
theorem sne : (¬ (("width" : Str) = "value")) ∧ (¬ (("width" : Str) = "rest")) ∧ (¬ (("width" : Str) = "is_empty")) ∧ (¬ (("width" : Str) = "is_full")) ∧ (¬ (("value" : Str) = "rest")) ∧ (¬ (("value" : Str) = "is_empty")) ∧ (¬ (("value" : Str) = "is_full")) ∧
    (¬ (("rest" : Str) = "is_empty")) ∧ (¬ (("rest" : Str) = "is_full")) ∧ (¬ (("is_empty" : Str) = "is_full")) := by decide +kernel
theorem wf_width (w : Nat) (v : Int) : (wf w v).lookup ("width" : Str) = some (.int w) := by
  unfold wf
  rw [lookup_putF, if_neg sne.2.2.2.1, lookup_putF, if_neg sne.2.2.1, lookup_putF, if_neg sne.2.1, lookup_putF, if_neg sne.1, lookup_putF, if_pos rfl]
theorem wf_value (w : Nat) (v : Int) : (wf w v).lookup ("value" : Str) = some (.int v) := by
  unfold wf
  rw [lookup_putF, if_neg sne.2.2.2.2.2.2.1, lookup_putF, if_neg sne.2.2.2.2.2.1, lookup_putF, if_neg sne.2.2.2.2.1, lookup_putF, if_pos rfl]
theorem wf_rest (w : Nat) (v : Int) : (wf w v).lookup ("rest" : Str) = some (.int (v % mw w)) := by
  unfold wf
  rw [lookup_putF, if_neg sne.2.2.2.2.2.2.2.2.1, lookup_putF, if_neg sne.2.2.2.2.2.2.2.1, lookup_putF, if_pos rfl]
theorem wf_is_empty (w : Nat) (v : Int) : (wf w v).lookup ("is_empty" : Str) = some (.bl (v == 0)) := by
  unfold wf
  rw [lookup_putF, if_neg sne.2.2.2.2.2.2.2.2.2, lookup_putF, if_pos rfl]
theorem wf_is_full (w : Nat) (v : Int) : (wf w v).lookup ("is_full" : Str) = some (.bl (v == mw w)) := by
  unfold wf
  rw [lookup_putF, if_pos rfl]
theorem wf_no (w : Nat) (v : Int) {m : Str} (h1 : ¬ m = "width") (h2 : ¬ m = "value") (h3 : ¬ m = "rest") (h4 : ¬ m = "is_empty") (h5 : ¬ m = "is_full") : (wf w v).lookup m = none := by
  unfold wf
  rw [lookup_putF, if_neg h5, lookup_putF, if_neg h4, lookup_putF, if_neg h3, lookup_putF, if_neg h2, lookup_putF, if_neg h1]
  all_goals rfl
structure WordAt (C : Addr) (H : Hp) (x : Addr) (w : Nat) (v : Int) : Prop where
  ob : ∃ dx, H x = some (.ins C dx (wf w v))
  w1 : 1 ≤ w
  w64 : w ≤ 64
  v0 : 0 ≤ v
  vm : v ≤ mw w
theorem WordAt.ex {C : Addr} {H H' : Hp} {x : Addr} {w : Nat} {v : Int} (h : WordAt C H x w v) (e : Ex H H') : WordAt C H' x w v := by
  obtain ⟨⟨dx, h1⟩, h2, h3, h4, h5⟩ := h
  exact ⟨⟨dx, e _ _ h1⟩, h2, h3, h4, h5⟩
theorem WordAt.fw {C : Addr} {H H' : Hp} {x z : Addr} {w : Nat} {v : Int} (h : WordAt C H x w v) (e : Fw z H H') (n : x ≠ z) : WordAt C H' x w v := by
  obtain ⟨⟨dx, h1⟩, h2, h3, h4, h5⟩ := h
  exact ⟨⟨dx, e _ _ n h1⟩, h2, h3, h4, h5⟩
theorem WordAt.ne_pen {C : Addr} {H : Hp} {x z c : Addr} {w t : Nat} {v : Int} {cells : List Int} (h : WordAt C H x w v) (p : PenAt H z c cells t) : x ≠ z := by
  obtain ⟨⟨dx, h1⟩, _⟩ := h
  obtain ⟨⟨i, l, h2, _⟩, _⟩ := p
  exact ne_of h1 h2 (by intro q; cases q)
/-! ### promises -/
def spIsFromI : Sp := fun vs H Q _ => ∃ v lo hi : Int, vs = [.int v, .int lo, .int hi] ∧ ∀ b : Bool, (b = true ↔ lo ≤ v ∧ v ≤ hi) → Q (.bl b) H
def spMost : Sp := fun vs H Q _ => ∃ w : Nat, vs = [.int w] ∧ 1 ≤ w ∧ w ≤ 64 ∧ Q (.int (mw w)) H
def spCheckedWidth : Sp := fun vs H Q _ => ∃ w : Nat, vs = [.int w] ∧ 1 ≤ w ∧ w ≤ 64 ∧ Q (.int w) H
def spWordInit (C : Addr) : Sp := fun vs H Q _ => ∃ p dx, ∃ w : Nat, ∃ v : Int, vs = [.ref p, .int w, .int v] ∧ H p = some (.ins C dx []) ∧ 1 ≤ w ∧ w ≤ 64 ∧ 0 ≤ v ∧ v ≤ mw w ∧
  ∀ H', H' p = some (.ins C dx (wf w v)) → (∀ b o, H b = some o → b ≠ p → H' b = some o) → Q .non H'
def spCarried : Sp := fun vs H Q _ => ∃ w : Nat, ∃ n : Int, vs = [.int w, .int n] ∧ 1 ≤ w ∧ w ≤ 64 ∧ Q (.int (cr w n)) H
/-- a new word -/
def NewW (C : Addr) (w : Nat) (v : Int) (H : Hp) (Q : VK) : Prop := ∀ p H', H p = none → Ex H H' → WordAt C H' p w v → Q (.ref p) H'
theorem NewW.go {C : Addr} {w : Nat} {v : Int} {H H1 H2 : Hp} {Q : VK} {p : Addr} (k : NewW C w v H Q) (e : Ex H H1) (n : H1 p = none) (e2 : Ex H1 H2) (W : WordAt C H2 p w v) : Q (.ref p) H2 := k p H2 (back e n) (e.trans e2) W
def spSumWord (C : Addr) : Sp := fun vs H Q _ => ∃ w : Nat, ∃ a b : Int, vs = [.int w, .int a, .int b] ∧ 1 ≤ w ∧ w ≤ 64 ∧ NewW C w (cr w (a + b)) H Q
def spDiffWord (C : Addr) : Sp := fun vs H Q _ => ∃ w : Nat, ∃ a b : Int, vs = [.int w, .int a, .int b] ∧ 1 ≤ w ∧ w ≤ 64 ∧ NewW C w (cr w (a + (mw w - b))) H Q
def spTimes : Sp := fun vs H Q _ => ∃ k : Int, vs = [.int k] ∧ 0 ≤ k ∧ k ≤ 1000000000000000000000000000000 ∧ Q (.int k) H
def spTurned (C : Addr) : Sp := fun vs H Q _ => ∃ x, ∃ w : Nat, ∃ v k : Int, vs = [.ref x, .int k] ∧ WordAt C H x w v ∧ NewW C w (cr w (v * 2 ^ (k % w).toNat)) H Q
def spOperand (C : Addr) : Sp := fun vs H Q _ => ∃ x y, ∃ w : Nat, ∃ u v : Int, vs = [.ref x, .ref y] ∧ WordAt C H x w u ∧ WordAt C H y w v ∧ Q (.int v) H
def spAdd (C : Addr) : Sp := fun vs H Q _ => ∃ x y, ∃ w : Nat, ∃ u v : Int, vs = [.ref x, .ref y] ∧ WordAt C H x w u ∧ WordAt C H y w v ∧ NewW C w (cr w (u + v)) H Q
def spSub (C : Addr) : Sp := fun vs H Q _ => ∃ x y, ∃ w : Nat, ∃ u v : Int, vs = [.ref x, .ref y] ∧ WordAt C H x w u ∧ WordAt C H y w v ∧ NewW C w (cr w (u + (mw w - v))) H Q
def spEq (C : Addr) : Sp := fun vs H Q _ => ∃ x y, ∃ w1 w2 : Nat, ∃ u v : Int, vs = [.ref x, .ref y] ∧ WordAt C H x w1 u ∧ WordAt C H y w2 v ∧ Q (.bl (decide (w1 = w2) && decide (u = v))) H
def spLike (C : Addr) : Sp := fun vs H Q _ => ∃ x y, ∃ w : Nat, ∃ u v : Int, vs = [.ref x, .ref y] ∧ WordAt C H x w u ∧ WordAt C H y w v ∧ Q (.bl (decide (u % mw w = v % mw w))) H
def spMulI (C : Addr) : Sp := fun vs H Q _ => ∃ x, ∃ w : Nat, ∃ u k : Int, vs = [.ref x, .int k] ∧ WordAt C H x w u ∧ 0 ≤ k ∧ k ≤ 1000000000000000000000000000000 ∧ NewW C w (cr w (k * u)) H Q
def spShlI (C : Addr) : Sp := fun vs H Q _ => ∃ x, ∃ w : Nat, ∃ u k : Int, vs = [.ref x, .int k] ∧ WordAt C H x w u ∧ 0 ≤ k ∧ k ≤ 1000000000000000000000000000000 ∧ NewW C w (cr w (u * 2 ^ (k % w).toNat)) H Q
def spInv (C : Addr) : Sp := fun vs H Q _ => ∃ x, ∃ w : Nat, ∃ u : Int, vs = [.ref x] ∧ WordAt C H x w u ∧ NewW C w (mw w - u) H Q
def spConst (C : Addr) (f : Nat → Int) : Sp := fun vs H Q _ => ∃ w : Nat, vs = [.int w] ∧ 1 ≤ w ∧ w ≤ 64 ∧ NewW C w (f w) H Q
/-- a new instance and its __init__ -/
theorem mk_word {C : Addr} {w : Nat} {v : Int} {H : Hp} {Q : VK} {E : XK} (w1 : 1 ≤ w) (w64 : w ≤ 64) (v0 : 0 ≤ v) (vm : v ≤ mw w) (k : NewW C w v H Q) :
    ∀ x dx, H x = none → H dx = none → dx ≠ x → spWordInit C [.ref x, .int w, .int v] (upd (upd H dx (.own x)) x (.ins C dx [])) (fun u H2 => u = .non ∧ Q (.ref x) H2) E := fun x dx nx ndx _ =>
  ⟨x, dx, w, v, rfl, upd_same, w1, w64, v0, vm, fun H' hx hk => ⟨rfl, k x H' nx (fun b o e => hk b o (by rw [upd_ne (ne_of_none e nx), upd_ne (ne_of_none e ndx)]; exact e) (ne_of_none e nx)) ⟨⟨dx, hx⟩, w1, w64, v0, vm⟩⟩⟩
theorem kit_self {K : PySem.W.Frag} {v : Value} : PySem.W.kitOne K v v = some true := by
  unfold PySem.W.kitOne
  rw [if_pos (beq_self_eq_true v)]
/-! ### rows of words -/
inductive Ws (C : Addr) (H : Hp) (w : Nat) : List Addr → List Int → Prop where
  | nil : Ws C H w [] []
  | cons {x : Addr} {v : Int} {xs : List Addr} {vs : List Int} (h : WordAt C H x w v) (t : Ws C H w xs vs) : Ws C H w (x :: xs) (v :: vs)
theorem Ws.len {C : Addr} {H : Hp} {w : Nat} {xs : List Addr} {vs : List Int} (h : Ws C H w xs vs) : xs.length = vs.length := by
  induction h with
  | nil => rfl
  | cons _ _ ih => rw [List.length_cons, List.length_cons, ih]
theorem Ws.get {C : Addr} {H : Hp} {w : Nat} {xs : List Addr} {vs : List Int} (h : Ws C H w xs vs) : ∀ {i : Nat}, i < xs.length → ∃ x v, xs[i]? = some x ∧ vs[i]? = some v ∧ WordAt C H x w v := by
  induction h with
  | nil => intro i hi; exact absurd hi (Nat.not_lt_zero _)
  | @cons x v xs vs h t ih =>
    intro i hi
    cases i with
    | zero => exact ⟨x, v, rfl, rfl, h⟩
    | succ i => exact ih (by simpa using hi)
theorem Ws.fw {C : Addr} {H H' : Hp} {w : Nat} {xs : List Addr} {vs : List Int} (h : Ws C H w xs vs) (k : ∀ x v, WordAt C H x w v → WordAt C H' x w v) : Ws C H' w xs vs := by
  induction h with
  | nil => exact .nil
  | cons h _ ih => exact .cons (k _ _ h) ih
theorem Ws.app {C : Addr} {H : Hp} {w : Nat} {xs ys : List Addr} {vs us : List Int} (h : Ws C H w xs vs) (g : Ws C H w ys us) : Ws C H w (xs ++ ys) (vs ++ us) := by
  induction h with
  | nil => exact g
  | cons h _ ih => exact .cons h ih
theorem Ws.take {C : Addr} {H : Hp} {w : Nat} {xs : List Addr} {vs : List Int} (h : Ws C H w xs vs) : ∀ n, Ws C H w (xs.take n) (vs.take n) := by
  induction h with
  | nil => intro n; rw [List.take_nil, List.take_nil]; exact .nil
  | cons h _ ih =>
    intro n
    cases n with
    | zero => exact .nil
    | succ n => exact .cons h (ih n)
theorem Ws.drop {C : Addr} {H : Hp} {w : Nat} {xs : List Addr} {vs : List Int} (h : Ws C H w xs vs) : ∀ n, Ws C H w (xs.drop n) (vs.drop n) := by
  induction h with
  | nil => intro n; rw [List.drop_nil, List.drop_nil]; exact .nil
  | @cons x v xs vs h t ih =>
    intro n
    cases n with
    | zero => exact .cons h t
    | succ n => exact ih n
theorem Ws.erase {C : Addr} {H : Hp} {w : Nat} {xs : List Addr} {vs : List Int} (h : Ws C H w xs vs) : ∀ n, Ws C H w (xs.eraseIdx n) (vs.eraseIdx n) := by
  induction h with
  | nil => intro n; exact .nil
  | @cons x v xs vs h t ih =>
    intro n
    cases n with
    | zero => exact t
    | succ n => exact .cons h (ih n)
theorem Ws.nonneg {C : Addr} {H : Hp} {w : Nat} {xs : List Addr} {vs : List Int} (h : Ws C H w xs vs) : 0 ≤ vs.sum := by
  induction h with
  | nil => exact Int.le_refl 0
  | cons h _ ih =>
    have := h.v0
    rw [List.sum_cons]
    omega
theorem sum_erase : ∀ {vs : List Int} {i : Nat} {v : Int}, vs[i]? = some v → vs.sum = v + (vs.eraseIdx i).sum
  | [], i, v, h => by simp at h
  | a :: r, 0, v, h => by
    have e : a = v := Option.some.inj h
    subst e
    rw [List.sum_cons, List.eraseIdx_cons_zero]
  | a :: r, i + 1, v, h => by
    have ih := sum_erase (vs := r) (i := i) (v := v) h
    rw [List.sum_cons, ih, List.eraseIdx_cons_succ, List.sum_cons]
    omega
theorem sum_mid : ∀ {vs : List Int} {i : Nat} {a b : Int}, vs[i]? = some a → vs[i + 1]? = some b → vs.sum = (vs.take i).sum + (a + b) + (vs.drop (i + 2)).sum
  | [], i, a, b, h, _ => by simp at h
  | [c], i, a, b, _, h => by simp at h
  | c :: d :: r, 0, a, b, h, h' => by
    have e : c = a := Option.some.inj h
    have e' : d = b := Option.some.inj h'
    subst e e'
    show (c :: d :: r).sum = 0 + (c + d) + r.sum
    rw [List.sum_cons, List.sum_cons]
    omega
  | c :: d :: r, i + 1, a, b, h, h' => by
    have ih := sum_mid (vs := d :: r) (i := i) (a := a) (b := b) h h'
    rw [List.sum_cons, ih, List.take_succ_cons, List.sum_cons]
    show c + ((List.take i (d :: r)).sum + (a + b) + (List.drop (i + 2) (d :: r)).sum) = c + (List.take i (d :: r)).sum + (a + b) + (List.drop (i + 2) (d :: r)).sum
    omega
/-! ### one operation, told by words -/
section
variable {C : Addr} {E : XK} {H : Hp} {Q : VK} {a b : Addr} {w w' : Nat} {u v k : Int}
theorem g_add (Wa : WordAt C H a w u) (Wb : WordAt C H b w v) (q : NewW C w (cr w (u + v)) H Q) : TzOwn.rOwn C (spAdd C) E (.ref a) (.ref b) H Q := by
  obtain ⟨da, ha⟩ := Wa.ob
  obtain ⟨db, hb⟩ := Wb.ob
  exact ⟨a, b, da, db, _, _, rfl, rfl, ha, hb, a, b, w, u, v, rfl, Wa, Wb, q⟩
theorem g_sub (Wa : WordAt C H a w u) (Wb : WordAt C H b w v) (q : NewW C w (cr w (u + (mw w - v))) H Q) : TzOwn.rOwn C (spSub C) E (.ref a) (.ref b) H Q := by
  obtain ⟨da, ha⟩ := Wa.ob
  obtain ⟨db, hb⟩ := Wb.ob
  exact ⟨a, b, da, db, _, _, rfl, rfl, ha, hb, a, b, w, u, v, rfl, Wa, Wb, q⟩
theorem g_eq (Wa : WordAt C H a w u) (Wb : WordAt C H b w v) (q : Q (.bl (decide (u = v))) H) : TzOwn.rOwn C (spEq C) E (.ref a) (.ref b) H Q := by
  obtain ⟨da, ha⟩ := Wa.ob
  obtain ⟨db, hb⟩ := Wb.ob
  refine ⟨a, b, da, db, _, _, rfl, rfl, ha, hb, a, b, w, w, u, v, rfl, Wa, Wb, ?_⟩
  rw [decide_eq_true (rfl : w = w), Bool.true_and]
  exact q
/-- .. two that are equal -/
theorem g_eqT (Wa : WordAt C H a w u) (Wb : WordAt C H b w v) (e : u = v) (q : Q (.bl true) H) : TzOwn.rOwn C (spEq C) E (.ref a) (.ref b) H Q := g_eq Wa Wb (by rw [decide_eq_true e]; exact q)
theorem g_rmul (Wa : WordAt C H a w u) (k0 : 0 ≤ k) (k1 : k ≤ 1000000000000000000000000000000) (q : NewW C w (cr w (k * u)) H Q) : TzOwn.rIOwn C (spMulI C) E (.int k) (.ref a) H Q := by
  obtain ⟨da, ha⟩ := Wa.ob
  exact ⟨a, k, da, _, rfl, rfl, ha, a, w, u, k, rfl, Wa, k0, k1, q⟩
theorem g_mul (Wa : WordAt C H a w u) (k0 : 0 ≤ k) (k1 : k ≤ 1000000000000000000000000000000) (q : NewW C w (cr w (k * u)) H Q) : TzOwn.rOwnI C (spMulI C) E (.ref a) (.int k) H Q := by
  obtain ⟨da, ha⟩ := Wa.ob
  exact ⟨a, k, da, _, rfl, rfl, ha, a, w, u, k, rfl, Wa, k0, k1, q⟩
theorem g_shl (Wa : WordAt C H a w u) (k0 : 0 ≤ k) (k1 : k ≤ 1000000000000000000000000000000) (q : NewW C w (cr w (u * 2 ^ (k % w).toNat)) H Q) : TzOwn.rOwnI C (spShlI C) E (.ref a) (.int k) H Q := by
  obtain ⟨da, ha⟩ := Wa.ob
  exact ⟨a, k, da, _, rfl, rfl, ha, a, w, u, k, rfl, Wa, k0, k1, q⟩
theorem g_inv (Wa : WordAt C H a w u) (q : NewW C w (mw w - u) H Q) : TzOwn.rOwn1 C (spInv C) E (.ref a) H Q := by
  obtain ⟨da, ha⟩ := Wa.ob
  exact ⟨a, da, _, rfl, ha, a, w, u, rfl, Wa, q⟩
end
theorem Fw.mut {z p : Addr} {H H' : Hp} {o : HO} (e : Fw z H H') (h : H p = none) : Fw z H (upd H' p o) := fun a u n ha => by
  rw [upd_ne (ne_of_none ha h)]
  exact e a u n ha
theorem PenAt.upd {H : Hp} {z c b : Addr} {cells : List Int} {t : Nat} {o : HO} (h : PenAt H z c cells t) (bz : b ≠ z) (bc : b ≠ c) : PenAt (upd H b o) z c cells t := by
  obtain ⟨⟨i, l, h1, h2⟩, h3, h4, h5⟩ := h
  exact ⟨⟨i, l, by rw [upd_ne bz.symm]; exact h1, h2⟩, by rw [upd_ne bc.symm]; exact h3, h4, h5⟩
theorem PenAt.off {H : Hp} {z c b : Addr} {cells : List Int} {t : Nat} (h : PenAt H z c cells t) (n : H b = none) : b ≠ z ∧ b ≠ c := by
  obtain ⟨⟨i, l, h1, _⟩, h3, _⟩ := h
  exact ⟨(ne_of_none h1 n).symm, (ne_of_none h3 n).symm⟩
theorem seqIx {i n : Nat} (h : i < n) : seqIndex? (i : Int) n = some i := by
  have e : ixN n (i : Int) = some i := by
    unfold ixN
    rw [if_pos (by omega), if_pos (by omega), Int.toNat_natCast]
  exact (ixN_seq e).1
theorem erase_map {α β : Type} (f : α → β) : ∀ (xs : List α) (i : Nat), (xs.map f).eraseIdx i = (xs.eraseIdx i).map f
  | [], _ => rfl
  | _ :: _, 0 => rfl
  | x :: r, i + 1 => by
    rw [List.map_cons, List.eraseIdx_cons_succ, List.eraseIdx_cons_succ, List.map_cons, erase_map f r i]
theorem eqv_ints (ns ms : List Int) : PyData.eqv (.list (ns.map PyData.int)) (.list (ms.map PyData.int)) = decide (ns = ms) := by
  rw [← SeqAt.same_eq_eqv _ _ (by simp only [SeqAt.noMix]; exact PySem.W.noMix_ints ns ms)]
  simp only [PySem.Spec.same]
  exact PySem.W.same_ints ns ms
theorem WordAt.off {C : Addr} {H : Hp} {x b : Addr} {w : Nat} {v : Int} {ys : List V} {o : HO} (h : WordAt C H x w v) (hb : H b = some (.lst ys)) : WordAt C (upd H b o) x w v := by
  obtain ⟨⟨dx, h1⟩, h2, h3, h4, h5⟩ := h
  exact ⟨⟨dx, by rw [upd_ne (ne_of h1 hb (by intro q; cases q))]; exact h1⟩, h2, h3, h4, h5⟩
theorem atI_neg1 {α : Type} {xs : List α} {v : α} {n : Nat} (hn : xs.length = n + 1) (h : xs[n]? = some v) : atI xs (-1) = some v := by
  unfold atI ixN
  rw [if_neg (by decide), if_pos (by omega), hn]
  show xs[((-1 : Int) + ((n + 1 : Nat) : Int)).toNat]? = some v
  rw [show ((-1 : Int) + ((n + 1 : Nat) : Int)).toNat = n by omega]
  exact h
theorem sum_zero : ∀ {vs : List Int}, (∀ v ∈ vs, 0 ≤ v) → (vs.sum = 0 ↔ vs = List.replicate vs.length 0)
  | [], _ => ⟨fun _ => rfl, fun _ => rfl⟩
  | a :: r, h => by
    have ih := sum_zero (vs := r) fun v hv => h v (List.mem_cons_of_mem _ hv)
    have a0 := h a List.mem_cons_self
    have r0 : 0 ≤ r.sum := by
      have : ∀ l : List Int, (∀ v ∈ l, 0 ≤ v) → 0 ≤ l.sum := by
        intro l
        induction l with
        | nil => intro _; exact Int.le_refl 0
        | cons x t iht =>
          intro hx
          have := hx x List.mem_cons_self
          have := iht fun v hv => hx v (List.mem_cons_of_mem _ hv)
          rw [List.sum_cons]
          omega
      exact this r fun v hv => h v (List.mem_cons_of_mem _ hv)
    rw [List.sum_cons, List.length_cons, List.replicate_succ]
    constructor
    · intro e
      rw [show a = 0 by omega, ← ih.mp (by omega)]
    · intro e
      injection e with e1 e2
      rw [e1, ih.mpr e2]
      all_goals rfl
theorem rep_flat (v : Int) : ∀ n : Nat, (List.replicate n [V.int v]).flatten = (List.replicate n v).map V.int
  | 0 => rfl
  | n + 1 => by
    rw [List.replicate_succ, List.flatten_cons, rep_flat v n, List.replicate_succ, List.map_cons]
    all_goals rfl
theorem yes_go {σ : L2.St} {H : Hp} {A B : Hp → Prop} (h : A H) : tYes σ H fun b H3 => if b = true then A H3 else B H3 := by
  show (if true = true then A H else B H)
  rw [if_pos rfl]
  exact h
theorem mk_word1 {C x dx : Addr} {w : Nat} {v : Int} {H : Hp} {Q : VK} {E : XK} (w1 : 1 ≤ w) (w64 : w ≤ 64) (v0 : 0 ≤ v) (vm : v ≤ mw w) (nx : H x = none) (ndx : H dx = none) (k : ∀ H', Ex H H' → WordAt C H' x w v → Q .non H') :
    spWordInit C [.ref x, .int w, .int v] (upd (upd H dx (.own x)) x (.ins C dx [])) Q E :=
  ⟨x, dx, w, v, rfl, upd_same, w1, w64, v0, vm, fun H' hx hk => k H' (fun b o e => hk b o (by rw [upd_ne (ne_of_none e nx), upd_ne (ne_of_none e ndx)]; exact e) (ne_of_none e nx)) ⟨⟨dx, hx⟩, w1, w64, v0, vm⟩⟩
end Tz
namespace Tz
open PySem PySem.Spec PyProof.Rows L2
/-! ### promises that hold where no repr is under way -/
structure FnQ (P : Program) (w : World) (K : PySem.W.Frag) (mg : Str → Option Value) (base : Heap) (k : Nat) (f : Addr) (fd : FuncData) (ps : List Str) (sp : Sp) : Prop where
  len : ∀ vs H Q E, sp vs H Q E → vs.length = ps.length
  run : ∀ (A : Around) (out : List Env) (s : Shared) (H : Hp) (args : Args) (us : List Value) (vs : List V) (Q : VK), A.guards = some [] → Room k A → Env0 P w K mg base A out s H → BindsTo s fd args (ps.zip us) → Vals vs us →
    sp vs H Q E0 → codeAny (model P w) A (.call (.ref f) args) (CR CX0 out P w H s Q E0) s
section
variable {P : Program} {w : World} {K : PySem.W.Frag} {mg : Str → Option Value} {base : Heap} {k : Nat} {f : Addr} {fd : FuncData} {ps N : List Str} {sp : Sp}
theorem FnQ.of_ok (F : FnOk P w K mg base CX0 k f fd ps sp) : FnQ P w K mg base k f fd ps sp :=
  ⟨F.len, fun A out s H args us vs Q _ hr e0 hb r h => F.run A out s H args us vs Q E0 hr e0 hb r h⟩
/-- a def by its body, nothing under way -/
theorem fnq {x qual : Str} {st : Stmt} (F : Fun K x qual st f fd) (S : FnScope N ps (defScope st)) (len : ∀ vs H Q E, sp vs H Q E → vs.length = ps.length)
    (body : ∀ (cdv : Value) (A : Around) (out : List Env) (s : Shared) (H : Hp) (vs : List V) (Q : VK), A.guards = some [] → Room k (A.deeper (envOfC qual (defScope st) s.heap.objs.size f cdv)) → sp vs H Q E0 →
      ∃ t, PSs (cxOf CX0 P w K mg base N qual (defScope st) f cdv A out s H E0).nox (defBody st) t ∧ t { nx := fun _ J => Q .non J, rt := Q } (start N vs) H) : FnQ P w K mg base (k + 1) f fd ps sp := by
  obtain ⟨oc, od, kV, doc, pm, an, cdv, ct, osl, rfl, lk, code⟩ := F.ex
  refine ⟨len, fun A out s H args us vs Q gd rm en bn rel want => ?_⟩
  have width := len _ _ _ _ want
  have inK : K.In s.heap := en.mod.kin.keeps fun b o q => (en.bs b o q).1
  have free : s.heap.NoLimit := en.mod.nolimit.keeps fun b o q => (en.bs b o q).1
  refine codeAny_call_function rm.depth (inK _ _ lk) rfl S.co S.gen rfl (PySem.W.codeRec_of inK code) (bn _ _ _ _ ?_)
  refine wpAny_newFunctionEnv_cells S.kind (fun ⟨n, v⟩ hy => (S.par n (List.of_mem_zip hy).1).elim .inl fun q => .inr ⟨q, PySem.W.cellsFrom_some _ _ _ (.inl q)⟩) fun env he s1 x => ?_
  subst he
  obtain ⟨t, ht, q⟩ := body cdv A out s H vs Q gd (rm.deeper _) want
  have J := inv_start (CX := CX0) (E := E0) S rm.hd en width rel x
  refine ⟨free.keeps x.toInCall.keep, codeAny_func (wpAny_mono (ht.nox.run [] s1 (start N vs) H _ J q) (fun fl s2 z => ?_) fun e s2 z => z)⟩
  have done : ∀ {σ : L2.St} {H2 : Hp} {v : V} {u : Value}, L2.Inv (cxOf CX0 P w K mg base N qual (defScope st) f cdv A out s H E0) [] σ H2 s2 → RelV v u → Q v H2 → CE out P w H s Q u s2 :=
    fun {σ H2 v u} I2 rv hv => ⟨v, H2, I2.os, I2.bare, I2.base, I2.hok, rv, hv⟩
  cases fl with
  | ret u =>
    obtain ⟨v, σ, H2, I2, rv, hv⟩ := z
    exact done I2 rv hv
  | next =>
    obtain ⟨σ, H2, I2, hv⟩ := z
    exact done (v := .non) I2 rfl hv
  | brk =>
    obtain ⟨_, _, _, no⟩ := z
    exact no.elim
  | cont =>
    obtain ⟨_, _, _, no⟩ := z
    exact no.elim
end
section
variable {X : Cx} {k : Nat} {f : Addr} {fd : FuncData} {ps : List Str} {sp : Sp} {x : Str} {p pos : Pos} {e : Expr} {es : List Expr} {t : TA}
theorem run_q {pins : List (Addr × Obj)} {σ : L2.St} {H : Hp} {s : Shared} {Q : VK} {us : List Value} {vs : List V} (F : FnQ X.prog X.w X.K X.mg X.base k f fd ps sp) (hg : X.A.guards = some []) (hr : Room k X.A) (hb : Binds X.K fd ps [])
    (I : L2.Inv X pins σ H s) (r : Vals vs us) (h : sp vs H Q E0) : wpAny (model X.prog X.w) X.A (call (.ref f) us) (EP X pins σ Q) X.xe s := by
  have ln : us.length = ps.length := r.length.symm.trans (F.len _ _ _ _ h)
  have bd := hb s us I.kIn (by rw [List.append_nil]; exact ln)
  rw [List.append_nil] at bd
  refine wpAny_call (codeAny_mono (F.run X.A X.stack s H ⟨us, []⟩ us vs Q hg hr I.env0 bd r h) fun res s' q => ?_)
  cases res with
  | error e => exact (show False from q).elim
  | ok fl =>
    cases fl with
    | ret u => exact I.after q
    | next => exact (show False from q).elim
    | brk => exact (show False from q).elim
    | cont => exact (show False from q).elim
/-- f(e, ..) -/
theorem pe_callQ (F : FnQ X.prog X.w X.K X.mg X.base k f fd ps sp) (hg : X.A.guards = some []) (hr : Room k X.A) (gl : Gl X x) (hm : X.mg x = some (.ref f)) (hk : PySem.W.keepIn X.K (.ref f) = true) (hb : Binds X.K fd ps []) (ha : PA X (e :: es) t)
    (hst : starEach (e :: es) X.env = (false, eval e X.env) :: starEach es X.env := by rfl) (hpl : (backTo pos (starEach es X.env)).any (·.1) = false := by rfl)
    (hdb : (x == ("__debug__" : Str)) = false := by decide) : PE X (.Call (.Name x p) (e :: es) [] pos) (tCall sp [] E0 t) :=
  ⟨fun pins s σ H Q I h => wpAny_Call_Name_kw (ld_glob I gl hm (PySem.W.callWith_K (h₀ := X.base) I.ok.mod.kin hk (thn (ha.run pos pins s σ H _ I h) fun us s1 ⟨vs, H1, I1, r, q⟩ =>
    ⟨I1.kIn, run_q (us := us) (vs := vs) F hg hr hb I1 r ((List.append_nil vs) ▸ (show sp (vs ++ []) H1 Q E0 from q))⟩) hst hpl) hdb)⟩
end
/-! ### a law, where no repr is under way -/
section
variable {P : Program} {w : World} {K : PySem.W.Frag} {mg mb : Str → Option Value} {k : Nat} {fa a : Addr} {fd : FuncData} {x : Str} {sp : Sp} {s : Shared} {vs : List Value} {ns : List Int}
theorem law_q (KX : K.In s.heap) (hns : s.heap.Ns mainGlobals mg) (hb : s.heap.Ns builtinsNs mb) (hbb : ∀ x : Str, x ≠ "__name__" → mb x = bootBuiltins x) (hlim : s.heap.NoLimit) (hg : s.gens = #[])
    (ha : s.heap.get? a = some { cls := .type "list", data := .seq vs.toArray }) (hi : IntsAre vs ns) (hl : ns.length ≤ sizeLine) (hr : Room k callerA)
    (F : ∀ base : Heap, K.In base → base.Ns mainGlobals mg → FnQ P w K mg base k fa fd [x] sp) (bind : ∀ (s : Shared) (u : Value), BindsTo s fd ⟨[u], []⟩ [(x, u)])
    (want : ∀ H : Hp, SqL K H a (ns.map V.int) → sp [.ref a] H (fun v _ => v = .bl true) E0) :
    codeAny (model P w) callerA (.call (.ref fa) ⟨[.ref a], []⟩) (fun r s' => r = .ok (.ret (.bool true)) ∧ OldK s.heap s'.heap ∧ s'.os = s.os ∧ AllBare s'.gens) s := by
  -- the script alone is told, and only where the module does not hold it
  obtain ⟨H, told, seq, atA, apart⟩ : ∃ H : Hp, (∀ b u, H b = some u → b = a ∧ u = .frz { cls := .type "list", data := .seq vs.toArray } (.lst (ns.map V.int))) ∧ SqL K H a (ns.map V.int) ∧ HOk P w H s.heap ∧ (H a ≠ none → K.lookup a = none) := by
    cases lk : K.lookup a with
    | some o =>
      have q := KX a o lk
      rw [ha] at q
      cases q
      refine ⟨fun _ => none, fun b u z => ?_, .inr ⟨_, vs.toArray, _, lk, rfl, rfl, rfl, by rw [List.size_toArray, hi.length]; exact hl, by simpa using vals_ints hi⟩, fun b u z => ?_, fun z => absurd rfl z⟩
      · have z' : (none : Option HO) = some u := z
        cases z'
      · have z' : (none : Option HO) = some u := z
        cases z'
    | none =>
      refine ⟨upd (fun _ => none) a (.frz { cls := .type "list", data := .seq vs.toArray } (.lst (ns.map V.int))), fun b u z => ?_, .inl (.inr ⟨_, upd_same⟩), fun b u z => ?_, fun _ => rfl⟩
      · by_cases q : b = a
        · subst q
          rw [upd_same] at z
          exact ⟨rfl, (Option.some.inj z).symm⟩
        · rw [upd_ne q] at z
          cases z
      · by_cases q : b = a
        · subst q
          rw [upd_same] at z
          cases z
          exact ⟨ha, by rw [List.length_map]; exact hl, vs, _, vals_ints hi, ha⟩
        · rw [upd_ne q] at z
          cases z
  have un0 : ∀ {b : Addr}, b ≠ a → H b = none := fun {b} n => by
    cases q : H b with
    | none => rfl
    | some u => exact absurd (told b u q).1 n
  have ns0 : ∀ {b : Addr} {m : Str → Option Value}, s.heap.Ns b m → (hidT s.heap H).Ns b m := fun {b m} ⟨o, es, ep, e, d, r⟩ => ⟨o, es, ep, hidT_get e (un0 fun q => by
    subst q
    rw [ha] at e
    cases e
    cases d), d, r⟩
  have k0 : K.In (hidT s.heap H) := fun b o e => hidT_get (KX b o e) (by
    by_cases q : b = a
    · subst q
      cases z : H b with
      | none => rfl
      | some u =>
        have n := apart (by rw [z]; exact fun q => nomatch q)
        rw [e] at n
        cases n
    · exact un0 q)
  have md : Mod K mg (hidT s.heap H) := ⟨k0, ns0 hns, ⟨mb, ns0 hb, hbb⟩, hlim.elim fun mc z => ⟨mc, ns0 z.1, z.2⟩⟩
  have en : Env0 P w K mg (hidT s.heap H) callerA [] s H := ⟨rfl, md, fun _ _ e => of_hidT e, Nat.le_of_eq (hidT_size _ _), trivial, fun b z => absurd (show b ∈ ([] : List Addr) from z) List.not_mem_nil, atA, .of_eq hg⟩
  refine codeAny_mono ((F _ k0 (ns0 hns)).run callerA [] s H ⟨[.ref a], []⟩ [.ref a] [.ref a] _ rfl hr en (bind s (.ref a)) (.cons rfl .nil) (want H seq)) fun r s2 z => ?_
  cases r with
  | error e => exact (show False from z).elim
  | ok fl =>
    cases fl with
    | next => exact (show False from z).elim
    | brk => exact (show False from z).elim
    | cont => exact (show False from z).elim
    | ret u =>
      obtain ⟨v, H2, os, bare, un, ok2, rv, q⟩ := z
      subst q
      cases (show u = Value.bool true from rv)
      refine ⟨rfl, OldK.of_keep fun b o e => ?_, os, bare⟩
      cases q : H b with
      | none => exact un.keep b o e q (fun z => absurd (show b ∈ ([] : List Addr) from z) List.not_mem_nil) List.not_mem_nil
      | some u =>
        obtain ⟨rfl, rfl⟩ := told b u q
        rw [ha] at e
        cases e
        exact (ok2 _ _ (un.frzs _ _ _ q)).1
theorem walk_q {l : PySem.W.OpenLaw} {n k : Nat} {q : Program} {loose : List Str} {XP : (Str → Option Value) → Heap → Prop} {YP : World → Heap → Prop} {d : DefRec} {K : Params → PySem.W.Frag} {sp : PySem.W.Frag → Sp} {x : Str}
    (hn : l.most = some n) (hn2 : n ≤ sizeLine) (hdf : d.params.defaults = []) (hr : Room k callerA) (hY : ∀ (w : World) (h : Heap), YP w h → (K w.params).In h)
    (F : ∀ (w : World) (mg : Str → Option Value) (fa : Addr) (h : Heap), (K w.params).In h → h.Ns mainGlobals mg → mg d.name = some (.ref fa) →
      ∃ fd : FuncData, (∀ (s : Shared) (u : Value), BindsTo s fd ⟨[u], []⟩ [(x, u)]) ∧ ∀ base : Heap, (K w.params).In base → base.Ns mainGlobals mg → FnQ l.prog w (K w.params) mg base k fa fd [x] (sp (K w.params)))
    (want : ∀ (K : PySem.W.Frag) (H : Hp) (a : Addr) (ns : List Int), ns.length ≤ n → SqL K H a (ns.map V.int) → sp K [.ref a] H (fun v _ => v = .bl true) E0) :
    PySem.W.WalkO q loose XP YP l.row.toRowW d [] (fun f vs => PySem.call f vs) := by
  refine Att.attach_call hn hdf fun w s0 s1 mg mb fa o pm cd doc a vs ns G Y ho hd hcd hmg obj isI len gens => ?_
  obtain ⟨fd, bd, FQ⟩ := F w mg fa _ (hY w _ Y) G.T.g hmg
  exact law_q (hY w _ Y) G.T.g G.T.b G.T.builtins G.T.nolimit gens obj isI (Nat.le_trans len hn2) hr FQ bd fun H seq => want _ H a ns len seq
end
end Tz
namespace TzOwn
open PySem PySem.Spec PyProof.Rows L2
section
variable {X : Cx} {CX : CXT} {k : Nat} {f C g p : Addr} {fd : FuncData} {ps ks : List Str} {sp : Sp} {E : XK} {m : Str} {o : Expr} {kws : List Keyword} {apos pos : Pos} {ta : TE} {tk : TA} {pl : Sem Bool}
/-- abs(o), o an instance with its own __abs__ -/
theorem abs_own (F : FnOk X.prog X.w X.K X.mg X.base CX k f fd ps sp) (hr : Room (k + 1) X.A) (M : Meth X.K C "__abs__" f) (hb : Binds X.K fd ps []) (hx : Passes CX X E) :
    CallR X (.builtin "abs") (fun xs H Q => ∃ a dx fs, xs = [.ref a] ∧ H a = some (.ins C dx fs) ∧ sp [.ref a] H Q E) := by
  intro pins s σ H xs us Q I r h
  obtain ⟨a, dx, fs, rfl, ha, q⟩ := h
  obtain ⟨u, rfl, ru⟩ := vals1 r
  cases ru
  obtain ⟨od, J⟩ := inst_at I ha
  refine Calls.call_function_entry PyProof.Rows.kind_abs PyProof.Rows.plain_abs PyProof.Rows.entry_abs (PyProof.Rows.args_abs _) ?_
  unfold Builtin.«abs»
  refine wpAny_bind (m := oneArg "abs" _) (wpAny_pure ?_)
  refine wpAny_bind (PySem.W.special_fn I.kIn J M.at_ (beq_iff_eq.mp M.fn) ?_)
  have en : Env0 X.prog X.w X.K X.mg X.base X.A.in1 X.stack s H := I.env0.in1
  have bd := hb s [.ref a] I.kIn (by
    have := F.len _ _ _ _ q
    simpa using this)
  rw [List.append_nil] at bd
  refine wpAny_call (codeAny_mono (F.run X.A.in1 X.stack s H ⟨[.ref a], []⟩ [.ref a] [.ref a] _ E hr.in1 en bd (.cons rfl .nil) q) fun r s' hq => ?_)
  cases r with
  | error e => exact hx pins σ H s e s' I hq
  | ok fl =>
    cases fl with
    | ret u => exact wpAny_pure ⟨_, rfl, I.after hq⟩
    | next => exact False.elim hq
    | brk => exact False.elim hq
    | cont => exact False.elim hq
/-- repr of a list or tuple of built-in data, where no repr is under way -/
theorem repr_data (hg : X.A.guards = some []) (hu : X.A.units + 64 < cLine) :
    CallR X (.builtin "repr") (fun xs H Q => ∃ a d, xs = [.ref a] ∧ Dp X.K H (.ref a) d ∧ d.showable = true ∧ d.hasDict = false ∧ d.depth ≤ 60 ∧ d.shown.length ≤ sizeLine ∧ Q (.str d.shown) H) := by
  intro pins s σ H xs us Q I r h
  obtain ⟨a, d, rfl, D, sh, nd, dep, sz, q⟩ := h
  obtain ⟨u, rfl, ru⟩ := vals1 r
  cases ru
  obtain ⟨as, rd⟩ := Dp.reads I d _ _ D rfl
  exact repr_of_reads' rd sh (fun z => by rw [nd] at z; cases z) hg (by omega) (fun _ _ e => e) (fun h' u tk hk => ⟨.str d.shown, H, I.kept hk, ⟨_, rfl⟩, q⟩) sz
def tMethK (C : Addr) (m : Str) (sp : Sp) (E : XK) (gV : List V → List V) (ta : TE) (t : TA) : TE := fun σ H Q => ta σ H fun x H1 => ∃ a dx fs, x = .ref a ∧ H1 a = some (.ins C dx fs) ∧ fs.lookup m = none ∧ t σ H1 fun zs H2 => sp (gV (.ref a :: zs)) H2 Q E
/-- o.m(k = e, ..), by keywords alone -/
theorem pe_methK {gs : List Value → List Value → List Value} {gV : List V → List V → List V} (he : PE X o ta) (c : Cls X.K C) (hm : Meth X.K C m f) (F : FnOk X.prog X.w X.K X.mg X.base CX k f fd ps sp) (hr : Room k X.A) (hb : KBinds X.K fd ps ks gs gV) (hx : Passes CX X E) (hkw : PK X kws tk)
    (hall : (backToKw pos (keywordEach kws X.env)).all (·.1.isSome) = true := by rfl) (hks : (backToKw pos (keywordEach kws X.env)).filterMap (·.1) = ks := by rfl)
    (hpl : ((backTo pos (starEach [] X.env)).any (·.1) || (backToKw pos (keywordEach kws X.env)).any (·.1.isNone)) = false := by rfl)
    (ht : eval (.Call (.Attribute o m apos) [] kws pos) X.env = (do
      let ov ← eval o X.env
      standAt apos.atName
      let (f, first) ← holding [ov] (getMethod ov m pl)
      callWith pos f first (backTo pos (starEach [] X.env)) (backToKw pos (keywordEach kws X.env))) := by rfl) :
    PE X (.Call (.Attribute o m apos) [] kws pos) (tMethK C m sp E (fun vs => gV (vs.take 1) (vs.drop 1)) ta tk) := by
  refine ⟨fun pins s σ H Q I h => PySem.W.methodCall_KW (pl := pl) (thn (he.run pins s σ H _ I h) fun u s1 ⟨x, H1, I1, rx, a, dx, fs, ex, ea, l, q⟩ => ?_) ht⟩
  subst ex
  cases (show u = Value.ref a from rx)
  refine getmeth_ok I1 ea c hm l (PySem.W.callWith_KW0 (first := [.ref a]) (h₀ := X.base) I.ok.mod.kin hm.kp hall (thn (hkw.run pos pins s1 σ H1 _ I1 q) fun ws s2 ⟨zs, H2, I2, rz, q2⟩ => ⟨I2.kIn, ?_⟩) hpl)
  rw [hks]
  exact run_fnk (us := [.ref a]) (vs := [.ref a]) F hr hb hx I2 (.cons rfl .nil) rz q2
end
end TzOwn
namespace Tz
open PySem L2
/-! ### mathematics: bits one by one -/
/-- the signs of the i lowest bits, the highest one first -/
def bt (v : Nat) : Nat → List Nat
  | 0 => []
  | i + 1 => (48 + v / 2 ^ i % 2) :: bt v i
theorem bt_len (v : Nat) : ∀ i, (bt v i).length = i
  | 0 => rfl
  | i + 1 => by rw [bt, List.length_cons, bt_len v i]
/-- what the signs are worth, read from the left -/
def worth (l : List Nat) : Nat := l.foldl (fun a c => 2 * a + (c - 48)) 0
theorem worth_go : ∀ (l : List Nat) (a : Nat), l.foldl (fun a c => 2 * a + (c - 48)) a = a * 2 ^ l.length + worth l
  | [], a => by
    show a = a * 2 ^ 0 + 0
    rw [Nat.pow_zero, Nat.mul_one, Nat.add_zero]
  | c :: l, a => by
    have e1 := worth_go l (2 * a + (c - 48))
    have e2 := worth_go l (2 * 0 + (c - 48))
    show l.foldl _ (2 * a + (c - 48)) = a * 2 ^ (l.length + 1) + l.foldl _ (2 * 0 + (c - 48))
    rw [e1, e2, Nat.pow_succ, Nat.add_mul, Nat.add_mul]
    have : 2 * a * 2 ^ l.length = a * (2 ^ l.length * 2) := by rw [Nat.mul_comm 2 a, Nat.mul_assoc, Nat.mul_comm 2]
    omega
theorem worth_app (l m : List Nat) : worth (l ++ m) = worth l * 2 ^ m.length + worth m := by
  show (l ++ m).foldl _ 0 = _
  rw [List.foldl_append, worth_go]
  rfl
theorem worth_bt (v : Nat) : ∀ i, worth (bt v i) = v % 2 ^ i
  | 0 => by rw [bt, Nat.pow_zero, Nat.mod_one]; rfl
  | i + 1 => by
    have e := worth_app [48 + v / 2 ^ i % 2] (bt v i)
    rw [List.singleton_append, worth_bt v i, bt_len] at e
    rw [bt, e, show worth [48 + v / 2 ^ i % 2] = v / 2 ^ i % 2 by show 2 * 0 + (48 + v / 2 ^ i % 2 - 48) = _; omega, Nat.pow_succ, Nat.mod_mul]
    rw [Nat.mul_comm]
    omega
theorem bt_drop (v : Nat) : ∀ (n s : Nat), s ≤ n → (bt v n).drop s = bt v (n - s)
  | n, 0, _ => by rw [List.drop_zero, Nat.sub_zero]
  | 0, s + 1, h => absurd h (Nat.not_succ_le_zero s)
  | n + 1, s + 1, h => by
    rw [bt, List.drop_succ_cons, bt_drop v n s (by omega), Nat.succ_sub_succ]
theorem bt_take (v : Nat) : ∀ (n s : Nat), s ≤ n → (bt v n).take s = bt (v / 2 ^ (n - s)) s
  | n, 0, _ => by rw [List.take_zero, bt]
  | 0, s + 1, h => absurd h (Nat.not_succ_le_zero s)
  | n + 1, s + 1, h => by
    have e : v / 2 ^ (n - s) / 2 ^ s = v / 2 ^ n := by
      rw [Nat.div_div_eq_div_mul, ← Nat.pow_add]
      congr 2
      omega
    rw [bt, List.take_succ_cons, bt_take v n s (by omega), Nat.succ_sub_succ]
    show _ = (48 + v / 2 ^ (n - s) / 2 ^ s % 2) :: bt (v / 2 ^ (n - s)) s
    rw [e]
/-- the bits turned by s places -/
theorem worth_turn {v n s : Nat} (h : s ≤ n) (hv : v < 2 ^ n) : worth ((bt v n).drop s ++ (bt v n).take s) = v % 2 ^ (n - s) * 2 ^ s + v / 2 ^ (n - s) := by
  have hlt : v / 2 ^ (n - s) < 2 ^ s := by
    rw [Nat.div_lt_iff_lt_mul (Nat.pow_pos (by decide)), ← Nat.pow_add]
    have : s + (n - s) = n := by omega
    rw [this]
    exact hv
  rw [worth_app, bt_drop v n s h, bt_take v n s h, worth_bt, worth_bt, bt_len, Nat.mod_eq_of_lt hlt]
theorem cr_turn {w s v : Nat} (_ : 1 ≤ w) (hs : s ≤ w) (hv : v < 2 ^ w) : cr w ((v : Int) * 2 ^ s) = ((v % 2 ^ (w - s) * 2 ^ s + v / 2 ^ (w - s) : Nat) : Int) := by
  by_cases v0 : v = 0
  · subst v0
    rw [Nat.zero_mod, Nat.zero_mul, Nat.zero_div]
    show cr w ((0 : Int) * 2 ^ s) = 0
    rw [Int.zero_mul, cr_zero]
  · have hp : (0 : Int) < 2 ^ s := Int.pow_pos (by decide)
    have e := Nat.div_add_mod v (2 ^ (w - s))
    generalize hlo : v % 2 ^ (w - s) = lo at e
    generalize hhi : v / 2 ^ (w - s) = hi at e
    have lo1 : lo < 2 ^ (w - s) := by rw [← hlo]; exact Nat.mod_lt _ (Nat.pow_pos (by decide))
    have hi1 : hi < 2 ^ s := by
      rw [← hhi, Nat.div_lt_iff_lt_mul (Nat.pow_pos (by decide)), ← Nat.pow_add]
      have : s + (w - s) = w := by omega
      rw [this]
      exact hv
    have ew : (2 : Nat) ^ (w - s) * 2 ^ s = 2 ^ w := by
      rw [← Nat.pow_add]
      congr 1
      omega
    have ewI : (2 : Int) ^ (w - s) * 2 ^ s = 2 ^ w := by
      have := congrArg (fun n : Nat => (n : Int)) ew
      simpa using this
    have b1 : lo * 2 ^ s + hi < 2 ^ w := by
      have : (lo + 1) * 2 ^ s ≤ 2 ^ (w - s) * 2 ^ s := Nat.mul_le_mul_right _ (by omega)
      rw [ew, Nat.add_mul, Nat.one_mul] at this
      omega
    have b0 : 1 ≤ lo * 2 ^ s + hi := by
      by_cases z : hi = 0
      · subst z
        have : lo ≠ 0 := fun q => by
          subst q
          rw [Nat.mul_zero, Nat.add_zero] at e
          exact v0 e.symm
        have := Nat.mul_pos (Nat.pos_of_ne_zero this) (Nat.pow_pos (n := s) (show 0 < 2 by decide))
        omega
      · omega
    have c1 : ((lo * 2 ^ s + hi : Nat) : Int) ≤ mw w := by
      have : ((2 ^ w : Nat) : Int) = 2 ^ w := by rw [Int.natCast_pow] <;> rfl
      unfold mw
      omega
    refine cr_eq (q := (hi : Int)) (Int.mul_pos (by omega) hp) (by omega) c1 ?_
    have ev : (v : Int) = 2 ^ (w - s) * (hi : Int) + (lo : Int) := by
      have := congrArg (fun n : Nat => (n : Int)) e
      simpa using this.symm
    rw [ev, Int.add_mul, Int.mul_right_comm, ewI]
    unfold mw
    rw [Int.sub_mul, Int.one_mul]
    have : ((lo * 2 ^ s + hi : Nat) : Int) = (lo : Int) * 2 ^ s + (hi : Int) := by simp
    omega
/-- a whole turn changes nothing -/
theorem cr_round {w : Nat} (h : 1 ≤ w) {v : Int} (h0 : 0 ≤ v) : ∀ q : Nat, cr w (v * 2 ^ (w * q)) = cr w v
  | 0 => by rw [Nat.mul_zero, Int.pow_zero, Int.mul_one]
  | q + 1 => by
    have ih := cr_round h h0 q
    by_cases v0 : v = 0
    · subst v0
      rw [Int.zero_mul]
    · have vp : 0 < v * 2 ^ (w * q) := Int.mul_pos (by omega) (Int.pow_pos (by decide))
      have e : v * 2 ^ (w * (q + 1)) = v * 2 ^ (w * q) + mw w * (v * 2 ^ (w * q)) := by
        rw [Nat.mul_succ, Int.pow_add, ← Int.mul_assoc]
        generalize v * 2 ^ (w * q) = x
        unfold mw
        rw [Int.sub_mul, Int.one_mul, Int.mul_comm]
        omega
      obtain ⟨r, hr⟩ := cr_ex (w := w) _ vp
      rw [← ih]
      have np : 0 < v * 2 ^ (w * (q + 1)) := Int.mul_pos (by omega) (Int.pow_pos (by decide))
      refine cr_eq (q := r + v * 2 ^ (w * q)) np (cr_pos h vp) (cr_bd h _).2 ?_
      rw [e, Int.mul_add]
      conv => lhs; lhs; rw [hr]
      omega
theorem cr_far {w : Nat} (h : 1 ≤ w) {v : Int} (h0 : 0 ≤ v) (t : Nat) : cr w (v * 2 ^ (t % w)) = cr w (v * 2 ^ t) := by
  have e : v * 2 ^ t = v * 2 ^ (t % w) * 2 ^ (w * (t / w)) := by
    rw [Int.mul_assoc, ← Int.pow_add, Nat.mod_add_div]
  rw [e, cr_round h (Int.mul_nonneg h0 (two_pow_nn _))]
theorem or_and_xor (x y : Int) : Builtin.bitOr x y - Builtin.bitAnd x y = Builtin.bitXor x y := by
  rw [PyProof.Rows.bitXor_and, PyProof.Rows.bitOr_and]
  omega
theorem xor_bd {w : Nat} {x y : Int} (hx : 0 ≤ x) (hx1 : x ≤ mw w) (hy : 0 ≤ y) (hy1 : y ≤ mw w) : 0 ≤ Builtin.bitXor x y ∧ Builtin.bitXor x y ≤ mw w := by
  rw [Bits.bitXor_pp hx hy]
  have e : ((2 ^ w : Nat) : Int) = 2 ^ w := by rw [Int.natCast_pow] <;> rfl
  have := Nat.xor_lt_two_pow (x := x.toNat) (y := y.toNat) (n := w) (by unfold mw at hx1; omega) (by unfold mw at hy1; omega)
  unfold mw
  omega
theorem xor_comm (x y : Int) : Builtin.bitXor x y = Builtin.bitXor y x := by
  rw [PyProof.Rows.bitXor_and, PyProof.Rows.bitXor_and, PyProof.Rows.bitAnd_comm]
  omega
theorem sum_spec {w : Nat} (h : 1 ≤ w) {a b : Int} (a0 : 0 ≤ a) (a1 : a ≤ mw w) (b0 : 0 ≤ b) (b1 : b ≤ mw w) : (if a + b ≤ mw w then a + b else a + b - mw w) = cr w (a + b) := by
  have hm := mw_pos h
  split
  · rw [cr_self (by omega) (by omega)]
  · exact (cr_eq (q := 1) (by omega) (by omega) (by omega) (by omega)).symm
theorem rest_eq {w : Nat} (h : 1 ≤ w) {v : Int} (v0 : 0 ≤ v) (v1 : v ≤ mw w) : v % mw w = if v = mw w then 0 else v := by
  have hm := mw_pos h
  split
  · rename_i e
    rw [e, Int.emod_self]
  · exact Int.emod_eq_of_lt v0 (by omega)
/-! ### promises -/
def spXor (C : Addr) : Sp := fun vs H Q _ => ∃ x y, ∃ w : Nat, ∃ u v : Int, vs = [.ref x, .ref y] ∧ WordAt C H x w u ∧ WordAt C H y w v ∧ NewW C w (Builtin.bitXor u v) H Q
def spXorI (C : Addr) : Sp := fun vs H Q _ => ∃ x, ∃ w : Nat, ∃ u n : Int, vs = [.ref x, .int n] ∧ WordAt C H x w u ∧ 0 ≤ n ∧ n ≤ mw w ∧ NewW C w (Builtin.bitXor u n) H Q
def spOperandI (C : Addr) : Sp := fun vs H Q _ => ∃ x, ∃ w : Nat, ∃ u n : Int, vs = [.ref x, .int n] ∧ WordAt C H x w u ∧ 0 ≤ n ∧ n ≤ mw w ∧ Q (.int n) H
def spFoundI : Sp := fun vs H Q _ => ∃ w : Nat, ∃ n : Int, vs = [.int w, .int n] ∧ 1 ≤ w ∧ w ≤ 64 ∧ 0 ≤ n ∧ n ≤ mw w ∧ Q (.int n) H
def spLikeI (C : Addr) : Sp := fun vs H Q _ => ∃ x, ∃ w : Nat, ∃ u n : Int, vs = [.ref x, .int n] ∧ WordAt C H x w u ∧ 0 ≤ n ∧ n ≤ mw w ∧ Q (.bl (decide (u % mw w = n % mw w))) H
def spShrI (C : Addr) : Sp := fun vs H Q _ => ∃ x, ∃ w : Nat, ∃ u k : Int, vs = [.ref x, .int k] ∧ WordAt C H x w u ∧ 0 ≤ k ∧ k ≤ 1000000000000000000000000000000 ∧ NewW C w (cr w (u * 2 ^ (-k % w).toNat)) H Q
/-- the distance of the rest from 0 -/
def far (w : Nat) (u : Int) : Int := if u % mw w < mw w - u % mw w then u % mw w else mw w - u % mw w
def spAbs (C : Addr) : Sp := fun vs H Q _ => ∃ x, ∃ w : Nat, ∃ u : Int, vs = [.ref x] ∧ WordAt C H x w u ∧ Q (.int (far w u)) H
def spIs (C : Addr) : Sp := fun vs H Q _ => ∃ x, ∃ w : Nat, ∃ u : Int, vs = [.ref x, .int w, .int u] ∧ WordAt C H x w u ∧ Q (.bl true) H
def spSum : Sp := fun vs H Q _ => ∃ w : Nat, ∃ a b : Int, vs = [.int w, .int a, .int b] ∧ 1 ≤ w ∧ w ≤ 64 ∧ 0 ≤ a ∧ a ≤ mw w ∧ 0 ≤ b ∧ b ≤ mw w ∧ Q (.int (cr w (a + b))) H
def spMultiple : Sp := fun vs H Q _ => ∃ w : Nat, ∃ v k : Int, vs = [.int w, .int v, .int k] ∧ 1 ≤ w ∧ w ≤ 64 ∧ 0 ≤ v ∧ v ≤ mw w ∧ 0 ≤ k ∧ Q (.int (cr w (k * v))) H
def spLawTurned : Sp := fun vs H Q _ => ∃ w : Nat, ∃ v n : Int, vs = [.int w, .int v, .int n] ∧ 1 ≤ w ∧ w ≤ 64 ∧ 0 ≤ v ∧ v ≤ mw w ∧ Q (.int (cr w (v * 2 ^ (n % w).toNat))) H
def spLawTimes : Sp := fun vs H Q _ => ∃ z c cells t, ∃ w : Nat, vs = [.ref z, .int w] ∧ PenAt H z c cells t ∧ t ≤ 90000 ∧ 1 ≤ w ∧ w ≤ 64 ∧
  ∀ n H', 0 ≤ n → n ≤ 1000000000000000000000000000000 → PenAt H' z c cells (t + 3) → Fw z H H' → Q (.int n) H'
def spRight4 : Sp := fun vs H Q _ => ∃ w : Nat, ∃ v b k : Int, vs = [.int w, .int v, .int b, .int k] ∧ 1 ≤ w ∧ w ≤ 64 ∧ 0 ≤ v ∧ v ≤ mw w ∧ 0 ≤ b ∧ b ≤ mw w ∧ 0 ≤ k ∧ k ≤ 1000000000000000000000000000000 ∧ ∀ H', Ex H H' → Q (.bl true) H'
def spLaw (K : PySem.W.Frag) : Sp := fun vs H Q _ => ∃ (a : Addr) (ns : List Int), vs = [.ref a] ∧ SqL K H a (ns.map V.int) ∧ ns.length ≤ 63 ∧ ∀ H', Q (.bl true) H'
theorem kit_no {K : PySem.W.Frag} {T : String} {C : Addr} (h : PySem.W.subIn K (.type T) (.ref C) = some false) (hc : PySem.W.isClsIn K C = true) (ht : PySem.W.typeIn K (.ref C) = some (.type "type")) : PySem.W.kitOne K (.type T) (.ref C) = some false := by
  have ne : ¬ (Value.type T == Value.ref C) = true := fun q => by cases beq_iff_eq.mp q
  unfold PySem.W.kitOne
  rw [if_neg ne]
  unfold PySem.W.kitCls
  have hs : (PySem.W.clsIn K C).isSome = true := hc
  dsimp only
  rw [ht, hs, h]
  rfl
theorem shown4 {n : Int} {a b c : Bool} (h0 : 0 ≤ n) (h1 : n < 18446744073709551616) : (PyData.list [.int n, .bool a, .bool b, .bool c]).showable = true ∧ (PyData.list [.int n, .bool a, .bool b, .bool c]).hasDict = false ∧
    (PyData.list [.int n, .bool a, .bool b, .bool c]).depth ≤ 60 ∧ (PyData.list [.int n, .bool a, .bool b, .bool c]).shown.length ≤ sizeLine := by
  have l2 : n.natAbs.log2 < 1920 := by
    have : n.natAbs < 2 ^ 64 := by omega
    have := PySem.Flt.log2_lt_of (by decide) this
    omega
  refine ⟨?_, rfl, by simp [PyData.depth, PyData.depthAll], ?_⟩
  · simp [PyData.showable, PyData.showableAll, l2]
  · have sh : (PyData.shown (.int n)).length ≤ 21 := by
      rw [PyData.shown_int]
      exact PyProof.Rows.toString_length_le h0 (k := 20) (by decide) (by omega) |> fun h => Nat.le_trans h (by decide)
    have := PyData.shown_le_bulk 21 (by decide) (.list [.int n, .bool a, .bool b, .bool c]) (by simp [PyData.leavesShort, PyData.leavesShortAll, sh])
    refine Nat.le_trans this ?_
    show (21 + 2) * (0 + 1 + (0 + 1 + (0 + 1 + (0 + 1 + 0)))) + 21 ≤ sizeLine
    decide
/-! ### texts of bits -/
theorem bit_text {b : Nat} (h : b < 2) (l : List Nat) : ((toString ((b : Nat) : Int) : String) : Str) ++ SX.S l = SX.S ((48 + b) :: l) := by
  have e : ((toString ((b : Nat) : Int) : String) : Str) = SX.S [48 + b] := by
    match b, h with
    | 0, _ => rfl
    | 1, _ => rfl
  rw [e, SX.S_cat, List.singleton_append]
theorem bit_sign {c : Nat} (h : c = 48 ∨ c = 49) : PySem.intText? (SX.S [c]) = some (((c - 48 : Nat) : Nat) : Int) := by
  rcases h with rfl | rfl
  · exact SX.int_S (a := [48]) (by decide) (by decide) (by decide)
  · exact SX.int_S (a := [49]) (by decide) (by decide) (by decide)
theorem bt_mem {v : Nat} : ∀ {i c : Nat}, c ∈ bt v i → c = 48 ∨ c = 49
  | 0, c, h => by cases h
  | i + 1, c, h => by
    rcases List.mem_cons.mp h with h | h
    · have := Nat.mod_lt (v / 2 ^ i) (show 0 < 2 by decide)
      omega
    · exact bt_mem h
theorem worth_take {l : List Nat} {i c : Nat} (h : l[i]? = some c) : worth (l.take (i + 1)) = 2 * worth (l.take i) + (c - 48) := by
  have hi := (List.getElem?_eq_some_iff.mp h).1
  have e := (List.getElem?_eq_some_iff.mp h).2
  rw [List.take_succ_eq_append_getElem hi, e, worth_app]
  show worth (l.take i) * 2 ^ 1 + (2 * 0 + (c - 48)) = _
  omega
/-- one doubling -/
theorem cr_double {w : Nat} (h : 1 ≤ w) {f d q : Int} (f0 : 0 ≤ f) (d0 : 0 ≤ d) (q0 : 0 ≤ q) : cr w (f + cr w (d + d) * q) = cr w (f + (d + d) * q) := by
  have a := cr_add h (a := (d + d) * q) (b := f) (Int.mul_nonneg (by omega) q0) f0
  have b := cr_add h (a := cr w (d + d) * q) (b := f) (Int.mul_nonneg (cr_bd h _).1 q0) f0
  have c := cr_mul h (k := q) (a := d + d) q0 (by omega)
  rw [Int.mul_comm q, Int.mul_comm q] at c
  rw [Int.add_comm f, ← b, c, a, Int.add_comm f]
end Tz
namespace TzRepr
open PySem PySem.Spec PyProof.Rows L2 PySem.Builtin PySem.Builtin.List Tz
/-- what repr of a thing gives, by the abstract heap -/
abbrev Rpr := V → Str → Hp → Prop
def Mon (D : Rpr) : Prop := ∀ x t H H', Ex H H' → D x t H → D x t H'
/-- repr within a repr gives what D says, and only makes objects; as: what may be under way -/
def RpG (X : Cx) (n : Nat) (as : List Addr) (D : Rpr) : Prop :=
  ∀ (A : Around) (g : List Code) (pins : List (Addr × Obj)) (s : Shared) (σ : L2.St) (H : Hp) (x : V) (u : Value) (t : Str) (b : Nat), Room n A → A.frames = X.A.frames → A.guards = some g → (∀ p, p ∉ as → Clear g p) → L2.Inv X pins σ H s → RelV x u → D x t H → b + t.length ≤ sizeLine →
    wpAny (model X.prog X.w) A (pyReprUnder b u) (fun r s' => r = t ∧ ∃ H', L2.Inv X pins σ H' s' ∧ Ex H H') X.xe s
theorem RpG.mono {X : Cx} {n m : Nat} {as : List Addr} {D : Rpr} (h : RpG X n as D) (hn : n ≤ m) : RpG X m as D := fun A g pins s σ H x u t b hr => h A g pins s σ H x u t b (hr.mono hn)
theorem RpG.or {X : Cx} {n : Nat} {as : List Addr} {D D' : Rpr} (h : RpG X n as D) (h' : RpG X n as D') : RpG X n as (fun x t H => D x t H ∨ D' x t H) := fun A g pins s σ H x u t b hr hf hg hc I r d hs =>
  d.elim (fun d => h A g pins s σ H x u t b hr hf hg hc I r d hs) fun d => h' A g pins s σ H x u t b hr hf hg hc I r d hs
theorem Mon.or {D D' : Rpr} (h : Mon D) (h' : Mon D') : Mon (fun x t H => D x t H ∨ D' x t H) := fun x t H H' e d => d.elim (fun d => .inl (h x t H H' e d)) fun d => .inr (h' x t H H' e d)
/-! ### flat things -/
def RFlat : Rpr := fun x t _ => (x = .non ∧ t = "None") ∨ (∃ b : Bool, x = .bl b ∧ t = PyData.shown (.bool b)) ∨ (∃ i : Int, x = .int i ∧ i.natAbs.log2 < 1920 ∧ t = PyData.shown (.int i))
theorem mon_flat : Mon RFlat := fun _ _ _ _ _ d => d
section
variable {X : Cx} {n : Nat} {as : List Addr} {D : Rpr}
theorem is_of {x : Value} {t : Str} {A : Around} {pins : List (Addr × Obj)} {s : Shared} {σ : L2.St} {H : Hp} {b : Nat} (h : ReprIs X.prog X.w x t) (I : L2.Inv X pins σ H s) (hs : b + t.length ≤ sizeLine) :
    wpAny (model X.prog X.w) A (pyReprUnder b x) (fun r s' => r = t ∧ ∃ H', L2.Inv X pins σ H' s' ∧ Ex H H') X.xe s :=
  h b hs A X.xe s _ fun tk => ⟨rfl, H, I.kept (h' := s.heap) (t' := tk) fun _ _ e => e, fun _ _ e => e⟩
/-- flat things by what the library tells of them -/
theorem rpG_flat : RpG X 0 as RFlat := by
  intro A g pins s σ H x u t b hr hf hg hc I r d hs
  rcases d with ⟨rfl, rfl⟩ | ⟨c, rfl, rfl⟩ | ⟨i, rfl, hi, rfl⟩
  · cases r
    exact is_of ReprIs.none I hs
  · cases r
    rw [PyData.shown_bool] at hs ⊢
    exact is_of (ReprIs.bool c) I hs
  · obtain ⟨tk, rfl⟩ := r
    rw [PyData.shown_int] at hs ⊢
    exact is_of (ReprIs.int tk hi) I hs
/-- texts -/
def RStr : Rpr := fun x t _ => ∃ z : Str, x = .str z ∧ t = reprText z
theorem rpG_str : RpG X 0 as RStr := by
  intro A g pins s σ H x u t b hr hf hg hc I r d hs
  obtain ⟨z, rfl, rfl⟩ := d
  obtain ⟨tk, rfl⟩ := r
  exact is_of (ReprIs.str z tk (by omega)) I hs
/-! ### instances with the text's own __repr__ -/
theorem byBound_K {prog : Program} {w : World} {A : Around} {E : Value → Shared → Prop} {s : Shared} {K : PySem.W.Frag} {x C f : Addr} {ox : Obj} {od : Option Obj} {name : Str} {last : Value → List Value → Sem Value} {Q : Option Value → Shared → Prop} (X : K.In s.heap)
    (I : PySem.W.InstAt s.heap x ox C od) (hs : PySem.W.findIn K (.ref C) name = some (some (.ref f))) (hf : PySem.W.isFn K (.ref f) = true)
    (h : wpAny (model prog w) A (last (.ref f) [.ref x]) (fun v => Q (some v)) E s) : wpAny (model prog w) A (callSpecialIfBoundBy? last (.ref x) name) Q E s := by
  simp only [callSpecialIfBoundBy?, bindSpecialIfBound?]
  refine wpAny_holding (wpAny_bind (wpAny_bind (wpAny_bind (I.type.here ((PySem.W.looks_findIn X hs).here ?_)))))
  refine wpAny_bind (wpAny_askSetting (wpAny_ite ?_))
  have fin : wpAny (model prog w) A (last (.ref f) [.ref x] >>= fun v => pure (some v)) Q E s := wpAny_bind (wpAny_mono h (fun v s' h' => wpAny_pure h') fun _ _ h' => h')
  split
  · exact wpAny_bind ((PySem.W.bind_fn X _ (beq_iff_eq.mp hf)).here (wpAny_pure (by exact fin)))
  · exact wpAny_tryCatch (wpAny_bind ((PySem.W.bind_fn X _ (beq_iff_eq.mp hf)).here (wpAny_pure (by exact fin))))
/-- what the own __repr__ promises: the text t, where R says so -/
def spRepr (R : Addr → Str → Hp → Prop) : Sp := fun vs H Q _ => ∃ a t, vs = [.ref a] ∧ R a t H ∧ ∀ H', Ex H H' → Q (.str t) H'
def RIns (C : Addr) (R : Addr → Str → Hp → Prop) : Rpr := fun x t H => ∃ a dx fs, x = .ref a ∧ H a = some (.ins C dx fs) ∧ R a t H
theorem rpG_ins {CX : CXT} {C f : Addr} {fd : FuncData} {ps : List Str} {R : Addr → Str → Hp → Prop} {E : XK} (F : FnOk X.prog X.w X.K X.mg X.base CX n f fd ps (spRepr R)) (M : Meth X.K C "__repr__" f) (hb : Binds X.K fd ps []) (hx : Passes CX X E) : RpG X n as (RIns C R) := by
  intro A g pins s σ H x u t b hr hf hg hc I r d hs
  obtain ⟨a, dx, fs, rfl, ha, hR⟩ := d
  cases r
  obtain ⟨od, J⟩ := TzOwn.inst_at I ha
  refine wpAny_pyReprUnder_ref (by omega) ?_
  unfold pyReprObjUnder pyReprObjBy
  refine wpAny_bind (wpAny_cRoomFor hr.units0 ?_)
  refine wpAny_bind (wpAny_bind (J.type.here ((PySem.W.looks_findIn I.kIn M.at_).here ?_)))
  show wpAny _ _ (if (some (Value.ref f)).isNone = true then _ else _) _ _ _
  rw [if_neg (by simp)]
  refine wpAny_bind (m := callSpecialIfBoundBy? _ (.ref a) (Str.ofString "__repr__")) (byBound_K I.kIn J M.at_ M.fn ?_)
  show wpAny _ _ (call (.ref f) [.ref a]) _ _ s
  have hsp : spRepr R [.ref a] H (fun v H' => v = .str t ∧ Ex H H') E := ⟨a, t, rfl, hR, fun H' e => ⟨rfl, e⟩⟩
  have e0 : Env0 X.prog X.w X.K X.mg X.base A X.stack s H := by
    have e := I.env0
    exact ⟨by rw [hf]; exact e.frames, e.mod, e.bs, e.bsz, e.funs, e.frf, e.hok, e.bare⟩
  have hl := F.len _ _ _ _ hsp
  refine wpAny_call (codeAny_mono (F.run A X.stack s H ⟨[.ref a], []⟩ [.ref a] [.ref a] _ E hr e0 (by
    have := hb s [.ref a] I.kIn (by simpa using hl)
    simpa using this) (.cons rfl .nil) hsp) fun r s' hq => ?_)
  cases r with
  | error e => exact hx pins σ H s e s' I hq
  | ok fl =>
    cases fl with
    | ret w =>
      obtain ⟨z, H', I', rz, ez, ex⟩ := I.after hq
      subst ez
      obtain ⟨tk, rfl⟩ := rz
      refine wpAny_bind (wpAny_isInstance (typeIs_str _ _ _) isSubtype_str_str ?_)
      rw [if_pos rfl]
      exact wpAny_pure ⟨_, _, rfl, rfl, H', I', ex⟩
    | next => exact False.elim hq
    | brk => exact False.elim hq
    | cont => exact False.elim hq
/-! ### lists -/
theorem vals_strs : ∀ {ts : List Str} {us : List Value}, Vals (ts.map V.str) us → ∃ done : List (Str × Tok), us = strValues done ∧ done.map (·.1) = ts
  | [], [], _ => ⟨[], rfl, rfl⟩
  | t :: ts, u :: us, .cons a r => by
    obtain ⟨tk, rfl⟩ := a
    obtain ⟨done, rfl, e⟩ := vals_strs r
    exact ⟨(t, tk) :: done, rfl, by rw [List.map_cons, e]⟩
theorem room_loop {A : Around} {k : Nat} {args : Args} (r : Room (k + 1) A) : Room k (A.under (.builtin "list.__repr__.loop" args)) := by
  have hu := units_under_list_loop A args
  have hd : (A.under (.builtin "list.__repr__.loop" args)).depth ≤ A.depth + 1 := by
    first | exact Nat.le_of_eq rfl | exact Nat.le_succ _ | simp [Around.under, Code.weight, Code.isCreation, Code.isGuard, Code.isCaller, Code.frames, Code.isFrame, guardIds]
  have hh : (A.under (.builtin "list.__repr__.loop" args)).handled = A.handled := by
    first | rfl | simp [Around.under]
  refine ⟨by rw [hh]; exact r.hd, by have := r.dp; omega, by have := r.un; rw [hu]; omega⟩
theorem frames_loop {A : Around} {args : Args} : (A.under (.builtin "list.__repr__.loop" args)).frames = A.frames := by
  first | rfl | simp [Around.under, Code.frames, Code.isFrame]
/-- item by item -/
def Each (D : Rpr) (xs : List V) (ts : List Str) (H : Hp) : Prop := xs.length = ts.length ∧ ∀ (i : Nat) x t, xs[i]? = some x → ts[i]? = some t → D x t H
theorem Each.mon (hD : Mon D) {xs : List V} {ts : List Str} {H H' : Hp} (e : Ex H H') (p : Each D xs ts H) : Each D xs ts H' := ⟨p.1, fun i x t h1 h2 => hD x t H H' e (p.2 i x t h1 h2)⟩
theorem loop_run {A : Around} {g : List Code} {pins : List (Addr × Obj)} {σ : L2.St} {H0 : Hp} {a P : Addr} {xs : List V} {ts : List Str} {base : Nat} {R : Result → Shared → Prop} (h : RpG X n (a :: as) D) (hm : Mon D) (hr : Room (n + 1) A) (hf : A.frames = X.A.frames) (hg : A.guards = some g)
    (hcl : ∀ p, p ∉ as → Clear g p) (ha : H0 a = some (.lst xs)) (hP : H0 P = none) (d : Each D xs ts H0) (hsz : base + (listText ts).length ≤ sizeLine) (hE : ∀ e s', X.xe e s' → R (.error e) s')
    (hR : ∀ u H' s', L2.Inv X pins σ H' s' → Ex H0 H' → R (.ok (.ret (.str (listText ts) u))) s') :
    ∀ (k i : Nat) (s : Shared) (H1 : Hp), ts.length - i = k → i ≤ ts.length → L2.Inv X pins σ H1 s → Ex H0 H1 → H1 P = some (.lst ((ts.take i).map V.str)) →
    codeAny (model X.prog X.w) A (.builtin "list.__repr__.loop" ⟨[.ref a, rawInt i, .ref P, rawInt ((base + piled (ts.take i) : Nat) : Int)], []⟩) R s := by
  have hX : (listText ts).length = (textFrom 0 "[" ts).length + 1 := by
    show (textFrom 0 "[" ts ++ "]").length = _
    rw [strLen_append]; rfl
  have hL := textFrom_len ts 0 "["
  have hsz1 : ts.length ≤ sizeLine := by
    have h1 := hL.1
    rw [if_neg (Nat.lt_irrefl 0)] at h1
    omega
  have hsz2 : ∀ t ∈ ts, t.length ≤ sizeLine := fun t ht => by
    have h2 := hL.2.1 t ht
    omega
  have hsz3 : (listText ts).length ≤ sizeLine := by omega
  have hp3 := piled_le_listText ts
  intro k
  induction k with
  | zero =>
    intro i s H1 hk hi I e hH
    have hin : i = ts.length := by omega
    obtain ⟨_, its, m, r, hl, he⟩ := I.lstM (e _ _ ha)
    obtain ⟨_, ps, m2, r2, hl2, he2⟩ := I.lstM hH
    refine codeAny_builtin F.entry_list_repr_loop ?_
    show wpAny _ _ («list.__repr__.loop» ⟨[.ref a, .int i 0, .ref P, .int ((base + piled (ts.take i) : Nat) : Int) 0], []⟩) _ _ s
    rw [repr_loop_tree]
    refine wpAny_bind (wpAny_listItems he rfl ?_)
    have hnone : its.toArray[(i : Int).toNat]? = none := by
      have := d.1
      simp
      omega
    simp only [hnone]
    unfold reprEnd
    refine wpAny_bind (wpAny_listItems he2 rfl ?_)
    obtain ⟨done, rfl, hdone⟩ := vals_strs r2
    rw [List.toList_toArray, repr_fold]
    refine wpAny_bind (wpAny_pure ?_)
    rw [hdone, hin, List.take_length]
    refine wpAny_bind (wpAny_mkStr (wpAny_pure ?_) hsz3)
    exact hR _ H1 _ (I.kept (h' := s.heap) fun _ _ z => z) e
  | succ k ih =>
    intro i s H1 hk hi I e hH
    have hlt : i < ts.length := by omega
    obtain ⟨_, its, m, r, hl, he⟩ := I.lstM (e _ _ ha)
    have hlt2 : i < its.length := by have := d.1; omega
    have hlt3 : i < xs.length := by have := d.1; omega
    have ht : ts[i]? = some ts[i] := List.getElem?_eq_getElem hlt
    have hp1 := piled_take_succ ht
    have hp2 := piled_take_le ts (i + 1)
    refine codeAny_builtin F.entry_list_repr_loop ?_
    show wpAny _ _ («list.__repr__.loop» ⟨[.ref a, .int i 0, .ref P, .int ((base + piled (ts.take i) : Nat) : Int) 0], []⟩) _ _ s
    rw [repr_loop_tree]
    refine wpAny_bind (wpAny_listItems he rfl ?_)
    have hsome : its.toArray[(i : Int).toNat]? = some its[i] := by simp [hlt2]
    simp only [hsome]
    rw [Int.toNat_natCast]
    obtain ⟨u, hu, ru⟩ := r.get (List.getElem?_eq_getElem hlt3)
    have eu : u = its[i] := by
      rw [List.getElem?_eq_getElem hlt2] at hu
      exact (Option.some.inj hu).symm
    subst eu
    have hit := h _ _ pins s σ H1 _ its[i] ts[i] (base + piled (ts.take i) + 1) (room_loop (args := ⟨[.ref a, rawInt i, .ref P, rawInt ((base + piled (ts.take i) : Nat) : Int)], []⟩) hr) (frames_loop.trans hf) (guards_under_guard (isGuard_list_loop _) hg)
      (fun p hp => (hcl p fun q => hp (.tail _ q)).cons (a := a) fun q => hp (q ▸ .head _)) I ru (hm _ _ _ _ e (d.2 i _ _ (List.getElem?_eq_getElem hlt3) ht)) (by omega)
    refine wpAny_bind (wpAny_holding (wpAny_mono hit (fun z s2 q => ?_) fun e s' q => hE e s' q))
    obtain ⟨rfl, H2, I2, e2⟩ := q
    refine wpAny_bind (wpAny_mkStr ?_ (hsz2 _ (List.getElem_mem hlt)))
    refine wpAny_bind ?_
    show wpAny _ _ (updateSeq P _) _ _ _
    obtain ⟨_, ps, m2, r2, hl2, he2⟩ := I2.lstM (e2 _ _ hH)
    have hpl : ps.length ≤ sizeLine := by
      rw [← hl2, List.length_map, List.length_take]
      omega
    have hpl2 : ps.length = i := by
      rw [← hl2, List.length_map, List.length_take]
      omega
    have I3 := I2.kept (h' := s2.heap) (t' := s2.toks + 1) fun _ _ z => z
    refine wpAny_updateSeq he2 rfl (wpAny_pure ⟨F.quiet_list_repr_loop _, ?_⟩) (by rw [List.size_toArray]; exact hpl)
    have e1 : ((i : Int) + 1) = ((i + 1 : Nat) : Int) := by omega
    have e3 : base + piled (ts.take i) + (ts[i].length + 2) = base + piled (ts.take (i + 1)) := by omega
    rw [e1, e3]
    have I4 := I3.lset (f := (·.push (.str ts[i] s2.toks))) (its' := ps ++ [.str ts[i] s2.toks]) (ys := (ts.take (i + 1)).map V.str) (t' := s2.toks + 1) (e2 _ _ hH) he2 (by simp) (by
      rw [List.take_add_one, ht, List.map_append]
      exact r2.append (.cons ⟨_, rfl⟩ .nil)) (by
      rw [List.length_map, List.length_take]
      omega)
    refine ih (i + 1) _ (upd H2 P (.lst ((ts.take (i + 1)).map V.str))) (by omega) hlt I4 (fun b o z => ?_) upd_same
    rw [upd_ne (ne_of_none z hP)]
    exact e2 _ _ (e _ _ z)
theorem at_run {A : Around} {g : List Code} {pins : List (Addr × Obj)} {σ : L2.St} {H : Hp} {s : Shared} {a : Addr} {xs : List V} {ts : List Str} {base : Nat} {R : Result → Shared → Prop} (h : RpG X n (a :: as) D) (hm : Mon D) (hr : Room (n + 1) A) (hf : A.frames = X.A.frames) (hg : A.guards = some g)
    (hcl : ∀ p, p ∉ as → Clear g p) (hna : a ∉ as) (I : L2.Inv X pins σ H s) (ha : H a = some (.lst xs)) (hne : xs ≠ []) (d : Each D xs ts H) (hsz : base + (listText ts).length ≤ sizeLine) (hE : ∀ e s', X.xe e s' → R (.error e) s')
    (hR : ∀ u H' s', L2.Inv X pins σ H' s' → Ex H H' → R (.ok (.ret (.str (listText ts) u))) s') :
    wpAny (model X.prog X.w) A.in1 (Builtin.listReprAt base ⟨[.ref a], []⟩) (fun fin s' => match fin with | .done f => R (.ok f) s' | .again c' => c'.quiet = true ∧ codeAny (model X.prog X.w) A c' R s') (fun e s' => R (.error e) s') s := by
  obtain ⟨_, its, m, r, hl, he⟩ := I.lstM ha
  cases its with
  | nil => exact absurd (List.length_eq_zero_iff.mp hl) hne
  | cons y l =>
    refine wpAny_list_repr_head (A := A.in1) hg (fun v rest kw hm' => listSameRef_of_ne (hcl a hna _ _ _ _ hm')) he rfl ?_
    refine wpAny_bind (m := newList []) (wpAny_newObj_type ?_)
    refine wpAny_pure ⟨F.quiet_list_repr_loop _, ?_⟩
    have hP := I.fresh
    have I1 := I.lnew (ys := []) (its := []) (t' := s.toks) .nil (Nat.zero_le _)
    have e1 : Ex H (upd H s.heap.objs.size (.lst [])) := fun b o z => by
      rw [upd_ne (ne_of_none z hP)]
      exact z
    have := loop_run (P := s.heap.objs.size) (H0 := H) (R := R) (base := base) h hm hr hf hg hcl ha hP d hsz hE hR _ 0 _ (upd H s.heap.objs.size (.lst [])) rfl (Nat.zero_le _) I1 e1 upd_same
    exact this
/-- lists, item by item -/
def RList (D : Rpr) (as : List Addr) : Rpr := fun x t H => ∃ a xs ts, x = .ref a ∧ a ∉ as ∧ H a = some (.lst xs) ∧ t = listText ts ∧ Each D xs ts H
theorem mon_list (hD : Mon D) : Mon (RList D as) := fun x t H H' e ⟨a, xs, ts, hx, hn, h1, ht, p⟩ => ⟨a, xs, ts, hx, hn, e _ _ h1, ht, p.mon hD e⟩
theorem rpG_list (hm : Mon D) (h : ∀ a, RpG X n (a :: as) D) : RpG X (n + 1) as (RList D as) := by
  intro A g pins s σ H x u t b hr hf hg hc I r d hs
  obtain ⟨a, xs, ts, rfl, hna, ha, rfl, p⟩ := d
  cases r
  refine wpAny_pyReprUnder_ref (by omega) ?_
  obtain ⟨_, its, m, rv, hl, he⟩ := I.lstM ha
  by_cases hne : xs = []
  · subst hne
    have e1 : its = [] := List.length_eq_zero_iff.mp hl.symm
    subst e1
    have e2 : ts = [] := List.length_eq_zero_iff.mp p.1.symm
    subst e2
    exact wpAny_pyReprObjUnder_list_empty ⟨_, he, rfl⟩ hr.units0 he rfl ⟨_, _, rfl, rfl, H, I.kept (h' := s.heap) fun _ _ z => z, fun _ _ z => z⟩
  · refine wpAny_pyReprObjUnder_twin (twin := "list.__repr__.under") ⟨_, he, rfl⟩ F.slot_list_repr.toG rfl hr.units0 ?_
    refine call_twin_plain F.plain_list_repr_under F.entry_list_repr_under F.check_list_repr_under ⟨_, he, rfl⟩ F.slot_list_repr.toG (F.args_list_repr_1 _) ?_
    exact at_run (R := callEnd _ X.xe) (h a) hm hr hf hg hc hna I ha hne p hs (fun e s' q => q) fun u H' s' I' e => ⟨⟨_, _, rfl⟩, _, _, rfl, rfl, H', I', e⟩
/-- repr(x) of a list, where no repr is under way -/
theorem repr_list (hm : Mon D) (h : ∀ a, RpG X n [a] D) (hg : X.A.guards = some []) (hr : Room (n + 2) X.A) :
    CallR X (.builtin "repr") (fun xs H Q => ∃ x t, xs = [x] ∧ RList D [] x t H ∧ t.length ≤ sizeLine ∧ ∀ H', Ex H H' → Q (.str t) H') := by
  intro pins s σ H xs us Q I r hq
  obtain ⟨x, t, rfl, ⟨a, xs, ts, rfl, _, ha, rfl, p⟩, hs, q⟩ := hq
  obtain ⟨u, rfl, ru⟩ := vals1 r
  cases ru
  obtain ⟨_, its, m, rv, hl, he⟩ := I.lstM ha
  refine call_repr_slot hr.in1.units0 ⟨_, he, rfl⟩ F.slot_list_repr.toG ?_
  by_cases hne : xs = []
  · subst hne
    have e1 : its = [] := List.length_eq_zero_iff.mp hl.symm
    subst e1
    have e2 : ts = [] := List.length_eq_zero_iff.mp p.1.symm
    subst e2
    exact call_list_repr_empty ⟨_, he, rfl⟩ he rfl ⟨_, _, rfl, .str "[]", H, I.kept (h' := s.heap) fun _ _ z => z, ⟨_, rfl⟩, q H fun _ _ z => z⟩
  · refine wpAny_call (codeAny_call_builtin F.slot_list_repr.plain F.entry_list_repr (F.slot_list_repr.check _ _ _ _ _ _ _ _ ⟨_, he, rfl⟩ (F.args_list_repr_1 _) ?_))
    exact at_run (base := 0) (R := callEnd _ X.xe) (A := X.A.in1) (g := []) (h a) hm hr.in1 rfl hg (fun p _ => Clear.nil p) (fun z => by cases z) I ha hne p (by omega) (fun e s' q => q) fun u H' s' I' e => ⟨_, _, rfl, .str (listText ts), H', I', ⟨_, rfl⟩, q H' e⟩
/-- repr(x) of an instance with its own __repr__ -/
theorem repr_ins {CX : CXT} {C f : Addr} {fd : FuncData} {ps : List Str} {sp : Sp} {E : XK} (F : FnOk X.prog X.w X.K X.mg X.base CX n f fd ps sp) (hr : Room (n + 1) X.A) (M : Meth X.K C "__repr__" f) (hb : Binds X.K fd ps []) (hx : Passes CX X E) :
    CallR X (.builtin "repr") (fun xs H Q => ∃ a dx fs, xs = [.ref a] ∧ H a = some (.ins C dx fs) ∧ sp [.ref a] H (fun v H' => (∃ t, v = .str t) ∧ Q v H') E) := by
  intro pins s σ H xs us Q I r hq
  obtain ⟨a, dx, fs, rfl, ha, q⟩ := hq
  obtain ⟨u, rfl, ru⟩ := vals1 r
  cases ru
  obtain ⟨od, J⟩ := TzOwn.inst_at I ha
  refine Calls.call_function_entry PySem.F.kind_repr PySem.F.plain_repr PySem.F.entry_repr (PySem.F.args_repr1 _) ?_
  unfold Builtin.«repr»
  refine wpAny_bind (m := oneArg "repr" _) (wpAny_pure ?_)
  refine wpAny_bind (wpAny_cRoomFor hr.in1.units0 ?_)
  refine wpAny_bind (wpAny_bind (J.type.here ((PySem.W.looks_findIn I.kIn M.at_).here ?_)))
  show wpAny _ _ (if (some (Value.ref f)).isNone = true then _ else _) _ _ _
  rw [if_neg (by simp)]
  have e0 : Env0 X.prog X.w X.K X.mg X.base X.A.in1 X.stack s H := I.env0.in1
  have hl := F.len _ _ _ _ q
  refine wpAny_bind (m := callSpecialIfBound? (.ref a) (Str.ofString "__repr__") _) (PySem.W.ifBound_K I.kIn J M.at_ M.fn ?_)
  refine wpAny_call (codeAny_mono (F.run X.A.in1 X.stack s H ⟨[.ref a], []⟩ [.ref a] [.ref a] _ E hr.in1 e0 (by
    have := hb s [.ref a] I.kIn (by simpa using hl)
    simpa using this) (.cons rfl .nil) q) fun r s' hq => ?_)
  cases r with
  | error e => exact hx pins σ H s e s' I hq
  | ok fl =>
    cases fl with
    | ret w =>
      obtain ⟨z, H', I', rz, ⟨t, ez⟩, q'⟩ := I.after hq
      subst ez
      obtain ⟨tk, rfl⟩ := rz
      refine wpAny_bind (wpAny_isInstance (typeIs_str _ _ _) isSubtype_str_str ?_)
      rw [if_pos rfl]
      exact wpAny_pure ⟨_, rfl, .str t, H', I', ⟨_, rfl⟩, q'⟩
    | next => exact False.elim hq
    | brk => exact False.elim hq
    | cont => exact False.elim hq
end
end TzRepr
namespace TzOwn
open PySem PySem.Spec PyProof.Rows L2
/-- the class stands alone under object -/
def solo (K : PySem.W.Frag) (C : Addr) : Bool := (PySem.W.clsIn K C).any fun cd => cd.mro == [.ref C, .type "object"]
section
variable {prog : Program} {w : World} {A : Around} {E : Value → Shared → Prop} {s : Shared} {K : PySem.W.Frag} {a b C f : Addr} {od od' : Option Obj} {oa ob : Obj} {Q : Value → Shared → Prop} {nm : String} {fo ro rc : Option Value}
theorem bin1_same (Xk : K.In s.heap) (J : PySem.W.InstAt s.heap a oa C od) (J' : PySem.W.InstAt s.heap b ob C od') (sf : PySem.W.selfFirst K C = true) (hs : PySem.W.findIn K (.ref C) (PySem.dunder nm) = some (some (.ref f))) (hf : PySem.W.isFn K (.ref f) = true)
    (h : wpAny (model prog w) A (call (.ref f) [.ref a, .ref b]) (PySem.W.CmpBack Q) E s) : wpAny (model prog w) A (binaryOp1 nm (.ref a) (.ref b)) (fun r s' => ∃ v, r = some v ∧ Q v s') E s := by
  obtain ⟨cd, rest, hcd, hm⟩ := PySem.W.ksp_first sf
  have one := PySem.W.ksp_try Xk J hs hf h
  have L1 : PySem.W.Looks (model prog w) s.heap (typeOf (.ref a)) (.ref C) := J.type
  have L2 : PySem.W.Looks (model prog w) s.heap (typeOf (.ref b)) (.ref C) := J'.type
  have L3 : PySem.W.Looks (model prog w) s.heap (fillsNumberSlot (.ref C) nm) true := PySem.W.fills_K Xk hcd hm hs
  unfold binaryOp1
  refine wpAny_bind (L1.here (wpAny_bind (L2.here (wpAny_bind (L3.here ?_)))))
  have e : (Value.ref C == Value.ref C) = true := beq_self_eq_true _
  simp only [e, if_true, pure_bind, Bool.and_false, Bool.false_and, Bool.false_eq_true, if_false]
  refine wpAny_bind (wpAny_mono one (fun r s' hr => ?_) fun _ _ z => z)
  obtain ⟨v, rfl, q⟩ := hr
  exact wpAny_pure ⟨v, rfl, q⟩
theorem bin1_int {n : Int} {t : Tok} (Xk : K.In s.heap) (J : PySem.W.InstAt s.heap a oa C od) (sf : PySem.W.selfFirst K C = true) (hs : PySem.W.findIn K (.ref C) (PySem.dunder nm) = some (some (.ref f))) (hf : PySem.W.isFn K (.ref f) = true)
    (hr : PySem.W.findIn K (.ref C) (dunderR nm) = some rc) (hp : rc = none ∨ ∃ g : Addr, rc = some (.ref g)) (h1 : PySem.W.findIn K (.type "int") (PySem.dunder nm) = some fo) (h2 : PySem.W.findIn K (.type "int") (dunderR nm) = some ro) (hsub : PySem.W.subIn K (.type "int") (.ref C) = some false)
    (h : wpAny (model prog w) A (call (.ref f) [.ref a, .int n t]) (PySem.W.CmpBack Q) E s) : wpAny (model prog w) A (binaryOp1 nm (.ref a) (.int n t)) (fun r s' => ∃ v, r = some v ∧ Q v s') E s := by
  obtain ⟨cd, rest, hcd, hm⟩ := PySem.W.ksp_first sf
  have one := PySem.W.ksp_try Xk J hs hf h
  have L1 : PySem.W.Looks (model prog w) s.heap (typeOf (.ref a)) (.ref C) := J.type
  have L2 : typeOf (.int n t) = pure (.type "int") := rfl
  have L3 : PySem.W.Looks (model prog w) s.heap (fillsNumberSlot (.ref C) nm) true := PySem.W.fills_K Xk hcd hm hs
  have L4 := PySem.W.ksp_fillsT (M := model prog w) Xk h1 h2
  have L5 : PySem.W.Looks (model prog w) s.heap (isSubtype (.type "int") (.ref C)) false := PySem.W.looks_subIn Xk hsub
  have L6 : PySem.W.Looks (model prog w) s.heap (numberSlotInPython (.ref C) nm) true := PySem.W.ksp_inPy Xk hs hr hp
  have L7 : numberSlotInPython (.type "int") nm = pure false := rfl
  have L8 : PySem.W.Looks (model prog w) s.heap (typeLookup (.type "int") (dunderR nm)) ro := PySem.W.looks_findIn Xk h2
  generalize ((fo.isSome && !isSeqSlot fo) || (ro.isSome && !isSeqSlot ro)) = right at L4
  have hne : (Value.ref C == Value.type "int") = false := Bool.eq_false_iff.mpr fun q => by cases beq_iff_eq.mp q
  unfold binaryOp1
  refine wpAny_bind (L1.here (wpAny_bind (wpAny_of_eq L2 (wpAny_bind (L3.here ?_)))))
  simp only [hne, if_false, Bool.false_eq_true]
  refine wpAny_bind (L4.here ?_)
  cases right with
  | false =>
    simp only [pure_bind, Bool.and_false, Bool.false_and, if_false, Bool.false_eq_true, if_true]
    refine wpAny_bind (wpAny_mono one (fun r s' hr => ?_) fun _ _ z => z)
    obtain ⟨v, rfl, q⟩ := hr
    exact wpAny_pure ⟨v, rfl, q⟩
  | true =>
    simp only [Bool.and_self, if_true]
    refine wpAny_bind (L5.here ?_)
    simp only [pure_bind, Bool.not_false, Bool.and_self, if_true, if_false, Bool.false_eq_true]
    refine wpAny_bind (L6.here ?_)
    simp only [if_true, L7, pure_bind, Bool.not_false]
    refine wpAny_bind (L8.here ?_)
    refine wpAny_bind (wpAny_mono one (fun r s' hr => ?_) fun _ _ z => z)
    obtain ⟨v, rfl, q⟩ := hr
    exact wpAny_pure ⟨v, rfl, q⟩
theorem fillsI_not {add : Bool} (Xk : K.In s.heap) (so : solo K C = true) (n1 : PySem.W.findIn K (.ref C) (dunderI nm) = some none) (n2 : PySem.W.findIn K (.type "object") (dunderI nm) = some none) : PySem.W.Looks (model prog w) s.heap (fillsInplaceSlot (.ref C) nm add) false := by
  obtain ⟨cd, hcd, hm⟩ := PySem.W.any_some so
  have hm := beq_iff_eq.mp hm
  intro A Q E s' k q
  have Lm : PySem.W.Looks (model prog w) s.heap (mroOf (.ref C)) cd.mro := (PySem.W.looks_clsIn Xk hcd).andThen (f := fun cd => pure cd.mro) .now
  have X' : K.In s'.heap := Xk.keeps k
  unfold fillsInplaceSlot
  refine wpAny_bind ((Lm.keeps k).here ?_)
  rw [hm, List.anyM_cons]
  refine wpAny_bind (wpAny_bind ((PySem.W.looks_findIn X' n1).here (wpAny_pure ?_)))
  simp only [Bool.false_eq_true, if_false, List.anyM_cons, List.anyM_nil]
  refine wpAny_bind (wpAny_bind ((PySem.W.looks_findIn X' n2).here (wpAny_pure ?_)))
  exact wpAny_pure q
theorem inpl {op : Operator} {v u : Value} (L1 : PySem.W.Looks (model prog w) s.heap (typeOf v) (.ref C)) (L2 : PySem.W.Looks (model prog w) s.heap (fillsInplaceSlot (.ref C) op.info.2 (op == .Add)) false)
    (h : wpAny (model prog w) A (binaryOp1 op.info.2 v u) (fun r s' => ∃ z, r = some z ∧ Q z s') E s) : wpAny (model prog w) A (inplaceOp op v u) Q E s := by
  unfold inplaceOp
  refine wpAny_holding (wpAny_bind (L1.here (wpAny_bind (L2.here ?_))))
  simp only [Bool.false_eq_true, if_false]
  refine wpAny_bind (wpAny_mono h (fun r s' hr => ?_) fun _ _ z => z)
  obtain ⟨v, rfl, q⟩ := hr
  exact wpAny_pure q
end
theorem solo_of {K : PySem.W.Frag} {C : Addr} {cd : ClassData} (h : PySem.W.clsIn K C = some cd) (hm : cd.mro = [.ref C, .type "object"]) : solo K C = true := by
  unfold solo
  rw [h]
  show (cd.mro == [.ref C, .type "object"]) = true
  exact beq_iff_eq.mpr hm
/-- a op= b in a class that has no such method: as a op b -/
structure INo (K : PySem.W.Frag) (C : Addr) (m : Str) : Prop where
  so : solo K C = true
  n1 : PySem.W.findIn K (.ref C) m = some none
  n2 : PySem.W.findIn K (.type "object") m = some none
section
variable {X : Cx} {CX : CXT} {k : Nat} {f C : Addr} {fd : FuncData} {ps : List Str} {sp : Sp} {E : XK} {op : Operator} {nm nr ni : Str} {fo ro rc : Option Value}
theorem ip_own (F : FnOk X.prog X.w X.K X.mg X.base CX k f fd ps sp) (hr : Room k X.A) (M : Meth X.K C nm f) (hn : PySem.dunder op.info.2 = nm) (sf : PySem.W.selfFirst X.K C = true) (hb : Binds X.K fd ps []) (hx : Passes CX X E) (no : INo X.K C ni) (hi : dunderI op.info.2 = ni) :
    PIp X op (rOwn C sp E) := by
  intro pins s σ H x y v u Q I rx ry h
  obtain ⟨a, b, dx, dy, fs, gs, rfl, rfl, ha, hb', q⟩ := h
  cases rx
  cases ry
  obtain ⟨od, J⟩ := inst_at I ha
  obtain ⟨od', J'⟩ := inst_at I hb'
  refine inpl J.type (fillsI_not I.kIn no.so (hi ▸ no.n1) (hi ▸ no.n2)) (bin1_same I.kIn J J' sf (hn ▸ M.at_) M.fn ?_)
  exact thn (run_fn (us := [.ref a, .ref b]) (vs := [.ref a, .ref b]) F hr hb .nil hx I (.cons rfl (.cons rfl .nil)) q) fun _ _ z => back_cmp z
theorem ip_ownI (F : FnOk X.prog X.w X.K X.mg X.base CX k f fd ps sp) (hr : Room k X.A) (M : Meth X.K C nm f) (hn : PySem.dunder op.info.2 = nm) (sf : PySem.W.selfFirst X.K C = true) (hb : Binds X.K fd ps []) (hx : Passes CX X E)
    (hnr : dunderR op.info.2 = nr) (hc : PySem.W.findIn X.K (.ref C) nr = some rc) (hp : rc = none ∨ ∃ g : Addr, rc = some (.ref g)) (h1 : PySem.W.findIn X.K (.type "int") nm = some fo) (h2 : PySem.W.findIn X.K (.type "int") nr = some ro)
    (hsub : PySem.W.subIn X.K (.type "int") (.ref C) = some false) (no : INo X.K C ni) (hi : dunderI op.info.2 = ni) : PIp X op (rOwnI C sp E) := by
  intro pins s σ H x y v u Q I rx ry h
  obtain ⟨a, n, dx, fs, rfl, rfl, ha, q⟩ := h
  cases rx
  obtain ⟨t, rfl⟩ := ry
  obtain ⟨od, J⟩ := inst_at I ha
  refine inpl J.type (fillsI_not I.kIn no.so (hi ▸ no.n1) (hi ▸ no.n2)) (bin1_int I.kIn J sf (hn ▸ M.at_) M.fn (hnr ▸ hc) hp (hn ▸ h1) (hnr ▸ h2) hsub ?_)
  exact thn (run_fn (us := [.ref a, .int n t]) (vs := [.ref a, .int n]) F hr hb .nil hx I (.cons rfl (.cons ⟨_, rfl⟩ .nil)) q) fun _ _ z => back_cmp z
end
end TzOwn
namespace Tz
open PySem PyProof.Rows L2
def spAddI (C : Addr) : Sp := fun vs H Q _ => ∃ x, ∃ w : Nat, ∃ u n : Int, vs = [.ref x, .int n] ∧ WordAt C H x w u ∧ 0 ≤ n ∧ n ≤ mw w ∧ NewW C w (cr w (u + n)) H Q
def spRAddI (C : Addr) : Sp := fun vs H Q _ => ∃ x, ∃ w : Nat, ∃ u n : Int, vs = [.ref x, .int n] ∧ WordAt C H x w u ∧ 0 ≤ n ∧ n ≤ mw w ∧ NewW C w (cr w (n + u)) H Q
def spSubI (C : Addr) : Sp := fun vs H Q _ => ∃ x, ∃ w : Nat, ∃ u n : Int, vs = [.ref x, .int n] ∧ WordAt C H x w u ∧ 0 ≤ n ∧ n ≤ mw w ∧ NewW C w (cr w (u + (mw w - n))) H Q
def spRSubI (C : Addr) : Sp := fun vs H Q _ => ∃ x, ∃ w : Nat, ∃ u n : Int, vs = [.ref x, .int n] ∧ WordAt C H x w u ∧ 0 ≤ n ∧ n ≤ mw w ∧ NewW C w (cr w (n + (mw w - u))) H Q
/-! ### repr of words -/
def wtext (w : Nat) (u : Int) : Str := ((((Str.empty ++ ("Word(" : Str)) ++ ((toString (w : Int) : String) : Str)) ++ (", " : Str)) ++ ((toString u : String) : Str)) ++ (")" : Str)
def WText (C : Addr) : Addr → Str → Hp → Prop := fun a t H => ∃ w u, WordAt C H a w u ∧ t = wtext w u
theorem mon_words {C : Addr} : TzRepr.Mon (TzRepr.RIns C (WText C)) := fun _ _ _ _ e ⟨a, dx, fs, hx, ha, w, u, W, ht⟩ => ⟨a, dx, fs, hx, e _ _ ha, w, u, W.ex e, ht⟩
theorem int20 {n : Int} (h0 : 0 ≤ n) (h1 : n < 18446744073709551616) : ((toString n : String) : Str).length ≤ 21 :=
  Nat.le_trans (PyProof.Rows.toString_length_le h0 (k := 20) (by decide) (by omega)) (by decide)
theorem wtext_len {w : Nat} {u : Int} (hw : w ≤ 64) (h0 : 0 ≤ u) (h1 : u < 18446744073709551616) : (wtext w u).length ≤ 60 := by
  have a := int20 (n := (w : Int)) (by omega) (by omega)
  have b := int20 h0 h1
  have e0 : (Str.empty : Str).length = 0 := rfl
  have e1 : ("Word(" : Str).length = 5 := rfl
  have e2 : (", " : Str).length = 2 := rfl
  have e3 : (")" : Str).length = 1 := rfl
  unfold wtext
  rw [strLen_append, strLen_append, strLen_append, strLen_append, strLen_append, e0, e1, e2, e3]
  omega
theorem words2_len {a b : Str} (ha : a.length ≤ 60) (hb : b.length ≤ 60) : (listText [a, b]).length ≤ sizeLine := by
  have := textFrom_len_le [a, b] 0 "["
  have e : (listText [a, b]).length = (textFrom 0 "[" [a, b]).length + 1 := by
    show (textFrom 0 "[" [a, b] ++ "]").length = _
    rw [strLen_append]; rfl
  have e1 : ("[" : Str).length = 1 := rfl
  have e2 : (([a, b].map (·.length)).sum) = a.length + (b.length + 0) := rfl
  have e3 : [a, b].length = 2 := rfl
  refine Nat.le_trans (show _ ≤ 200 by omega) (by decide)
theorem each2 {C a b : Addr} {H : Hp} {w w' : Nat} {u v : Int} (Wa : WordAt C H a w u) (Wb : WordAt C H b w' v) : TzRepr.Each (TzRepr.RIns C (WText C)) [.ref a, .ref b] [wtext w u, wtext w' v] H := by
  obtain ⟨da, ha⟩ := Wa.ob
  obtain ⟨db, hb⟩ := Wb.ob
  refine ⟨rfl, fun i x t h1 h2 => ?_⟩
  match i with
  | 0 =>
    cases h1
    cases h2
    exact ⟨a, da, _, rfl, ha, w, u, Wa, rfl⟩
  | 1 =>
    cases h1
    cases h2
    exact ⟨b, db, _, rfl, hb, w', v, Wb, rfl⟩
  | i + 2 => simp at h1
/-! ### promises -/
def spInPlace (C : Addr) : Sp := fun vs H Q _ => ∃ x y, ∃ w : Nat, ∃ u v : Int, vs = [.ref x, .ref y] ∧ WordAt C H x w u ∧ WordAt C H y w v ∧
  ∀ l p q H', Ex H H' → H' l = some (.lst [.ref p, .ref q]) → WordAt C H' p w (cr w (u + v)) → WordAt C H' q w (cr w (u + (mw w - v))) → Q (.ref l) H'
def spInPlaceI (C : Addr) : Sp := fun vs H Q _ => ∃ x, ∃ w : Nat, ∃ u v : Int, vs = [.ref x, .int v] ∧ WordAt C H x w u ∧ 0 ≤ v ∧ v ≤ mw w ∧
  ∀ l p q H', Ex H H' → H' l = some (.lst [.ref p, .ref q]) → WordAt C H' p w (cr w (u + v)) → WordAt C H' q w (cr w (u + (mw w - v))) → Q (.ref l) H'
def spApart (C : Addr) : Sp := fun vs H Q _ => ∃ x y, ∃ w : Nat, ∃ u v : Int, vs = [.ref x, .ref y] ∧ WordAt C H x w u ∧ WordAt C H y w v ∧ ∀ H', Ex H H' → Q (.bl true) H'
def spApartI (C : Addr) : Sp := fun vs H Q _ => ∃ x, ∃ w : Nat, ∃ u v : Int, vs = [.ref x, .int v] ∧ WordAt C H x w u ∧ 0 ≤ v ∧ v ≤ mw w ∧ ∀ H', Ex H H' → Q (.bl true) H'
def spRight3 : Sp := fun vs H Q _ => ∃ w : Nat, ∃ u v : Int, vs = [.int w, .int u, .int v] ∧ 1 ≤ w ∧ w ≤ 64 ∧ 0 ≤ u ∧ u ≤ mw w ∧ 0 ≤ v ∧ v ≤ mw w ∧ ∀ H', Ex H H' → Q (.bl true) H'
end Tz
namespace TzRepr
open PySem PySem.Spec PyProof.Rows L2 PySem.Builtin PySem.Builtin.List Tz
section
variable {X : Cx} {n : Nat} {as : List Addr} {D : Rpr}
/-! ### tuples -/
theorem Each.tail {x : V} {xs : List V} {t : Str} {ts : List Str} {H : Hp} (p : Each D (x :: xs) (t :: ts) H) : Each D xs ts H := ⟨by simpa using p.1, fun i y u h1 h2 => p.2 (i + 1) y u (by simpa using h1) (by simpa using h2)⟩
theorem Each.head {x : V} {xs : List V} {t : Str} {ts : List Str} {H : Hp} (p : Each D (x :: xs) (t :: ts) H) : D x t H := p.2 0 x t rfl rfl
theorem tup_fold {A : Around} {g : List Code} {pins : List (Addr × Obj)} {σ : L2.St} {bs : List Addr} (h : RpG X n bs D) (hm : Mon D) (hr : Room n A) (hf : A.frames = X.A.frames) (hg : A.guards = some g) (hcl : ∀ p, p ∉ bs → Clear g p) :
    ∀ (l : List Value) (xs : List V) (ts : List Str) (acc : Array Str) (m : Nat) (s : Shared) (H1 : Hp), Vals xs l → Each D xs ts H1 → m + piled ts ≤ sizeLine → L2.Inv X pins σ H1 s →
    wpAny (model X.prog X.w) A (forIn l (⟨acc, m⟩ : (Array Str × Nat)) tupBody) (fun r s' => r = ⟨acc ++ ts.toArray, m + piled ts⟩ ∧ ∃ H', L2.Inv X pins σ H' s' ∧ Ex H1 H') X.xe s := by
  intro l
  induction l with
  | nil =>
    intro xs ts acc m s H1 rv d hs I
    cases rv
    have e : ts = [] := List.length_eq_zero_iff.mp d.1.symm
    subst e
    rw [List.forIn_nil]
    exact wpAny_pure ⟨by simp [piled], H1, I, fun _ _ z => z⟩
  | cons y l ih =>
    intro xs ts acc m s H1 rv d hs I
    cases rv with
    | cons ry rv =>
      rename_i x xs
      cases ts with
      | nil => exact absurd d.1 (by simp)
      | cons t ts =>
        rw [piled_cons] at hs
        rw [List.forIn_cons]
        refine wpAny_bind (wpAny_bind (wpAny_mono (h A g pins s σ H1 x y t (m + 1) hr hf hg hcl I ry d.head (by omega)) (fun z s2 q => ?_) fun _ _ z => z))
        obtain ⟨rfl, H2, I2, e2⟩ := q
        refine wpAny_pure ?_
        refine wpAny_mono (ih xs ts (acc.push z) (m + (z.length + 2)) s2 H2 rv (d.tail.mon hm e2) (by omega) I2) (fun r s3 q => ?_) fun _ _ z => z
        obtain ⟨rfl, H3, I3, e3⟩ := q
        refine ⟨?_, H3, I3, e2.trans e3⟩
        rw [piled_cons]
        refine Prod.ext ?_ ?_
        · simp
        · show m + (z.length + 2) + piled ts = m + (z.length + 2 + piled ts)
          omega
/-- a code that is repr of a tuple -/
structure TupC (A : Around) (c : Code) : Prop where
  gd : c.isGuard = true
  un : (A.under c).units = A.units + 1
  dp : (A.under c).depth ≤ A.depth + 1
  hd : (A.under c).handled = A.handled
  fr : (A.under c).frames = A.frames
theorem TupC.room {A : Around} {c : Code} {k : Nat} (h : TupC A c) (r : Room (k + 1) A) : Room k (A.under c) := ⟨by rw [h.hd]; exact r.hd, by have := r.dp; have := h.dp; omega, by have := r.un; rw [h.un]; omega⟩
theorem tupC1 (A : Around) (args : Args) : TupC A (.builtin "tuple.__repr__" args) :=
  ⟨isGuard_tuple_repr _, units_under_tuple_repr _ _, by first | exact Nat.le_of_eq rfl | exact Nat.le_succ _ | simp [Around.under, Code.weight, Code.isCreation, Code.isGuard, Code.isCaller, Code.frames, Code.isFrame, guardIds], by first | rfl | simp [Around.under], by first | rfl | simp [Around.under, Code.frames, Code.isFrame]⟩
theorem tupC2 (A : Around) (args : Args) : TupC A (.builtin "tuple.__repr__.under" args) :=
  ⟨isGuard_tuple_repr_under _, units_under_tuple_repr_under _ _, by first | exact Nat.le_of_eq rfl | exact Nat.le_succ _ | simp [Around.under, Code.weight, Code.isCreation, Code.isGuard, Code.isCaller, Code.frames, Code.isFrame, guardIds], by first | rfl | simp [Around.under], by first | rfl | simp [Around.under, Code.frames, Code.isFrame]⟩
theorem tup_at {A : Around} {g : List Code} {pins : List (Addr × Obj)} {σ : L2.St} {H : Hp} {s : Shared} {a : Addr} {xs : List V} {ts : List Str} {base : Nat} {id : String} {rest : List Value} {R : Result → Shared → Prop} (h : RpG X n (a :: as) D) (hm : Mon D) (hr : Room (n + 1) A) (hf : A.frames = X.A.frames)
    (hg : A.guards = some g) (hcl : ∀ p, p ∉ as → Clear g p) (hna : a ∉ as) (c : TupC A (.builtin id ⟨.ref a :: rest, []⟩)) (I : L2.Inv X pins σ H s) (ha : SqT X.K H a xs) (d : Each D xs ts H) (hsz : base + (tupleText ts).length ≤ sizeLine) (hE : ∀ e s', X.xe e s' → R (.error e) s')
    (hR : ∀ u H' s', L2.Inv X pins σ H' s' → Ex H H' → R (.ok (.ret (.str (tupleText ts) u))) s') :
    wpOwn (model X.prog X.w) A (.builtin id ⟨.ref a :: rest, []⟩) (Builtin.tupleReprAt base ⟨[.ref a], []⟩) (fun fin s' => match fin with | .done f => R (.ok f) s' | .again c' => c'.quiet = true ∧ codeAny (model X.prog X.w) A c' R s') (fun e s' => R (.error e) s') s := by
  obtain ⟨its, rv, ⟨o, ho, hc, m, hd⟩, hz⟩ := I.tuple ha
  have hp := piled_le_tupleText ts
  have hlen : ts.length = its.toArray.size := by rw [List.size_toArray, ← rv.length]; exact d.1.symm
  rw [tuple_repr_tree, tupleReprUnderWay_eq]
  refine wpOwn_bind (wpOwn_stackTailAny hg (tupGuardF_off _) (tupGuardF_pos _) ?_)
  have hn : (g.any fun c => tupGuardF (.ref a) (c, default)) = false := by
    refine List.any_eq_false.mpr fun c hcm => ?_
    rw [tupGuardF_of_clear (hcl a hna) c hcm]
    exact Bool.false_ne_true
  rw [hn]
  refine wpOwn_of_wpAny ?_
  show wpAny _ _ (tupleReprRest base (.ref a)) _ _ s
  unfold tupleReprRest Builtin.Tuple.tupleItemsOf
  refine wpAny_bind (wpAny_bind (wpAny_seqItems ho hd (wpAny_pure ?_)))
  rw [← Array.forIn_toList]
  refine wpAny_bind (wpAny_mono (tup_fold h hm (c.room hr) (c.fr.trans hf) (guards_under_guard c.gd hg) (fun p hp => (hcl p fun q => hp (.tail _ q)).cons (a := a) fun q => hp (q ▸ .head _)) _ xs ts #[] base s H (by simpa using rv) d (by omega) I) (fun r s2 q => ?_) fun e s' q => hE e s' q)
  obtain ⟨rfl, H2, I2, e2⟩ := q
  have hsz0 : (tupleText ts).length ≤ sizeLine := by omega
  refine wpAny_bind (wpAny_mkStr (wpAny_pure ?_) (by simpa [tupleText, hlen] using hsz0))
  have h1 := hR s2.toks H2 { s2 with toks := s2.toks + 1 } (I2.kept (h' := s2.heap) fun _ _ z => z) e2
  simpa [tupleText, hlen] using h1
/-- tuples, item by item -/
def RTup (K : PySem.W.Frag) (D : Rpr) (as : List Addr) : Rpr := fun x t H => ∃ a xs ts, x = .ref a ∧ a ∉ as ∧ SqT K H a xs ∧ t = tupleText ts ∧ Each D xs ts H
theorem sqT_ex {K : PySem.W.Frag} {H H' : Hp} {a : Addr} {xs : List V} (h : SqT K H a xs) (e : Ex H H') : SqT K H' a xs := by
  rcases h with (h | ⟨o, h⟩) | h
  · exact .inl (.inl (e _ _ h))
  · exact .inl (.inr ⟨o, e _ _ h⟩)
  · exact .inr h
theorem mon_tup {K : PySem.W.Frag} (hD : Mon D) : Mon (RTup K D as) := fun x t H H' e ⟨a, xs, ts, hx, hn, h1, ht, p⟩ => ⟨a, xs, ts, hx, hn, sqT_ex h1 e, ht, p.mon hD e⟩
theorem rpG_tup (hm : Mon D) (h : ∀ a, RpG X n (a :: as) D) : RpG X (n + 1) as (RTup X.K D as) := by
  intro A g pins s σ H x u t b hr hf hg hc I r d hs
  obtain ⟨a, xs, ts, rfl, hna, ha, rfl, p⟩ := d
  cases r
  refine wpAny_pyReprUnder_ref (by omega) ?_
  obtain ⟨its, rv, ⟨o, ho, hcls, m, hd⟩, hz⟩ := I.tuple ha
  refine wpAny_pyReprObjUnder_twin (twin := "tuple.__repr__.under") ⟨o, ho, hcls⟩ F.slot_tuple_repr rfl hr.units0 ?_
  exact call_twin_own (F.quiet_tuple_repr_under _) F.entry_tuple_repr_under F.check_tuple_repr_under ⟨o, ho, hcls⟩ F.slot_tuple_repr (F.args_tuple_repr_1 _)
    (tup_at (R := callEnd _ X.xe) (h a) hm hr hf hg hc hna (tupC2 _ _) I ha p hs (fun e s' q => q) fun u H' s' I' e => ⟨⟨_, _, rfl⟩, _, _, rfl, rfl, H', I', e⟩)
/-- repr(x) of a tuple, where no repr is under way -/
theorem repr_tup (hm : Mon D) (h : ∀ a, RpG X n [a] D) (hg : X.A.guards = some []) (hr : Room (n + 2) X.A) :
    CallR X (.builtin "repr") (fun xs H Q => ∃ x t, xs = [x] ∧ RTup X.K D [] x t H ∧ t.length ≤ sizeLine ∧ ∀ H', Ex H H' → Q (.str t) H') := by
  intro pins s σ H xs us Q I r hq
  obtain ⟨x, t, rfl, ⟨a, xs, ts, rfl, hna, ha, rfl, p⟩, hs, q⟩ := hq
  obtain ⟨u, rfl, ru⟩ := vals1 r
  cases ru
  obtain ⟨its, rv, ⟨o, ho, hcls, m, hd⟩, hz⟩ := I.tuple ha
  refine call_repr_slot hr.in1.units0 ⟨o, ho, hcls⟩ F.slot_tuple_repr ?_
  exact wpAny_call (codeAny_call_builtin_own (Code.quiet_builtin _ (by decide +kernel)) F.entry_tuple_repr (F.slot_tuple_repr.check _ _ _ _ _ _ _ _ ⟨o, ho, hcls⟩ (F.args_tuple_repr_1 _)
    (tup_at (base := 0) (R := callEnd _ X.xe) (A := X.A.in1) (g := []) (h a) hm hr.in1 rfl hg (fun p _ => Clear.nil p) hna (tupC1 _ _) I ha p (by omega) (fun e s' q => q) fun u H' s' I' e => ⟨_, _, rfl, .str (tupleText ts), H', I', ⟨_, rfl⟩, q H' e⟩)))
end
end TzRepr
namespace TzOwn
open PySem PySem.Spec PyProof.Rows L2 PySem.Builtin PySem.Builtin.Str
section
variable {prog : Program} {w : World} {A : Around} {E : Value → Shared → Prop} {s : Shared} {K : PySem.W.Frag} {x C f : Addr} {od : Option Obj} {ox : Obj}
/-- str(x), x an instance with its own __str__ -/
theorem str_call {Q : Value → Shared → Prop} (hu : A.in1.in1.units < cLine) (Xk : K.In s.heap) (J : PySem.W.InstAt s.heap x ox C od) (hs : PySem.W.findIn K (.ref C) "__str__" = some (some (.ref f))) (hf : PySem.W.isFn K (.ref f) = true)
    (h : wpAny (model prog w) A.in1.in1 (call (.ref f) [.ref x]) (PySem.W.StrBack Q) E s) : wpAny (model prog w) A (call (.type "str") [.ref x]) Q E s := by
  have fin : wpAny (model prog w) A.in1.in1 (PySem.Builtin.Str.strOf (.ref x)) (fun r s1 => ∃ y u, r = .str y u ∧ Q r s1) E s := by
    unfold PySem.Builtin.Str.strOf
    have no : isExactStr (.ref x) = false := rfl
    rw [no]
    refine wpAny_bind (m := cRoomFor _ _) (wpAny_cRoomFor hu ?_)
    have one : wpAny (model prog w) A.in1.in1 (callSpecial? (.ref x) (Str.ofString "__str__") []) (fun r s1 => ∃ y u, r = some (.str y u) ∧ Q (.str y u) s1) E s :=
      PySem.W.special_fn Xk J hs (beq_iff_eq.mp hf) (wpAny_mono h (fun v s1 z => by cases v <;> first | exact z.elim | exact ⟨_, _, rfl, z⟩) fun _ _ z => z)
    refine wpAny_bind (m := callSpecial? (.ref x) (Str.ofString "__str__")) (wpAny_mono one (fun r s1 z => ?_) fun _ _ z => z)
    obtain ⟨y, u, rfl, q⟩ := z
    exact wpAny_pure ⟨_, _, rfl, q⟩
  refine callType_codes (T := "str") (Bi := Builtin.«object.__init__») (Q₁ := fun r s1 => ∃ y u, r = .str y u ∧ Q r s1)
    PySem.F.called_str (PySem.F.typeCall_str_1 _) PySem.F.entry_object_init ?_ (fun obj s1 z => ?_)
  · refine codeAny_of_tree ?_
    show wpAny _ A.in1.in1
      (do checkBuiltinCall "str.__new__" ⟨[.type "str", .ref x], []⟩; again (.builtin "str.__new__" ⟨[.type "str", .ref x], []⟩)) _ _ s
    have pl : plainId "str.__new__" = true := by decide +kernel
    refine wpAny_bind (wpAny_of_eq (PySem.F.newCall_str_1 _)
      (wpAny_pure ⟨plainId_quiet pl _, codeAny_builtin PySem.F.entry_str_new ?_⟩))
    rw [Around.under_plainId pl, str_new_tree]
    refine wpAny_bind (wpAny_pure (wpAny_bind (wpAny_of_eq isSubtype_str_str ?_)))
    exact wpAny_bind (wpAny_mono fin (fun r s1 z => wpAny_pure z) fun _ _ z => z)
  · obtain ⟨y, u, rfl, q⟩ := z
    exact ⟨typeIs_str _ _ _, PySem.F.args_object_init_2 _ _,
      object_init_meets PySem.F.called_str.init.lookup PySem.F.called_str.made (by decide) prog w A.in1 _ s1 ⟨typeIs_str _ _ _, rfl, q⟩⟩
theorem bool_call {Q : Value → Shared → Prop} (Xk : K.In s.heap) (J : PySem.W.InstAt s.heap x ox C od) (hs : PySem.W.findIn K (.ref C) "__bool__" = some (some (.ref f))) (hf : PySem.W.isFn K (.ref f) = true)
    (h : wpAny (model prog w) A.in1.in1 (call (.ref f) [.ref x]) (PySem.W.BoolBack fun b => Q (.bool b)) E s) : wpAny (model prog w) A (call (.type "bool") [.ref x]) Q E s := by
  have fin : wpAny (model prog w) A.in1.in1 (truthy (.ref x)) (fun b s1 => Q (.bool b) s1) E s := by
    unfold truthy
    refine wpAny_bind (m := callSpecial? (.ref x) (Str.ofString "__bool__"))
      (PySem.W.special_fn Xk J hs (beq_iff_eq.mp hf) (wpAny_mono h (fun r s1 z => ?_) fun _ _ y => y))
    cases r <;> first | exact z.elim | exact wpAny_pure z
  refine callType_codes (T := "bool") (Bi := Builtin.«object.__init__») (Q₁ := fun r s1 => ∃ b, r = .bool b ∧ Q r s1)
    PySem.F.called_bool (PySem.F.typeCall_bool_1 _) PySem.F.entry_object_init ?_ (fun obj s1 z => ?_)
  · refine codeAny_of_tree ?_
    show wpAny _ A.in1.in1
      (do checkBuiltinCall "bool.__new__" ⟨[.type "bool", .ref x], []⟩; again (.builtin "bool.__new__" ⟨[.type "bool", .ref x], []⟩)) _ _ s
    have pl : plainId "bool.__new__" = true := by decide +kernel
    refine wpAny_bind (wpAny_of_eq (PySem.F.newCall_bool_1 _)
      (wpAny_pure ⟨plainId_quiet pl _, codeAny_builtin PySem.F.entry_bool_new ?_⟩))
    rw [Around.under_plainId pl]
    unfold Builtin.«bool.__new__»
    have t1 : PySem.W.Looks (model prog w) s.heap (isType (.type "bool")) true := PySem.W.Looks.of_pure rfl
    refine wpAny_bind (t1.here ?_)
    have t2 : PySem.W.Looks (model prog w) s.heap (isSubtype (.type "bool") (.type "bool")) true := PySem.W.Looks.of_pure F.conv_sub_bool
    simp only [Bool.not_true, Bool.false_eq_true, if_false]
    refine wpAny_bind (t2.here ?_)
    simp only [Bool.not_true, Bool.false_eq_true, if_false]
    refine wpAny_bind (wpAny_pure ?_)
    exact wpAny_bind (wpAny_mono fin (fun c s1 z => wpAny_pure ⟨_, rfl, z⟩) fun _ _ z => z)
  · obtain ⟨b, rfl, q⟩ := z
    exact ⟨PySem.typeIs_bool _ _, PySem.F.args_object_init_2 _ _,
      object_init_meets PySem.F.called_bool.init.lookup PySem.F.called_bool.made (by decide) prog w A.in1 _ s1 ⟨PySem.typeIs_bool _ _, rfl, q⟩⟩
end
section
variable {X : Cx} {CX : CXT} {n : Nat} {f C : Addr} {fd : FuncData} {ps : List Str} {sp : Sp} {E : XK}
theorem str_own (F : FnOk X.prog X.w X.K X.mg X.base CX n f fd ps sp) (hr : Room (n + 2) X.A) (M : Meth X.K C "__str__" f) (hb : Binds X.K fd ps []) (hx : Passes CX X E) :
    CallR X (.type "str") (fun xs H Q => ∃ a dx fs, xs = [.ref a] ∧ H a = some (.ins C dx fs) ∧ sp [.ref a] H (fun v H' => (∃ t, v = .str t) ∧ Q v H') E) := by
  intro pins s σ H xs us Q I r hq
  obtain ⟨a, dx, fs, rfl, ha, q⟩ := hq
  obtain ⟨u, rfl, ru⟩ := vals1 r
  cases ru
  obtain ⟨od, J⟩ := inst_at I ha
  refine str_call hr.in1.in1.units0 I.kIn J M.at_ M.fn ?_
  have e0 : Env0 X.prog X.w X.K X.mg X.base X.A.in1.in1 X.stack s H := I.env0.in1.in1
  have hl := F.len _ _ _ _ q
  refine wpAny_call (codeAny_mono (F.run X.A.in1.in1 X.stack s H ⟨[.ref a], []⟩ [.ref a] [.ref a] _ E hr.in1.in1 e0 (by
    have := hb s [.ref a] I.kIn (by simpa using hl)
    simpa using this) (.cons rfl .nil) q) fun r s' hq => ?_)
  cases r with
  | error e => exact hx pins σ H s e s' I hq
  | ok fl =>
    cases fl with
    | ret w =>
      obtain ⟨z, H', I', rz, ⟨t, ez⟩, q'⟩ := I.after hq
      subst ez
      obtain ⟨tk, rfl⟩ := rz
      exact ⟨.str t, H', I', ⟨_, rfl⟩, q'⟩
    | next => exact False.elim hq
    | brk => exact False.elim hq
    | cont => exact False.elim hq
theorem bool_own (F : FnOk X.prog X.w X.K X.mg X.base CX n f fd ps sp) (hr : Room (n + 2) X.A) (M : Meth X.K C "__bool__" f) (hb : Binds X.K fd ps []) (hx : Passes CX X E) :
    CallR X (.type "bool") (fun xs H Q => ∃ a dx fs, xs = [.ref a] ∧ H a = some (.ins C dx fs) ∧ sp [.ref a] H (fun v H' => (∃ t, v = .bl t) ∧ Q v H') E) := by
  intro pins s σ H xs us Q I r hq
  obtain ⟨a, dx, fs, rfl, ha, q⟩ := hq
  obtain ⟨u, rfl, ru⟩ := vals1 r
  cases ru
  obtain ⟨od, J⟩ := inst_at I ha
  refine bool_call I.kIn J M.at_ M.fn ?_
  have e0 : Env0 X.prog X.w X.K X.mg X.base X.A.in1.in1 X.stack s H := I.env0.in1.in1
  have hl := F.len _ _ _ _ q
  refine wpAny_call (codeAny_mono (F.run X.A.in1.in1 X.stack s H ⟨[.ref a], []⟩ [.ref a] [.ref a] _ E hr.in1.in1 e0 (by
    have := hb s [.ref a] I.kIn (by simpa using hl)
    simpa using this) (.cons rfl .nil) q) fun r s' hq => ?_)
  cases r with
  | error e => exact hx pins σ H s e s' I hq
  | ok fl =>
    cases fl with
    | ret w =>
      obtain ⟨z, H', I', rz, ⟨t, ez⟩, q'⟩ := I.after hq
      subst ez
      cases rz
      exact ⟨.bl t, H', I', rfl, q'⟩
    | next => exact False.elim hq
    | brk => exact False.elim hq
    | cont => exact False.elim hq
end
section
variable {X : Cx} {CX : CXT} {k : Nat} {f C g p : Addr} {fd : FuncData} {ps ks : List Str} {sp : Sp} {E : XK} {m : Str} {o : Expr} {mc : Value} {kws : List Keyword} {apos pos : Pos} {ta : TE} {tk : TA} {pl : Sem Bool}
def tSMethK (C : Addr) (sp : Sp) (E : XK) (gV : List V → List V) (ta : TE) (t : TA) : TE := fun σ H Q => ta σ H fun x H1 => x = .ref C ∧ t σ H1 fun zs H2 => sp (gV zs) H2 Q E
/-- C.m(k = e, ..), m a staticmethod, by keywords alone -/
theorem pe_smethK {gs : List Value → List Value → List Value} {gV : List V → List V → List V} (he : PE X o ta) (r : ClX.CRead X.K C mc) (c : SMet X.K C mc m p g) (F : FnOk X.prog X.w X.K X.mg X.base CX k g fd ps sp) (hr : Room k X.A) (hb : KBinds X.K fd ps ks gs gV) (hx : Passes CX X E) (hkw : PK X kws tk)
    (hall : (backToKw pos (keywordEach kws X.env)).all (·.1.isSome) = true := by rfl) (hks : (backToKw pos (keywordEach kws X.env)).filterMap (·.1) = ks := by rfl)
    (hpl : ((backTo pos (starEach [] X.env)).any (·.1) || (backToKw pos (keywordEach kws X.env)).any (·.1.isNone)) = false := by rfl)
    (ht : eval (.Call (.Attribute o m apos) [] kws pos) X.env = (do
      let ov ← eval o X.env
      standAt apos.atName
      let (f, first) ← holding [ov] (getMethod ov m pl)
      callWith pos f first (backTo pos (starEach [] X.env)) (backToKw pos (keywordEach kws X.env))) := by rfl) :
    PE X (.Call (.Attribute o m apos) [] kws pos) (tSMethK C sp E (gV []) ta tk) := by
  refine ⟨fun pins s σ H Q I h => ?_⟩
  refine PySem.W.methodCall_KW (pl := pl) (thn (he.run pins s σ H _ I h) fun u s1 ⟨x, H1, I1, rx, ex, q⟩ => ?_) ht
  subst ex
  obtain rfl : u = Value.ref C := rx
  refine PySem.W.method_cls I1.kIn r.ga (getsmet_ok I1 r c fun s2 I2 => ?_)
  refine PySem.W.callWith_KW0 (first := []) (h₀ := X.base) I.ok.mod.kin c.kp hall (thn (hkw.run pos pins s2 σ H1 _ I2 q) fun ws s3 ⟨zs, H2, I3, rz, q2⟩ => ⟨I3.kIn, ?_⟩) hpl
  rw [hks]
  exact run_fnk (us := []) (vs := []) F hr hb hx I3 .nil rz q2
end
section
variable {X : Cx} {CX : CXT} {k n i : Nat} {f C g p : Addr} {fd : FuncData} {ps ks : List Str} {sp : Sp} {dvs : List V} {ds : List Value} {E : XK} {x m : Str} {o e : Expr} {es : List Expr} {mc : Value} {kws : List Keyword} {np apos pos : Pos} {ta : TE} {t tk : TA} {pl : Sem Bool}
/-- C(k = e, ..), by keywords alone -/
theorem pe_makeK0 {gs : List Value → List Value → List Value} {gV : List V → List V → List V} (M : Mk X.K C f) (F : FnOk X.prog X.w X.K X.mg X.base CX k f fd ps sp) (hr : Room (k + 1) X.A) (hg : Gl X x) (hm : X.mg x = some (.ref C)) (hb : KBn X.K fd ps 1 ks gs gV) (hx : Passes CX X E) (hkw : PK X kws tk)
    (hall : (backToKw pos (keywordEach kws X.env)).all (·.1.isSome) = true := by rfl) (hks : (backToKw pos (keywordEach kws X.env)).filterMap (·.1) = ks := by rfl)
    (hdb : (x == ("__debug__" : Str)) = false := by decide)
    (hpl : ((backTo pos (starEach [] X.env)).any (·.1) || (backToKw pos (keywordEach kws X.env)).any (·.1.isNone)) = false := by rfl) :
    PE X (.Call (.Name x np) [] kws pos) (tMakeN C 0 ks.length sp gV E tNil tk) := by
  refine ⟨fun pins s σ H Q I h => ?_⟩
  refine wpAny_Call_Name_kw (ld_glob I hg hm ?_ hdb)
  refine PySem.W.callWith_KW0 (first := []) (h₀ := X.base) I.ok.mod.kin M.kp hall (thn (hkw.run pos pins s σ H _ I h) fun ws s2 ⟨zs, H2, I2, rz, l1, l2, q2⟩ => ⟨I2.kIn, ?_⟩) hpl
  rw [hks]
  exact run_makeN M F hr hb hx I2 .nil rz l1 l2 q2
/-- cls(e, ..): the slot i holds the class -/
def tMakeL (i : Nat) (C : Addr) (sp : Sp) (dvs : List V) (E : XK) (t : TA) : TE := fun σ H Q => σ[i]? = some (some (.ref C)) ∧ tMake C sp dvs E t σ H Q
theorem pe_makeL (M : Mk X.K C f) (F : FnOk X.prog X.w X.K X.mg X.base CX k f fd ps sp) (hr : Room (k + 1) X.A) (hN : X.N[i]? = some x) (hv : Vis X.env.scope x) (hb : Binds X.K fd ps ds) (hd : Vals dvs ds) (hx : Passes CX X E) (ha : PA X (e :: es) t)
    (hdb : (x == ("__debug__" : Str)) = false := by decide) (hcd : (x == ("__classdict__" : Str)) = false := by decide)
    (he : starEach (e :: es) X.env = (false, eval e X.env) :: starEach es X.env := by rfl) (hpl : (backTo pos (starEach es X.env)).any (·.1) = false := by rfl) : PE X (.Call (.Name x np) (e :: es) [] pos) (tMakeL i C sp dvs E t) := by
  refine ⟨fun pins s σ H Q I h => ?_⟩
  obtain ⟨hs, ht⟩ := h
  refine wpAny_Call_Name_kw (thn ((pe_var (pos := np) hN hv hdb hcd).run pins s σ H (fun v H1 => v = .ref C ∧ H1 = H) I ⟨.ref C, hs, rfl, rfl⟩) fun u s1 ⟨v, H1, I1, r1, q1⟩ => ?_)
  obtain ⟨rfl, rfl⟩ := q1
  cases r1
  refine PySem.W.callWith_K (h₀ := X.base) I.ok.mod.kin M.kp (thn (ha.run pos pins s1 σ _ _ I1 ht) fun us s2 ⟨vs, H2, I2, r, q⟩ => ⟨I2.kIn, ?_⟩) he hpl
  exact run_make M F hr hb hd hx I2 r q
/-- C.m(k = e, ..), m a classmethod, by keywords alone -/
theorem pe_cmethK {gs : List Value → List Value → List Value} {gV : List V → List V → List V} (he : PE X o ta) (r : ClX.CRead X.K C mc) (c : ClX.CMet X.K C mc m p g) (F : FnOk X.prog X.w X.K X.mg X.base CX k g fd ps sp) (hr : Room k X.A) (hb : KBinds X.K fd ps ks gs gV) (hx : Passes CX X E) (hkw : PK X kws tk)
    (hall : (backToKw pos (keywordEach kws X.env)).all (·.1.isSome) = true := by rfl) (hks : (backToKw pos (keywordEach kws X.env)).filterMap (·.1) = ks := by rfl)
    (hpl : ((backTo pos (starEach [] X.env)).any (·.1) || (backToKw pos (keywordEach kws X.env)).any (·.1.isNone)) = false := by rfl)
    (ht : eval (.Call (.Attribute o m apos) [] kws pos) X.env = (do
      let ov ← eval o X.env
      standAt apos.atName
      let (f, first) ← holding [ov] (getMethod ov m pl)
      callWith pos f first (backTo pos (starEach [] X.env)) (backToKw pos (keywordEach kws X.env))) := by rfl) :
    PE X (.Call (.Attribute o m apos) [] kws pos) (tSMethK C sp E (gV [.ref C]) ta tk) := by
  refine ⟨fun pins s σ H Q I h => ?_⟩
  refine PySem.W.methodCall_KW (pl := pl) (thn (he.run pins s σ H _ I h) fun u s1 ⟨x, H1, I1, rx, ex, q⟩ => ?_) ht
  subst ex
  obtain rfl : u = Value.ref C := rx
  refine ClX.getmethcm_ok I1 r c fun s2 I2 => ?_
  refine PySem.W.callWith_of (P := PySem.W.MethP X.K s1.heap.objs.size g (.ref C)) hpl (PySem.W.keeps_M c.fi) (PyProof.Rows.evalArgs_kw2_nil hall (thn (hkw.run pos _ s2 σ H1 _ I2 q) fun ws s3 ⟨zs, H2, I3, rz, q2⟩ => ⟨⟨ClX.pin_at I3, I3.kIn⟩, ?_⟩))
  rw [hks]
  have r2 := hb.rel (vs := [.ref C]) (us := [.ref C]) (.cons rfl .nil) rz
  have hl : (gs [.ref C] ws).length = ps.length := by rw [← r2.length]; exact F.len _ _ _ _ q2
  have z : wpAny (model X.prog X.w) X.A (call (.ref s1.heap.objs.size) [] (ks.zip ws)) (EP X ((s1.heap.objs.size, PySem.W.methodObj (.ref g) (.ref C)) :: pins) σ Q) X.xe s3 := by
    refine wpAny_call (PySem.W.method_call (ClX.pin_at I3) (codeAny_mono (F.run X.A X.stack s3 H2 ⟨[.ref C], ks.zip ws⟩ (gs [.ref C] ws) (gV [.ref C] zs) Q E hr I3.env0 (hb.to s3 [.ref C] ws I3.kIn hl) r2 q2) fun r s' hq => ?_))
    cases r with
    | error e => exact hx _ σ H2 s3 e s' I3 hq
    | ok fl =>
      cases fl with
      | ret u => exact I3.after hq
      | next => exact False.elim hq
      | brk => exact False.elim hq
      | cont => exact False.elim hq
  exact thn z fun _ _ y => ClX.unpinE y
end
end TzOwn
namespace TzTry
open PySem PySem.Spec PyProof.Rows L2
/-! several clauses, each with its name; nothing passes by all of them -/
/-- so many slots there are -/
def atN (X : Cx) (W : WX) : WX := fun k d z J => z.length = X.N.length → W k d z J
/-- behind a clause its name is unbound -/
def gone (i : Nat) (D : Ends) : Ends := ⟨fun z J => D.nx (z.set i none) J, D.rt, fun z J => D.bk (z.set i none) J, fun z J => D.ct (z.set i none) J⟩
abbrev Clause := Value × Nat × (Addr → Value → Option Addr → TS)
def wAll (K : PySem.W.Frag) (D : Ends) : List Clause → WX
  | [] => fun _ _ _ _ => False
  | (c, i, ts) :: l => fun k d z J => ∃ b, PySem.W.exmOne K k c = some b ∧ (b = true → ∀ a, J a = none → ts a k d (gone i D) (z.set i (some (.ref a))) J) ∧ (b = false → wAll K D l k d z J)
inductive Clauses (X : Cx) : List ExceptHandler → List Clause → Prop
  | nil : Clauses X [] []
  | cons {x n : Str} {i : Nat} {c : Value} {ts : Addr → Value → Option Addr → TS} {st : Stmt} {sts : List Stmt} {p1 p2 : Pos} {es : List ExceptHandler} {l : List Clause} (known : Names X x c) (slot : X.N[i]? = some n) (loc : X.env.kindOf n = some .local)
      (suite : ∀ (a : Addr) (o : Obj) (k : Value) (d : Option Addr) (ps : List (Addr × Obj)), Zc k d o → (∃ us, o.data = .fields us) → PSs (X.suite a ((a, o) :: ps)) (st :: sts) (ts a k d)) (more : Clauses X es l) :
      Clauses X (.ExceptHandler (some (.Name x p1)) (some n) (st :: sts) p2 :: es) ((c, i, ts) :: l)
section
variable {X : Cx} {body : List Stmt} {e1 : ExceptHandler} {es : List ExceptHandler} {l : List Clause} {pos : Pos} {tb : WX → TS}
theorem ps_try_all (top : X.stack = X.env :: X.outer) (fr : X.env.frame = some X.env.locals) (nd : X.N.Nodup)
    (tries : ∀ (W : WX) (ps : List (Addr × Obj)) (out : Value → Shared → Prop), Takes (X.tr ps out) W → PassesOwn (model X.prog X.w) X.A X.env out → PSs (X.tr ps out) body (tb W))
    (cl : Clauses X (e1 :: es) l) : PS X (.Try body (e1 :: es) [] [] pos) (fun D z J => tb (atN X (wAll X.K D l)) D z J) := by
  refine ⟨fun pins s z J D I0 want => ?_⟩
  have fine := I0.ok
  have frames : X.A.frames = some (X.env :: X.outer) := by rw [fine.frames, top]
  refine wpAny_Try_except ?_
  have inner := (tries (atN X (wAll X.K D l)) (X.pn ++ pins) (fun u s1 => wpAny (model X.prog X.w) X.A (noteFrame u X.env) (fun _ s2 => wpAny (model X.prog X.w) X.A (setFlight u none) (fun _ s3 => wpAny (model X.prog X.w) X.A (handleBy u X.env (e1 :: es)) (SP X pins D) X.xe s3) X.xe s2) X.xe s1) (fun u s2 caught => ?_) PassesOwn.looking).run [] s z J D (I0.toTry _) want
  · refine wpAny_mono inner (fun fl s1 ends => ?_) fun u s1 q => q
    cases fl with
    | next =>
      obtain ⟨z1, J1, I1, q⟩ := ends
      exact wpAny_execs_nil ⟨z1, J1, I1.ofTry fine, q⟩
    | brk =>
      obtain ⟨z1, J1, I1, q⟩ := ends
      exact ⟨z1, J1, I1.ofTry fine, q⟩
    | cont =>
      obtain ⟨z1, J1, I1, q⟩ := ends
      exact ⟨z1, J1, I1.ofTry fine, q⟩
    | ret v =>
      obtain ⟨y, z1, J1, I1, r, q⟩ := ends
      exact ⟨y, z1, J1, I1.ofTry fine, r, q⟩
  · obtain ⟨a, B, sb, pins1, z1, J1, k, d, rfl, Ib, nb, upto, sky, na, os, bare, w⟩ := caught
    have I1 : L2.Inv X pins z1 J1 sb := Ib.ofTry fine
    rw [top] at sky
    show wpAny (model X.prog X.w) X.A (noteFrame (.ref a) X.env) _ _ _
    refine Sky.land Zc.steady frames fr sky fun h3 fl3 up3 => ?_
    have I3 : L2.Inv X pins z1 J1 { s2 with heap := h3 } := I1.landed nb fl3.1 (upto.trans up3) os bare
    obtain ⟨o3, us3, at3, zc3, dt3⟩ := fl3.there
    have apart : a ∉ frs (X.env :: X.outer) := fun hm => by
      obtain ⟨_, o', e', nf⟩ := fl3.2.2.1.mem hm
      rw [at3] at e'
      cases e'
      exact nf _ dt3
    have aL : a ≠ X.env.locals := fun q => apart (List.mem_filterMap.mpr ⟨X.env, List.mem_cons_self, by rw [fr, q]⟩)
    have aF : a ∉ X.fs := fun hm => by
      obtain ⟨e, he, q⟩ := List.mem_filterMap.mp hm
      exact apart (List.mem_filterMap.mpr ⟨e, List.mem_cons_of_mem _ he, q⟩)
    have S3 := I3.suite at3 dt3 na aL aF
    have each : ∀ {hs : List ExceptHandler} {m : List Clause}, Clauses X hs m → wAll X.K D m k d z1 J1 → wpAny (model X.prog X.w) X.A (handleBy (.ref a) X.env hs) (SP X pins D) X.xe { s2 with heap := h3 } := by
      intro hs m some_
      induction some_ with
      | nil => exact fun w => w.elim
      | @cons x n i c ts st sts p1 p2 hs2 m2 known slot loc suite more ih =>
        intro w
        obtain ⟨b, is, yes, no⟩ := w
        refine wpAny_handleBy_cons (codeAny_handlers_test ?_) (by intro q; cases q)
        have T1 : PySem.W.Looks (model X.prog X.w) h3 (typeOf (.ref a)) k := fun A Q E s4 keeps q => wpAny_typeOf_ref (keeps _ _ at3) (by rw [zc3.1]; exact q)
        have T2 := PySem.W.exm_one (M := model X.prog X.w) I3.kIn T1 is
        have named : ∀ {Q : Value → Shared → Prop} {E : Value → Shared → Prop}, Q c { s2 with heap := h3 } → wpAny (model X.prog X.w) (X.A.mark (some (.ref a))) (eval (.Name x p1) X.env) Q E { s2 with heap := h3 } := fun {Q E} q => by
          obtain ⟨g, dbg, hm | ⟨hm, hv, hn⟩⟩ := known
          · exact ld_glob (X := X.suite a ((a, o3) :: (X.pn ++ pins))) S3 g hm q dbg
          · exact ld_blt (X := X.suite a ((a, o3) :: (X.pn ++ pins))) S3 g hm hv q hn dbg
        refine named (T2.here ?_)
        cases b with
        | false =>
          show wpAny _ X.A (handleBy (.ref a) X.env hs2) _ _ _
          exact ih (no rfl)
        | true =>
          refine codeAny_handlers_suite_as ?_
          refine HandSPX.lands_againZ fl3 fun h4 fl4 up4 => ?_
          have I4 : L2.Inv X pins z1 J1 { s2 with heap := h4 } := I1.landed nb fl4.1 ((upto.trans up3).trans up4) os bare
          obtain ⟨o4, us4, at4, zc4, dt4⟩ := fl4.there
          have S4 := I4.suite at4 dt4 na aL aF
          refine store_ok (X := X.suite a ((a, o4) :: (X.pn ++ pins))) (v := .ref a) S4 nd slot (.inl loc) rfl (fun s5 S5 => ?_) (.inr loc)
          refine wpAny_mono ((suite a o4 k d (X.pn ++ pins) zc4 ⟨_, dt4⟩).run [] s5 _ J1 _ S5 (yes rfl a na)) (fun fl s6 ends => ?_) fun _ _ q => False.elim q
          have unbind : ∀ {z6 : L2.St} {J6 : Hp} {R : Shared → Prop}, L2.Inv (X.suite a ((a, o4) :: (X.pn ++ pins))) [] z6 J6 s6 → (∀ s7, L2.Inv X pins (z6.set i none) J6 s7 → R s7) →
              wpAny (model X.prog X.w) X.A (do bindName X.env n .none; unbindBehindTheSuite X.env n p2) (fun _ s7 => R s7) X.xe s6 := fun {z6 J6 R} S6 q => gone_ok (S6.unsuite fine) nd slot loc q
          cases fl with
          | next =>
            obtain ⟨z6, J6, S6, q⟩ := ends
            exact unbind S6 fun s7 I7 => ⟨_, _, I7, q⟩
          | brk =>
            obtain ⟨z6, J6, S6, q⟩ := ends
            exact unbind S6 fun s7 I7 => ⟨_, _, I7, q⟩
          | cont =>
            obtain ⟨z6, J6, S6, q⟩ := ends
            exact unbind S6 fun s7 I7 => ⟨_, _, I7, q⟩
          | ret v =>
            obtain ⟨y, z6, J6, S6, r, q⟩ := ends
            exact unbind S6 fun s7 I7 => ⟨_, _, _, I7, r, q⟩
    exact each cl (w I1.len)
end
end TzTry
namespace TzF
open PySem PySem.Spec PyProof.Rows L2
/-! what a Bool tells of the written part -/
theorem two {a b : Bool} (h : (a && b) = true) : a = true ∧ b = true := Bool.and_eq_true_iff.mp h
def seven : List String := ["NoneType", "bool", "int", "str", "list", "tuple", "dict"]
/-- an own class, no sub-class of a built-in type, nor the other way round -/
structure Alone (K : PySem.W.Frag) (C : Addr) : Prop where
  ic : PySem.W.isClsIn K C = true
  ty : PySem.W.typeIn K (.ref C) = some (.type "type")
  to : ∀ T ∈ seven, PySem.W.subIn K (.type T) (.ref C) = some false
  of_ : ∀ T ∈ seven, PySem.W.subIn K (.ref C) (.type T) = some false
  ha : PySem.W.findIn K (.ref C) "__class__" = some (some (.builtin "object.__class__"))
  hn : PySem.W.specialIn K (.builtin "object.__class__") "__get__" = some (some (.builtin "getset_descriptor.__get__"))
  ht : PySem.W.takesIn K (.builtin "object.__class__") = some true
  hm : PySem.W.mroIn K C (.type "object") = some true
  sf : PySem.W.selfFirst K C = true
def eqV (a b : Option (Option Value)) : Bool := decide (a = b)
def aloneB (K : PySem.W.Frag) (C : Addr) : Bool := PySem.W.isClsIn K C && (decide (PySem.W.typeIn K (.ref C) = some (.type "type")) && seven.all fun T => decide (PySem.W.subIn K (.type T) (.ref C) = some false) && decide (PySem.W.subIn K (.ref C) (.type T) = some false)) && (eqV (PySem.W.findIn K (.ref C) "__class__") (some (some (.builtin "object.__class__"))) && (eqV (PySem.W.specialIn K (.builtin "object.__class__") "__get__") (some (some (.builtin "getset_descriptor.__get__"))) &&
  (decide (PySem.W.takesIn K (.builtin "object.__class__") = some true) && (decide (PySem.W.mroIn K C (.type "object") = some true) && PySem.W.selfFirst K C))))
theorem alone_ok {K : PySem.W.Frag} {C : Addr} (h : aloneB K C = true) : Alone K C := by
  obtain ⟨h, g⟩ := two h
  obtain ⟨h1, h⟩ := two h
  obtain ⟨h2, h3⟩ := two h
  obtain ⟨g1, g⟩ := two g
  obtain ⟨g2, g⟩ := two g
  obtain ⟨g3, g⟩ := two g
  obtain ⟨g4, g5⟩ := two g
  exact ⟨h1, of_decide_eq_true h2, fun T hT => of_decide_eq_true (two (List.all_eq_true.mp h3 T hT)).1, fun T hT => of_decide_eq_true (two (List.all_eq_true.mp h3 T hT)).2, of_decide_eq_true g1, of_decide_eq_true g2, of_decide_eq_true g3, of_decide_eq_true g4, g5⟩
/-- an error class of the program -/
def errO (C : Addr) : Obj → Bool
  | ⟨.type t, _, .cls cd, sl⟩ => decide (t = "type") && (cd.hasDict && (!cd.hasDel && ((match cd.mro with
    | .ref D :: bm => decide (D = C) && PySem.HandSPX.refsVE bm
    | _ => false) && (match sl.toList with
    | [_, _, _, _, some (.builtin n), _] => decide (n = "ValueError.__new__")
    | _ => false))))
  | _ => false
theorem errO_ok {C : Addr} {o : Obj} (h : errO C o = true) : ∃ nm q N bs bm sn sub ab col dd k0 k1 k2 k3 k5, o = excClassObj nm q C N bs bm true sn sub ab col dd k0 k1 k2 k3 k5 "ValueError.__new__" ∧ PySem.HandSPX.refsVE bm = true := by
  obtain ⟨oc, od, dt, sl⟩ := o
  cases oc with
  | type t =>
    cases dt with
    | cls cd =>
      obtain ⟨nm, bs, mro, ns, qn, hd, sn, sub, ab, col, dl⟩ := cd
      obtain ⟨h1, h⟩ := two h
      obtain ⟨h2, h⟩ := two h
      obtain ⟨h3, h⟩ := two h
      obtain ⟨h4, h5⟩ := two h
      have e1 : t = "type" := of_decide_eq_true h1
      have e2 : hd = true := h2
      have e3 : dl = false := by
        have z : (!dl) = true := h3
        cases dl with
        | false => rfl
        | true => cases z
      subst e1 e2 e3
      cases mro with
      | nil => cases h4
      | cons m bm =>
        cases m with
        | ref D =>
          obtain ⟨h6, h7⟩ := two (show (decide (D = C) && PySem.HandSPX.refsVE bm) = true from h4)
          have e4 : D = C := of_decide_eq_true h6
          subst e4
          obtain ⟨l⟩ := sl
          clear h h1 h2 h3 h4 h6
          simp only at h5
          split at h5
          · rename_i k0 k1 k2 k3 n k5 _ _
            have e5 : n = "ValueError.__new__" := of_decide_eq_true h5
            subst e5
            exact ⟨nm, qn, ns, bs, bm, sn, sub, ab, col, od, k0, k1, k2, k3, k5, rfl, h7⟩
          · cases h5
        | _ => cases h4
    | _ => cases h
  | _ => cases dt <;> cases h
/-- what is wanted of an error class: it can be made and raised, its fields can be read -/
structure Err (K : PySem.W.Frag) (C : Addr) : Prop where
  made : OexC K C
  read : XfC K C
def errB (K : PySem.W.Frag) (C : Addr) : Bool := (match K.lookup C with
  | some o => errO C o
  | none => false) && (xfB K C && (eqV (PySem.W.findIn K (.ref C) "__setattr__") (some (some (.builtin "object.__setattr__"))) && (decide (PySem.W.typeIn K (.ref C) = some (.type "type")) && PySem.W.keepIn K (.ref C))))
theorem err_ok {K : PySem.W.Frag} {C : Addr} (h : errB K C = true) : Err K C := by
  obtain ⟨h1, h⟩ := two h
  obtain ⟨h2, h⟩ := two h
  obtain ⟨h3, h⟩ := two h
  obtain ⟨h4, h5⟩ := two h
  have X := xfB_ok h2
  cases q : K.lookup C with
  | none =>
    rw [q] at h1
    cases h1
  | some o =>
    rw [q] at h1
    obtain ⟨nm, qn, N, bs, bm, sn, sub, ab, col, dd, k0, k1, k2, k3, k5, e, hb⟩ := errO_ok h1
    exact ⟨⟨⟨nm, qn, N, bs, bm, sn, sub, ab, col, dd, k0, k1, k2, k3, k5, by rw [q, e], hb⟩, of_decide_eq_true h3, X.exC, of_decide_eq_true h4, h5⟩, X⟩
/-- operators: the seven types' own and reflected methods are known, whatever they are -/
def knownB (K : PySem.W.Frag) (nm : Str) : Bool := seven.all fun T => (PySem.W.findIn K (.type T) nm).isSome
theorem known_ok {K : PySem.W.Frag} {nm : Str} (h : knownB K nm = true) {T : String} (hT : T ∈ seven) : ∃ fo, PySem.W.findIn K (.type T) nm = some fo := Option.isSome_iff_exists.mp (List.all_eq_true.mp h T hT)
/-! ### things of all sorts -/
inductive Tag where
  | non | bl | int | str | lst | tup | dic | own
  deriving DecidableEq
def Tag.nm : Tag → String
  | .non => "NoneType" | .bl => "bool" | .int => "int" | .str => "str" | .lst => "list" | .tup => "tuple" | .dic => "dict" | .own => ""
def Tag.ty (C : Addr) : Tag → Value
  | .own => .ref C
  | g => .type g.nm
/-- isinstance(x, T) by the tag -/
def Tag.is (T : String) : Tag → Bool
  | .own => false
  | .bl => decide (T = "bool") || decide (T = "int")
  | g => decide (g.nm = T)
theorem Tag.mem {g : Tag} (h : g ≠ .own) : g.nm ∈ seven := by
  cases g <;> first | exact absurd rfl h | decide
theorem kitB_tag {g : Tag} (h : g ≠ .own) {T : String} (hT : T ∈ seven) : kitB g.nm T = some (g.is T) := by
  have key : ∀ g : Tag, g ≠ .own → ∀ T ∈ seven, kitB g.nm T = some (g.is T) := by
    intro g h
    cases g with
    | own => exact absurd rfl h
    | _ => decide +kernel
  exact key g h T hT
theorem kit_cls {K : PySem.W.Frag} {C : Addr} (A : Alone K C) {T : String} (hT : T ∈ seven) : PySem.W.kitOne K (.type T) (.ref C) = some false := by
  have ne : ¬ (Value.type T == Value.ref C) = true := fun q => by cases beq_iff_eq.mp q
  unfold PySem.W.kitOne
  rw [if_neg ne]
  unfold PySem.W.kitCls
  have hs : (PySem.W.clsIn K C).isSome = true := A.ic
  dsimp only
  rw [A.ty, hs, A.to T hT]
  rfl
theorem kit_own {K : PySem.W.Frag} {C : Addr} (A : Alone K C) {T : String} (hT : T ∈ seven) : PySem.W.kitOne K (.ref C) (.type T) = some false := by
  have ne : ¬ (Value.ref C == Value.type T) = true := fun q => by cases beq_iff_eq.mp q
  have hm : PySem.W.kitMeta T = true := by
    have key : ∀ T ∈ seven, PySem.W.kitMeta T = true := by decide +kernel
    exact key T hT
  unfold PySem.W.kitOne
  rw [if_neg ne]
  show (if PySem.W.kitMeta T = true then PySem.W.subIn K (.ref C) (.type T) else none) = some false
  rw [if_pos hm]
  exact A.of_ T hT
theorem Tag.kit {K : PySem.W.Frag} {C : Addr} (A : Alone K C) (g : Tag) {T : String} (hT : T ∈ seven) : PySem.W.kitOne K (g.ty C) (.type T) = some (g.is T) := by
  by_cases h : g = .own
  · subst h
    exact kit_own A hT
  · have e : g.ty C = .type g.nm := by cases g <;> first | rfl | exact absurd rfl h
    rw [e]
    exact kit_ty (kitB_tag h hT)
theorem Tag.kitC {K : PySem.W.Frag} {C : Addr} (A : Alone K C) (g : Tag) : PySem.W.kitOne K (g.ty C) (.ref C) = some (decide (g = .own)) := by
  by_cases h : g = .own
  · subst h
    show PySem.W.kitOne K (.ref C) (.ref C) = _
    unfold PySem.W.kitOne
    rw [if_pos (beq_self_eq_true _)]
    rfl
  · have e : g.ty C = .type g.nm := by cases g <;> first | rfl | exact absurd rfl h
    rw [e, decide_eq_false h]
    exact kit_cls A (Tag.mem h)
/-- a number as a class value -/
def cvalB (K : PySem.W.Frag) (C : Addr) (x : Str) (n : Int) : Bool := match PySem.W.findCls K (.ref C) (.type "type") x with
  | some (.val (.int m _)) => decide (m = n)
  | _ => false
theorem cval_ok {K : PySem.W.Frag} {C : Addr} {x : Str} {n : Int} (h : cvalB K C x n = true) : ∃ t : Tok, ClX.CVal K C (.type "type") x (.int n) (.int n t) := by
  unfold cvalB at h
  split at h
  · rename_i m t e
    have e2 : m = n := of_decide_eq_true h
    subst e2
    exact ⟨t, e, ⟨_, rfl⟩⟩
  · cases h
theorem fun_of_D {K : PySem.W.Frag} {x qual : Str} {st : Stmt} {f : Addr} {fd : FuncData} (F : FunD K x qual (defArgs st) (defBody st) (defScope st) [] [] f fd) : Fun K x qual st f fd := by
  obtain ⟨oc, od, dV, kV, doc, pm, an, cdv, ct, osl, e, lk, code, df, _⟩ := F.ex
  rcases df with ⟨_, rfl⟩ | ⟨n, _⟩
  · exact ⟨⟨oc, od, kV, doc, pm, an, cdv, ct, osl, e, lk, code⟩, F.kp⟩
  · exact absurd rfl n
/-! ### static and class methods: their records, their defs -/
def recA (K : PySem.W.Frag) (p : Str × Str) : Addr := match PySem.W.findIn K (.ref (He.ga K p.1)) p.2 with
  | some (some (.ref a)) => a
  | _ => 0
def defA (K : PySem.W.Frag) (knd : String) (p : Str × Str) : Addr := match PySem.W.recIn K (recA K p) knd with
  | some (.ref g :: _) => g
  | _ => 0
def recB (K : PySem.W.Frag) (knd : String) (p : Str × Str) : Bool := (match PySem.W.findCls K (.ref (He.ga K p.1)) (.type "type") p.2 with
  | some (.get (.builtin b) (.ref r) .none (.ref C)) => decide (b = knd ++ ".__get__") && (decide (r = recA K p) && decide (C = He.ga K p.1))
  | _ => false) && ((match PySem.W.recIn K (recA K p) knd with
  | some (.ref _ :: _) => true
  | _ => false) && PySem.W.fnIn K (defA K knd p))
theorem recB_ok {K : PySem.W.Frag} {knd : String} {p : Str × Str} (h : recB K knd p = true) : PySem.W.findCls K (.ref (He.ga K p.1)) (.type "type") p.2 = some (.get (.builtin (knd ++ ".__get__")) (.ref (recA K p)) .none (.ref (He.ga K p.1))) ∧
    (∃ rest, PySem.W.recIn K (recA K p) knd = some (.ref (defA K knd p) :: rest)) ∧ PySem.W.fnIn K (defA K knd p) = true := by
  obtain ⟨h1, h⟩ := two h
  obtain ⟨h2, h3⟩ := two h
  refine ⟨?_, ?_, h3⟩
  · split at h1
    · rename_i b r C e
      obtain ⟨g1, g⟩ := two h1
      obtain ⟨g2, g3⟩ := two g
      rw [e, of_decide_eq_true g1, of_decide_eq_true g2, of_decide_eq_true g3]
    · cases h1
  · split at h2
    · rename_i g rest e
      refine ⟨rest, ?_⟩
      have eg : defA K knd p = g := by
        unfold defA
        rw [e]
      rw [eg, e]
    · cases h2
open He in
def valA (K : PySem.W.Frag) (a : Addr) : FnW := match K.lookup a with
  | some ⟨_, _, .func fd, _⟩ => some (fd.name, fd.qualname, fd.params, fd.body, fd.scope, fd.globals, fd.closure, fd.builtins)
  | _ => none
def noneB : Value → Bool
  | .none => true
  | _ => false
def okA (K : PySem.W.Frag) (a : Addr) (q : Str) : Bool := PySem.W.keepIn K (.ref a) && (match K.lookup a with
  | some ⟨_, _, .func fd, _⟩ => PySem.W.codeIn K fd.code q && noneB fd.defaults
  | _ => false)
open He in
theorem fun_at {K : PySem.W.Frag} {a : Addr} {x q : Str} {st : Stmt} (e : valA K a = some (x, q, defArgs st, .stmts (defBody st), defScope st, mainGlobals, [], builtinsNs)) (c : okA K a q = true) : ∃ fd, Fun K x q st a fd := by
  obtain ⟨kp, c2⟩ := two c
  unfold valA at e
  cases z : K.lookup a with
  | none =>
    rw [z] at c2
    cases c2
  | some o =>
    obtain ⟨oc, od, dt, osl⟩ := o
    rw [z] at c2 e
    cases dt with
    | func fd =>
      obtain ⟨n1, n2, n3, n4, n5, n6, n7, n8, n9, n10, n11, n12, n13, n14, n15⟩ := fd
      have e2 : (some (n1, n2, n3, n4, n5, n6, n7, n15) : FnW) = some (x, q, defArgs st, .stmts (defBody st), defScope st, mainGlobals, [], builtinsNs) := e
      simp only [Option.some.injEq, Prod.mk.injEq] at e2
      obtain ⟨h1, h2, h3, h4, h5, h6, h7, h8⟩ := e2
      subst h1 h2 h3 h4 h5 h6 h7 h8
      obtain ⟨k1, k2⟩ := two (show (PySem.W.codeIn K n13 n2 && noneB n8) = true from c2)
      cases n8 with
      | none => exact ⟨_, ⟨⟨oc, od, n9, n10, n11, n12, n13, n14, osl, rfl, z, k1⟩, kp⟩⟩
      | _ => cases k2
    | _ => cases c2
/-- one static or class method: its kind, its class and name, its qualified name, where its text stands -/
structure SM where
  knd : String
  at_ : Str × Str
  qual : Str
  st : Stmt
def SM.a (K : PySem.W.Frag) (d : SM) : Addr := defA K d.knd d.at_
open He in
def SM.val (d : SM) : FnW := some (d.at_.2, d.qual, defArgs d.st, .stmts (defBody d.st), defScope d.st, mainGlobals, [], builtinsNs)
def SM.ok (K : PySem.W.Frag) (d : SM) : Bool := recB K d.knd d.at_ && okA K (d.a K) d.qual
/-! ### the head, the statics of the machine beside -/
open He in
structure SaysY (fa : List Fa) (fn : List DefD) (sm : List SM) (tf : List Defn) (ex : PySem.W.Frag → Bool) (h : Heap) (K : PySem.W.Frag) : Prop where
  d : SaysD fa fn K
  v : sm.map (fun d => valA K (d.a K)) = sm.map SM.val
  k : ∀ d ∈ sm, d.ok K = true
  more : ex K = true
  hd : ∀ p ∈ tf, PySem.W.codeHdIn K (cT K p).1 (cT K p).2 = true
  out : ∀ p ∈ tf, K.lookup (cT K p).2 = none
  empty : ∀ p ∈ tf, h.get? (cT K p).2 = some { cls := .none, data := .fields #[] }
open He in
theorem SaysY.sm {fa : List Fa} {fn : List DefD} {sm : List SM} {tf : List Defn} {ex : PySem.W.Frag → Bool} {h : Heap} {K : PySem.W.Frag} (c : SaysY fa fn sm tf ex h K) (i : Nat) {d : SM} (e : sm[i]? = some d := by rfl) :
    (∃ fd, Fun K d.at_.2 d.qual d.st (d.a K) fd) ∧ recB K d.knd d.at_ = true := by
  obtain ⟨h1, h2⟩ := two (c.k d (List.mem_of_getElem? e))
  have e2 : (sm.map fun d => valA K (d.a K))[i]? = (sm.map SM.val)[i]? := by rw [c.v]
  rw [List.getElem?_map, List.getElem?_map, e] at e2
  exact ⟨fun_at (Option.some.inj e2) h2, h1⟩
open He in
def frY (n : Nat) (g : Addr → Option Obj) : PySem.W.Frag := frT g (PySem.cStatics :: asD g n)
open He in
abbrev AlY : Type := (AlD × List FnW) × Bool
open He in
def obsK (fa : List Fa) (fn : List DefD) (sm : List SM) (tf : List Defn) (ex : PySem.W.Frag → Bool) (g : Addr → Option Obj) (K : PySem.W.Frag) : AlY := ((obsD fa fn K, sm.map fun d => valA K (d.a K)), (sm.all fun d => d.ok K) && (ex K && tabsB g tf K))
open He in
def obsY (n : Nat) (fa : List Fa) (fn : List DefD) (sm : List SM) (tf : List Defn) (ex : PySem.W.Frag → Bool) (g : Addr → Option Obj) : AlY := obsK fa fn sm tf ex g (frY n g)
open He in
def valY (fn : List DefD) (sm : List SM) : AlY := ((valD fn, sm.map SM.val), true)
open He in
theorem saysY_of {n : Nat} {fa : List Fa} {fn : List DefD} {sm : List SM} {tf : List Defn} {ex : PySem.W.Frag → Bool} {h : Heap} (e : obsY n fa fn sm tf ex h.get? = valY fn sm) : SaysY fa fn sm tf ex h (frY n h.get?) := by
  have e1 : obsD fa fn (frY n h.get?) = valD fn := congrArg (fun z : AlY => z.1.1) e
  have e2 : sm.map (fun d => valA (frY n h.get?) (d.a (frY n h.get?))) = sm.map SM.val := congrArg (fun z : AlY => z.1.2) e
  obtain ⟨h0, h12⟩ := two (show ((sm.all fun d => d.ok (frY n h.get?)) && (ex (frY n h.get?) && tabsB h.get? tf (frY n h.get?))) = true from congrArg Prod.snd e)
  obtain ⟨h1, h2⟩ := two h12
  have key : ∀ p ∈ tf, PySem.W.codeHdIn (frY n h.get?) (cT (frY n h.get?) p).1 (cT (frY n h.get?) p).2 = true ∧ ∃ o, h.get? (cT (frY n h.get?) p).2 = some o ∧ emptyTab o = true := fun p hp => by
    obtain ⟨h3, h4⟩ := two (List.all_eq_true.mp h2 p hp)
    cases q : h.get? (cT (frY n h.get?) p).2 with
    | none =>
      rw [q] at h4
      cases h4
    | some o =>
      rw [q] at h4
      exact ⟨h3, o, rfl, h4⟩
  refine ⟨e1, e2, fun d hd => List.all_eq_true.mp h0 d hd, h1, fun p hp => (key p hp).1, fun p hp => ?_, fun p hp => ?_⟩
  · obtain ⟨_, o, q, z⟩ := key p hp
    exact frT_none q z
  · obtain ⟨_, o, q, z⟩ := key p hp
    rw [q, emptyTab_eq z]
open He in
def hookY (n : Nat) (fa : List Fa) (fn : List DefD) (sm : List SM) (tf : List Defn) (ex : PySem.W.Frag → Bool) : PySem.W.Hook where
  α := AlY
  obs := fun s => obsY n fa fn sm tf ex s.heap.get?
  val := fun _ => valY fn sm
  says := fun _ h => ∃ K : PySem.W.Frag, K.In h ∧ SaysY fa fn sm tf ex h K
  of := fun _ _ e => ⟨_, frT_in, saysY_of e⟩
  keeps := fun _ _ _ ⟨K, hK, c⟩ k => ⟨K, PySem.W.Frag.In.keeps hK k, ⟨c.d, c.v, c.k, c.more, c.hd, c.out, fun p hp => k _ _ (c.empty p hp)⟩⟩
open He in
theorem obsY_eq {n : Nat} {fa : List Fa} {fn : List DefD} {sm : List SM} {tf : List Defn} {ex : PySem.W.Frag → Bool} {g : Addr → Option Obj} {s : Shared} (h : ∀ a, g a = s.heap.get? a) : obsY n fa fn sm tf ex g = (hookY n fa fn sm tf ex).obs s := by
  have e : g = s.heap.get? := funext h
  rw [e] <;> rfl
end TzF
namespace Tz
open PySem PySem.Spec PyProof.Rows L2
/-! a law with lambdas: tables of code objects, empty at the start; no repr is under way -/
abbrev noCode : Obj := { cls := .none, data := .fields #[] }
section
variable {P : Program} {w : World} {K : PySem.W.Frag} {mg mb : Str → Option Value} {k : Nat} {fa a : Addr} {fd : FuncData} {x : Str} {sp : Sp} {s : Shared} {vs : List Value} {ns : List Int} {cs : List (Addr × Addr)}
theorem law_qt (KX : K.In s.heap) (top : s.heap.Ns mainGlobals mg) (bl : s.heap.Ns builtinsNs mb) (boot : ∀ y : Str, y ≠ "__name__" → mb y = bootBuiltins y) (lim : s.heap.NoLimit) (gens : s.gens = #[])
    (empty : ∀ p ∈ cs, s.heap.get? p.2 = some noCode) (outside : ∀ p ∈ cs, K.lookup p.2 = none) (heads : ∀ p ∈ cs, PySem.W.CodeHd s.heap p.1 p.2)
    (bmod : ∃ (m : Addr) (o : Obj), mg "__builtins__" = some (.ref m) ∧ m ≠ builtinsNs ∧ s.heap.get? m = some o ∧ o.cls = .type "module" ∧ o.dict = some builtinsNs ∧ o.data = .plain)
    (script : s.heap.get? a = some { cls := .type "list", data := .seq vs.toArray }) (isI : IntsAre vs ns) (len : ns.length ≤ sizeLine) (rm : Room k callerA)
    (F : ∀ base : Heap, K.In base → base.Ns mainGlobals mg → (∀ p ∈ cs, LamX.TabB base mg p.1 p.2) → FnQ P w K mg base k fa fd [x] sp) (bind : ∀ (s : Shared) (u : Value), BindsTo s fd ⟨[u], []⟩ [(x, u)])
    (want : ∀ H : Hp, (∀ p ∈ cs, H p.2 = some (.tbl #[])) → SqL K H a (ns.map V.int) → sp [.ref a] H (fun v _ => v = .bl true) E0) :
    codeAny (model P w) callerA (.call (.ref fa) ⟨[.ref a], []⟩) (fun r s' => r = .ok (.ret (.bool true)) ∧ OldK s.heap s'.heap ∧ s'.os = s.os ∧ AllBare s'.gens) s := by
  have tabAt : ∀ b : Addr, b ∈ cs.map (·.2) → s.heap.get? b = some noCode := fun b hb => by
    obtain ⟨p, hp, rfl⟩ := List.mem_map.mp hb
    exact empty p hp
  have notTab : a ∉ cs.map (·.2) := fun z => by
    have q := tabAt a z
    rw [script] at q
    have d := congrArg Obj.data (Option.some.inj q)
    cases d
  have isTab : ∀ p ∈ cs, p.2 ∈ cs.map (·.2) := fun p hp => List.mem_map.mpr ⟨p, hp, rfl⟩
  -- what is told: the tables; the script where the module does not hold it
  obtain ⟨H, tabs, told, seq, fits, apart⟩ : ∃ H : Hp, (∀ p ∈ cs, H p.2 = some (.tbl #[])) ∧ (∀ b u, H b = some u → (b = a ∧ u = .frz { cls := .type "list", data := .seq vs.toArray } (.lst (ns.map V.int))) ∨ (b ∈ cs.map (·.2) ∧ u = .tbl #[])) ∧
      SqL K H a (ns.map V.int) ∧ HOk P w H s.heap ∧ (H a ≠ none → K.lookup a = none) := by
    have h0 : ∃ H0 : Hp, (∀ b, b ∈ cs.map (·.2) → H0 b = some (.tbl #[])) ∧ ∀ b, b ∉ cs.map (·.2) → H0 b = none := ⟨fun b => if b ∈ cs.map (·.2) then some (.tbl #[]) else none, fun b hb => if_pos hb, fun b hb => if_neg hb⟩
    obtain ⟨H0, yes, no⟩ := h0
    have only : ∀ b u, H0 b = some u → b ∈ cs.map (·.2) ∧ u = .tbl #[] := fun b u z => by
      by_cases hb : b ∈ cs.map (·.2)
      · rw [yes b hb] at z
        exact ⟨hb, (Option.some.inj z).symm⟩
      · rw [no b hb] at z
        cases z
    have fit0 : HOk P w H0 s.heap := fun b u z => by
      obtain ⟨hb, rfl⟩ := only b u z
      exact tabAt b hb
    cases lk : K.lookup a with
    | some o =>
      have q := KX a o lk
      rw [script] at q
      cases q
      refine ⟨H0, fun p hp => yes _ (isTab p hp), fun b u z => .inr (only b u z), .inr ⟨_, vs.toArray, _, lk, rfl, rfl, rfl, by rw [List.size_toArray, isI.length]; exact len, by simpa using vals_ints isI⟩, fit0, fun z => absurd (no a notTab) z⟩
    | none =>
      have old : ∀ {b : Addr}, b ∈ cs.map (·.2) → b ≠ a := fun {b} hb q => notTab (q ▸ hb)
      refine ⟨upd H0 a (.frz { cls := .type "list", data := .seq vs.toArray } (.lst (ns.map V.int))), fun p hp => by rw [upd_ne (old (isTab p hp))]; exact yes _ (isTab p hp), fun b u z => ?_, .inl (.inr ⟨_, upd_same⟩), fun b u z => ?_, fun _ => rfl⟩
      · by_cases q : b = a
        · subst q
          rw [upd_same] at z
          exact .inl ⟨rfl, (Option.some.inj z).symm⟩
        · rw [upd_ne q] at z
          exact .inr (only b u z)
      · by_cases q : b = a
        · subst q
          rw [upd_same] at z
          cases z
          exact ⟨script, by rw [List.length_map]; exact len, vs, _, vals_ints isI, script⟩
        · rw [upd_ne q] at z
          obtain ⟨hb, rfl⟩ := only b u z
          exact tabAt b hb
  -- other things are not told
  have free : ∀ {b : Addr} {o : Obj}, s.heap.get? b = some o → (∀ us n, o.data ≠ .seq us n) → o.data ≠ .fields #[] → H b = none := fun {b o} e h1 h2 => by
    cases q : H b with
    | none => rfl
    | some u =>
      rcases told b u q with ⟨rfl, _⟩ | ⟨hb, _⟩
      · rw [script] at e
        cases e
        exact absurd rfl (h1 _ _)
      · rw [tabAt b hb] at e
        cases e
        exact absurd rfl h2
  have freeD : ∀ {b : Addr} {o : Obj} {es : Array DictEntry} {ep : Nat}, s.heap.get? b = some o → o.data = .dict es ep → H b = none := fun {b o es ep} e d => free e (fun us n z => by rw [d] at z; cases z) fun z => by rw [d] at z; cases z
  have ns0 : ∀ {b : Addr} {m : Str → Option Value}, s.heap.Ns b m → (hidT s.heap H).Ns b m := fun {b m} ⟨o, es, ep, e, d, r⟩ => ⟨o, es, ep, hidT_get e (freeD e d), d, r⟩
  have k0 : K.In (hidT s.heap H) := fun b o e => hidT_get (KX b o e) (by
    cases q : H b with
    | none => rfl
    | some u =>
      rcases told b u q with ⟨rfl, _⟩ | ⟨hb, _⟩
      · have n := apart (by rw [q]; exact fun z => nomatch z)
        rw [e] at n
        cases n
      · obtain ⟨p, hp, rfl⟩ := List.mem_map.mp hb
        rw [outside p hp] at e
        cases e)
  have md : Mod K mg (hidT s.heap H) := ⟨k0, ns0 top, ⟨mb, ns0 bl, boot⟩, lim.elim fun mc z => ⟨mc, ns0 z.1, z.2⟩⟩
  have TB : ∀ p ∈ cs, LamX.TabB (hidT s.heap H) mg p.1 p.2 := fun p hp => by
    have ep := empty p hp
    obtain ⟨og, es, pos, eg, dg, _⟩ := id top
    refine ⟨?_, ?_, fun z => ?_⟩
    · obtain ⟨o, us, q1, q2, q3, q4, q5, q6, q7, e1, e2, e3, e4, rest⟩ := heads p hp
      refine ⟨o, us, q1, q2, q3, q4, q5, q6, q7, hidT_get e1 (free e1 (fun vs n z => ?_) fun z => ?_), e2, e3, e4, rest⟩
      · rw [e3] at z
        cases z
      · rw [e3] at z
        cases z
        simp at e4
    · obtain ⟨m, o, b1, b2, b3, b4, b5, b6⟩ := bmod
      refine ⟨m, o, b1, b2, fun q => ?_, fun q => ?_, hidT_get b3 (free b3 (fun us n z => ?_) fun z => ?_), b4, b5, b6⟩
      · rw [q, eg] at b3
        cases b3
        rw [dg] at b6
        cases b6
      · rw [q, ep] at b3
        cases b3
        cases b6
      · rw [b6] at z
        cases z
      · rw [b6] at z
        cases z
    · rw [z, ep] at eg
      cases eg
      cases dg
  have en : Env0 P w K mg (hidT s.heap H) callerA [] s H := ⟨rfl, md, fun _ _ e => of_hidT e, Nat.le_of_eq (hidT_size _ _), trivial, fun b z => absurd (show b ∈ ([] : List Addr) from z) List.not_mem_nil, fits, .of_eq gens⟩
  refine codeAny_mono ((F _ k0 (ns0 top) TB).run callerA [] s H ⟨[.ref a], []⟩ [.ref a] [.ref a] _ rfl rm en (bind s (.ref a)) (.cons rfl .nil) (want H tabs seq)) fun r s2 z => ?_
  cases r with
  | error e => exact (show False from z).elim
  | ok fl =>
    cases fl with
    | next => exact (show False from z).elim
    | brk => exact (show False from z).elim
    | cont => exact (show False from z).elim
    | ret u =>
      obtain ⟨v, H2, os, bare, un, ok2, rv, q⟩ := z
      subst q
      cases (show u = Value.bool true from rv)
      have grows : ∀ b, b ∈ cs.map (·.2) → ∃ (p : Addr × Addr) (more : Array Value), p ∈ cs ∧ p.2 = b ∧ s2.heap.get? b = some { cls := .none, data := .fields more } := fun b hb => by
        obtain ⟨p, hp, rfl⟩ := List.mem_map.mp hb
        obtain ⟨more, z⟩ := un.tbls p.2 #[] (tabs p hp)
        exact ⟨p, _, hp, rfl, ok2 p.2 _ z⟩
      have stays : ∀ b o, b ∉ cs.map (·.2) → s.heap.get? b = some o → s2.heap.get? b = some o := fun b o nb e => by
        cases q : H b with
        | none => exact un.keep b o e q (fun z => absurd (show b ∈ ([] : List Addr) from z) List.not_mem_nil) List.not_mem_nil
        | some u =>
          rcases told b u q with ⟨rfl, rfl⟩ | ⟨hb, _⟩
          · rw [script] at e
            cases e
            exact (ok2 _ _ (un.frzs _ _ _ q)).1
          · exact absurd hb nb
      refine ⟨rfl, ⟨fun b o e => ?_, fun b o e => ?_⟩, os, bare⟩
      · by_cases hb : b ∈ cs.map (·.2)
        · obtain ⟨p, more, hp, rfl, hm⟩ := grows b hb
          rw [empty p hp] at e
          cases e
          exact .inr (.inl ⟨((heads p hp).tab (empty p hp)).isCodeTable, rfl, #[], more, rfl, by rw [Array.empty_append]; exact hm⟩)
        · exact .inl (stays b o hb e)
      · by_cases hb : b ∈ cs.map (·.2)
        · obtain ⟨p, more, hp, rfl, hm⟩ := grows b hb
          exact ⟨_, hm⟩
        · exact ⟨o, stays b o hb e⟩
/-- what the head tells of the law -/
def LawQ (l : PySem.W.OpenLaw) (w : World) (K : PySem.W.Frag) (k n : Nat) (x : Str) (mg : Str → Option Value) (fa : Addr) (h : Heap) : Prop :=
  ∃ (fd : FuncData) (cs : List (Addr × Addr)) (sp : Sp), (∀ p ∈ cs, h.get? p.2 = some noCode) ∧ (∀ p ∈ cs, K.lookup p.2 = none) ∧ (∀ p ∈ cs, PySem.W.CodeHd h p.1 p.2) ∧ (∀ (s : Shared) (u : Value), BindsTo s fd ⟨[u], []⟩ [(x, u)]) ∧
    (∀ (H : Hp) (a : Addr) (ns : List Int), ns.length ≤ n → (∀ p ∈ cs, H p.2 = some (.tbl #[])) → SqL K H a (ns.map V.int) → sp [.ref a] H (fun v _ => v = .bl true) E0) ∧
    ∀ base : Heap, K.In base → base.Ns mainGlobals mg → (∀ p ∈ cs, LamX.TabB base mg p.1 p.2) → FnQ l.prog w K mg base k fa fd [x] sp
theorem walk_qt {l : PySem.W.OpenLaw} {n k : Nat} {q : Program} {loose : List Str} {XP : (Str → Option Value) → Heap → Prop} {YP : World → Heap → Prop} {d : DefRec} {x : Str}
    (most : l.most = some n) (small : n ≤ sizeLine) (nodf : d.params.defaults = []) (rm : Room k callerA)
    (F : ∀ (w : World) (mg : Str → Option Value) (fa : Addr) (h : Heap), YP w h → h.Ns mainGlobals mg → mg d.name = some (.ref fa) → ∃ K : PySem.W.Frag, K.In h ∧ LawQ l w K k n x mg fa h) :
    PySem.W.WalkO q loose XP YP l.row.toRowW d [] (fun f vs => PySem.call f vs) := by
  refine Att.attach_callB most nodf fun w s0 s1 mg mb fa o pm cd doc a vs ns G Y _ _ _ hmg script isI few _ gens => ?_
  obtain ⟨K, KX, fd, cs, sp, e1, e2, e3, bd, want, FQ⟩ := F w mg fa _ Y G.T.g hmg
  exact law_qt KX G.T.g G.T.b G.T.builtins G.T.nolimit gens e1 e2 e3 G.T.bmain script isI (Nat.le_trans few small) rm FQ bd fun H tb seq => want H a ns few tb seq
end
theorem fnq_one {P : Program} {w : World} {K : PySem.W.Frag} {mg : Str → Option Value} {base : Heap} {k : Nat} {f : Addr} {ps N : List Str} {sp : Sp} {x qual : Str} {st : Stmt} {oc kV doc pm cdv ct : Value} {od an : Option Addr} {osl : Array (Option Value)}
    (lk : K.lookup f = some ⟨oc, od, .func (PySem.W.fnOf x qual (defArgs st) (defBody st) (defScope st) .none kV doc pm an cdv ct), osl⟩) (code : PySem.W.codeIn K cdv qual = true) (S : FnScope N ps (defScope st)) (len : ∀ vs H Q E, sp vs H Q E → vs.length = ps.length)
    (body : ∀ (A : Around) (out : List Env) (s : Shared) (H : Hp) (vs : List V) (Q : VK), A.guards = some [] → Room k (A.deeper (envOfC qual (defScope st) s.heap.objs.size f cdv)) → sp vs H Q E0 →
      ∃ t, PSs (cxOf CX0 P w K mg base N qual (defScope st) f cdv A out s H E0).nox (defBody st) t ∧ t { nx := fun _ J => Q .non J, rt := Q } (start N vs) H) : FnQ P w K mg base (k + 1) f (PySem.W.fnOf x qual (defArgs st) (defBody st) (defScope st) .none kV doc pm an cdv ct) ps sp := by
  refine ⟨len, fun A out s H args us vs Q gd rm en bn rel want => ?_⟩
  have width := len _ _ _ _ want
  have inK : K.In s.heap := en.mod.kin.keeps fun b o q => (en.bs b o q).1
  have free : s.heap.NoLimit := en.mod.nolimit.keeps fun b o q => (en.bs b o q).1
  refine codeAny_call_function rm.depth (inK _ _ lk) rfl S.co S.gen rfl (PySem.W.codeRec_of inK code) (bn _ _ _ _ ?_)
  refine wpAny_newFunctionEnv_cells S.kind (fun ⟨n, v⟩ hy => (S.par n (List.of_mem_zip hy).1).elim .inl fun q => .inr ⟨q, PySem.W.cellsFrom_some _ _ _ (.inl q)⟩) fun env he s1 x => ?_
  subst he
  obtain ⟨t, ht, q⟩ := body A out s H vs Q gd (rm.deeper _) want
  have J := inv_start (CX := CX0) (E := E0) S rm.hd en width rel x
  refine ⟨free.keeps x.toInCall.keep, codeAny_func (wpAny_mono (ht.nox.run [] s1 (start N vs) H _ J q) (fun fl s2 z => ?_) fun e s2 z => z)⟩
  have done : ∀ {σ : L2.St} {H2 : Hp} {v : V} {u : Value}, L2.Inv (cxOf CX0 P w K mg base N qual (defScope st) f cdv A out s H E0) [] σ H2 s2 → RelV v u → Q v H2 → CE out P w H s Q u s2 :=
    fun {σ H2 v u} I2 rv hv => ⟨v, H2, I2.os, I2.bare, I2.base, I2.hok, rv, hv⟩
  cases fl with
  | ret u =>
    obtain ⟨v, σ, H2, I2, rv, hv⟩ := z
    exact done I2 rv hv
  | next =>
    obtain ⟨σ, H2, I2, hv⟩ := z
    exact done (v := .non) I2 rfl hv
  | brk =>
    obtain ⟨_, _, _, no⟩ := z
    exact no.elim
  | cont =>
    obtain ⟨_, _, _, no⟩ := z
    exact no.elim
/-- a def by its body, nothing under way, its code object known -/
theorem fnqC {P : Program} {w : World} {K : PySem.W.Frag} {mg : Str → Option Value} {base : Heap} {k : Nat} {f c : Addr} {fd : FuncData} {ps N : List Str} {sp : Sp} {x qual : Str} {st : Stmt} (F : Fun K x qual st f fd) (S : FnScope N ps (defScope st))
    (code : ∀ (fd' : FuncData) (oc : Value) (od : Option Addr) (osl : Array (Option Value)), K.lookup f = some ⟨oc, od, .func fd', osl⟩ → PySem.W.codeIn K fd'.code qual = true → fd'.code = .ref c) (len : ∀ vs H Q E, sp vs H Q E → vs.length = ps.length)
    (body : ∀ (A : Around) (out : List Env) (s : Shared) (H : Hp) (vs : List V) (Q : VK), A.guards = some [] → Room k (A.deeper (envOfC qual (defScope st) s.heap.objs.size f (.ref c))) → sp vs H Q E0 →
      ∃ t, PSs (cxOf CX0 P w K mg base N qual (defScope st) f (.ref c) A out s H E0).nox (defBody st) t ∧ t { nx := fun _ J => Q .non J, rt := Q } (start N vs) H) : FnQ P w K mg base (k + 1) f fd ps sp := by
  obtain ⟨oc, od, kV, doc, pm, an, cdv, ct, osl, rfl, lk, ci⟩ := F.ex
  have ec : cdv = .ref c := code _ _ _ _ lk ci
  subst ec
  exact fnq_one lk ci S len body
end Tz
namespace Tz
open PySem PySem.Spec PyProof.Rows L2 TzF TzRepr
/-! ### things of all sorts -/
/-- a thing by its tag: a word, or no word -/
inductive Kd (C : Addr) (H : Hp) : V → Tag → Prop where
  | non : Kd C H .non .non
  | bl (b : Bool) : Kd C H (.bl b) .bl
  | int (i : Int) : Kd C H (.int i) .int
  | str (z : Str) : Kd C H (.str z) .str
  | lst {a : Addr} {xs : List V} (h : H a = some (.lst xs)) : Kd C H (.ref a) .lst
  | tup {a : Addr} {xs : List V} (h : H a = some (.tup xs)) : Kd C H (.ref a) .tup
  | dic {a : Addr} {kvs : List (Key × V)} (h : H a = some (.dK kvs)) : Kd C H (.ref a) .dic
  | own {a : Addr} {w : Nat} {u : Int} (W : WordAt C H a w u) : Kd C H (.ref a) .own
section
variable {K : PySem.W.Frag} {C : Addr} {H H' : Hp} {y : V} {g : Tag}
theorem Kd.step (k : Kd C H y g) (e : ∀ a o, H a = some o → (∀ ps, o ≠ .tbl ps) → y = .ref a → H' a = some o) : Kd C H' y g := by
  cases k with
  | non => exact .non
  | bl b => exact .bl b
  | int i => exact .int i
  | str z => exact .str z
  | lst h => exact .lst (e _ _ h (fun _ z => by cases z) rfl)
  | tup h => exact .tup (e _ _ h (fun _ z => by cases z) rfl)
  | dic h => exact .dic (e _ _ h (fun _ z => by cases z) rfl)
  | own W =>
    obtain ⟨⟨dx, h1⟩, h2, h3, h4, h5⟩ := W
    exact .own ⟨⟨dx, e _ _ h1 (fun _ z => by cases z) rfl⟩, h2, h3, h4, h5⟩
theorem Kd.ex (k : Kd C H y g) (e : Ex H H') : Kd C H' y g := k.step fun a o h _ _ => e a o h
theorem Kd.tyx (A : Alone K C) (cl : Cls K C) (k : Kd C H y g) : TyX K H y (g.ty C) := by
  cases k with
  | non => exact .base .non
  | bl b => exact .base (.bl b)
  | int i => exact .base (.int i)
  | str z => exact .base (.str z)
  | lst h => exact .base (.lst h)
  | tup h => exact .base (.tup h)
  | dic h => exact .base (.dK h)
  | own W =>
    obtain ⟨⟨dx, h1⟩, _⟩ := W
    exact .base (.ins h1 cl A.ha A.hn A.ht A.hm)
theorem Kd.int_of (k : Kd C H y .int) : ∃ n, y = .int n := by
  cases k
  exact ⟨_, rfl⟩
theorem Kd.own_of (k : Kd C H y .own) : ∃ a w u, y = .ref a ∧ WordAt C H a w u := by
  cases k
  exact ⟨_, _, _, rfl, by assumption⟩
/-- isinstance(y, T), T one of the seven | the own class -/
theorem Kd.isi {Q : VK} {T : String} (A : Alone K C) (cl : Cls K C) (k : Kd C H y g) (hT : T ∈ seven) (q : Q (.bl (g.is T)) H) : rIsi K [y, .ty T] H Q :=
  ⟨_, _, _, _, _, rfl, .ty T, k.tyx A cl, g.kit A hT, q⟩
theorem Kd.isiC {Q : VK} (A : Alone K C) (cl : Cls K C) (k : Kd C H y g) (q : Q (.bl (decide (g = .own))) H) : rIsi K [y, .ref C] H Q :=
  ⟨_, _, _, _, _, rfl, .own C, k.tyx A cl, g.kitC A, q⟩
end
/-! ### what stands beside a word of the width w -/
inductive Res where
  | val (v : Int) | unlike (w : Nat) | bad
inductive Side (C : Addr) (H : Hp) (w : Nat) : V → Res → Prop where
  | word {b : Addr} {v : Int} (W : WordAt C H b w v) : Side C H w (.ref b) (.val v)
  | int {n : Int} (h0 : 0 ≤ n) (h1 : n ≤ mw w) : Side C H w (.int n) (.val n)
  | unlike {b : Addr} {w' : Nat} {v : Int} (W : WordAt C H b w' v) (ne : w' ≠ w) : Side C H w (.ref b) (.unlike w')
  | bad {y : V} {g : Tag} (k : Kd C H y g) (ng : g ≠ .own) (no : ∀ n, y = .int n → ¬ (0 ≤ n ∧ n ≤ mw w)) : Side C H w y .bad
section
variable {C : Addr} {H H' : Hp} {w : Nat} {y : V} {r : Res}
theorem Side.step (k : Side C H w y r) (e : ∀ a o, H a = some o → (∀ ps, o ≠ .tbl ps) → y = .ref a → H' a = some o) : Side C H' w y r := by
  cases k with
  | word W =>
    obtain ⟨⟨dx, h1⟩, h2, h3, h4, h5⟩ := W
    exact .word ⟨⟨dx, e _ _ h1 (fun _ z => by cases z) rfl⟩, h2, h3, h4, h5⟩
  | int h0 h1 => exact .int h0 h1
  | unlike W ne =>
    obtain ⟨⟨dx, h1⟩, h2, h3, h4, h5⟩ := W
    exact .unlike ⟨⟨dx, e _ _ h1 (fun _ z => by cases z) rfl⟩, h2, h3, h4, h5⟩ ne
  | bad k ng no => exact .bad (k.step e) ng no
theorem Side.ex (k : Side C H w y r) (e : Ex H H') : Side C H' w y r := k.step fun a o h _ _ => e a o h
theorem Side.kd (k : Side C H w y r) : ∃ g, Kd C H y g := by
  cases k with
  | word W => exact ⟨_, .own W⟩
  | int _ _ => exact ⟨_, .int _⟩
  | unlike W _ => exact ⟨_, .own W⟩
  | bad k _ _ => exact ⟨_, k⟩
theorem Side.val_bd {v : Int} (k : Side C H w y (.val v)) : 0 ≤ v ∧ v ≤ mw w := by
  cases k with
  | word W => exact ⟨W.v0, W.vm⟩
  | int h0 h1 => exact ⟨h0, h1⟩
end
/-! ### errors on their way -/
/-- an error of the class X with these fields leaves -/
def Flies (X : Addr) (fs : List (Str × V)) (H : Hp) (E : XK) : Prop := ∀ d H', Ex H H' → H' d = some (.xd fs) → E (.ref X) (some d) H'
theorem Flies.ex {X : Addr} {fs : List (Str × V)} {H H' : Hp} {E : XK} (f : Flies X fs H E) (e : Ex H H') : Flies X fs H' E := fun d H2 e2 h => f d H2 (e.trans e2) h
/-- by the answer: the value goes on, or an error leaves -/
def Got (B U : Addr) (w : Nat) (y : V) (r : Res) (H : Hp) (E : XK) (q : Int → Prop) : Prop := match r with
  | .val v => q v
  | .unlike w' => Flies U [("other", .int w'), ("one", .int w)] H E
  | .bad => Flies B [("value", y)] H E
/-- __init__ of an error with one field, with two -/
def spErr1 (C : Addr) (f : Str) : Sp := fun vs H Q _ => ∃ a v, vs = [.ref a, v] ∧ H a = some (exo a C none) ∧
  ∀ dx, H dx = none → dx ≠ a → Q .non (upd (upd H dx (exd dx [(f, v)])) a (exo a C (some dx)))
def spErr2 (C : Addr) (f g : Str) : Sp := fun vs H Q _ => ∃ a u v, vs = [.ref a, u, v] ∧ H a = some (exo a C none) ∧
  ∀ dx, H dx = none → dx ≠ a → Q .non (upd (upd (upd H dx (exd dx [(f, u)])) a (exo a C (some dx))) dx (exd dx [(g, v), (f, u)]))
/-- what the making of an error asks -/
def MkErr (C : Addr) (sp : Sp) (vs : List V) (H1 : Hp) (Q : XK) : Prop := vs.length ≤ 1000 ∧ ∀ a, H1 a = none → sp (.ref a :: (vs ++ [])) (upd H1 a (exo a C none))
  (fun v H2 => v = .non ∧ ∃ (d : Addr) (fs : List (Str × V)), H2 a = some (exo a C (some d)) ∧ H2 d = some (exd d fs) ∧ H1 d = none ∧ Q (.ref C) (some d) (upd (del H2 a) d (.xd fs))) (fun _ _ _ => False)
section
variable {C : Addr} {f g : Str} {u v : V} {H1 : Hp} {Q : XK}
theorem err1 (k : Flies C [(f, v)] H1 Q) : MkErr C (spErr1 C f) [v] H1 Q := by
  refine ⟨by show 1 ≤ 1000; decide, fun a na => ⟨a, v, rfl, upd_same, fun dx ndx hne => ⟨rfl, dx, [(f, v)], upd_same, by rw [upd_ne hne, upd_same], ?_, k dx _ (fun b o q => ?_) upd_same⟩⟩⟩
  · rw [upd_ne hne] at ndx
    exact ndx
  · have h1 : b ≠ a := ne_of_none q na
    have h2 : b ≠ dx := fun z => by
      rw [z] at q
      rw [upd_ne hne] at ndx
      rw [ndx] at q
      cases q
    rw [upd_ne h2, del_ne h1, upd_ne h1, upd_ne h2, upd_ne h1]
    exact q
theorem err2 (k : Flies C [(g, v), (f, u)] H1 Q) : MkErr C (spErr2 C f g) [u, v] H1 Q := by
  refine ⟨by show 2 ≤ 1000; decide, fun a na => ⟨a, u, v, rfl, upd_same, fun dx ndx hne => ⟨rfl, dx, [(g, v), (f, u)], by rw [upd_ne hne.symm, upd_same], upd_same, ?_, k dx _ (fun b o q => ?_) upd_same⟩⟩⟩
  · rw [upd_ne hne] at ndx
    exact ndx
  · have h1 : b ≠ a := ne_of_none q na
    have h2 : b ≠ dx := fun z => by
      rw [z] at q
      rw [upd_ne hne] at ndx
      rw [ndx] at q
      cases q
    rw [upd_ne h2, del_ne h1, upd_ne h2, upd_ne h1, upd_ne h2, upd_ne h1]
    exact q
end
/-! ### repr of things -/
/-- the empty dict -/
def RDic : Rpr := fun x t H => ∃ a, x = .ref a ∧ H a = some (.dK []) ∧ t = "{}"
theorem mon_dic : Mon RDic := fun _ _ _ _ e ⟨a, h1, h2, h3⟩ => ⟨a, h1, e _ _ h2, h3⟩
theorem mon_str : Mon RStr := fun _ _ _ _ _ d => d
theorem rpG_dic {X : Cx} {as : List Addr} : RpG X 1 as (fun x t H => RDic x t H ∧ ∀ a ∈ as, x ≠ .ref a) := by
  intro A g pins s σ H x u t b hr hf hg hc I r d hs
  obtain ⟨⟨a, rfl, ha, rfl⟩, na⟩ := d
  cases r
  have off : a ∉ as := fun z => na a z rfl
  obtain ⟨_, hsys, us, kv, o, es, ep, h1, h2, h3, h4⟩ := (show ObjOk X.prog X.w H s.heap a (.dK []) from I.hok a _ ha)
  have e0 : us = [] := List.length_eq_zero_iff.mp (by
    have := Paired.length kv
    simpa using this.symm)
  subst e0
  have e1 : es.toList = [] := by
    have h5 := h4.2.1
    cases q : es.toList with
    | nil => rfl
    | cons y l =>
      rw [q] at h5
      cases h5
  have e2 : dictText [] = ("{}" : Str) := by decide +kernel
  refine wpAny_pyReprUnder_ref (by rw [e2] at *; omega) (wpAny_pyReprObjUnder_dictK (as := as.filter fun _ => false) (h₀ := s.heap) (d := 0) (ps := []) h1 h2.1 h3 hsys (by simp) (by rw [e1]; exact .nil) hg (fun p hp => ?_) (by have := hr.un; have := hr.units0; omega) (fun _ _ q => q) (fun h' v tk hk => ?_) (by rw [e2]; omega))
  · rcases List.mem_cons.mp hp with rfl | z
    · exact hc _ off
    · simp at z
  · rw [e2]
    exact ⟨_, _, rfl, rfl, H, I.kept hk, fun _ _ q => q⟩
/-- a thing that is told without what stands in it | with it; beside p -/
def Flat (C : Addr) : Rpr := fun x t H => RFlat x t H ∨ (RStr x t H ∨ RIns C (WText C) x t H)
def Thg (K : PySem.W.Frag) (C p : Addr) : Rpr := fun x t H => Flat C x t H ∨ ((RDic x t H ∧ ∀ a ∈ [p], x ≠ .ref a) ∨ (RList (Flat C) [p] x t H ∨ RTup K (Flat C) [p] x t H))
theorem mon_Flat {C : Addr} : Mon (Flat C) := mon_flat.or (mon_str.or mon_words)
theorem mon_Thg {K : PySem.W.Frag} {C p : Addr} : Mon (Thg K C p) := mon_Flat.or (Mon.or (fun x t H H' e d => ⟨mon_dic x t H H' e d.1, d.2⟩) ((mon_list mon_Flat).or (mon_tup mon_Flat)))
/-- a thing's text, wherever it will stand -/
def Shown (C : Addr) (H : Hp) (y : V) (t : Str) : Prop := Flat C y t H ∨ (RDic y t H ∨ ((∃ l xs ts, y = .ref l ∧ H l = some (.lst xs) ∧ t = listText ts ∧ Each (Flat C) xs ts H) ∨ ∃ l xs ts, y = .ref l ∧ H l = some (.tup xs) ∧ t = tupleText ts ∧ Each (Flat C) xs ts H))
theorem Shown.ex {C : Addr} {H H' : Hp} {y : V} {t : Str} (s : Shown C H y t) (e : Ex H H') : Shown C H' y t := by
  rcases s with s | s | ⟨l, xs, ts, h1, h2, h3, h4⟩ | ⟨l, xs, ts, h1, h2, h3, h4⟩
  · exact .inl (mon_Flat _ _ _ _ e s)
  · exact .inr (.inl (mon_dic _ _ _ _ e s))
  · exact .inr (.inr (.inl ⟨l, xs, ts, h1, e _ _ h2, h3, h4.mon mon_Flat e⟩))
  · exact .inr (.inr (.inr ⟨l, xs, ts, h1, e _ _ h2, h3, h4.mon mon_Flat e⟩))
theorem Shown.at {K : PySem.W.Frag} {C p : Addr} {H : Hp} {y : V} {t : Str} (s : Shown C H y t) (np : H p = none) : Thg K C p y t H := by
  rcases s with s | ⟨a, h1, h2, h3⟩ | ⟨l, xs, ts, h1, h2, h3, h4⟩ | ⟨l, xs, ts, h1, h2, h3, h4⟩
  · exact .inl s
  · refine .inr (.inl ⟨⟨a, h1, h2, h3⟩, fun b hb z => ?_⟩)
    rw [List.mem_singleton.mp hb, h1] at z
    have e : a = p := by cases z; rfl
    rw [e, np] at h2
    cases h2
  · exact .inr (.inr (.inl ⟨l, xs, ts, h1, fun z => ne_of_none h2 np (List.mem_singleton.mp z), h2, h3, h4⟩))
  · exact .inr (.inr (.inr ⟨l, xs, ts, h1, fun z => ne_of_none h2 np (List.mem_singleton.mp z), .inl (.inl h2), h3, h4⟩))
section
variable {X : Cx} {D : Rpr}
/-- repr(x) of a tuple, told for just this one -/
theorem repr_tupA {n : Nat} {D : Addr → Rpr} (hm : ∀ a, Mon (D a)) (h : ∀ a, RpG X n [a] (D a)) (hg : X.A.guards = some []) (hr : Room (n + 2) X.A) :
    CallR X (.builtin "repr") (fun xs H Q => ∃ a ys ts, xs = [.ref a] ∧ SqT X.K H a ys ∧ Each (D a) ys ts H ∧ (tupleText ts).length ≤ sizeLine ∧ ∀ H', Ex H H' → Q (.str (tupleText ts)) H') := by
  intro pins s σ H xs us Q I r hq
  obtain ⟨a, ys, ts, rfl, ha, p, hs, q⟩ := hq
  obtain ⟨u, rfl, ru⟩ := vals1 r
  cases ru
  obtain ⟨its, rv, ⟨o, ho, hcls, m, hd⟩, hz⟩ := I.tuple ha
  refine call_repr_slot hr.in1.units0 ⟨o, ho, hcls⟩ F.slot_tuple_repr ?_
  exact wpAny_call (codeAny_call_builtin_own (Code.quiet_builtin _ (by decide +kernel)) F.entry_tuple_repr (F.slot_tuple_repr.check _ _ _ _ _ _ _ _ ⟨o, ho, hcls⟩ (F.args_tuple_repr_1 _)
    (tup_at (base := 0) (R := callEnd _ X.xe) (A := X.A.in1) (g := []) (as := []) (h a) (hm a) hr.in1 rfl hg (fun p _ => Clear.nil p) (fun z => by cases z) (tupC1 _ _) I ha p (by omega) (fun e s' q => q) fun u H' s' I' e => ⟨_, _, rfl, .str (tupleText ts), H', I', ⟨_, rfl⟩, q H' e⟩)))
theorem rpG_Thg {CX : CXT} {C f : Addr} {fd : FuncData} {ps : List Str} {E : XK} (F : FnOk X.prog X.w X.K X.mg X.base CX 1 f fd ps (spRepr (WText C))) (M : Meth X.K C "__repr__" f) (hb : Binds X.K fd ps []) (hx : Passes CX X E) (p : Addr) : RpG X 3 [p] (Thg X.K C p) := by
  have fl : ∀ as, RpG X 1 as (Flat C) := fun as => (rpG_flat.mono (by decide)).or ((rpG_str.mono (by decide)).or (rpG_ins F M hb hx))
  exact ((fl _).mono (by decide)).or ((rpG_dic.mono (by decide)).or (((rpG_list mon_Flat fun a => fl _).mono (by decide)).or ((rpG_tup mon_Flat fun a => fl _).mono (by decide))))
end
/-! ### texts that are short -/
theorem ln_eq {a b : Str} (e : a = b) : a.length = b.length := by rw [e]
theorem short_tup {ts : List Str} (h : ∀ t ∈ ts, t.length ≤ 10000) (n : ts.length ≤ 100) : (tupleText ts).length ≤ sizeLine := by
  have key : ∀ l : List Str, (∀ t ∈ l, t.length ≤ 10000) → (l.map (·.length)).sum ≤ 10000 * l.length := by
    intro l
    induction l with
    | nil => intro _; exact Nat.le_refl 0
    | cons a r ih =>
      intro hl
      have h1 := hl a List.mem_cons_self
      have h2 := ih fun t ht => hl t (List.mem_cons_of_mem _ ht)
      rw [List.map_cons, List.sum_cons, List.length_cons]
      omega
  have h1 := tupleText_len_le ts
  have h2 := key ts h
  exact Nat.le_trans (show _ ≤ 2000000 by omega) (by decide)
end Tz
namespace Tz
open PySem PySem.Spec PyProof.Rows L2 TzF TzRepr
section
variable {X : Cx} {CX : CXT} {C f : Addr} {fd : FuncData} {ps : List Str} {sp : Sp} {E : XK} {k : Nat} {pins : List (Addr × Obj)} {σ : L2.St} {H : Hp} {s : Shared} {y : V} {u : Value} {g : Tag}
theorem obj_ty {M : Model} {h : Heap} {a : Addr} {o : Obj} {c : Value} (e : h.get? a = some o) (hc : o.cls = c) : PySem.W.Looks M h (typeOf (.ref a)) c := fun A Q E s keeps q => wpAny_typeOf_ref (keeps _ _ e) (by rw [hc]; exact q)
/-- the type of a thing is looked up -/
theorem Kd.looks (I : L2.Inv X pins σ H s) (r : RelV y u) (d : Kd C H y g) : PySem.W.Looks (model X.prog X.w) s.heap (typeOf u) (g.ty C) := by
  cases d with
  | non =>
    cases r
    exact .of_pure rfl
  | bl b =>
    cases r
    exact .of_pure rfl
  | int i =>
    obtain ⟨t, rfl⟩ := r
    exact .of_pure rfl
  | str z =>
    obtain ⟨t, rfl⟩ := r
    exact .of_pure rfl
  | @lst a xs h =>
    cases r
    obtain ⟨_, its, n, _, e⟩ := (show ObjOk X.prog X.w H s.heap a (.lst xs) from I.hok a _ h)
    exact obj_ty e rfl
  | @tup a xs h =>
    cases r
    obtain ⟨_, its, _, o, e, hc, _⟩ := (show ObjOk X.prog X.w H s.heap a (.tup xs) from I.hok a _ h)
    exact obj_ty e hc
  | @dic a kvs h =>
    cases r
    obtain ⟨_, _, us, _, o, es, ep, e, hc, _⟩ := (show ObjOk X.prog X.w H s.heap a (.dK kvs) from I.hok a _ h)
    exact obj_ty e hc.1
  | own W =>
    cases r
    obtain ⟨dx, h⟩ := W.ob
    obtain ⟨od, J⟩ := TzOwn.inst_at I h
    exact J.type
end
section
open PySem.W
variable {prog : Program} {w : World} {A : Around} {E : Value → Shared → Prop} {s : Shared} {K : Frag} {x C f L : Addr} {ox : Obj} {od : Option Obj} {h0 : Heap} {m : Str → Option Value} {T : String}
/-- an instance with its own method, beside a value of a built-in type -/
theorem bin_any {op : Operator} {b : Value} {fo ro rc : Option Value} {Q : Value → Shared → Prop} (R : Fr h0 L s.heap m) (KI : K.In h0) (I : InstAt s.heap x ox C od) (tb : Looks (model prog w) s.heap (typeOf b) (.type T)) (first : selfFirst K C = true)
    (own : findIn K (.ref C) (PySem.dunder op.info.2) = some (some (.ref f))) (fn : isFn K (.ref f) = true) (refl : findIn K (.ref C) (dunderR op.info.2) = some rc) (form : rc = none ∨ ∃ g : Addr, rc = some (.ref g))
    (t1 : findIn K (.type T) (PySem.dunder op.info.2) = some fo) (t2 : findIn K (.type T) (dunderR op.info.2) = some ro) (apart : subIn K (.type T) (.ref C) = some false)
    (h : wpAny (model prog w) A (call (.ref f) [.ref x, b]) (PySem.W.CmpBack Q) E s) : wpAny (model prog w) A (binaryOp op (.ref x) b) Q E s := by
  have KS := KI.keeps R.keep
  obtain ⟨cd, more, ecd, em⟩ := ksp_first first
  rcases ei : op.info with ⟨sy, nm⟩
  rw [ei] at own refl t1 t2
  dsimp only at own refl t1 t2
  have one := ksp_try KS I own fn h
  obtain ⟨hp, gs, dr, tk, os⟩ := s
  have a1 : Looks (model prog w) hp (typeOf (.ref x)) (.ref C) := I.type
  have a2 : Looks (model prog w) hp (fillsNumberSlot (.ref C) nm) true := fills_K KS ecd em own
  have a3 : Looks (model prog w) hp (fillsNumberSlot (.type T) nm) ((fo.isSome && !isSeqSlot fo) || (ro.isSome && !isSeqSlot ro)) := ksp_fillsT KS t1 t2
  have a4 : Looks (model prog w) hp (isSubtype (.type T) (.ref C)) false := looks_subIn KS apart
  have a5 : Looks (model prog w) hp (numberSlotInPython (.ref C) nm) true := ksp_inPy KS own refl form
  have a6 : Looks (model prog w) hp (numberSlotInPython (.type T) nm) false := Looks.of_pure rfl
  have a7 : Looks (model prog w) hp (typeLookup (.type T) (dunderR nm)) ro := looks_findIn KS t2
  generalize ((fo.isSome && !isSeqSlot fo) || (ro.isSome && !isSeqSlot ro)) = both at a3
  have unlike : (Value.ref C == Value.type T) = false := Bool.eq_false_iff.mpr fun q => by cases beq_iff_eq.mp q
  simp only [binaryOp, ei]
  refine wpAny_holding (wpAny_bind ?_)
  unfold binaryOp1
  refine wpAny_bind (a1.at (wpAny_bind (tb.at (wpAny_bind (a2.at ?_)))))
  simp only [unlike, Bool.false_eq_true, if_false]
  cases both with
  | false =>
    ksp_lk
    refine wpAny_mono one (fun r s2 q => ?_) fun _ _ e => e
    obtain ⟨v, rfl, q⟩ := q
    ksp_lk
    exact q
  | true =>
    ksp_lk
    refine wpAny_mono one (fun r s2 q => ?_) fun _ _ e => e
    obtain ⟨v, rfl, q⟩ := q
    ksp_lk
    exact q
end
section
variable {X : Cx} {CX : CXT} {C f : Addr} {fd : FuncData} {ps : List Str} {sp : Sp} {E : XK} {k : Nat}
/-- a word beside any thing -/
def rOwnA (C : Addr) (sp : Sp) (E : XK) : R2 := fun x y H Q => ∃ a dx fs g, x = .ref a ∧ H a = some (.ins C dx fs) ∧ Kd C H y g ∧ sp [.ref a, y] H Q E
theorem op_ownA {op : Operator} {nm nr : Str} (F : FnOk X.prog X.w X.K X.mg X.base CX k f fd ps sp) (hr : Room k X.A) (M : Meth X.K C nm f) (hn : PySem.dunder op.info.2 = nm) (A : Alone X.K C) (hb : Binds X.K fd ps []) (hx : Passes CX X E)
    (hnr : dunderR op.info.2 = nr) (hc : ∃ g : Addr, PySem.W.findIn X.K (.ref C) nr = some (some (.ref g))) (h1 : knownB X.K nm = true) (h2 : knownB X.K nr = true) : OpR X (binaryOp op) (rOwnA C sp E) := by
  intro pins s σ H x y v u Q I rx ry h
  obtain ⟨a, dx, fs, g, rfl, ha, d, q⟩ := h
  obtain ⟨fr, hc⟩ := hc
  cases rx
  obtain ⟨od, J⟩ := TzOwn.inst_at I ha
  obtain ⟨m, hF⟩ := I.fr
  have back : wpAny (model X.prog X.w) X.A (call (.ref f) [.ref a, u]) (PySem.W.CmpBack (EP X pins σ Q)) X.xe s := thn (run_fn (us := [.ref a, u]) (vs := [.ref a, y]) F hr hb .nil hx I (.cons rfl (.cons ry .nil)) q) fun _ _ z => TzOwn.back_cmp z
  have tb := d.looks I ry
  by_cases hg : g = .own
  · subst hg
    exact PySem.W.binop_K hF I.ok.mod.kin J tb A.sf (hn ▸ M.at_) M.fn back
  · have e : g.ty C = .type g.nm := by cases g <;> first | rfl | exact absurd rfl hg
    rw [e] at tb
    obtain ⟨fo, ho⟩ := known_ok h1 (Tag.mem hg)
    obtain ⟨ro, hro⟩ := known_ok h2 (Tag.mem hg)
    exact bin_any hF I.ok.mod.kin J tb A.sf (hn ▸ M.at_) M.fn (hnr ▸ hc) (.inr ⟨fr, rfl⟩) (hn ▸ ho) (hnr ▸ hro) (A.to _ (Tag.mem hg)) back
theorem cmp_ownA {op : CmpOp} {nm : Str} (F : FnOk X.prog X.w X.K X.mg X.base CX k f fd ps sp) (hr : Room k X.A) (M : Meth X.K C nm f) (hn : (cmpInfo op).2.1 = nm) (ho : compareOp op = richCompare op) (hb : Binds X.K fd ps []) (hx : Passes CX X E) (A : Alone X.K C) : OpR X (compareOp op) (rOwnA C sp E) := by
  intro pins s σ H x y v u Q I rx ry h
  obtain ⟨a, dx, fs, g, rfl, ha, d, q⟩ := h
  cases rx
  obtain ⟨od, J⟩ := TzOwn.inst_at I ha
  obtain ⟨m, hF⟩ := I.fr
  rw [ho]
  refine PySem.W.cmp_K (op := op) (tb := g.ty C) hr.units0 hF I.ok.mod.kin J (d.looks I ry) ?_ (hn ▸ M.at_) M.fn ?_
  · unfold PySem.W.notFirst
    by_cases hg : g = .own
    · subst hg
      show (Value.ref C == Value.ref C || _) = true
      rw [beq_self_eq_true, Bool.true_or]
    · have e : g.ty C = .type g.nm := by cases g <;> first | rfl | exact absurd rfl hg
      rw [e, A.to _ (Tag.mem hg)]
      simp
  · exact thn (run_fn (us := [.ref a, u]) (vs := [.ref a, y]) F hr hb .nil hx I (.cons rfl (.cons ry .nil)) q) fun _ _ z => TzOwn.back_cmp z
end
end Tz
namespace Tz
open PySem PySem.Spec PyProof.Rows L2 TzF TzRepr
theorem weak {P : Program} {w : World} {K : PySem.W.Frag} {mg : Str → Option Value} {base : Heap} {CX : CXT} {k : Nat} {f : Addr} {fd : FuncData} {ps : List Str} {sp sp' : Sp} (F : FnOk P w K mg base CX k f fd ps sp) (h : ∀ vs H Q E, sp' vs H Q E → sp vs H Q E) : FnOk P w K mg base CX k f fd ps sp' :=
  ⟨fun vs H Q E q => F.len vs H Q E (h _ _ _ _ q), fun A out s H args us vs Q E hr en bn r q => F.run A out s H args us vs Q E hr en bn r (h _ _ _ _ q)⟩
/-! ### promises for things of all sorts -/
def Tag.whole : Tag → Bool
  | .int => true
  | _ => false
def spWhole (C : Addr) : Sp := fun vs H Q _ => ∃ y g, vs = [y] ∧ Kd C H y g ∧ Q (.bl (Tag.whole g)) H
def spFrom (C : Addr) : Sp := fun vs H Q _ => ∃ y g, ∃ lo hi : Int, vs = [y, .int lo, .int hi] ∧ Kd C H y g ∧ ∀ b : Bool, (b = true ↔ ∃ n, y = .int n ∧ lo ≤ n ∧ n ≤ hi) → Q (.bl b) H
def spFound (C : Addr) : Sp := fun vs H Q _ => ∃ w : Nat, ∃ y r, vs = [.int w, y] ∧ 1 ≤ w ∧ w ≤ 64 ∧ Side C H w y r ∧ match r with
  | .val v => Q (.int v) H
  | _ => Q .non H
def spCheckedX (C B : Addr) : Sp := fun vs H Q E => ∃ w : Nat, ∃ y r, vs = [.int w, y] ∧ 1 ≤ w ∧ w ≤ 64 ∧ Side C H w y r ∧ match r with
  | .val v => Q (.int v) H
  | _ => Flies B [("value", y)] H E
def spOperandX (C B U : Addr) : Sp := fun vs H Q E => ∃ x y, ∃ w : Nat, ∃ u r, vs = [.ref x, y] ∧ WordAt C H x w u ∧ Side C H w y r ∧ Got B U w y r H E fun v => Q (.int v) H
def spAddX (C B U : Addr) : Sp := fun vs H Q E => ∃ x y, ∃ w : Nat, ∃ u r, vs = [.ref x, y] ∧ WordAt C H x w u ∧ Side C H w y r ∧ Got B U w y r H E fun v => NewW C w (cr w (u + v)) H Q
def spSubX (C B U : Addr) : Sp := fun vs H Q E => ∃ x y, ∃ w : Nat, ∃ u r, vs = [.ref x, y] ∧ WordAt C H x w u ∧ Side C H w y r ∧ Got B U w y r H E fun v => NewW C w (cr w (u + (mw w - v))) H Q
end Tz
namespace Tz
open PySem PySem.Spec PyProof.Rows L2 TzF TzRepr
/-! ### def f(a, *r): called by place, or f(a = e) -/
def StarW (sp : Sp) : Sp := fun vs H Q E => ∃ v more, vs = v :: more ∧ more.length ≤ 1000 ∧ ∀ p, H p = none → sp [v, .ref p] (upd H p (.tup more)) Q E
structure Star1 (P : Program) (w : World) (K : PySem.W.Frag) (mg : Str → Option Value) (base : Heap) (CX : CXT) (k : Nat) (f : Addr) (p1 : Str) (sp : Sp) : Prop where
  pos : FnR P w K mg base CX k f (StarW sp)
  key : ∀ (A : Around) (out : List Env) (s : Shared) (H : Hp) (u : Value) (v : V) (Q : VK) (E : XK), Room k A → Env0 P w K mg base A out s H → RelV v u → StarW sp [v] H Q E → codeAny (model P w) A (.call (.ref f) ⟨[], [(p1, u)]⟩) (CR CX out P w H s Q E) s
theorem star1 {P : Program} {w : World} {K : PySem.W.Frag} {mg : Str → Option Value} {base : Heap} {CX : CXT} {k : Nat} {f : Addr} {fd : FuncData} {x qual p1 pr : Str} {st : Stmt} {N : List Str} {sp : Sp} (F : Fun K x qual st f fd) (S : FnScope N [p1, pr] (defScope st)) (up : StX.CXUp CX)
    (b0 : ∀ (kV doc pm : Value) (an : Option Addr) (cdv ct a : Value), bindArgs (PySem.W.fnOf x qual (defArgs st) (defBody st) (defScope st) .none kV doc pm an cdv ct) ⟨[a], []⟩ = (newTuple [] >>= fun t => pure [(p1, a), (pr, t)]))
    (b1 : ∀ (kV doc pm : Value) (an : Option Addr) (cdv ct a b : Value) (bs : List Value), bindArgs (PySem.W.fnOf x qual (defArgs st) (defBody st) (defScope st) .none kV doc pm an cdv ct) ⟨a :: b :: bs, []⟩ = (newTuple (b :: bs) >>= fun t => pure [(p1, a), (pr, t)]))
    (bk : ∀ (kV doc pm : Value) (an : Option Addr) (cdv ct a : Value), bindArgs (PySem.W.fnOf x qual (defArgs st) (defBody st) (defScope st) .none kV doc pm an cdv ct) ⟨[], [(p1, a)]⟩ = (newTuple [] >>= fun t => pure [(p1, a), (pr, t)]))
    (body : ∀ (cdv : Value) (A : Around) (out : List Env) (s : Shared) (H : Hp) (vs : List V) (Q : VK) (E : XK), Room k (A.deeper (envOfC qual (defScope st) s.heap.objs.size f cdv)) → sp vs H Q E →
      ∃ t, PSs (cxOf CX P w K mg base N qual (defScope st) f cdv A out s H E) (defBody st) t ∧ t { nx := fun _ J => Q .non J, rt := Q } (start N vs) H) : Star1 P w K mg base CX (k + 1) f p1 sp := by
  obtain ⟨oc, od, kV, doc, pm, an, cdv, ct, osl, rfl, lk, code⟩ := F.ex
  refine ⟨fun A out s H us vs Q E hr en r h => ?_, fun A out s H u v Q E hr en r h => ?_⟩
  · obtain ⟨v, more, rfl, small, go⟩ := h
    have all := StX.fn_star (CX := CX) (base := base) (mg := mg) (P := P) (w := w) (ps := [p1]) (pv := pr) (sp := sp) (k := k) lk code S up (fun us rest e => by
      match us, rest, e with
      | [a], [], _ => exact b0 kV doc pm an cdv ct a
      | [a], b :: bs, _ => exact b1 kV doc pm an cdv ct a b bs) (fun A out s H vs Q E hr h => body cdv A out s H vs Q E hr h)
    exact all A out s H us _ Q E hr en r ⟨[v], more, rfl, rfl, Nat.le_trans small (by decide), go⟩
  · obtain ⟨v', more, e, _, go⟩ := h
    cases e
    have hn : H s.heap.objs.size = none := en.hok.fresh (Nat.le_refl _)
    have new : ObjOk P w (upd H s.heap.objs.size (.tup [])) (s.heap.push ({ cls := .type "tuple", data := .seq ([] : List Value).toArray } : Obj)) s.heap.objs.size (.tup []) := ⟨Nat.zero_le _, [], .nil, ⟨_, Heap.get?_push_size _ rfl, rfl, _, rfl⟩⟩
    have un := StX.un_laid (fs := frs out) (s := s) (o := ({ cls := .type "tuple", data := .seq ([] : List Value).toArray } : Obj)) (u := .tup []) hn
    refine StX.run_bnd (N := N) (ps := [p1, pr]) lk code S hr en (G := fun xs H2 => ∃ p, H p = none ∧ xs = [v, .ref p] ∧ H2 = upd H p (.tup [])) (fun A' Ex Q' q => ?_) fun s2 H2 xs ⟨p, np, e1, e2⟩ hr' => ?_
    · rw [bk]
      refine wpAny_bind (wpAny_newTuple (wpAny_pure ?_) (Nat.zero_le _))
      exact q _ _ [v, .ref s.heap.objs.size] [u, .ref s.heap.objs.size] (StX.env0_laid en new) un rfl (fun e s' => up out s H _ _ E e s' un (fun b o z => Heap.get?_push_of_some _ z) rfl) (.cons r (.cons rfl .nil)) rfl ⟨_, hn, rfl, rfl⟩
    · subst e1 e2
      exact body cdv A out s2 _ _ Q E hr' (go p np)
section
variable {X : Cx} {CX : CXT} {k : Nat} {f : Addr} {p1 x : Str} {sp : Sp} {E : XK} {e : Expr} {es : List Expr} {te : TE} {t : TA} {p pos kp : Pos}
/-- f(e, ..) -/
theorem pe_star (F : Star1 X.prog X.w X.K X.mg X.base CX k f p1 sp) (hr : Room k X.A) (gl : Gl X x) (hm : X.mg x = some (.ref f)) (hk : PySem.W.keepIn X.K (.ref f) = true) (hx : Passes CX X E) (ha : PA X (e :: es) t)
    (hst : starEach (e :: es) X.env = (false, eval e X.env) :: starEach es X.env := by rfl) (hpl : (backTo pos (starEach es X.env)).any (·.1) = false := by rfl) (hdb : (x == ("__debug__" : Str)) = false := by decide) :
    PE X (.Call (.Name x p) (e :: es) [] pos) (fun σ H Q => t σ H fun vs H1 => StarW sp vs H1 Q E) :=
  ⟨fun pins s σ H Q I h => wpAny_Call_Name_kw (ld_glob I gl hm (PySem.W.callWith_K (h₀ := X.base) I.ok.mod.kin hk (thn (ha.run pos pins s σ H _ I h) fun us s1 ⟨vs, H1, I1, r, q⟩ => ⟨I1.kIn, wpAny_call (run_fnR F.pos hr hx I1 r q)⟩) hst hpl) hdb)⟩
/-- f(a = e) -/
theorem pe_starK (F : Star1 X.prog X.w X.K X.mg X.base CX k f p1 sp) (hr : Room k X.A) (gl : Gl X x) (hm : X.mg x = some (.ref f)) (hk : PySem.W.keepIn X.K (.ref f) = true) (hx : Passes CX X E) (he : PE X e te)
    (hall : (backToKw pos (keywordEach [⟨some p1, e, kp⟩] X.env)).all (·.1.isSome) = true := by rfl) (hks : (backToKw pos (keywordEach [⟨some p1, e, kp⟩] X.env)).filterMap (·.1) = [p1] := by rfl)
    (hpl : ((backTo pos (starEach [] X.env)).any (·.1) || (backToKw pos (keywordEach [⟨some p1, e, kp⟩] X.env)).any (·.1.isNone)) = false := by rfl) (hdb : (x == ("__debug__" : Str)) = false := by decide) :
    PE X (.Call (.Name x p) [] [⟨some p1, e, kp⟩] pos) (fun σ H Q => te σ H fun v H1 => ∃ v', [v] = [v'] ∧ StarW sp [v'] H1 Q E) := by
  refine ⟨fun pins s σ H Q I h => ?_⟩
  refine wpAny_Call_Name_kw (ld_glob I gl hm ?_ hdb)
  refine PySem.W.callWith_KW0 (first := []) (h₀ := X.base) I.ok.mod.kin hk hall (thn ((pk_cons (kpos := kp) (nm := some p1) he pk_nil).run pos pins s σ H (fun zs H1 => ∃ v, zs = [v] ∧ StarW sp [v] H1 Q E) I h) fun ws s2 ⟨zs, H2, I2, rz, v, ez, q⟩ => ⟨I2.kIn, ?_⟩) hpl
  subst ez
  obtain ⟨u, rfl, ru⟩ := vals1 rz
  rw [hks]
  refine wpAny_call (codeAny_mono (F.key X.A X.stack s2 H2 u v Q E hr I2.env0 ru q) fun r s' hq => ?_)
  cases r with
  | error er => exact hx _ σ H2 s2 er s' I2 hq
  | ok fl =>
    cases fl with
    | ret w' => exact I2.after hq
    | next => exact False.elim hq
    | brk => exact False.elim hq
    | cont => exact False.elim hq
end
end Tz
namespace Tz
open PySem PySem.Spec PyProof.Rows L2 TzF TzRepr
/-! ### what a call does is heard: a tuple tells it -/
theorem pe_up {X : Cx} {e : Expr} {t : TE} (h : PE X e t) : PE X e (fun σ H Q => ∃ Q0 : VK, t σ H Q0 ∧ ∀ v J, Q0 v J → Q v J) :=
  ⟨fun pins s σ H Q I ⟨Q0, q, up⟩ => wpAny_mono (h.run pins s σ H Q0 I q) (fun u s' ⟨v, J, I', r, z⟩ => ⟨v, J, I', r, up v J z⟩) fun _ _ z => z⟩
/-- the tuple at p is new -/
def Tup (H : Hp) (ys : List V) (Q : VK) : Prop := ∀ p H', H p = none → Ex H H' → H' p = some (.tup ys) → Q (.ref p) H'
def Catch1 (X : Addr) (f tag : Str) (Q : VK) : XK := fun k d H => k = .ref X ∧ ∃ dd v, d = some dd ∧ H dd = some (.xd [(f, v)]) ∧ Tup H [.str tag, v] Q
def Catch2 (X : Addr) (f g tag : Str) (Q : VK) : XK := fun k d H => k = .ref X ∧ ∃ dd u v, d = some dd ∧ H dd = some (.xd [(g, v), (f, u)]) ∧ Tup H [.str tag, u, v] Q
theorem Tup.go {H : Hp} {ys : List V} {Q : VK} {p : Addr} (h : Tup H ys Q) (np : H p = none) : Q (.ref p) (upd H p (.tup ys)) := h p _ np (Ex.new np) upd_same
/-- one field of a caught error -/
theorem xf1 {H : Hp} {a dd X : Addr} {k : Value} {d : Option Addr} {f : Str} {v : V} {Q : VK} (e1 : k = .ref X) (e2 : d = some dd) (h : H dd = some (.xd [(f, v)])) (q : Q v H) :
    V.ref a = .ref a ∧ k = .ref X ∧ ∃ (z : Addr) (fs : List (Str × V)) (y : V), d = some z ∧ H z = some (.xd fs) ∧ fs.lookup f = some y ∧ Q y H := ⟨rfl, e1, dd, _, v, e2, h, by simp [List.lookup], q⟩
theorem xf2 {H : Hp} {a dd X : Addr} {k : Value} {d : Option Addr} {f g n : Str} {u v y : V} {Q : VK} (e1 : k = .ref X) (e2 : d = some dd) (h : H dd = some (.xd [(g, v), (f, u)])) (hl : List.lookup n [(g, v), (f, u)] = some y) (q : Q y H) :
    V.ref a = .ref a ∧ k = .ref X ∧ ∃ (z : Addr) (fs : List (Str × V)) (y : V), d = some z ∧ H z = some (.xd fs) ∧ fs.lookup n = some y ∧ Q y H := ⟨rfl, e1, dd, _, y, e2, h, hl, q⟩
/-! ### all but z, and but the tables, is as it was -/
def Go (z : Addr) (H H' : Hp) : Prop := ∀ a o, a ≠ z → (∀ ps, o ≠ .tbl ps) → H a = some o → H' a = some o
section
variable {z c a x : Addr} {H H1 H2 : Hp} {C : Addr} {w : Nat} {u : Int} {cells : List Int} {t : Nat}
theorem Go.refl : Go z H H := fun _ _ _ _ h => h
theorem Go.trans (a : Go z H H1) (b : Go z H1 H2) : Go z H H2 := fun x o n m h => b x o n m (a x o n m h)
theorem Fw.go (f : Fw z H H1) : Go z H H1 := fun a o n _ h => f a o n h
theorem Ex.go (f : Ex H H1) : Go z H H1 := fun a o _ _ h => f a o h
theorem Go.ext (f : LamX.ExtN H H1) : Go z H H1 := fun a o _ m h => f a o h m
theorem PenAt.ext (h : PenAt H z c cells t) (e : LamX.ExtN H H1) : PenAt H1 z c cells t := by
  obtain ⟨⟨i, l, h1, h2⟩, h3, h4, h5⟩ := h
  exact ⟨⟨i, l, e _ _ h1 (fun _ q => by cases q), h2⟩, e _ _ h3 (fun _ q => by cases q), h4, h5⟩
theorem WordAt.go (h : WordAt C H x w u) (g : Go z H H1) (n : x ≠ z) : WordAt C H1 x w u := by
  obtain ⟨⟨dx, h1⟩, h2, h3, h4, h5⟩ := h
  exact ⟨⟨dx, g _ _ n (fun _ q => by cases q) h1⟩, h2, h3, h4, h5⟩
theorem WordAt.ext (h : WordAt C H x w u) (e : LamX.ExtN H H1) : WordAt C H1 x w u := by
  obtain ⟨⟨dx, h1⟩, h2, h3, h4, h5⟩ := h
  exact ⟨⟨dx, e _ _ h1 (fun _ q => by cases q)⟩, h2, h3, h4, h5⟩
theorem PenAt.isl (h : PenAt H z c cells t) : ∃ xs, H z = some (.lst xs) := by
  obtain ⟨⟨i, l, h1, _⟩, _⟩ := h
  exact ⟨_, h1⟩
theorem tabs_go {T : List (Addr × Str)} (h : LamX.Tabs T H) (f : Fw z H H1) (hz : ∃ xs, H z = some (.lst xs)) : LamX.Tabs T H1 := fun p hp => by
  obtain ⟨xs, hz⟩ := hz
  obtain ⟨ps, h1, h2, h3⟩ := h p hp
  refine ⟨ps, f _ _ (ne_of h1 hz (by intro q; cases q)) h1, h2, fun pos cv hc => ?_⟩
  obtain ⟨c, e1, e2⟩ := h3 pos cv hc
  exact ⟨c, e1, f _ _ (ne_of e2 hz (by intro q; unfold LamX.CodeO at q; cases q)) e2⟩
end
/-! ### a thing beside the pen, its text known -/
theorem Flat.go {C z : Addr} {H H1 : Hp} {y : V} {t : Str} (s : Flat C y t H) (g : Go z H H1) (hz : ∃ xs, H z = some (.lst xs)) : Flat C y t H1 := by
  rcases s with s | s | ⟨a, dx, fs, h1, h2, w, u, W, h3⟩
  · exact .inl s
  · exact .inr (.inl s)
  · obtain ⟨xs, hz⟩ := hz
    have n : a ≠ z := ne_of h2 hz (by intro q; cases q)
    exact .inr (.inr ⟨a, dx, fs, h1, g _ _ n (fun _ q => by cases q) h2, w, u, W.go g n, h3⟩)
theorem Shown.go {C z : Addr} {H H1 : Hp} {y : V} {t : Str} (s : Shown C H y t) (g : Go z H H1) (hz : ∃ xs, H z = some (.lst xs)) (n : y ≠ .ref z) : Shown C H1 y t := by
  have each : ∀ {xs : List V} {ts : List Str}, Each (Flat C) xs ts H → Each (Flat C) xs ts H1 := fun p => ⟨p.1, fun i x t h1 h2 => (p.2 i x t h1 h2).go g hz⟩
  rcases s with s | ⟨a, h1, h2, h3⟩ | ⟨l, xs, ts, h1, h2, h3, h4⟩ | ⟨l, xs, ts, h1, h2, h3, h4⟩
  · exact .inl (s.go g hz)
  · exact .inr (.inl ⟨a, h1, g _ _ (fun q => n (by rw [h1, q])) (fun _ q => by cases q) h2, h3⟩)
  · exact .inr (.inr (.inl ⟨l, xs, ts, h1, g _ _ (fun q => n (by rw [h1, q])) (fun _ q => by cases q) h2, h3, each h4⟩))
  · exact .inr (.inr (.inr ⟨l, xs, ts, h1, g _ _ (fun q => n (by rw [h1, q])) (fun _ q => by cases q) h2, h3, each h4⟩))
theorem two_each {D : Rpr} {H : Hp} {a b : V} {t u : Str} (h1 : D a t H) (h2 : D b u H) : Each D [a, b] [t, u] H := ⟨rfl, fun i x s e1 e2 => by
  match i with
  | 0 => cases e1; cases e2; exact h1
  | 1 => cases e1; cases e2; exact h2
  | i + 2 => simp at e1⟩
theorem three_each {D : Rpr} {H : Hp} {a b c : V} {t u v : Str} (h1 : D a t H) (h2 : D b u H) (h3 : D c v H) : Each D [a, b, c] [t, u, v] H := ⟨rfl, fun i x s e1 e2 => by
  match i with
  | 0 => cases e1; cases e2; exact h1
  | 1 => cases e1; cases e2; exact h2
  | 2 => cases e1; cases e2; exact h3
  | i + 3 => simp at e1⟩
end Tz
namespace Tz
open PySem PySem.Spec PyProof.Rows L2 TzF TzRepr
def TTH (HE : VK → XK) : (XK → Hp → VK → Prop) → Hp → VK → Prop := fun tl H Q => ∀ H0, Ex H H0 → tl (HE Q) H0 (fun v H1 => Tup H1 [.str "made", v] Q)
def HE3 (B1 B2 U : Addr) (Q : VK) : XK := fun k d H => Catch1 B1 "width" "width" Q k d H ∨ (Catch1 B2 "value" "word" Q k d H ∨ Catch2 U "one" "other" "unlike" Q k d H)
section
variable {B1 B2 U : Addr} {Q : VK} {H : Hp} {y : V} {w w' : Int}
theorem fly_width (h : ∀ H1, Ex H H1 → Tup H1 [.str "width", y] Q) : Flies B1 [("width", y)] H (HE3 B1 B2 U Q) := fun d H' e q => .inl ⟨rfl, d, y, rfl, q, h H' e⟩
theorem fly_value (h : ∀ H1, Ex H H1 → Tup H1 [.str "word", y] Q) : Flies B2 [("value", y)] H (HE3 B1 B2 U Q) := fun d H' e q => .inr (.inl ⟨rfl, d, y, rfl, q, h H' e⟩)
theorem fly_unlike (h : ∀ H1, Ex H H1 → Tup H1 [.str "unlike", .int w, .int w'] Q) : Flies U [("other", .int w'), ("one", .int w)] H (HE3 B1 B2 U Q) := fun d H' e q => .inr (.inr ⟨rfl, d, _, _, rfl, q, h H' e⟩)
end
/-! ### totals of things -/
abbrev Itm := V × Res × Str
inductive Out where
  | made (v : Int) | word (y : V) (tx : Str) | unlike (w : Nat)
def outc (w : Nat) : Int → List Itm → Out
  | s, [] => .made s
  | s, (_, .val v, _) :: l => outc w (cr w (s + v)) l
  | _, (_, .unlike w', _) :: _ => .unlike w'
  | _, (y, .bad, tx) :: _ => .word y tx
def Out.ts (w : Nat) : Out → List Str
  | .made v => [reprText "made", wtext w v]
  | .word _ tx => [reprText "word", tx]
  | .unlike w' => [reprText "unlike", PyData.shown (.int (w : Int)), PyData.shown (.int (w' : Int))]
/-- what the sum of them does -/
def OutK (C B U : Addr) (w : Nat) (o : Out) (H : Hp) (Q : VK) (E : XK) : Prop := match o with
  | .made v => ∀ a H', Ex H H' → WordAt C H' a w v → Q (.ref a) H'
  | .word y _ => Flies B [("value", y)] H E
  | .unlike w' => Flies U [("other", .int w'), ("one", .int w)] H E
/-- the first one a word, the others anything -/
def Lead (C : Addr) (H : Hp) (y : V) (w : Nat) (u : Int) : Prop := ∃ x, y = .ref x ∧ WordAt C H x w u
def spTotal (C B U : Addr) : Sp := fun vs H Q E => ∃ y p its, vs = [y, .ref p] ∧ H p = some (.tup (its.map (·.1))) ∧
  ((∃ w u, Lead C H y w u ∧ (∀ i ∈ its, Side C H w i.1 i.2.1) ∧ OutK C B U w (outc w u its) H Q E) ∨ (∃ g, Kd C H y g ∧ g ≠ .own ∧ Flies B [("value", y)] H E))
end Tz
namespace Tz
open PySem PySem.Spec PyProof.Rows L2 TzF TzRepr
/-! ### rules whose reading names K itself: within comprehensions and lambdas -/
section
variable {X : Cx} {K : PySem.W.Frag} {e a : Expr} {te ta : TE} {n : Str} {pos : Pos}
theorem pe_fldK (hK : X.K = K) (he : PE X e te) (hb : attributeBase e n X.env (eval e X.env) = eval e X.env := by rfl) : PE X (.Attribute e n pos) (tFld K te n) := by
  subst hK
  exact pe_fld he hb
theorem pt_truthK (hK : X.K = K) (ha : PE X a ta) (he : ∀ whole, isTrue a X.env whole = (do let v ← whole; standAt a.pos; holding [v] (truthy v))) : PT X a (fun σ H Q => ta σ H fun x H' => ∃ k, TruV K x H' k ∧ Q k H') := by
  subst hK
  exact pt_truth ha he
end
theorem ix_listK {X : Cx} {K : PySem.W.Frag} (hK : X.K = K) : IxR X (rIxL K) := by
  subst hK
  exact ix_list
theorem ix_tupK {X : Cx} {K : PySem.W.Frag} (hK : X.K = K) : IxR X (rIxT K) := by
  subst hK
  exact ix_tup
/-! ### tests that are decided -/
theorem iteD {c A B : Prop} [Decidable c] (hc : c) (h : A) : if decide c = true then A else B := by
  rw [decide_eq_true hc]
  exact iteT h
theorem iteN {c A B : Prop} [Decidable c] (hc : ¬ c) (h : B) : if decide c = true then A else B := by
  rw [decide_eq_false hc]
  exact iteF h
end Tz
namespace TzBit
open PySem PySem.Spec PyProof.Rows L2 PySem.NumText PySem.Calls
/-! int(t, 2) of a text of bits -/
def IsBit (c : Nat) : Prop := c = 48 ∨ c = 49
theorem bit_hex {c : Nat} (h : IsBit c) : Hx.IsHex c := .inl (by unfold IsBit at h; omega)
theorem bit_val {c : Nat} (h : IsBit c) : Hx.hv c = c - 48 := by
  unfold Hx.hv
  exact if_pos (by unfold IsBit at h; omega)
theorem bit_step {ds : Array Nat} {b : Bool} {c : Nat} (h : IsBit c) : PySem.NumText.step 2 (ds, b) c = some (ds.push (c - 48), true) := by
  have hr : c ≠ 95 := by unfold IsBit at h; omega
  have lt : c - 48 < 2 := by unfold IsBit at h; omega
  unfold PySem.NumText.step
  rw [if_neg (fun z => hr (beq_iff_eq.mp z)), Hx.digit_hex (bit_hex h), bit_val h]
  exact if_pos lt
theorem bit_fold : ∀ (cs : List Nat) (ds : Array Nat), (∀ c ∈ cs, IsBit c) → cs.foldlM (PySem.NumText.step 2) (ds, true) = some (cs.foldl (fun a c => a.push (c - 48)) ds, true)
  | [], _, _ => rfl
  | c :: cs, ds, h => by
    rw [List.foldlM_cons, bit_step (h c List.mem_cons_self)]
    exact bit_fold cs (ds.push (c - 48)) fun d hd => h d (List.mem_cons_of_mem _ hd)
theorem bit_digits {cs : List Nat} (h : ∀ c ∈ cs, IsBit c) (hne : cs ≠ []) : digits? 2 cs = some (cs.foldl (fun a c => a.push (c - 48)) #[]) := by
  match cs, hne with
  | c :: cs, _ =>
    have q := bit_fold cs ((#[] : Array Nat).push (c - 48)) fun d hd => h d (List.mem_cons_of_mem _ hd)
    unfold digits?
    rw [List.foldlM_cons, bit_step (h c List.mem_cons_self)]
    show (cs.foldlM (PySem.NumText.step 2) ((#[] : Array Nat).push (c - 48), true)).bind _ = _
    rw [q]
    all_goals rfl
theorem bit_push : ∀ (cs : List Nat) (ds : Array Nat), (cs.foldl (fun a c => a.push (c - 48)) ds).foldl (fun a d => a * 2 + d) 0 = cs.foldl (fun a c => 2 * a + (c - 48)) (ds.foldl (fun a d => a * 2 + d) 0)
  | [], _ => rfl
  | c :: cs, ds => by
    rw [List.foldl_cons, bit_push cs (ds.push (c - 48)), List.foldl_cons]
    congr 1
    simp [Nat.mul_comm]
theorem bit_based {cs : List Nat} (h : ∀ c ∈ cs, IsBit c) : based 2 cs = (2, false, cs) := by
  match cs, h with
  | [], _ => rfl
  | [a], h =>
    rcases (show a = 48 ∨ a = 49 from h a List.mem_cons_self) with rfl | rfl <;> rfl
  | a :: c :: r, h =>
    rcases (show a = 48 ∨ a = 49 from h a List.mem_cons_self) with rfl | rfl <;>
    rcases (show c = 48 ∨ c = 49 from h c (List.mem_cons_of_mem _ List.mem_cons_self)) with rfl | rfl <;> rfl
theorem bit_read {cs : List Nat} (h : ∀ c ∈ cs, IsBit c) (hne : cs ≠ []) : (int_private% "readNumeral") 0 2 cs = (int_private% "Numeral.value") ((Tz.worth cs : Nat) : Int) := by
  have hx : ∀ c ∈ cs, Hx.IsHex c := fun c hc => bit_hex (h c hc)
  have hr : ∀ c ∈ cs.reverse, Hx.IsHex c := fun c hc => hx c (List.mem_reverse.mp hc)
  refine (readNumeral_eq 0 2 cs).trans ?_
  rw [Hx.dropB hx, Hx.signH hx]
  show judge 0 false (based 2 cs).1 (based 2 cs).2.1 (digits? (based 2 cs).1 (((based 2 cs).2.2.reverse.dropWhile blank).reverse)) = _
  rw [bit_based h]
  show judge 0 false 2 false (digits? 2 ((cs.reverse.dropWhile blank).reverse)) = _
  rw [Hx.dropB hr, List.reverse_reverse, bit_digits h hne]
  show (int_private% "Numeral.value") (((cs.foldl (fun a c => a.push (c - 48)) (#[] : Array Nat)).foldl (fun a d => a * 2 + d) 0 : Nat) : Int) = _
  have z : (#[] : Array Nat).foldl (fun a d => a * 2 + d) 0 = 0 := by first | rfl | simp
  rw [bit_push, z]
  all_goals rfl
theorem bit_gives {x : PySem.Str} {u t : Tok} (hl : x.length ≤ 640) (h : ∀ c ∈ x.cps.toList, IsBit c) (hne : x.cps.toList ≠ []) :
    Gives (Builtin.«int.__new__» ⟨[.type "int", .str x u, .int 2 t], []⟩) (.int ((Tz.worth x.cps.toList : Nat) : Int)) :=
  .of_wp fun M A E s Q hQ => by
    obtain ⟨hp, g, d, tk, os⟩ := s
    have f1 := F.conv_sub_int
    have f2 := F.madeHere_int
    have f6 : typeOf (.str x u) = pure (.type "str") := rfl
    obtain ⟨e1, e2⟩ := Hx.seen_hex fun c hc => bit_hex (h c hc)
    have hs : (numSeenOf x).length ≤ 640 := by
      rw [e2, Array.length_toList]
      exact hl
    have hr : (int_private% "readNumeral") 0 2 (numSeenOf x) = (int_private% "Numeral.value") ((Tz.worth x.cps.toList : Nat) : Int) := by
      rw [e2]
      exact bit_read h hne
    have ha : ((numSeenOf x).length == (numTextOf x).length) = true := by
      rw [e1, e2]
      exact beq_self_eq_true _
    have hk := Hx.Hid.mk (And.intro hs (And.intro hr ha))
    clear hs hr ha e1 e2 hl hne h
    repeat (any_goals (first
      | assumption
      | ((with_reducible show wpAny _ _ ((int_private% "intFromText") _ _ _) _ _ _); refine Hx.wp_textB hk.out.1 hk.out.2.1 hk.out.2.2 ?_)
      | wp_step))
    all_goals first | exact ⟨_, rfl, hQ⟩ | skip
theorem bit_call {prog : Program} {w : World} {A : Around} {E : Value → Shared → Prop} {s : Shared} {Q : Value → Shared → Prop} {x : PySem.Str} {u t : Tok} (hl : x.length ≤ 640) (h : ∀ c ∈ x.cps.toList, IsBit c) (hne : x.cps.toList ≠ [])
    (hQ : Q (.int ((Tz.worth x.cps.toList : Nat) : Int) s.toks) { s with toks := s.toks + 1 }) : wpAny (model prog w) A (call (.type "int") [.str x u, .int 2 t]) Q E s :=
  callType_new F.called_int F.newNe_int (Hx.typeCall_int_2 _ _) (Hx.newCall_int_2 _ _) (fun obj => F.initArgs_range_2 obj _ _) F.entry_int_new (bit_gives hl h hne).meets (show (Made.int ((Tz.worth x.cps.toList : Nat) : Int)).post _ s from ⟨rfl, hQ⟩)
/-- int(t, 2) -/
theorem call_int_bits {X : Cx} : CallR X (.type "int") (fun xs H Q => ∃ l : List Nat, xs = [.str (SX.S l), .int 2] ∧ l ≠ [] ∧ l.length ≤ 640 ∧ (∀ c ∈ l, IsBit c) ∧ Q (.int ((Tz.worth l : Nat) : Int)) H) := by
  intro pins s σ H xs us Q I r h
  obtain ⟨l, rfl, hne, hl, hx, q⟩ := h
  obtain ⟨u, w', rfl, r1, r2⟩ := vals2 r
  obtain ⟨t1, rfl⟩ := r1
  obtain ⟨t2, rfl⟩ := r2
  exact bit_call (x := SX.S l) (by rw [SX.S_len]; exact hl) hx hne ⟨.int ((Tz.worth l : Nat) : Int), H, I.tok _, ⟨_, rfl⟩, q⟩
end TzBit
namespace Tz
open PySem PySem.Spec PyProof.Rows L2 TzF TzRepr
/-! ### the text of a word's bits -/
theorem bt_get (v : Nat) : ∀ (n i : Nat), i < n → (bt v n)[i]? = some (48 + v / 2 ^ (n - 1 - i) % 2)
  | 0, i, h => absurd h (Nat.not_lt_zero i)
  | n + 1, 0, _ => by
    rw [bt]
    rfl
  | n + 1, i + 1, h => by
    have e := bt_get v n i (by omega)
    rw [bt, List.getElem?_cons_succ, e]
    congr 5
    omega
theorem join_ones : ∀ l : List Nat, TL.joinL [] (l.map fun c => [c]) = l
  | [] => rfl
  | [c] => rfl
  | c :: d :: r => by
    have e := join_ones (d :: r)
    rw [List.map_cons, List.map_cons, TL.joinL, ← List.map_cons (f := fun c => [c]), e]
    rfl
theorem join_bits (l : List Nat) : Txt.join ("" : Str) ((l.map fun c => SX.S [c])) = SX.S l := by
  have e := SX.join_S [] (l.map fun c => [c])
  rw [List.map_map, join_ones] at e
  exact e
theorem len_bits (l : List Nat) : ((l.map fun c => SX.S [c]).map (·.length)).sum = l.length := by
  induction l with
  | nil => rfl
  | cons c r ih =>
    rw [List.map_cons, List.map_cons, List.sum_cons, ih, SX.S_len, List.length_cons]
    show 1 + r.length = r.length + 1
    omega
def spStr (C : Addr) : Sp := fun vs H Q _ => ∃ x, ∃ w : Nat, ∃ u : Int, vs = [.ref x] ∧ WordAt C H x w u ∧ ∀ H', Ex H H' → Q (.str (SX.S (bt u.toNat w))) H'
theorem bit_is {u : Int} (u0 : 0 ≤ u) (k : Nat) : Builtin.bitAnd (u / 2 ^ k) 1 = ((u.toNat / 2 ^ k % 2 : Nat) : Int) := by
  have e : Builtin.bitAnd (u / 2 ^ k) (2 ^ 1 - 1) = (u / 2 ^ k) % 2 ^ 1 := PySem.W.kbt_mask _ 1
  have e1 : (2 : Int) ^ 1 - 1 = 1 := by decide
  have e2 : (2 : Int) ^ 1 = 2 := by decide
  rw [e1, e2] at e
  rw [e]
  have hu : u = (u.toNat : Int) := (Int.toNat_of_nonneg u0).symm
  conv => lhs; rw [hu]
  rw [Int.natCast_emod, Int.natCast_ediv, Int.natCast_pow]
  rfl
end Tz
namespace Tz
open PySem PySem.Spec PyProof.Rows L2 TzF TzRepr
/-- what a thing at y needs of the heap stays: all that is no list, and y's own object -/
def Stay (y : V) (H H' : Hp) : Prop := ∀ a o, H a = some o → (∀ ps, o ≠ .tbl ps) → ((∃ xs, o = .lst xs) → y = .ref a) → H' a = some o
theorem Stay.ext {y : V} {H H' : Hp} (e : LamX.ExtN H H') : Stay y H H' := fun a o h n _ => e a o h n
theorem Stay.ex {y : V} {H H' : Hp} (e : Ex H H') : Stay y H H' := fun a o h _ _ => e a o h
theorem Stay.go {y : V} {z : Addr} {H H' : Hp} (g : Go z H H') (hz : ∃ xs, H z = some (.lst xs)) (n : y ≠ .ref z) : Stay y H H' := fun a o h m l => g a o (fun e => by
  obtain ⟨xs, hz⟩ := hz
  subst e
  rw [hz] at h
  cases h
  exact n (l ⟨_, rfl⟩)) m h
theorem Stay.upd {y : V} {z : Addr} {H : Hp} {u : HO} (hz : ∃ xs, H z = some (.lst xs)) (n : y ≠ .ref z) : Stay y H (upd H z u) := Stay.go (z := z) (fun a o na _ h => by rw [upd_ne na]; exact h) hz n
section
variable {C : Addr} {H H' : Hp} {w : Nat} {u : Int} {y : V} {t : Str} {g : Tag} {r : Res}
theorem WordAt.stay {x : Addr} {y : V} (h : WordAt C H x w u) (s : Stay y H H') : WordAt C H' x w u := by
  obtain ⟨⟨dx, h1⟩, h2, h3, h4, h5⟩ := h
  exact ⟨⟨dx, s _ _ h1 (fun _ q => by cases q) (fun ⟨_, q⟩ => by cases q)⟩, h2, h3, h4, h5⟩
theorem Kd.stay (k : Kd C H y g) (s : Stay y H H') : Kd C H' y g := k.step fun a o h m e => s a o h m fun _ => e
theorem Side.stay (k : Side C H w y r) (s : Stay y H H') : Side C H' w y r := k.step fun a o h m e => s a o h m fun _ => e
theorem Flat.stay {x y : V} (f : Flat C x t H) (s : Stay y H H') : Flat C x t H' := by
  rcases f with f | f | ⟨a, dx, fs, h1, h2, w, u, W, h3⟩
  · exact .inl f
  · exact .inr (.inl f)
  · exact .inr (.inr ⟨a, dx, fs, h1, s _ _ h2 (fun _ q => by cases q) (fun ⟨_, q⟩ => by cases q), w, u, W.stay s, h3⟩)
theorem Shown.stay (d : Shown C H y t) (s : Stay y H H') : Shown C H' y t := by
  have each : ∀ {xs : List V} {ts : List Str}, Each (Flat C) xs ts H → Each (Flat C) xs ts H' := fun p => ⟨p.1, fun i x t h1 h2 => (p.2 i x t h1 h2).stay s⟩
  rcases d with d | ⟨a, h1, h2, h3⟩ | ⟨l, xs, ts, h1, h2, h3, h4⟩ | ⟨l, xs, ts, h1, h2, h3, h4⟩
  · exact .inl (d.stay s)
  · exact .inr (.inl ⟨a, h1, s _ _ h2 (fun _ q => by cases q) (fun _ => h1), h3⟩)
  · exact .inr (.inr (.inl ⟨l, xs, ts, h1, s _ _ h2 (fun _ q => by cases q) (fun _ => h1), h3, each h4⟩))
  · exact .inr (.inr (.inr ⟨l, xs, ts, h1, s _ _ h2 (fun _ q => by cases q) (fun _ => h1), h3, each h4⟩))
end
/-! ### what is due -/
def Verd (C : Addr) (H : Hp) (w : Nat) (i0 : Itm) (its : List Itm) (o : Out) : Prop :=
  (∃ u, Lead C H i0.1 w u ∧ (∀ i ∈ its, Side C H w i.1 i.2.1 ∧ Shown C H i.1 i.2.2) ∧ o = outc w u its) ∨ (∃ g, Kd C H i0.1 g ∧ g ≠ .own ∧ Shown C H i0.1 i0.2.2 ∧ o = .word i0.1 i0.2.2)
theorem Verd.stay {C : Addr} {H H' : Hp} {w : Nat} {i0 : Itm} {its : List Itm} {o : Out} (h : Verd C H w i0 its o) (s0 : Stay i0.1 H H') (s : ∀ i ∈ its, Stay i.1 H H') : Verd C H' w i0 its o := by
  rcases h with ⟨u, ⟨x, e, W⟩, h, eo⟩ | ⟨g, d, ng, sh, eo⟩
  · exact .inl ⟨u, ⟨x, e, W.stay s0⟩, fun i hi => ⟨(h i hi).1.stay (s i hi), (h i hi).2.stay (s i hi)⟩, eo⟩
  · exact .inr ⟨g, d.stay s0, ng, sh.stay s0, eo⟩
theorem outc_word {C : Addr} {H : Hp} {w : Nat} {y : V} {tx : Str} : ∀ {its : List Itm} {u : Int}, (∀ i ∈ its, Side C H w i.1 i.2.1 ∧ Shown C H i.1 i.2.2) → outc w u its = .word y tx → Shown C H y tx
  | [], _, _, e => by cases e
  | (x, .val v, t) :: l, u, h, e => outc_word (fun i hi => h i (List.mem_cons_of_mem _ hi)) e
  | (x, .unlike w', t) :: l, u, h, e => by cases e
  | (x, .bad, t) :: l, u, h, e => by
    cases e
    exact (h _ List.mem_cons_self).2
theorem outc_unlike {C : Addr} {H : Hp} {w w' : Nat} : ∀ {its : List Itm} {u : Int}, (∀ i ∈ its, Side C H w i.1 i.2.1 ∧ Shown C H i.1 i.2.2) → outc w u its = .unlike w' → w' ≤ 64
  | [], _, _, e => by cases e
  | (x, .val v, t) :: l, u, h, e => outc_unlike (fun i hi => h i (List.mem_cons_of_mem _ hi)) e
  | (x, .unlike w2, t) :: l, u, h, e => by
    cases e
    have s := (h _ List.mem_cons_self).1
    cases s with
    | unlike W ne => exact W.w64
  | (x, .bad, t) :: l, u, h, e => by cases e
section
variable {K : PySem.W.Frag} {C B1 B2 U p : Addr} {H H' : Hp} {w : Nat} {o : Out} {Q : VK}
theorem th_str {s : Str} : Thg K C p (.str s) (reprText s) H := .inl (.inr (.inl ⟨s, rfl, rfl⟩))
theorem small_log {n : Nat} (h : n ≤ 64) : ((n : Int)).natAbs.log2 < 1920 := by
  have : ((n : Int)).natAbs < 2 ^ 64 := by
    have : n < 2 ^ 64 := Nat.lt_of_le_of_lt h (by decide)
    simpa using this
  have := PySem.Flt.log2_lt_of (by decide) this
  omega
theorem th_nat {n : Nat} (h : n ≤ 64) : Thg K C p (.int (n : Int)) (PyData.shown (.int (n : Int))) H := .inl (.inl (.inr (.inr ⟨_, rfl, small_log h, rfl⟩)))
theorem th_word {a : Addr} {u : Int} (W : WordAt C H a w u) : Thg K C p (.ref a) (wtext w u) H := by
  obtain ⟨dx, h⟩ := W.ob
  exact .inl (.inr (.inr ⟨a, dx, _, rfl, h, w, u, W, rfl⟩))
/-- a tuple that tells it, new at p -/
def Tells (K : PySem.W.Frag) (C : Addr) (w : Nat) (o : Out) (H : Hp) (Q : VK) : Prop := ∀ p H' ys, Ex H H' → H p = none → H' p = some (.tup ys) → Each (Thg K C p) ys (o.ts w) H' → Q (.ref p) H'
theorem Tells.ex (k : Tells K C w o H Q) (e : Ex H H') : Tells K C w o H' Q := fun p H2 ys e2 np h t => k p H2 ys (e.trans e2) (back e np) h t
theorem out_heard (k : Tells K C w o H Q) (w64 : w ≤ 64) (sh : ∀ y tx, o = .word y tx → Shown C H y tx) (un : ∀ w', o = .unlike w' → w' ≤ 64) : OutK C B2 U w o H (fun v H2 => Tup H2 [.str "made", v] Q) (HE3 B1 B2 U Q) := by
  cases o with
  | made v => exact fun a H' e W p H2 np e2 hp => k p H2 _ (e.trans e2) (back e np) hp (two_each th_str (th_word (W.ex e2)))
  | word y tx => exact fly_value fun H1 e1 p H2 np e2 hp => k p H2 _ (e1.trans e2) (back e1 np) hp (two_each th_str (mon_Thg _ _ _ _ e2 (((sh y tx rfl).ex e1).at np)))
  | unlike w' => exact fly_unlike fun H1 e1 p H2 np e2 hp => k p H2 _ (e1.trans e2) (back e1 np) hp (three_each th_str (th_nat w64) (th_nat (un w' rfl)))
end
def spAsked (K : PySem.W.Frag) (C : Addr) (TL : List (Addr × Str)) : Sp := fun vs H Q _ => ∃ l i0 its w o, vs = [.ref l] ∧ H l = some (.lst ((i0 :: its).map (·.1))) ∧ its.length ≤ 3 ∧ LamX.Tabs TL H ∧ w ≤ 64 ∧ Verd C H w i0 its o ∧
  ∀ H1, LamX.ExtN H H1 → LamX.Tabs TL H1 → Tells K C w o H1 Q
def spDue (K : PySem.W.Frag) (C : Addr) : Sp := fun vs H Q _ => ∃ l i0 its w o, vs = [.ref l] ∧ H l = some (.lst ((i0 :: its).map (·.1))) ∧ its.length ≤ 3 ∧ w ≤ 64 ∧ Verd C H w i0 its o ∧ Tells K C w o H Q
/-- a thing that is drawn -/
def spThing (C : Addr) : Sp := fun vs H Q _ => ∃ z c cells t, ∃ w : Nat, vs = [.ref z, .int w] ∧ PenAt H z c cells t ∧ t ≤ 80000 ∧ 1 ≤ w ∧ w ≤ 64 ∧
  ∀ y r tx H', Side C H' w y r → Shown C H' y tx → tx.length ≤ 100 → (∀ a, y = .ref a → H a = none) → PenAt H' z c cells (t + 6) → Fw z H H' → Q y H'
theorem at0 {y : V} {ys : List V} : atI (y :: ys) 0 = some y := by
  have h : (y :: ys)[0]? = some y := rfl
  exact atI_nat h
theorem cut1 (y : V) (ys : List V) : cutV (y :: ys) (some 1) none = ys := by
  unfold cutV
  have e : HT.sIx (y :: ys).length 0 (some (1 : Int)) = min 1 (y :: ys).length := HT.sIx_nat (y :: ys).length 0 1
  rw [HT.sIx_none, e, List.length_cons, Nat.min_eq_left (by omega), List.drop_succ_cons, List.drop_zero, List.take_of_length_le (by omega)]
theorem Fw.back {z p : Addr} {H H' : Hp} (f : Fw z H H') (np : H' p = none) (n : p ≠ z) : H p = none := by
  cases q : H p with
  | none => rfl
  | some o =>
    rw [f _ _ n q] at np
    cases np
section
variable {C : Addr} {H : Hp}
theorem sh_int {i : Int} (h : i.natAbs.log2 < 1920) : Shown C H (.int i) (PyData.shown (.int i)) := .inl (.inl (.inr (.inr ⟨i, rfl, h, rfl⟩)))
theorem sh_bl (b : Bool) : Shown C H (.bl b) (PyData.shown (.bool b)) := .inl (.inl (.inr (.inl ⟨b, rfl, rfl⟩)))
theorem sh_non : Shown C H .non "None" := .inl (.inl (.inl ⟨rfl, rfl⟩))
theorem sh_str (s : Str) : Shown C H (.str s) (reprText s) := .inl (.inr (.inl ⟨s, rfl, rfl⟩))
theorem sh_word {a : Addr} {w : Nat} {u : Int} (W : WordAt C H a w u) : Shown C H (.ref a) (wtext w u) := by
  obtain ⟨dx, h⟩ := W.ob
  exact .inl (.inr (.inr ⟨a, dx, _, rfl, h, w, u, W, rfl⟩))
theorem sh_dic {a : Addr} (h : H a = some (.dK [])) : Shown C H (.ref a) "{}" := .inr (.inl ⟨a, rfl, h, rfl⟩)
theorem log_64 {i : Int} (h0 : 0 ≤ i) (h1 : i ≤ 18446744073709551616) : i.natAbs.log2 < 1920 := by
  have : i.natAbs < 2 ^ 65 := by omega
  have := PySem.Flt.log2_lt_of (by decide) this
  omega
theorem len_64 {i : Int} (h0 : 0 ≤ i) (h1 : i ≤ 18446744073709551616) : (PyData.shown (.int i)).length ≤ 100 := by
  rw [PyData.shown_int]
  exact Nat.le_trans (PyProof.Rows.toString_length_le h0 (k := 20) (by decide) (by omega)) (by decide)
theorem len_bl (b : Bool) : (PyData.shown (.bool b)).length ≤ 100 := by
  rw [PyData.shown_bool]
  cases b <;> decide +kernel
end
theorem minus1 : (-1 : Int).natAbs.log2 < 1920 ∧ (PyData.shown (.int (-1))).length ≤ 100 := by
  refine ⟨by decide, ?_⟩
  rw [PyData.shown_int]
  decide +kernel
def spLawT (K : PySem.W.Frag) (TL : List (Addr × Str)) : Sp := fun vs H Q _ => ∃ (a : Addr) (ns : List Int), vs = [.ref a] ∧ SqL K H a (ns.map V.int) ∧ ns.length ≤ 63 ∧ LamX.Tabs TL H ∧ ∀ H', Q (.bl true) H'
theorem outc_short {C : Addr} {H : Hp} {w : Nat} (w1 : 1 ≤ w) (w64 : w ≤ 64) : ∀ {its : List Itm} {s : Int}, 0 ≤ s → s ≤ mw w → (∀ i ∈ its, Side C H w i.1 i.2.1 ∧ i.2.2.length ≤ 10000) → ∀ t ∈ (outc w s its).ts w, t.length ≤ 10000
  | [], s, s0, s1, _, t, ht => by
    have m64 := mw_64 w64
    have ht : t ∈ [reprText "made", wtext w s] := ht
    rcases List.mem_cons.mp ht with rfl | ht
    · decide +kernel
    · rw [List.mem_singleton.mp ht]
      exact Nat.le_trans (wtext_len w64 s0 (by omega)) (by decide)
  | (x, .val v, tx) :: l, s, s0, s1, h, t, ht => by
    have b := (h _ List.mem_cons_self).1.val_bd
    have cb := cr_bd w1 (s + v)
    exact outc_short w1 w64 cb.1 cb.2 (fun i hi => h i (List.mem_cons_of_mem _ hi)) t ht
  | (x, .unlike w', tx) :: l, s, s0, s1, h, t, ht => by
    have sd := (h _ List.mem_cons_self).1
    have hw : w' ≤ 64 := by
      cases sd with
      | unlike W ne => exact W.w64
    have ht : t ∈ [reprText "unlike", PyData.shown (.int (w : Int)), PyData.shown (.int (w' : Int))] := ht
    rcases List.mem_cons.mp ht with rfl | ht
    · decide +kernel
    · rcases List.mem_cons.mp ht with rfl | ht
      · exact Nat.le_trans (len_64 (by omega) (by omega)) (by decide)
      · rw [List.mem_singleton.mp ht]
        exact Nat.le_trans (len_64 (by omega) (by omega)) (by decide)
  | (x, .bad, tx) :: l, s, s0, s1, h, t, ht => by
    have ht : t ∈ [reprText "word", tx] := ht
    rcases List.mem_cons.mp ht with rfl | ht
    · decide +kernel
    · rw [List.mem_singleton.mp ht]
      exact (h _ List.mem_cons_self).2
theorem ts_len (w : Nat) (o : Out) : (o.ts w).length ≤ 100 := by
  cases o <;> (show _ ≤ 100; simp [Out.ts])
theorem word_short {w : Nat} {y : V} {tx : Str} (h : tx.length ≤ 10000) : ∀ t ∈ (Out.word y tx).ts w, t.length ≤ 10000 := fun t ht => by
  have ht : t ∈ [reprText "word", tx] := ht
  rcases List.mem_cons.mp ht with rfl | ht
  · decide +kernel
  · rw [List.mem_singleton.mp ht]
    exact h
theorem bits_short {u w : Nat} (h : w ≤ 64) : (reprText (SX.S (bt u w))).length ≤ 10000 := by
  have e := StrLaws.reprText_len (SX.S (bt u w)) fun c hc => by
    have z : c ∈ bt u w := hc
    rcases bt_mem z with rfl | rfl <;> decide
  have l : (SX.S (bt u w)).length = w := by rw [SX.S_len, bt_len]
  have s : (reprText (SX.S (bt u w))).length ≤ 10 * (SX.S (bt u w)).length + 2 := by
    refine Nat.le_trans (Nat.le_of_eq ?_) e
    simp [Str.length]
  omega
theorem Kd.told {C a : Addr} {H : Hp} {y : V} {g : Tag} (d : Kd C H y g) (e : y = .ref a) : ¬ H a = none := fun n => by
  cases d with
  | non => cases e
  | bl b => cases e
  | int i => cases e
  | str z => cases e
  | lst h => cases e; rw [n] at h; cases h
  | tup h => cases e; rw [n] at h; cases h
  | dic h => cases e; rw [n] at h; cases h
  | own W =>
    obtain ⟨_, h⟩ := W.ob
    cases e
    rw [n] at h
    cases h
theorem Side.told {C a : Addr} {H : Hp} {w : Nat} {y : V} {r : Res} (s : Side C H w y r) (e : y = .ref a) : ¬ H a = none := by
  obtain ⟨g, d⟩ := s.kd
  exact d.told e
end Tz
namespace Tz
open PySem PySem.Spec PyProof.Rows L2 TzF TzRepr
/-! ### halves -/
def hmax (b : Nat) : Int := 2 ^ b - 1
def Halfs (b : Nat) (hs : List Int) : Prop := ∀ h ∈ hs, 0 ≤ h ∧ h ≤ hmax b
def NoHalf (b : Nat) (y : V) : Prop := ∀ n, y = .int n → ¬ (0 ≤ n ∧ n ≤ hmax b)
def OddW (y : V) : Prop := ∀ b : Nat, 1 ≤ b → b ≤ 32 → y ≠ .int ((2 * b : Nat) : Int)
/-- the j-th word of the halves -/
def pw (b : Nat) (hs : List Int) (j : Nat) : Int := hs.getD (2 * j) 0 * 2 ^ b + hs.getD (2 * j + 1) 0
def pk (b : Nat) (hs : List Int) (i : Nat) : List Int := (List.range i).map (pw b hs)
def hn (hs : List Int) : Nat := (hs.length + 1) / 2
theorem pk_succ (b : Nat) (hs : List Int) (i : Nat) : pk b hs (i + 1) = pk b hs i ++ [pw b hs i] := by
  unfold pk
  rw [List.range_succ, List.map_append]
  rfl
theorem pk_len (b : Nat) (hs : List Int) (i : Nat) : (pk b hs i).length = i := by
  unfold pk
  rw [List.length_map, List.length_range]
theorem hmax_pos {b : Nat} (h : 1 ≤ b) : 1 ≤ hmax b := mw_pos h
theorem hmax_mw (b : Nat) : hmax b = mw b := rfl
theorem getD_half {b : Nat} {hs : List Int} (h : Halfs b hs) (h1 : 1 ≤ b) (i : Nat) : 0 ≤ hs.getD i 0 ∧ hs.getD i 0 ≤ hmax b := by
  have := hmax_pos h1
  rw [List.getD_eq_getElem?_getD]
  cases e : hs[i]? with
  | none => exact ⟨Int.le_refl 0, by show (0 : Int) ≤ _; omega⟩
  | some v => exact h v (List.mem_of_getElem? e)
theorem pw_bd {b : Nat} {hs : List Int} (h : Halfs b hs) (h1 : 1 ≤ b) (j : Nat) : 0 ≤ pw b hs j ∧ pw b hs j ≤ mw (2 * b) := by
  have a := getD_half h h1 (2 * j)
  have c := getD_half h h1 (2 * j + 1)
  have e : (2 : Int) ^ (2 * b) = 2 ^ b * 2 ^ b := by rw [Nat.two_mul, Int.pow_add]
  have p : (0 : Int) < 2 ^ b := by have := mw_pos h1; unfold mw at this; omega
  unfold pw mw
  rw [e]
  generalize hs.getD (2 * j) 0 = x at a
  generalize hs.getD (2 * j + 1) 0 = y at c
  unfold hmax at a c
  generalize (2 : Int) ^ b = n at *
  have q : x * n ≤ (n - 1) * n := Int.mul_le_mul_of_nonneg_right a.2 (Int.le_of_lt p)
  have q0 : 0 ≤ x * n := Int.mul_nonneg a.1 (Int.le_of_lt p)
  rw [Int.sub_mul, Int.one_mul] at q
  omega
theorem pk_bd {b : Nat} {hs : List Int} (h : Halfs b hs) (h1 : 1 ≤ b) (i : Nat) : ∀ v ∈ pk b hs i, 0 ≤ v ∧ v ≤ mw (2 * b) := fun v hv => by
  unfold pk at hv
  obtain ⟨j, _, rfl⟩ := List.mem_map.mp hv
  exact pw_bd h h1 j
/-- by the width and the halves: an error leaves, or all is well -/
def Pk (C B1 B2 : Addr) (y : V) (ys : List V) (H : Hp) (E : XK) (good : Nat → List Int → Prop) : Prop :=
  (OddW y ∧ Flies B1 [("width", y)] H E) ∨ ∃ b : Nat, y = .int ((2 * b : Nat) : Int) ∧ 1 ≤ b ∧ b ≤ 32 ∧
    ((∃ hs z g rest, ys = hs.map V.int ++ z :: rest ∧ Halfs b hs ∧ Kd C H z g ∧ NoHalf b z ∧ Flies B2 [("value", z)] H E) ∨ ∃ hs, ys = hs.map V.int ∧ Halfs b hs ∧ hs.length ≤ 100 ∧ good b hs)
def spEvenX (C B : Addr) : Sp := fun vs H Q E => ∃ y g, vs = [y] ∧ Kd C H y g ∧ ((∃ b : Nat, y = .int ((2 * b : Nat) : Int) ∧ 1 ≤ b ∧ b ≤ 32 ∧ Q y H) ∨ (OddW y ∧ Flies B [("width", y)] H E))
def spHalvesX (C B : Addr) : Sp := fun vs H Q E => ∃ b : Nat, ∃ l ys, vs = [.int ((2 * b : Nat) : Int), .ref l] ∧ 1 ≤ b ∧ b ≤ 32 ∧ H l = some (.lst ys) ∧
  ((∃ hs z g rest, ys = hs.map V.int ++ z :: rest ∧ Halfs b hs ∧ Kd C H z g ∧ NoHalf b z ∧ Flies B [("value", z)] H E) ∨ ∃ hs, ys = hs.map V.int ∧ Halfs b hs ∧ Q .non H)
def spPackedX (C B1 B2 : Addr) : Sp := fun vs H Q E => ∃ y g l ys, vs = [y, .ref l] ∧ Kd C H y g ∧ H l = some (.lst ys) ∧
  Pk C B1 B2 y ys H E fun b hs => ∀ p H' xs, H p = none → Ex H H' → H' p = some (.lst (xs.map V.ref)) → Ws C H' (2 * b) xs (pk b hs (hn hs)) → Q (.ref p) H'
def spHalfTotX (C B1 B2 : Addr) : Sp := fun vs H Q E => ∃ y g l ys, vs = [y, .ref l] ∧ Kd C H y g ∧ H l = some (.lst ys) ∧
  Pk C B1 B2 y ys H E fun b hs => NewW C (2 * b) (cr (2 * b) (pk b hs (hn hs)).sum) H Q
theorem Pk.ex {C B1 B2 : Addr} {y : V} {ys : List V} {H H' : Hp} {E : XK} {good good' : Nat → List Int → Prop} (k : Pk C B1 B2 y ys H E good) (e : Ex H H') (m : ∀ b hs, good b hs → good' b hs) : Pk C B1 B2 y ys H' E good' := by
  rcases k with ⟨o, f⟩ | ⟨b, e1, b1, b2, ⟨hs, z, g, r, e2, h, d, no, f⟩ | ⟨hs, e2, h, l, k⟩⟩
  · exact .inl ⟨o, f.ex e⟩
  · exact .inr ⟨b, e1, b1, b2, .inl ⟨hs, z, g, r, e2, h, d.ex e, no, f.ex e⟩⟩
  · exact .inr ⟨b, e1, b1, b2, .inr ⟨hs, e2, h, l, m _ _ k⟩⟩
theorem passX0 {P : Program} {w : World} {X : Cx} : Passes (L2.CX P w) X E0 := fun _ _ _ _ _ _ _ ⟨_, _, _, _, _, _, _, _, _, _, _, _, h⟩ => h.elim
theorem rsz2 (n : Nat) : Builtin.Range.rangeSize 0 (n : Int) 2 = (((n + 1) / 2 : Nat) : Int) := by
  rw [PyProof.Rows.rangeSize_pos (by decide) (Int.natCast_nonneg n)]
  omega
theorem fits_ {i : Int} (h0 : 0 ≤ i) (h1 : i ≤ 100000) : Builtin.Range.rangeFitsLong i = true := by
  unfold Builtin.Range.rangeFitsLong
  rw [decide_eq_true (show -(2 ^ 63) ≤ i by omega), decide_eq_true (show i < 2 ^ 63 by omega)]
  rfl
theorem rgc2 {n : Nat} (h : n ≤ 1000) : RgC 0 (n : Int) 2 ((n + 1) / 2) := by
  refine ⟨by decide, by decide, ?_, rsz2 n⟩
  unfold Builtin.Range.small
  rw [rsz2, fits_ (Int.le_refl 0) (by decide), fits_ (i := (n : Int)) (by omega) (by omega), fits_ (i := 2) (by decide) (by decide), fits_ (i := (((n + 1) / 2 : Nat) : Int)) (by omega) (by omega), if_pos (by decide), fits_ (i := (n : Int) + (2 - 1)) (by omega) (by omega), Bool.or_true]
  rfl
theorem nat2 (b : Nat) : ((2 * b : Nat) : Int) / 2 = (b : Int) := by omega
theorem shl_half (b : Nat) : (1 : Int) * 2 ^ (((2 * b : Nat) : Int) / 2).toNat - 1 = hmax b := by
  rw [nat2, Int.one_mul, Int.toNat_natCast]
  rfl
theorem Ws.snoc {C : Addr} {H : Hp} {w : Nat} {xs : List Addr} {vs : List Int} {x : Addr} {v : Int} (h : Ws C H w xs vs) (W : WordAt C H x w v) : Ws C H w (xs ++ [x]) (vs ++ [v]) := by
  induction h with
  | nil => exact .cons W .nil
  | cons a _ ih => exact .cons a ih
theorem Shown.atN {K : PySem.W.Frag} {C p : Addr} {H : Hp} {y : V} {t : Str} (s : Shown C H y t) (n : y ≠ .ref p) : Thg K C p y t H := by
  rcases s with s | s | ⟨l, xs, ts, h1, h2, h3, h4⟩ | ⟨l, xs, ts, h1, h2, h3, h4⟩
  · exact .inl s
  · exact .inr (.inl ⟨s, fun b hb z => n (by rw [z, List.mem_singleton.mp hb])⟩)
  · exact .inr (.inr (.inl ⟨l, xs, ts, h1, fun z => n (by rw [h1, List.mem_singleton.mp z]), h2, h3, h4⟩))
  · exact .inr (.inr (.inr ⟨l, xs, ts, h1, fun z => n (by rw [h1, List.mem_singleton.mp z]), .inl (.inl h2), h3, h4⟩))
theorem cut_to {hs : List Int} {n : Nat} (h : n ≤ hs.length) : cutV (hs.map V.int) none (some (n : Int)) = (hs.take n).map V.int := by
  unfold cutV
  rw [HT.sIx_none, HT.sIx_nat, List.length_map, Nat.min_eq_left h, List.drop_zero, Nat.sub_zero, List.map_take]
theorem cut_from {hs : List Int} {n : Nat} (h : n ≤ hs.length) : cutV (hs.map V.int) (some (n : Int)) none = (hs.drop n).map V.int := by
  unfold cutV
  rw [HT.sIx_none, HT.sIx_nat, List.length_map, Nat.min_eq_left h, List.take_of_length_le, List.map_drop]
  rw [List.length_drop, List.length_map]
  exact Nat.le_refl _
theorem two_short {a b : Str} (ha : a.length ≤ 100) (hb : b.length ≤ 100) : (tupleText [a, b]).length ≤ sizeLine := short_tup (fun t ht => by
  rcases List.mem_cons.mp ht with rfl | ht
  · omega
  · rw [List.mem_singleton.mp ht]
    omega) (by show 2 ≤ 100; decide)
theorem short_lst {ts : List Str} (h : ∀ t ∈ ts, t.length ≤ 10000) (n : ts.length ≤ 100) : (listText ts).length ≤ sizeLine := by
  have key : ∀ l : List Str, (∀ t ∈ l, t.length ≤ 10000) → (l.map (·.length)).sum ≤ 10000 * l.length := by
    intro l
    induction l with
    | nil => intro _; exact Nat.le_refl 0
    | cons a r ih =>
      intro hl
      have h1 := hl a List.mem_cons_self
      have h2 := ih fun t ht => hl t (List.mem_cons_of_mem _ ht)
      rw [List.map_cons, List.sum_cons, List.length_cons]
      omega
  have h1 := textFrom_len_le ts 0 "["
  have h2 := key ts h
  have e : (listText ts).length = (textFrom 0 "[" ts).length + 1 := by
    show (textFrom 0 "[" ts ++ "]").length = _
    rw [strLen_append]; rfl
  have e1 : ("[" : Str).length = 1 := rfl
  exact Nat.le_trans (show _ ≤ 2000000 by omega) (by decide)
theorem Ws.each {C : Addr} {H : Hp} {w : Nat} {xs : List Addr} {vs : List Int} (h : Ws C H w xs vs) : Each (RIns C (WText C)) (xs.map V.ref) (vs.map (wtext w)) H := by
  refine ⟨by rw [List.length_map, List.length_map, h.len], fun i x t h1 h2 => ?_⟩
  rw [List.getElem?_map] at h1 h2
  cases q : xs[i]? with
  | none =>
    rw [q] at h1
    cases h1
  | some a =>
    have il := (List.getElem?_eq_some_iff.mp q).1
    obtain ⟨x', v, g1, g2, W⟩ := h.get il
    rw [q] at g1
    cases g1
    rw [q] at h1
    rw [g2] at h2
    cases h1
    cases h2
    obtain ⟨dx, ha⟩ := W.ob
    exact ⟨a, dx, _, rfl, ha, w, v, W, rfl⟩
theorem words_short {w : Nat} {vs : List Int} (w64 : w ≤ 64) (h : ∀ v ∈ vs, 0 ≤ v ∧ v ≤ mw w) (n : vs.length ≤ 100) : (listText (vs.map (wtext w))).length ≤ sizeLine := short_lst (fun t ht => by
  obtain ⟨v, hv, rfl⟩ := List.mem_map.mp ht
  have m64 := mw_64 w64
  have b := h v hv
  exact Nat.le_trans (wtext_len w64 b.1 (by omega)) (by decide)) (by rw [List.length_map]; exact n)
theorem pk_pos {b : Nat} {hs : List Int} (h : Halfs b hs) (h1 : 1 ≤ b) (i : Nat) : 0 ≤ (pk b hs i).sum := by
  have q := pk_bd h h1 i
  generalize pk b hs i = l at q
  induction l with
  | nil => exact Int.le_refl 0
  | cons a r ih =>
    have := (q a List.mem_cons_self).1
    have := ih fun v hv => q v (List.mem_cons_of_mem _ hv)
    rw [List.sum_cons]
    omega
theorem exn {H H' : Hp} (e : Ex H H') : LamX.ExtN H H' := fun a o h _ => e a o h
end Tz
namespace TzOwn
open PySem PySem.Spec PyProof.Rows PySem.W
section
variable {prog : Program} {w : World} {A : Around} {E : Value → Shared → Prop} {s : Shared} {K : Frag} {x C f L : Addr} {ox : Obj} {od : Option Obj} {h0 : Heap} {m : Str → Option Value} {name : Str} {b tb : Value}
/-- a slot of object, bound to an own instance -/
theorem bound_K {M : Model} {args : List Value} {Q : Option Value → Shared → Prop} {id : String} (X : K.In s.heap) (I : InstAt s.heap x ox C od) (hs : findIn K (.ref C) name = some (some (.builtin id))) (S : PySem.Slot "object" name id)
    (h : wpAny M A (call (.builtin id) (.ref x :: args)) (fun v => Q (some v)) E s) : wpAny M A (callSpecialIfBound? (.ref x) name args) Q E s := by
  simp only [callSpecialIfBound?, bindSpecialIfBound?]
  refine wpAny_holding (wpAny_bind (wpAny_bind (wpAny_bind (I.type.here ((looks_findIn X hs).here ?_)))))
  simp only [S.bind]
  refine wpAny_bind (wpAny_askSetting (wpAny_ite ?_))
  have fin : wpAny M A (call (.builtin id) ([.ref x] ++ args) >>= fun v => pure (some v)) Q E s := wpAny_bind (wpAny_mono h (fun v s' h' => wpAny_pure h') fun _ _ h' => h')
  split
  · exact wpAny_bind (wpAny_pure (wpAny_pure fin))
  · exact wpAny_tryCatch (wpAny_bind (wpAny_pure (wpAny_pure fin)))
theorem check_K {M : Model} {id owner n : String} {rest : List Value} {Q : Unit → Shared → Prop} (X : K.In s.heap) (I : InstAt s.heap x ox C od) (hk : builtinKind id = some .slot) (hs : splitId id = some (owner, n)) (ha : argsOk id ⟨.ref x :: rest, []⟩)
    (ho : subIn K (.ref C) (.type owner) = some true) (hq : Q () s) : wpAny M A (checkBuiltinCall id ⟨.ref x :: rest, []⟩) Q E s := by
  simp only [checkBuiltinCall, hk, hs]
  refine wpAny_bind ?_
  unfold isInstance
  refine wpAny_bind (m := typeOf (.ref x)) (I.type.here ((looks_subIn X ho).here ?_))
  simp only [Bool.not_true, Bool.false_eq_true, if_false]
  try refine wpAny_pure ?_
  cases hsig : Manifest.signature? id with
  | none => exact wpAny_pure hq
  | some sig =>
    simp only [argsOk, hsig] at ha
    have h2 : Bind.checkArgs id sig ⟨.ref x :: rest, []⟩ = pure () := ha
    show wpAny M A (Bind.checkArgs id sig ⟨.ref x :: rest, []⟩) Q E _
    rw [h2]; exact wpAny_pure hq
theorem objNe_K (X : K.In s.heap) (I : InstAt s.heap x ox C od) (he : findIn K (.ref C) "__eq__" = some (some (.ref f))) (hf : isFn K (.ref f) = true) (hu : A.units < cLine) {Q : Fin → Shared → Prop}
    (hcall : wpAny (model prog w) A (call (.ref f) [.ref x, b]) (fun v s' => ∃ c, v = .bool c ∧ Q (.done (.ret (.bool (!c)))) s') E s) :
    wpAny (model prog w) A (Builtin.«object.__ne__» ⟨[.ref x, b], []⟩) Q E s := by
  unfold Builtin.«object.__ne__»
  repeat (first
    | with_reducible refine wpAny_cRoomFor hu ?_
    | (refine wpAny_bind (m := callSpecialIfBound? (.ref x) (Str.ofString "__eq__") [b])
        (ifBound_K X I he hf (wpAny_mono hcall (fun r s' hr => by
          obtain ⟨c, rfl, hq⟩ := hr
          repeat (first | exact hq | exact wpAny_pure hq | exact wpAny_truthy_bool hq | (refine wpAny_bind (m := truthy (.bool _)) (wpAny_truthy_bool ?_)) | wp_step)) fun _ _ e => e)))
    | wp_step)
/-- != by the class's own __eq__ -/
theorem ne_K {Q : Value → Shared → Prop} (hu : A.units + 1 < cLine) (F : Fr h0 L s.heap m) (X₀ : K.In h0) (I : InstAt s.heap x ox C od) (hb : Looks (model prog w) s.heap (typeOf b) tb) (hn : notFirst K C tb = true)
    (he : findIn K (.ref C) "__eq__" = some (some (.ref f))) (hf : isFn K (.ref f) = true) (hne : findIn K (.ref C) "__ne__" = some (some (.builtin "object.__ne__"))) (ho : subIn K (.ref C) (.type "object") = some true)
    (h : wpAny (model prog w) A.in1 (call (.ref f) [.ref x, b]) (fun v s' => ∃ c, v = .bool c ∧ Q (.bool (!c)) s') E s) : wpAny (model prog w) A (richCompare .NotEq (.ref x) b) Q E s := by
  have X := X₀.keeps F.keep
  have one : wpAny (model prog w) A (tryCompare (.ref x) "__ne__" b) (fun r s' => ∃ v, r = some v ∧ Q v s') E s := by
    unfold tryCompare
    refine wpAny_bind (bound_K X I hne PySem.F.cmp_object.ne (wpAny_call (codeAny_call_builtin PySem.F.cmp_object.ne.plain PySem.F.cmpEntry_ne
      (check_K X I PySem.F.cmpKind_ne PySem.F.cmpSplit_ne (PySem.F.cmpArgs_ne _ _) ho
        (objNe_K (A := A.in1) X I he hf hu (wpAny_mono h (fun v s' hv => ?_) fun _ _ e => e))))))
    obtain ⟨c, rfl, hq⟩ := hv
    first | exact ⟨c, rfl, wpAny_pure ⟨_, rfl, hq⟩⟩ | exact ⟨c, rfl, wpAny_pure (wpAny_pure ⟨_, rfl, hq⟩)⟩ | exact ⟨c, rfl, ⟨_, rfl, hq⟩⟩
  unfold richCompare
  simp only [oneThing_ref]
  refine wpAny_holding (wpAny_bind (wpAny_cRoomFor (Nat.lt_of_succ_lt hu) ?_))
  rw [cmpInfo_NotEq]
  dsimp only
  refine wpAny_bind (I.type.here (wpAny_bind (hb.here ?_)))
  split
  · rename_i q
    have e : subIn K tb (.ref C) = some false := by
      rcases Bool.or_eq_true_iff.mp hn with e | e
      · rw [beq_iff_eq.mp e] at q; simp at q
      · exact beq_iff_eq.mp e
    refine wpAny_bind ((looks_subIn X e).here ?_)
    simp only [Bool.false_eq_true, if_false]
    refine wpAny_bind (wpAny_mono one (fun r s' z => ?_) fun _ _ e => e)
    obtain ⟨v, rfl, hq⟩ := z
    exact wpAny_pure hq
  · refine wpAny_bind (wpAny_pure ?_)
    simp only [Bool.false_eq_true, if_false]
    refine wpAny_bind (wpAny_mono one (fun r s' z => ?_) fun _ _ e => e)
    obtain ⟨v, rfl, hq⟩ := z
    exact wpAny_pure hq
end
end TzOwn
namespace TzOwn
open PySem PySem.Spec PyProof.Rows PySem.W
section
variable {K : Frag} {C x : Addr} {ox : Obj} {od : Option Obj}
theorem not_inst {prog : Program} {w : World} {A : Around} {E : Value → Shared → Prop} {s : Shared} {T : String} {Q : Bool → Shared → Prop} (X : K.In s.heap) (I : InstAt s.heap x ox C od) (hsub : subIn K (.ref C) (.type T) = some false) (q : Q false s) :
    wpAny (model prog w) A (isInstance (.ref x) (.type T)) Q E s := by
  unfold isInstance
  exact wpAny_bind (m := typeOf (.ref x)) (I.type.here ((looks_subIn X hsub).here q))
theorem list_eq_dec (a : Addr) (hsub : subIn K (.ref C) (.type "list") = some false) : Meets (Builtin.«list.__eq__» ⟨[.ref a, .ref x], []⟩) (fun _ R s => K.In s.heap ∧ InstAt s.heap x ox C od ∧ R (.ok (.ret .notImplemented)) s) :=
  .of_wp fun prog w A R s h => by
    obtain ⟨hp, g, d, tk, os⟩ := s; obtain ⟨X, I, h⟩ := h
    wp_walk using not_inst X I hsub
    exact ⟨_, rfl, h⟩
theorem tuple_eq_dec (a : Addr) (hsub : subIn K (.ref C) (.type "tuple") = some false) : Meets (Builtin.«tuple.__eq__» ⟨[.ref a, .ref x], []⟩) (fun _ R s => K.In s.heap ∧ InstAt s.heap x ox C od ∧ R (.ok (.ret .notImplemented)) s) :=
  .of_wp fun prog w A R s h => by
    obtain ⟨hp, g, d, tk, os⟩ := s; obtain ⟨X, I, h⟩ := h
    wp_walk using not_inst X I hsub
    exact ⟨_, rfl, h⟩
theorem dict_eq_dec (a : Addr) (hsub : subIn K (.ref C) (.type "dict") = some false) : Meets (Builtin.«dict.__eq__» ⟨[.ref a, .ref x], []⟩) (fun _ R s => K.In s.heap ∧ InstAt s.heap x ox C od ∧ R (.ok (.ret .notImplemented)) s) :=
  .of_wp fun prog w A R s h => by
    obtain ⟨hp, g, d, tk, os⟩ := s; obtain ⟨X, I, h⟩ := h
    wp_walk using not_inst X I hsub
    exact ⟨_, rfl, h⟩
end
end TzOwn
namespace TzOwn
open PySem PySem.Spec PyProof.Rows PySem.W
section
variable {prog : Program} {w : World} {A : Around} {E : Value → Shared → Prop} {s : Shared} {K : Frag} {x C f L : Addr} {ox : Obj} {od : Option Obj} {h0 : Heap} {m : Str → Option Value}
/-- a built-in value == an own instance: the left one declines, the class's own __eq__ answers -/
theorem eqr_K {u : Value} {T ida : String} {Q : Value → Shared → Prop} (hu : A.units < cLine) (F : Fr h0 L s.heap m) (X₀ : K.In h0) (I : InstAt s.heap x ox C od) (ht : s.TypeIs u T) (hsub : subIn K (.ref C) (.type T) = some false) (sl : Slot T (cmpInfo .Eq).2.1 ida)
    (hc : ∀ Q' : Value → Shared → Prop, Q' .notImplemented s → wpAny (model prog w) A (call (.builtin ida) [u, .ref x]) Q' E s) (he : findIn K (.ref C) "__eq__" = some (some (.ref f))) (hf : isFn K (.ref f) = true)
    (h : wpAny (model prog w) A (call (.ref f) [.ref x, u]) (PySem.W.CmpBack Q) E s) : wpAny (model prog w) A (richCompare .Eq u (.ref x)) Q E s := by
  have X := X₀.keeps F.keep
  have one : wpAny (model prog w) A (tryCompare (.ref x) "__eq__" u) (fun r s' => ∃ v, r = some v ∧ Q v s') E s := by
    unfold tryCompare
    refine wpAny_bind (ifBound_K X I he hf (wpAny_mono h (fun v s' hv => ?_) fun _ _ e => e))
    cases v <;> first | exact hv.elim | exact wpAny_pure ⟨_, rfl, hv⟩
  have ne : (Value.type T != Value.ref C) = true := bne_iff_ne.mpr fun q => by cases q
  rcases hi : cmpInfo CmpOp.Eq with ⟨sym, n1, n2⟩
  have e1 : n1 = ("__eq__" : Str) := by have := congrArg (·.2.1) hi; exact this.symm
  have e2 : n2 = ("__eq__" : Str) := by have := congrArg (·.2.2) hi; exact this.symm
  subst e1 e2
  rw [hi] at sl
  simp only [richCompare, hi, ht.oneThing_none]
  refine wpAny_holding (wpAny_bind (wpAny_cRoomFor hu ?_))
  refine wpAny_bind (wpAny_typeOf ht (wpAny_bind (I.type.here ?_)))
  simp only [ne, if_true]
  refine wpAny_bind ((looks_subIn X hsub).here ?_)
  simp only [Bool.false_eq_true, if_false, Bool.not_false, if_true]
  refine wpAny_bind (m := tryCompare u _ (.ref x)) (wpAny_tryCompare_declines ht sl (hc _ ⟨rfl, ?_⟩))
  refine wpAny_bind (wpAny_mono one (fun r s' z => ?_) fun _ _ e => e)
  obtain ⟨v, rfl, hq⟩ := z
  exact wpAny_pure hq
end
end TzOwn
namespace Tz
open PySem PySem.Spec PyProof.Rows L2 TzF TzRepr
/-! ### what makes no word -/
def NoWidth (y : V) : Prop := ∀ n, y = .int n → ¬ (1 ≤ n ∧ n ≤ 64)
def NoVal (w : Nat) (y : V) : Prop := ∀ n, y = .int n → ¬ (0 ≤ n ∧ n ≤ mw w)
/-- no text of 1 to 64 bits -/
def NoBits (y : V) : Prop := ∀ z, y = .str z → (z.length ≤ sizeLine ∧ (z.length = 0 ∨ 64 < z.length)) ∨ (z.length ≤ 64 ∧ ∃ c ∈ z.cps.toList, ¬ TzBit.IsBit c)
def isb (c : Nat) : Bool := decide (c ∈ ("01" : Str).cps.toList)
theorem isb_iff (c : Nat) : c ∈ ("01" : Str).cps.toList ↔ TzBit.IsBit c := by
  have e : ("01" : Str).cps.toList = [48, 49] := by decide +kernel
  rw [e]
  unfold TzBit.IsBit
  simp
def spWidthX (C B : Addr) : Sp := fun vs H Q E => ∃ y g, vs = [y] ∧ Kd C H y g ∧ NoWidth y ∧ Flies B [("width", y)] H E
def spInitX (C B1 B2 : Addr) : Sp := fun vs H Q E => ∃ p dx y g v gv, vs = [.ref p, y, v] ∧ H p = some (.ins C dx []) ∧ Kd C H y g ∧ Kd C H v gv ∧
  ((NoWidth y ∧ Flies B1 [("width", y)] H E) ∨ ∃ w : Nat, y = .int w ∧ 1 ≤ w ∧ w ≤ 64 ∧ NoVal w v ∧ Flies B2 [("value", v)] H E)
def spBitsX (C : Addr) : Sp := fun vs H Q _ => ∃ y g, vs = [y] ∧ Kd C H y g ∧ NoBits y ∧ ∀ H', Ex H H' → Q (.bl false) H'
def spOddW (C B : Addr) : Sp := fun vs H Q E => ∃ y g, vs = [y] ∧ Kd C H y g ∧ NoWidth y ∧ Flies B [("width", y)] H E
def spReadX (C B : Addr) : Sp := fun vs H Q E => ∃ y g, vs = [.ref C, y] ∧ Kd C H y g ∧ NoBits y ∧ Flies B [("value", y)] H E
/-! ### isinstance of a caught error that has fields -/
def rIsEd (K : PySem.W.Frag) (a : Addr) (k : Value) (d : Option Addr) : List V → Hp → VK → Prop := fun xs H Q => ∃ (D dd : Addr) (fs : List (Str × V)) (c : V) (cv : Value) (b : Bool),
  k = .ref D ∧ ExcC K D ∧ d = some dd ∧ H dd = some (.xd fs) ∧ xs = [.ref a, c] ∧ (∀ u, RelV c u → u = cv) ∧ PySem.W.kitOne K (.ref D) cv = some b ∧ Q (.bl b) H
theorem call_isEd {X : Cx} {a : Addr} {k : Value} {d : Option Addr} {oe : Obj} {pn : List (Addr × Obj)} (hz : Zc k d oe) (hf : ∃ vs, oe.data = .fields vs) : CallR (X.suite a ((a, oe) :: pn)) (.builtin "isinstance") (rIsEd X.K a k d) := by
  intro pins s σ H xs us Q I r h
  obtain ⟨D, dd, fs, c, cv, b, rfl, C, rfl, ea, rfl, hcv, e, q⟩ := h
  cases r with
  | cons rx rr =>
    cases rr with
    | cons rt rr =>
      cases rr
      cases rx
      have ec := hcv _ rt
      subst ec
      obtain ⟨ha, _⟩ := I.pin (a, oe) (List.mem_append.mpr (.inl List.mem_cons_self))
      obtain ⟨vs, hd⟩ := hf
      have hx : ObjOk X.prog X.w H s.heap dd (.xd fs) := I.hok dd _ ea
      obtain ⟨mA, hns, hr⟩ := hx
      obtain ⟨od, ho, hl⟩ := lookIn_ns hns
      have J : PySem.W.InstAt s.heap a oe D (some od) := ⟨ha, hz.1, by unfold PySem.W.notCls; rw [hd] <;> rfl, by rw [hz.2]; exact ho⟩
      have hcl : (PySem.W.clsIn X.K D).isSome = true := by
        obtain ⟨cd, hc, _⟩ := PySem.W.any_some C.hd
        rw [hc]
        rfl
      exact PySem.W.kia_one (PySem.W.kitx_exc hcl C.hg C.hk C.hs C.ha C.hn C.ht C.hm) I.kIn J e (fun z => nomatch z) fun tk => ⟨.bl b, H, I.kept (t' := tk) fun _ _ z => z, rfl, q⟩
/-- what a caught error is asked -/
def TTE (HE : VK → XK) : (XK → Hp → VK → Prop) → Hp → VK → Prop := fun tl H Q => tl (HE Q) H (fun _ H1 => Q (.bl false) H1)
def HEE (B1 B2 : Addr) (Q : VK) : XK := fun k d H => ∃ (D dd : Addr) (fs : List (Str × V)), (D = B1 ∨ D = B2) ∧ k = .ref D ∧ d = some dd ∧ H dd = some (.xd fs) ∧ ∀ H1, Ex H H1 → Q (.bl true) H1
theorem fly_e1 {B1 B2 : Addr} {Q : VK} {H : Hp} {fs : List (Str × V)} (h : ∀ H1, Ex H H1 → Q (.bl true) H1) : Flies B1 fs H (HEE B1 B2 Q) := fun d H' e q => ⟨B1, d, fs, .inl rfl, rfl, rfl, q, fun H1 e1 => h H1 (e.trans e1)⟩
theorem fly_e2 {B1 B2 : Addr} {Q : VK} {H : Hp} {fs : List (Str × V)} (h : ∀ H1, Ex H H1 → Q (.bl true) H1) : Flies B2 fs H (HEE B1 B2 Q) := fun d H' e q => ⟨B2, d, fs, .inr rfl, rfl, rfl, q, fun H1 e1 => h H1 (e.trans e1)⟩
/-! ### things -/
section
variable {C a : Addr} {H : Hp}
theorem fl_int {i : Int} (h : i.natAbs.log2 < 1920) : Flat C (.int i) (PyData.shown (.int i)) H := .inl (.inr (.inr ⟨i, rfl, h, rfl⟩))
theorem fl_str (s : Str) : Flat C (.str s) (reprText s) H := .inr (.inl ⟨s, rfl, rfl⟩)
theorem each1 {D : Rpr} {x : V} {t : Str} (h : D x t H) : Each D [x] [t] H := ⟨rfl, fun i y s e1 e2 => by
  match i with
  | 0 => cases e1; cases e2; exact h
  | i + 1 => simp at e1⟩
theorem each0 {D : Rpr} : Each D [] [] H := ⟨rfl, fun i y s e1 e2 => by simp at e1⟩
theorem sh_lst1 {x : V} {t : Str} (h : H a = some (.lst [x])) (f : Flat C x t H) : Shown C H (.ref a) (listText [t]) := .inr (.inr (.inl ⟨a, _, _, rfl, h, rfl, each1 f⟩))
theorem sh_tup1 {x : V} {t : Str} (h : H a = some (.tup [x])) (f : Flat C x t H) : Shown C H (.ref a) (tupleText [t]) := .inr (.inr (.inr ⟨a, _, _, rfl, h, rfl, each1 f⟩))
theorem sh_tup0 (h : H a = some (.tup [])) : Shown C H (.ref a) (tupleText []) := .inr (.inr (.inr ⟨a, _, _, rfl, h, rfl, each0⟩))
theorem sh_tup2 {x y : V} {t u : Str} (h : H a = some (.tup [x, y])) (f : Flat C x t H) (g : Flat C y u H) : Shown C H (.ref a) (tupleText [t, u]) := .inr (.inr (.inr ⟨a, _, _, rfl, h, rfl, two_each f g⟩))
end
/-- a thing that is drawn, of no use -/
def Odd1 (C : Addr) (bad : V → Prop) (H H' : Hp) (y : V) (tx : Str) : Prop := (∃ g, Kd C H' y g) ∧ bad y ∧ Shown C H' y tx ∧ tx.length ≤ 1000 ∧ ∀ a, y = .ref a → H a = none
def DrawnK (C : Addr) (bad : V → Prop) (z c : Addr) (cells : List Int) (t : Nat) (H : Hp) (Q : VK) : Prop := ∀ y tx H', Odd1 C bad H H' y tx → PenAt H' z c cells (t + 1) → Fw z H H' → Q y H'
def spNoWidth (C : Addr) : Sp := fun vs H Q _ => ∃ z c cells t, vs = [.ref z] ∧ PenAt H z c cells t ∧ t ≤ 80000 ∧ DrawnK C NoWidth z c cells t H Q
def spNoValue (C : Addr) : Sp := fun vs H Q _ => ∃ z c cells t, ∃ w : Nat, vs = [.ref z, .int w] ∧ PenAt H z c cells t ∧ t ≤ 80000 ∧ 1 ≤ w ∧ w ≤ 64 ∧ DrawnK C (NoVal w) z c cells t H Q
def spNoText (C : Addr) : Sp := fun vs H Q _ => ∃ z c cells t, ∃ w : Nat, vs = [.ref z, .int w] ∧ PenAt H z c cells t ∧ t ≤ 80000 ∧ 1 ≤ w ∧ w ≤ 64 ∧ DrawnK C NoBits z c cells t H Q
theorem NoBits.off {y : V} (h : ∀ z, y ≠ .str z) : NoBits y := fun z e => absurd e (h z)
theorem NoWidth.off {y : V} (h : ∀ n, y ≠ .int n) : NoWidth y := fun n e => absurd e (h n)
theorem NoVal.off {w : Nat} {y : V} (h : ∀ n, y ≠ .int n) : NoVal w y := fun n e => absurd e (h n)
theorem op_mul_str {X : Cx} : OpR X (binaryOp .Mult) (fun x y H Q => ∃ z n, x = .str z ∧ y = .int n ∧ MulOk z n ∧ Q (.str (Txt.mul z n)) H) := by
  intro pins s σ H x y v u Q I rx ry h
  obtain ⟨z, n, rfl, rfl, ok, q⟩ := h
  obtain ⟨t, rfl⟩ := rx
  obtain ⟨t', rfl⟩ := ry
  exact SB.mul ok fun t'' k => ⟨.str _, H, I.tok _, ⟨_, rfl⟩, q⟩
def bb : List Nat := (List.replicate 33 [48, 49]).flatten
theorem bb_mul : Txt.mul ("01" : Str) 33 = SX.S bb := by decide +kernel
theorem bb_bit : ∀ c ∈ bb, TzBit.IsBit c := by
  unfold TzBit.IsBit
  decide +kernel
theorem cutS_to {l : List Nat} {n : Nat} (h : n ≤ l.length) : cutS (SX.S l) none (some (n : Int)) = SX.S (l.take n) := by rw [C8.cutS_slice, SX.slice_to (by omega), Int.toNat_natCast]
theorem nob {s : Str} (c : Nat) (hl : s.length ≤ 64) (hc : c ∈ s.cps.toList) (nb : ¬ TzBit.IsBit c) : NoBits (.str s) := fun z e => by
  cases e
  exact .inr ⟨hl, c, hc, nb⟩
theorem rep_short {l : List Nat} (h : ∀ c ∈ l, c < 16 ^ 8) (n : l.length ≤ 90) : (reprText (SX.S l)).length ≤ 1000 := by
  have e := StrLaws.reprText_len (SX.S l) h
  have q : (SX.S l).length = l.length := SX.S_len l
  have s : (reprText (SX.S l)).length ≤ 10 * (SX.S l).length + 2 := by
    refine Nat.le_trans (Nat.le_of_eq ?_) e
    simp [Str.length]
  omega
theorem short2 {a b : Str} (ha : a.length ≤ 1000) (hb : b.length ≤ 1000) : (tupleText [a, b]).length ≤ sizeLine := short_tup (fun t ht => by
  rcases List.mem_cons.mp ht with rfl | ht
  · omega
  · rw [List.mem_singleton.mp ht]
    omega) (by show 2 ≤ 100; decide)
structure ExcK (K : PySem.W.Frag) (D : Addr) : Prop where
  ha : PySem.W.findIn K (.ref D) "__class__" = some (some (.builtin "object.__class__"))
  hm : PySem.W.mroIn K D (.type "object") = some true
  kv : PySem.W.kitOne K (.ref D) (.type "ValueError") = some true
def excB (K : PySem.W.Frag) (D : Addr) : Bool := eqV (PySem.W.findIn K (.ref D) "__class__") (some (some (.builtin "object.__class__"))) && (decide (PySem.W.mroIn K D (.type "object") = some true) && decide (PySem.W.kitOne K (.ref D) (.type "ValueError") = some true))
theorem excK_ok {K : PySem.W.Frag} {D : Addr} (h : excB K D = true) : ExcK K D := by
  obtain ⟨h1, h⟩ := two h
  obtain ⟨h2, h3⟩ := two h
  exact ⟨of_decide_eq_true h1, of_decide_eq_true h2, of_decide_eq_true h3⟩
theorem new_two {C x dx : Addr} {H : Hp} (nx : H x = none) (ndx : H dx = none) (ne : dx ≠ x) : Ex H (upd (upd H dx (.own x)) x (.ins C dx [])) := fun b o h => by
  rw [upd_ne (ne_of_none h nx), upd_ne (ne_of_none h ndx)]
  exact h
end Tz
namespace TzOwn
open PySem PySem.Spec PyProof.Rows L2
/-! a built-in value == an own instance: the left one declines -/
theorem int_eq_ins (n : Int) (t : Tok) (x C dx : Addr) : Meets (Builtin.«int.__eq__» ⟨[.int n t, .ref x], []⟩) (fun _ R s => s.heap.get? x = some (PySem.W.instObj C dx) ∧ R (.ok (.ret Value.notImplemented)) s) :=
  .of_wp fun prog w A R s h => by obtain ⟨hp, g, d, tk, os⟩ := s; obtain ⟨hl, h⟩ := h; wp_walk; exact ⟨_, rfl, h⟩
theorem str_eq_ins (z : Str) (t : Tok) (x C dx : Addr) : Meets (Builtin.«str.__eq__» ⟨[.str z t, .ref x], []⟩) (fun _ R s => s.heap.get? x = some (PySem.W.instObj C dx) ∧ R (.ok (.ret Value.notImplemented)) s) :=
  .of_wp fun prog w A R s h => by obtain ⟨hp, g, d, tk, os⟩ := s; obtain ⟨hl, h⟩ := h; wp_walk; exact ⟨_, rfl, h⟩
theorem bool_eq_ins (b : Bool) (x C dx : Addr) : Meets (Builtin.«int.__eq__» ⟨[.bool b, .ref x], []⟩) (fun _ R s => s.heap.get? x = some (PySem.W.instObj C dx) ∧ R (.ok (.ret Value.notImplemented)) s) :=
  .of_wp fun prog w A R s h => by obtain ⟨hp, g, d, tk, os⟩ := s; obtain ⟨hl, h⟩ := h; wp_walk; exact ⟨_, rfl, h⟩
theorem non_eq_ins (x C dx : Addr) : Meets (Builtin.«object.__eq__» ⟨[.none, .ref x], []⟩) (fun _ R s => s.heap.get? x = some (PySem.W.instObj C dx) ∧ R (.ok (.ret Value.notImplemented)) s) :=
  .of_wp fun prog w A R s h => by obtain ⟨hp, g, d, tk, os⟩ := s; obtain ⟨hl, h⟩ := h; wp_walk; exact ⟨_, rfl, h⟩
end TzOwn
namespace TzOwn
open PySem PySem.Spec PyProof.Rows L2
theorem none_eq_ins (x C dx : Addr) : Meets (Builtin.«NoneType.__eq__» ⟨[.none, .ref x], []⟩) (fun _ R s => s.heap.get? x = some (PySem.W.instObj C dx) ∧ R (.ok (.ret Value.notImplemented)) s) :=
  .of_wp fun prog w A R s h => by obtain ⟨hp, g, d, tk, os⟩ := s; obtain ⟨hl, h⟩ := h; wp_walk; exact ⟨_, rfl, h⟩
end TzOwn
namespace Tz
open PySem PySem.Spec PyProof.Rows L2 TzF TzRepr
section
variable {X : Cx} {CX : CXT} {C f : Addr} {fd : FuncData} {ps : List Str} {sp : Sp} {E : XK} {k : Nat}
/-- a thing that is no word == a word -/
def rEqR (C : Addr) (sp : Sp) (E : XK) : R2 := fun y x H Q => ∃ a dx fs g, x = .ref a ∧ H a = some (.ins C dx fs) ∧ Kd C H y g ∧ g ≠ .own ∧ sp [.ref a, y] H Q E
theorem op_eqR (N : FnOk X.prog X.w X.K X.mg X.base CX k f fd ps sp) (hr : Room k X.A) (M : Meth X.K C "__eq__" f) (hb : Binds X.K fd ps []) (hx : Passes CX X E) (A : Alone X.K C) : OpR X (compareOp .Eq) (rEqR C sp E) := by
  intro pins s σ H y x v u Q I ry rx h
  obtain ⟨a, dx, fs, g, rfl, ha, d, ng, q⟩ := h
  cases rx
  obtain ⟨od, J⟩ := TzOwn.inst_at I ha
  obtain ⟨mA, J0, _⟩ := ins_get I.hok ha
  obtain ⟨m, hF⟩ := I.fr
  have back : wpAny (model X.prog X.w) X.A (call (.ref f) [.ref a, v]) (PySem.W.CmpBack (EP X pins σ Q)) X.xe s := thn (run_fn (us := [.ref a, v]) (vs := [.ref a, y]) N hr hb .nil hx I (.cons rfl (.cons ry .nil)) q) fun _ _ z => TzOwn.back_cmp z
  show wpAny (model X.prog X.w) X.A (richCompare .Eq v (.ref a)) (EP X pins σ Q) X.xe s
  have XI := I.kIn
  cases d with
  | own W => exact absurd rfl ng
  | non =>
    cases ry
    exact TzOwn.eqr_K hr.units0 hF I.ok.mod.kin J rfl (A.of_ _ (by decide)) PySem.F.slot_NoneType_eq (fun Q' hq => call_meets PySem.F.slot_NoneType_eq rfl PySem.F.entry_NoneType_eq (PySem.F.args_NoneType_eq_2 _ _) (TzOwn.none_eq_ins a C dx) ⟨J0.obj, hq⟩) M.at_ M.fn back
  | bl b =>
    cases ry
    exact TzOwn.eqr_K hr.units0 hF I.ok.mod.kin J rfl (A.of_ _ (by decide)) PySem.F.slot_bool_eq (fun Q' hq => call_meets PySem.F.slot_bool_eq rfl PySem.F.entry_int_eq (PySem.F.args_int_eq_2 _ _) (TzOwn.bool_eq_ins b a C dx) ⟨J0.obj, hq⟩) M.at_ M.fn back
  | int i =>
    obtain ⟨t, rfl⟩ := ry
    exact TzOwn.eqr_K hr.units0 hF I.ok.mod.kin J (typeIs_int s i t) (A.of_ _ (by decide)) PySem.F.slot_int_eq (fun Q' hq => call_meets PySem.F.slot_int_eq (typeIs_int s i t) PySem.F.entry_int_eq (PySem.F.args_int_eq_2 _ _) (TzOwn.int_eq_ins i t a C dx) ⟨J0.obj, hq⟩) M.at_ M.fn back
  | str z =>
    obtain ⟨t, rfl⟩ := ry
    exact TzOwn.eqr_K hr.units0 hF I.ok.mod.kin J (typeIs_str s z t) (A.of_ _ (by decide)) PySem.F.slot_str_eq (fun Q' hq => call_meets PySem.F.slot_str_eq (typeIs_str s z t) PySem.F.entry_str_eq (PySem.F.args_str_eq_2 _ _) (TzOwn.str_eq_ins z t a C dx) ⟨J0.obj, hq⟩) M.at_ M.fn back
  | @lst b xs hb' =>
    cases ry
    obtain ⟨_, its, n, _, e⟩ := (show ObjOk X.prog X.w H s.heap b (.lst xs) from I.hok b _ hb')
    exact TzOwn.eqr_K hr.units0 hF I.ok.mod.kin J ⟨_, e, rfl⟩ (A.of_ _ (by decide)) PySem.F.slot_list_eq (fun Q' hq => call_meets PySem.F.slot_list_eq ⟨_, e, rfl⟩ PySem.F.entry_list_eq (PySem.F.args_list_eq_2 _ _) (TzOwn.list_eq_dec b (A.of_ _ (by decide))) ⟨XI, J, hq⟩) M.at_ M.fn back
  | @tup b xs hb' =>
    cases ry
    obtain ⟨_, its, _, o, e, hc, _⟩ := (show ObjOk X.prog X.w H s.heap b (.tup xs) from I.hok b _ hb')
    exact TzOwn.eqr_K hr.units0 hF I.ok.mod.kin J ⟨_, e, hc⟩ (A.of_ _ (by decide)) PySem.F.slot_tuple_eq (fun Q' hq => call_meets PySem.F.slot_tuple_eq ⟨_, e, hc⟩ PySem.F.entry_tuple_eq (PySem.F.args_tuple_eq_2 _ _) (TzOwn.tuple_eq_dec b (A.of_ _ (by decide))) ⟨XI, J, hq⟩) M.at_ M.fn back
  | @dic b kvs hb' =>
    cases ry
    obtain ⟨_, _, us, _, o, es, ep, e, hc, _⟩ := (show ObjOk X.prog X.w H s.heap b (.dK kvs) from I.hok b _ hb')
    exact TzOwn.eqr_K hr.units0 hF I.ok.mod.kin J ⟨_, e, hc.1⟩ (A.of_ _ (by decide)) PySem.F.slot_dict_eq (fun Q' hq => call_meets PySem.F.slot_dict_eq ⟨_, e, hc.1⟩ PySem.F.entry_dict_eq (PySem.F.args_dict_eq_2 _ _) (TzOwn.dict_eq_dec b (A.of_ _ (by decide))) ⟨XI, J, hq⟩) M.at_ M.fn back
/-- a word != anything -/
def rNe (C : Addr) (sp : Sp) (E : XK) : R2 := fun x y H Q => ∃ a dx fs g, x = .ref a ∧ H a = some (.ins C dx fs) ∧ Kd C H y g ∧ sp [.ref a, y] H (fun v H' => ∃ c, v = .bl c ∧ Q (.bl (!c)) H') E
theorem op_neA (N : FnOk X.prog X.w X.K X.mg X.base CX k f fd ps sp) (hr : Room (k + 1) X.A) (M : Meth X.K C "__eq__" f) (hne : PySem.W.findIn X.K (.ref C) "__ne__" = some (some (.builtin "object.__ne__"))) (hb : Binds X.K fd ps []) (hx : Passes CX X E) (A : Alone X.K C) : OpR X (compareOp .NotEq) (rNe C sp E) := by
  intro pins s σ H x y v u Q I rx ry h
  obtain ⟨a, dx, fs, g, rfl, ha, d, q⟩ := h
  cases rx
  obtain ⟨od, J⟩ := TzOwn.inst_at I ha
  obtain ⟨m, hF⟩ := I.fr
  show wpAny (model X.prog X.w) X.A (richCompare .NotEq (.ref a) u) (EP X pins σ Q) X.xe s
  refine TzOwn.ne_K (tb := g.ty C) hr.in1.units0 hF I.ok.mod.kin J (d.looks I ry) ?_ M.at_ M.fn hne A.hm ?_
  · unfold PySem.W.notFirst
    by_cases hg : g = .own
    · subst hg
      show (Value.ref C == Value.ref C || _) = true
      rw [beq_self_eq_true, Bool.true_or]
    · have e : g.ty C = .type g.nm := by cases g <;> first | rfl | exact absurd rfl hg
      rw [e, A.to _ (Tag.mem hg)]
      simp
  · have en : Env0 X.prog X.w X.K X.mg X.base X.A.in1 X.stack s H := I.env0.in1
    have bd := hb s [.ref a, u] I.kIn (by
      have := N.len _ _ _ _ q
      simpa using this)
    rw [List.append_nil] at bd
    refine wpAny_call (codeAny_mono (N.run X.A.in1 X.stack s H ⟨[.ref a, u], []⟩ [.ref a, u] [.ref a, y] _ E hr.in1 en bd (.cons rfl (.cons ry .nil)) q) fun r s' hq => ?_)
    cases r with
    | error e => exact hx pins σ H s e s' I hq
    | ok fl =>
      cases fl with
      | ret u =>
        have z : EP X pins σ (fun v H' => ∃ c, v = .bl c ∧ Q (.bl (!c)) H') u s' := I.after hq
        obtain ⟨v, H', I', r, c, rfl, q⟩ := z
        cases r
        exact ⟨c, rfl, .bl (!c), H', I', rfl, q⟩
      | next => exact False.elim hq
      | brk => exact False.elim hq
      | cont => exact False.elim hq
end
/-! ### rows of tuples, told -/
def ThgL (K : PySem.W.Frag) (C : Addr) (as : List Addr) : Rpr := fun x t H => Flat C x t H ∨ ((RDic x t H ∧ ∀ a ∈ as, x ≠ .ref a) ∨ (RList (Flat C) as x t H ∨ RTup K (Flat C) as x t H))
theorem mon_ThgL {K : PySem.W.Frag} {C : Addr} {as : List Addr} : Mon (ThgL K C as) := mon_Flat.or (Mon.or (fun x t H H' e d => ⟨mon_dic x t H H' e d.1, d.2⟩) ((mon_list mon_Flat).or (mon_tup mon_Flat)))
theorem Shown.atL {K : PySem.W.Frag} {C : Addr} {as : List Addr} {H : Hp} {y : V} {t : Str} (s : Shown C H y t) (na : ∀ a ∈ as, y ≠ .ref a) : ThgL K C as y t H := by
  rcases s with s | s | ⟨l, xs, ts, h1, h2, h3, h4⟩ | ⟨l, xs, ts, h1, h2, h3, h4⟩
  · exact .inl s
  · exact .inr (.inl ⟨s, na⟩)
  · exact .inr (.inr (.inl ⟨l, xs, ts, h1, fun z => na _ z h1, h2, h3, h4⟩))
  · exact .inr (.inr (.inr ⟨l, xs, ts, h1, fun z => na _ z h1, .inl (.inl h2), h3, h4⟩))
section
variable {X : Cx}
theorem rpG_ThgL {CX : CXT} {C f : Addr} {fd : FuncData} {ps : List Str} {E : XK} (N : FnOk X.prog X.w X.K X.mg X.base CX 1 f fd ps (spRepr (WText C))) (M : Meth X.K C "__repr__" f) (hb : Binds X.K fd ps []) (hx : Passes CX X E) (as : List Addr) : RpG X 3 as (ThgL X.K C as) := by
  have fl : ∀ as, RpG X 1 as (Flat C) := fun as => (rpG_flat.mono (by decide)).or ((rpG_str.mono (by decide)).or (rpG_ins N M hb hx))
  exact ((fl _).mono (by decide)).or ((rpG_dic.mono (by decide)).or (((rpG_list mon_Flat fun a => fl _).mono (by decide)).or ((rpG_tup mon_Flat fun a => fl _).mono (by decide))))
def RTupA (K : PySem.W.Frag) (D : Addr → Rpr) (as : List Addr) : Rpr := fun x t H => ∃ a xs ts, x = .ref a ∧ a ∉ as ∧ H a = some (.tup xs) ∧ t = tupleText ts ∧ Each (D a) xs ts H
theorem mon_tupA {K : PySem.W.Frag} {D : Addr → Rpr} {as : List Addr} (hD : ∀ a, Mon (D a)) : Mon (RTupA K D as) := fun x t H H' e ⟨a, xs, ts, hx, hn, h1, ht, p⟩ => ⟨a, xs, ts, hx, hn, e _ _ h1, ht, p.mon (hD a) e⟩
theorem rpG_tupA {n : Nat} {D : Addr → Rpr} {as : List Addr} (hm : ∀ a, Mon (D a)) (h : ∀ a, RpG X n (a :: as) (D a)) : RpG X (n + 1) as (RTupA X.K D as) := by
  intro A g pins s σ H x u t b hr hf hg hc I r d hs
  obtain ⟨a, xs, ts, rfl, hna, ha, rfl, p⟩ := d
  cases r
  refine wpAny_pyReprUnder_ref (by omega) ?_
  have ha : SqT X.K H a xs := .inl (.inl ha)
  obtain ⟨its, rv, ⟨o, ho, hcls, m, hd⟩, hz⟩ := I.tuple ha
  refine wpAny_pyReprObjUnder_twin (twin := "tuple.__repr__.under") ⟨o, ho, hcls⟩ F.slot_tuple_repr rfl hr.units0 ?_
  exact call_twin_own (F.quiet_tuple_repr_under _) F.entry_tuple_repr_under F.check_tuple_repr_under ⟨o, ho, hcls⟩ F.slot_tuple_repr (F.args_tuple_repr_1 _)
    (tup_at (R := callEnd _ X.xe) (h a) (hm a) hr hf hg hc hna (tupC2 _ _) I ha p hs (fun e s' q => q) fun u H' s' I' e => ⟨⟨_, _, rfl⟩, _, _, rfl, rfl, H', I', e⟩)
/-- repr(x) of a list, told for just this one -/
theorem repr_listA {n : Nat} {D : Addr → Rpr} (hm : ∀ a, Mon (D a)) (h : ∀ a, RpG X n [a] (D a)) (hg : X.A.guards = some []) (hr : Room (n + 2) X.A) :
    CallR X (.builtin "repr") (fun xs H Q => ∃ a ys ts, xs = [.ref a] ∧ H a = some (.lst ys) ∧ Each (D a) ys ts H ∧ (listText ts).length ≤ sizeLine ∧ ∀ H', Ex H H' → Q (.str (listText ts)) H') := by
  intro pins s σ H xs us Q I r hq
  obtain ⟨a, ys, ts, rfl, ha, p, hs, q⟩ := hq
  obtain ⟨u, rfl, ru⟩ := vals1 r
  cases ru
  obtain ⟨_, its, m, rv, hl, he⟩ := I.lstM ha
  refine call_repr_slot hr.in1.units0 ⟨_, he, rfl⟩ F.slot_list_repr.toG ?_
  by_cases hne : ys = []
  · subst hne
    have e1 : its = [] := List.length_eq_zero_iff.mp hl.symm
    subst e1
    have e2 : ts = [] := List.length_eq_zero_iff.mp p.1.symm
    subst e2
    exact call_list_repr_empty ⟨_, he, rfl⟩ he rfl ⟨_, _, rfl, .str "[]", H, I.kept (h' := s.heap) fun _ _ z => z, ⟨_, rfl⟩, q H fun _ _ z => z⟩
  · refine wpAny_call (codeAny_call_builtin F.slot_list_repr.plain F.entry_list_repr (F.slot_list_repr.check _ _ _ _ _ _ _ _ ⟨_, he, rfl⟩ (F.args_list_repr_1 _) ?_))
    exact at_run (base := 0) (R := callEnd _ X.xe) (A := X.A.in1) (g := []) (as := []) (h a) (hm a) hr.in1 rfl hg (fun p _ => Clear.nil p) (fun z => by cases z) I ha hne p (by omega) (fun e s' q => q) fun u H' s' I' e => ⟨_, _, rfl, .str (listText ts), H', I', ⟨_, rfl⟩, q H' e⟩
end
/-! ### a word beside a thing, compared -/
inductive Ord (C : Addr) (H : Hp) (w : Nat) : V → Res → Prop where
  | word {b : Addr} {v : Int} (W : WordAt C H b w v) : Ord C H w (.ref b) (.val v)
  | unlike {b : Addr} {w' : Nat} {v : Int} (W : WordAt C H b w' v) (ne : w' ≠ w) : Ord C H w (.ref b) (.unlike w')
  | bad {y : V} {g : Tag} (k : Kd C H y g) (ng : g ≠ .own) : Ord C H w y .bad
section
variable {K : PySem.W.Frag} {C B1 B2 U p L : Addr} {H H' : Hp} {w : Nat} {u : Int} {y : V} {r : Res} {ty : Str} {Q : VK}
theorem Ord.stay (k : Ord C H w y r) (s : Stay y H H') : Ord C H' w y r := by
  cases k with
  | word W => exact .word (W.stay s)
  | unlike W ne => exact .unlike (W.stay s) ne
  | bad k ng => exact .bad (k.stay s) ng
theorem Ord.ex (k : Ord C H w y r) (e : Ex H H') : Ord C H' w y r := k.stay (Stay.ex e)
theorem Ord.kd (k : Ord C H w y r) : ∃ g, Kd C H y g := by
  cases k with
  | word W => exact ⟨_, .own W⟩
  | unlike W _ => exact ⟨_, .own W⟩
  | bad k _ => exact ⟨_, k⟩
theorem Ord.off (k : Ord C H w y r) (n : H p = none) : y ≠ .ref p := fun e => by
  obtain ⟨g, d⟩ := k.kd
  exact d.told e n
theorem Ord.w64 (k : Ord C H w y (.unlike w')) : w' ≤ 64 := by
  cases k with
  | unlike W _ => exact W.w64
/-- what an order says where it says anything -/
def ob (f : Int → Int → Bool) (u : Int) : Res → Bool
  | .val v => f u v
  | _ => false
def rowV (w : Nat) (y : V) (r : Res) (b : Bool) : List V := match r with
  | .val _ => [.str "made", .bl b]
  | .unlike w' => [.str "unlike", .int w, .int w']
  | .bad => [.str "word", y]
def rowTs (w : Nat) (ty : Str) (r : Res) (b : Bool) : List Str := match r with
  | .val _ => [reprText "made", PyData.shown (.bool b)]
  | .unlike w' => [reprText "unlike", PyData.shown (.int (w : Int)), PyData.shown (.int (w' : Int))]
  | .bad => [reprText "word", ty]
def ords : List (Int → Int → Bool) := [fun u v => decide (u < v), fun u v => decide (u ≤ v), fun u v => decide (u > v), fun u v => decide (u ≥ v)]
def ordT (w : Nat) (u : Int) (ty : Str) (r : Res) : List Str := ords.map fun f => tupleText (rowTs w ty r (ob f u r))
def Told4 (K : PySem.W.Frag) (C L : Addr) : Rpr := RTupA K (fun p => ThgL K C [p, L]) [L]
theorem mon_Told4 : Mon (Told4 K C L) := mon_tupA fun _ => mon_ThgL
theorem got_heard {f : Int → Int → Bool} (k : Tup H (rowV w y r (ob f u r)) Q) : Got B2 U w y r H (HE3 B1 B2 U Q) (fun v => Tup H [.str "made", .bl (f u v)] Q) := by
  cases r with
  | val v => exact k
  | unlike w' => exact fly_unlike fun H1 e1 p H2 np e2 hp => k p H2 (back e1 np) (e1.trans e2) hp
  | bad => exact fly_value fun H1 e1 p H2 np e2 hp => k p H2 (back e1 np) (e1.trans e2) hp
theorem row_each {b : Bool} (w64 : w ≤ 64) (O : Ord C H w y r) (sh : Shown C H y ty) (n1 : y ≠ .ref p) (n2 : y ≠ .ref L) : Each (ThgL K C [p, L]) (rowV w y r b) (rowTs w ty r b) H := by
  have st : ∀ s : Str, ThgL K C [p, L] (.str s) (reprText s) H := fun s => .inl (.inr (.inl ⟨s, rfl, rfl⟩))
  have nt : ∀ n : Nat, n ≤ 64 → ThgL K C [p, L] (.int (n : Int)) (PyData.shown (.int (n : Int))) H := fun n h => .inl (.inl (.inr (.inr ⟨_, rfl, small_log h, rfl⟩)))
  cases r with
  | val v => exact two_each (st _) (.inl (.inl (.inr (.inl ⟨b, rfl, rfl⟩))))
  | unlike w' => exact three_each (st _) (nt _ w64) (nt _ O.w64)
  | bad =>
    refine two_each (st _) (sh.atL fun a ha => ?_)
    rcases List.mem_cons.mp ha with rfl | ha
    · exact n1
    · rw [List.mem_singleton.mp ha]
      exact n2
theorem row_at {b : Bool} (h : H p = some (.tup (rowV w y r b))) (w64 : w ≤ 64) (O : Ord C H w y r) (sh : Shown C H y ty) (n1 : y ≠ .ref p) (n2 : y ≠ .ref L) (np : p ≠ L) : Told4 K C L (.ref p) (tupleText (rowTs w ty r b)) H :=
  ⟨p, _, _, rfl, fun q => np (List.mem_singleton.mp q), h, rfl, row_each w64 O sh n1 n2⟩
theorem four_each {D : Rpr} {a b c d : V} {t1 t2 t3 t4 : Str} (h1 : D a t1 H) (h2 : D b t2 H) (h3 : D c t3 H) (h4 : D d t4 H) : Each D [a, b, c, d] [t1, t2, t3, t4] H := ⟨rfl, fun i x s e1 e2 => by
  match i with
  | 0 => cases e1; cases e2; exact h1
  | 1 => cases e1; cases e2; exact h2
  | 2 => cases e1; cases e2; exact h3
  | 3 => cases e1; cases e2; exact h4
  | i + 4 => simp at e1⟩
theorem ordT_len (w64 : w ≤ 64) (h : ∀ w', r = .unlike w' → w' ≤ 64) (n : ty.length ≤ 10000) : (listText (ordT w u ty r)).length ≤ sizeLine := by
  have nl : ∀ n : Nat, n ≤ 64 → (PyData.shown (.int (n : Int))).length ≤ 1000 := fun n h => Nat.le_trans (len_64 (by omega) (by omega)) (by decide)
  have one : ∀ b, (tupleText (rowTs w ty r b)).length ≤ 20000 := fun b => by
    have key : ∀ ts : List Str, ts.length ≤ 3 → (∀ t ∈ ts, t.length ≤ 10000 ∧ t.length ≤ 10000) → True := fun _ _ _ => trivial
    cases r with
    | val v =>
      have e1 := tupleText_len_le [reprText "made", PyData.shown (.bool b)]
      have e2 : (([reprText "made", PyData.shown (.bool b)] : List Str).map (·.length)).sum ≤ 100 := by cases b <;> decide +kernel
      have e3 : ([reprText "made", PyData.shown (.bool b)] : List Str).length = 2 := rfl
      show (tupleText [reprText "made", PyData.shown (.bool b)]).length ≤ 20000
      omega
    | unlike w' =>
      have e1 := tupleText_len_le [reprText "unlike", PyData.shown (.int (w : Int)), PyData.shown (.int (w' : Int))]
      have e2 : (([reprText "unlike", PyData.shown (.int (w : Int)), PyData.shown (.int (w' : Int))] : List Str).map (·.length)).sum = (reprText "unlike").length + ((PyData.shown (.int (w : Int))).length + ((PyData.shown (.int (w' : Int))).length + 0)) := rfl
      have e3 : ([reprText "unlike", PyData.shown (.int (w : Int)), PyData.shown (.int (w' : Int))] : List Str).length = 3 := rfl
      have e4 : (reprText "unlike").length ≤ 100 := by decide +kernel
      have h1 := nl w w64
      have h2 := nl w' (h w' rfl)
      show (tupleText [reprText "unlike", PyData.shown (.int (w : Int)), PyData.shown (.int (w' : Int))]).length ≤ 20000
      omega
    | bad =>
      have e1 := tupleText_len_le [reprText "word", ty]
      have e2 : (([reprText "word", ty] : List Str).map (·.length)).sum = (reprText "word").length + (ty.length + 0) := rfl
      have e3 : ([reprText "word", ty] : List Str).length = 2 := rfl
      have e4 : (reprText "word").length ≤ 100 := by decide +kernel
      show (tupleText [reprText "word", ty]).length ≤ 20000
      omega
  have e1 := textFrom_len_le (ordT w u ty r) 0 "["
  have e2 : (listText (ordT w u ty r)).length = (textFrom 0 "[" (ordT w u ty r)).length + 1 := by
    show (textFrom 0 "[" (ordT w u ty r) ++ "]").length = _
    rw [strLen_append]; rfl
  have e3 : ((ordT w u ty r).map (·.length)).sum = (tupleText (rowTs w ty r (ob (fun u v => decide (u < v)) u r))).length + ((tupleText (rowTs w ty r (ob (fun u v => decide (u ≤ v)) u r))).length + ((tupleText (rowTs w ty r (ob (fun u v => decide (u > v)) u r))).length + ((tupleText (rowTs w ty r (ob (fun u v => decide (u ≥ v)) u r))).length + 0))) := rfl
  have e4 : (ordT w u ty r).length = 4 := rfl
  have e5 : ("[" : Str).length = 1 := rfl
  have o1 := one (ob (fun u v => decide (u < v)) u r)
  have o2 := one (ob (fun u v => decide (u ≤ v)) u r)
  have o3 := one (ob (fun u v => decide (u > v)) u r)
  have o4 := one (ob (fun u v => decide (u ≥ v)) u r)
  exact Nat.le_trans (show _ ≤ 100000 by omega) (by decide)
end
theorem mut_ext {H C D D' : Hp} {L : Addr} (G : LamX.ExtN H C) (nL : C L = none) (E : LamX.ExtN H D) (f : Fw L D D') : LamX.ExtN H D' := fun a o h n => f a o (fun e => by
  subst e
  have := G _ _ h n
  rw [nL] at this
  cases this) (E _ _ h n)
theorem andT {c1 c2 al : Bool} {t : TE} {σ : L2.St} {H : Hp} {Q : VK} (e : al = (c1 && c2)) (ht : ∀ Q' : VK, Q' (.bl c2) H → t σ H Q') (h : Q (.bl al) H) : ∃ c, V.bl c1 = .bl c ∧ if c = true then t σ H Q else Q (.bl false) H := by
  refine ⟨c1, rfl, ?_⟩
  cases c1 with
  | true =>
    rw [Bool.true_and] at e
    subst e
    exact iteT (ht _ h)
  | false =>
    rw [Bool.false_and] at e
    subst e
    exact iteF h
def Small (s : Str) : Prop := ∀ c ∈ s.cps.toList, c < 16 ^ 8
theorem small_of (s : String) : Small (Str.ofString s) := fun c hc => by
  rw [Str.ofString_eq_toList] at hc
  obtain ⟨ch, _, rfl⟩ := List.mem_map.mp (show c ∈ s.toList.map Char.toNat from by simpa using hc)
  have h := ch.val.toNat_lt
  exact Nat.lt_of_lt_of_le h (by decide)
theorem small_add {a b : Str} (ha : Small a) (hb : Small b) : Small (a ++ b) := fun c hc => by
  have hc : c ∈ a.cps.toList ++ b.cps.toList := by
    have e : (a ++ b).cps = a.cps ++ b.cps := rfl
    rw [e, Array.toList_append] at hc
    exact hc
  rcases List.mem_append.mp hc with h | h
  · exact ha c h
  · exact hb c h
theorem small_word (w : Nat) (u : Int) : Small (wtext w u) := by
  have e : Small Str.empty := fun c hc => by cases hc
  exact small_add (small_add (small_add (small_add (small_add e (small_of _)) (small_of _)) (small_of _)) (small_of _)) (small_of _)
theorem rep_word {w : Nat} {u : Int} (hw : w ≤ 64) (h0 : 0 ≤ u) (h1 : u < 18446744073709551616) : (reprText (wtext w u)).length ≤ 10000 := by
  have e := StrLaws.reprText_len (wtext w u) (small_word w u)
  have l := wtext_len hw h0 h1
  omega
theorem passE0 {X : Cx} : Passes (L2.CX X.prog X.w) X E0 := fun _ _ _ _ _ _ _ ⟨_, _, _, _, _, _, _, _, _, _, _, _, h⟩ => h.elim
def spOrdered (C B U : Addr) : Sp := fun vs H Q E => ∃ x y, ∃ w : Nat, ∃ u r, vs = [.ref x, y] ∧ WordAt C H x w u ∧ Ord C H w y r ∧ Got B U w y r H E fun v => Q (.int v) H
def spCmp (C B U : Addr) (f : Int → Int → Bool) : Sp := fun vs H Q E => ∃ x y, ∃ w : Nat, ∃ u r, vs = [.ref x, y] ∧ WordAt C H x w u ∧ Ord C H w y r ∧ Got B U w y r H E fun v => Q (.bl (f u v)) H
def spEqA (C : Addr) : Sp := fun vs H Q _ => ∃ x y, ∃ w : Nat, ∃ u r, vs = [.ref x, y] ∧ WordAt C H x w u ∧ Ord C H w y r ∧ Q (.bl (ob (fun u v => decide (u = v)) u r)) H
def spOrders (K : PySem.W.Frag) (C : Addr) (TL : List (Addr × Str)) : Sp := fun vs H Q _ => ∃ x y, ∃ w : Nat, ∃ u r ty, vs = [.ref x, y] ∧ WordAt C H x w u ∧ Ord C H w y r ∧ Shown C H y ty ∧ LamX.Tabs TL H ∧
  ∀ L H' ys, LamX.ExtN H H' → LamX.Tabs TL H' → H' L = some (.lst ys) → Each (Told4 K C L) ys (ordT w u ty r) H' → Q (.ref L) H'
def spRight5 (TL : List (Addr × Str)) : Sp := fun vs H Q _ => ∃ w w' : Nat, ∃ u v : Int, vs = [.int w, .int u, .int w', .int v] ∧ 1 ≤ w ∧ w ≤ 64 ∧ 1 ≤ w' ∧ w' ≤ 64 ∧ 0 ≤ u ∧ u ≤ mw w ∧ 0 ≤ v ∧ v ≤ mw w' ∧ LamX.Tabs TL H ∧
  ∀ H', LamX.ExtN H H' → LamX.Tabs TL H' → Q (.bl true) H'
def spBeside (TL : List (Addr × Str)) : Sp := fun vs H Q _ => ∃ z c cells t, ∃ w : Nat, ∃ u : Int, vs = [.ref z, .int w, .int u] ∧ PenAt H z c cells t ∧ t ≤ 80000 ∧ 1 ≤ w ∧ w ≤ 64 ∧ 0 ≤ u ∧ u ≤ mw w ∧ LamX.Tabs TL H ∧
  ∀ H', PenAt H' z c cells (t + 1) → LamX.Tabs TL H' → Q (.bl true) H'
end Tz
namespace Tz
open PySem PySem.Spec PyProof.Rows L2 TzF TzRepr
/-! ### halves by their places, pieces by what stands ahead -/
def wt (b : Nat) (a : Int) : Int := if a % 2 = 0 then 2 ^ b else 1
def pl (b : Nat) : Int → List Int → Int
  | _, [] => 0
  | a, h :: t => h * wt b a + pl b (a + 1) t
def wp (b : Nat) (a : Int) : Int := if a % 2 = 0 then 1 else 2 ^ b
def tp (b : Nat) : Int → List (Int × Int) → Int
  | _, [] => 0
  | a, (n, v) :: r => v * wp b a + tp b (a + n) r
/-- what joined comes to, word by word -/
def jv (b : Nat) : Int → Int → List (Int × Int) → Int
  | s, _, [] => s
  | s, a, (n, v) :: r => jv b (cr (2 * b) (s + cr (2 * b) (v * 2 ^ (((a % 2 * (b : Int)) % ((2 * b : Nat) : Int)).toNat)))) (a + n) r
def Nn (hs : List Int) : Prop := ∀ h ∈ hs, 0 ≤ h
def Vn (ps : List (Int × Int)) : Prop := ∀ q ∈ ps, 0 ≤ q.2
theorem p0 (b : Nat) : (0 : Int) < 2 ^ b := Int.pow_pos (by decide)
theorem wt0 (b : Nat) (a : Int) : 0 ≤ wt b a := by
  have := p0 b
  unfold wt
  split <;> omega
theorem wp0 (b : Nat) (a : Int) : 0 ≤ wp b a := by
  have := p0 b
  unfold wp
  split <;> omega
theorem pl0 {b : Nat} : ∀ {hs : List Int} (a : Int), Nn hs → 0 ≤ pl b a hs
  | [], _, _ => Int.le_refl 0
  | h :: t, a, n => by
    have h1 := pl0 (b := b) (hs := t) (a + 1) fun x hx => n x (List.mem_cons_of_mem _ hx)
    have h2 := Int.mul_nonneg (n h List.mem_cons_self) (wt0 b a)
    show 0 ≤ h * wt b a + pl b (a + 1) t
    omega
theorem tp0 {b : Nat} : ∀ {ps : List (Int × Int)} (a : Int), Vn ps → 0 ≤ tp b a ps
  | [], _, _ => Int.le_refl 0
  | (n, v) :: t, a, h => by
    have h1 := tp0 (b := b) (ps := t) (a + n) fun x hx => h x (List.mem_cons_of_mem _ hx)
    have h2 := Int.mul_nonneg (h (n, v) List.mem_cons_self) (wp0 b a)
    show 0 ≤ v * wp b a + tp b (a + n) t
    have h2 : 0 ≤ v * wp b a := h2
    omega
theorem wt_par {b : Nat} {a c : Int} (h : a % 2 = c % 2) : wt b a = wt b c := by unfold wt; rw [h]
theorem wp_par {b : Nat} {a c : Int} (h : a % 2 = c % 2) : wp b a = wp b c := by unfold wp; rw [h]
theorem pl_par {b : Nat} : ∀ {hs : List Int} {a c : Int}, a % 2 = c % 2 → pl b a hs = pl b c hs
  | [], _, _, _ => rfl
  | h :: t, a, c, e => by
    show h * wt b a + pl b (a + 1) t = h * wt b c + pl b (c + 1) t
    rw [wt_par e, pl_par (hs := t) (show (a + 1) % 2 = (c + 1) % 2 by omega)]
theorem tp_par {b : Nat} : ∀ {ps : List (Int × Int)} {a c : Int}, a % 2 = c % 2 → tp b a ps = tp b c ps
  | [], _, _, _ => rfl
  | (n, v) :: t, a, c, e => by
    show v * wp b a + tp b (a + n) t = v * wp b c + tp b (c + n) t
    rw [wp_par e, tp_par (ps := t) (show (a + n) % 2 = (c + n) % 2 by omega)]
theorem pl_app {b : Nat} : ∀ {xs ys : List Int} (a : Int), pl b a (xs ++ ys) = pl b a xs + pl b (a + xs.length) ys
  | [], ys, a => by
    show pl b a ys = 0 + pl b (a + (0 : Nat)) ys
    rw [Int.zero_add]
    congr 1
    omega
  | h :: t, ys, a => by
    show h * wt b a + pl b (a + 1) (t ++ ys) = h * wt b a + pl b (a + 1) t + pl b (a + ((t.length + 1 : Nat) : Int)) ys
    rw [pl_app (xs := t), show a + 1 + (t.length : Int) = a + ((t.length + 1 : Nat) : Int) by omega, Int.add_assoc]
theorem tp_app {b : Nat} : ∀ {xs ys : List (Int × Int)} (a : Int), tp b a (xs ++ ys) = tp b a xs + tp b (a + (xs.map (·.1)).sum) ys
  | [], ys, a => by
    show tp b a ys = 0 + tp b (a + 0) ys
    rw [Int.zero_add, Int.add_zero]
  | (n, v) :: t, ys, a => by
    show v * wp b a + tp b (a + n) (t ++ ys) = v * wp b a + tp b (a + n) t + tp b (a + (n + (t.map (·.1)).sum)) ys
    rw [tp_app (xs := t), Int.add_assoc, Int.add_assoc]
section
variable {b : Nat}
/-- the same word -/
theorem cr_cong (h : 1 ≤ b) {x x' y y' : Int} (a0 : 0 ≤ x) (a1 : 0 ≤ x') (c0 : 0 ≤ y) (c1 : 0 ≤ y') (e : cr (2 * b) x = cr (2 * b) x') (f : cr (2 * b) y = cr (2 * b) y') : cr (2 * b) (x + y) = cr (2 * b) (x' + y') := by
  rw [← cr_add2 (by omega) a0 c0, e, f, cr_add2 (by omega) a1 c1]
theorem cr_cr (h : 1 ≤ b) (x : Int) : cr (2 * b) (cr (2 * b) x) = cr (2 * b) x := by
  have := cr_bd (w := 2 * b) (by omega) x
  exact cr_self this.1 this.2
theorem cr_mulp (h : 1 ≤ b) {x y k : Int} (k0 : 0 ≤ k) (a0 : 0 ≤ x) (c0 : 0 ≤ y) (e : cr (2 * b) x = cr (2 * b) y) : cr (2 * b) (x * k) = cr (2 * b) (y * k) := by
  rw [Int.mul_comm x, Int.mul_comm y, ← cr_mul (by omega) k0 a0, e, cr_mul (by omega) k0 c0]
theorem twice (h : 1 ≤ b) {x : Int} (x0 : 0 ≤ x) : cr (2 * b) (x * 2 ^ b * 2 ^ b) = cr (2 * b) x := by
  have e : x * 2 ^ b * 2 ^ b = x * 2 ^ (2 * b * 1) := by rw [Int.mul_assoc, ← Int.pow_add]; congr 2; omega
  rw [e]
  exact cr_round (by omega) x0 1
theorem pl_turn (h : 1 ≤ b) : ∀ {hs : List Int} (a : Int), Nn hs → cr (2 * b) (pl b a hs * 2 ^ b) = cr (2 * b) (pl b (a + 1) hs)
  | [], a, _ => by
    show cr (2 * b) (0 * 2 ^ b) = cr (2 * b) 0
    rw [Int.zero_mul]
  | x :: t, a, n => by
    have p := Int.le_of_lt (p0 b)
    have nt : Nn t := fun y hy => n y (List.mem_cons_of_mem _ hy)
    have x0 := n x List.mem_cons_self
    show cr (2 * b) ((x * wt b a + pl b (a + 1) t) * 2 ^ b) = cr (2 * b) (x * wt b (a + 1) + pl b (a + 1 + 1) t)
    rw [Int.add_mul]
    refine cr_cong h (Int.mul_nonneg (Int.mul_nonneg x0 (wt0 b a)) p) (Int.mul_nonneg x0 (wt0 b _)) (Int.mul_nonneg (pl0 _ nt) p) (pl0 _ nt) ?_ (pl_turn h (a + 1) nt)
    unfold wt
    by_cases e : a % 2 = 0
    · rw [if_pos e, if_neg (show ¬ (a + 1) % 2 = 0 by omega), Int.mul_one]
      exact twice h x0
    · rw [if_neg e, if_pos (show (a + 1) % 2 = 0 by omega), Int.mul_one]
theorem tp_turn (h : 1 ≤ b) : ∀ {ps : List (Int × Int)} (a : Int), Vn ps → cr (2 * b) (tp b a ps * 2 ^ b) = cr (2 * b) (tp b (a + 1) ps)
  | [], a, _ => by
    show cr (2 * b) (0 * 2 ^ b) = cr (2 * b) 0
    rw [Int.zero_mul]
  | (m, x) :: t, a, n => by
    have p := Int.le_of_lt (p0 b)
    have nt : Vn t := fun y hy => n y (List.mem_cons_of_mem _ hy)
    have x0 : 0 ≤ x := n (m, x) List.mem_cons_self
    show cr (2 * b) ((x * wp b a + tp b (a + m) t) * 2 ^ b) = cr (2 * b) (x * wp b (a + 1) + tp b (a + 1 + m) t)
    rw [Int.add_mul]
    refine cr_cong h (Int.mul_nonneg (Int.mul_nonneg x0 (wp0 b a)) p) (Int.mul_nonneg x0 (wp0 b _)) (Int.mul_nonneg (tp0 _ nt) p) (tp0 _ nt) ?_ ?_
    · unfold wp
      by_cases e : a % 2 = 0
      · rw [if_pos e, if_neg (show ¬ (a + 1) % 2 = 0 by omega), Int.mul_one]
      · rw [if_neg e, if_pos (show (a + 1) % 2 = 0 by omega), Int.mul_one]
        exact twice h x0
    · rw [tp_turn h (a + m) nt, show a + m + 1 = a + 1 + m by omega]
/-- joined, by plain sums -/
theorem jv_is (h : 1 ≤ b) : ∀ {ps : List (Int × Int)} {s a : Int}, Vn ps → 0 ≤ s → s ≤ mw (2 * b) → jv b s a ps = cr (2 * b) (s + tp b a ps)
  | [], s, a, _, s0, s1 => by
    show s = cr (2 * b) (s + 0)
    rw [Int.add_zero, cr_self s0 s1]
  | (m, x) :: t, s, a, n, s0, s1 => by
    have nt : Vn t := fun y hy => n y (List.mem_cons_of_mem _ hy)
    have x0 : 0 ≤ x := n (m, x) List.mem_cons_self
    have e : x * 2 ^ (((a % 2 * (b : Int)) % ((2 * b : Nat) : Int)).toNat) = x * wp b a := by
      unfold wp
      by_cases q : a % 2 = 0
      · rw [if_pos q, q, Int.zero_mul, Int.zero_emod]
        rfl
      · have q1 : a % 2 = 1 := by omega
        rw [if_neg q, q1, Int.one_mul, Int.emod_eq_of_lt (by omega) (by omega), Int.toNat_natCast]
    have bd := cr_bd (w := 2 * b) (by omega) (s + cr (2 * b) (x * wp b a))
    have w0 := Int.mul_nonneg x0 (wp0 b a)
    show jv b (cr (2 * b) (s + cr (2 * b) (x * 2 ^ (((a % 2 * (b : Int)) % ((2 * b : Nat) : Int)).toNat)))) (a + m) t = cr (2 * b) (s + (x * wp b a + tp b (a + m) t))
    rw [e, jv_is h nt bd.1 bd.2, cr_add (by omega) (Int.add_nonneg s0 (cr_bd (by omega) _).1) (tp0 _ nt), ← Int.add_assoc]
    refine cr_cong h (Int.add_nonneg s0 (cr_bd (by omega) _).1) (Int.add_nonneg s0 w0) (tp0 _ nt) (tp0 _ nt) ?_ rfl
    rw [Int.add_comm, cr_add (by omega) w0 s0, Int.add_comm]
/-- the pieces' own totals -/
def tellP (b : Nat) (rows : List (List Int)) : List (Int × Int) := rows.map fun r => ((r.length : Int), cr (2 * b) (pl b 0 r))
theorem tellP_nn (h : 1 ≤ b) (rows : List (List Int)) : Vn (tellP b rows) := fun q hq => by
  obtain ⟨r, _, rfl⟩ := List.mem_map.mp hq
  exact (cr_bd (by omega) _).1
theorem tell_is (h : 1 ≤ b) : ∀ {rows : List (List Int)} (a : Int), (∀ r ∈ rows, Nn r) → cr (2 * b) (tp b a (tellP b rows)) = cr (2 * b) (pl b a rows.flatten)
  | [], a, _ => rfl
  | r :: t, a, n => by
    have nr := n r List.mem_cons_self
    have nt : ∀ r ∈ t, Nn r := fun y hy => n y (List.mem_cons_of_mem _ hy)
    have nf : Nn t.flatten := fun x hx => by
      obtain ⟨l, hl, hx⟩ := List.mem_flatten.mp hx
      exact nt l hl x hx
    show cr (2 * b) (cr (2 * b) (pl b 0 r) * wp b a + tp b (a + (r.length : Int)) (tellP b t)) = cr (2 * b) (pl b a (r ++ t.flatten))
    rw [pl_app]
    have c0 := (cr_bd (w := 2 * b) (by omega) (pl b 0 r)).1
    refine cr_cong h (Int.mul_nonneg c0 (wp0 b a)) (pl0 _ nr) (tp0 _ (tellP_nn h t)) (pl0 _ nf) ?_ (tell_is h _ nt)
    unfold wp
    by_cases e : a % 2 = 0
    · rw [if_pos e, Int.mul_one, cr_cr h, pl_par (c := a) (by omega)]
    · rw [if_neg e, cr_mulp h (Int.le_of_lt (p0 b)) c0 (pl0 _ nr) (cr_cr h _), pl_turn h 0 nr, pl_par (c := a) (by omega)]
/-- two neighbours joined first -/
theorem both_is (h : 1 ≤ b) {xs ys : List (Int × Int)} {n1 v1 n2 v2 far : Int} (nx : Vn xs) (ny : Vn ys) (z1 : 0 ≤ v1) (z2 : 0 ≤ v2) (ef : far % 2 = 0) :
    cr (2 * b) (tp b 0 (xs ++ (n1 + n2 + far, cr (2 * b) (tp b 0 [(n1, v1), (n2, v2)])) :: ys)) = cr (2 * b) (tp b 0 (xs ++ (n1, v1) :: (n2, v2) :: ys)) := by
  have n2' : Vn [(n1, v1), (n2, v2)] := fun q hq => by
    rcases List.mem_cons.mp hq with rfl | hq
    · exact z1
    · rw [List.mem_singleton.mp hq]
      exact z2
  have c0 := (cr_bd (w := 2 * b) (by omega) (tp b 0 [(n1, v1), (n2, v2)])).1
  rw [tp_app, tp_app]
  generalize (0 : Int) + (xs.map (·.1)).sum = a
  have t0 := tp0 (b := b) (ps := [(n1, v1), (n2, v2)]) 0 n2'
  have ta := tp0 (b := b) (ps := [(n1, v1), (n2, v2)]) a n2'
  have e1 : tp b a ((n1, v1) :: (n2, v2) :: ys) = tp b a [(n1, v1), (n2, v2)] + tp b (a + n1 + n2) ys := by
    show v1 * wp b a + (v2 * wp b (a + n1) + tp b (a + n1 + n2) ys) = v1 * wp b a + (v2 * wp b (a + n1) + 0) + tp b (a + n1 + n2) ys
    omega
  have e2 : tp b a ((n1 + n2 + far, cr (2 * b) (tp b 0 [(n1, v1), (n2, v2)])) :: ys) = cr (2 * b) (tp b 0 [(n1, v1), (n2, v2)]) * wp b a + tp b (a + n1 + n2) ys := by
    show _ + tp b (a + (n1 + n2 + far)) ys = _
    rw [tp_par (ps := ys) (a := a + (n1 + n2 + far)) (c := a + n1 + n2) (by omega)]
  rw [e1, e2]
  refine cr_cong h (tp0 _ nx) (tp0 _ nx) (Int.add_nonneg (Int.mul_nonneg c0 (wp0 b a)) (tp0 _ ny)) (Int.add_nonneg ta (tp0 _ ny)) rfl (cr_cong h (Int.mul_nonneg c0 (wp0 b a)) ta (tp0 _ ny) (tp0 _ ny) ?_ rfl)
  unfold wp
  by_cases e : a % 2 = 0
  · rw [if_pos e, Int.mul_one, cr_cr h, tp_par (c := a) (by omega)]
  · rw [if_neg e, cr_mulp h (Int.le_of_lt (p0 b)) c0 t0 (cr_cr h _), tp_turn h 0 n2', tp_par (c := a) (by omega)]
/-- packed, by places -/
theorem pk_pl : ∀ (hs : List Int), (pk b hs (hn hs)).sum = pl b 0 hs
  | [] => rfl
  | [x] => by
    have e : pk b [x] (hn [x]) = [pw b [x] 0] := by
      have e1 : hn [x] = 1 := by unfold hn; simp
      rw [e1]
      simp [pk, List.range_succ]
    rw [e, List.sum_cons, List.sum_nil]
    show pw b [x] 0 + 0 = x * wt b 0 + 0
    unfold pw wt
    simp
  | x :: y :: t => by
    have ih := pk_pl t
    have e : hn (x :: y :: t) = hn t + 1 := by
      unfold hn
      simp only [List.length_cons]
      omega
    have e2 : pk b (x :: y :: t) (hn t + 1) = pw b (x :: y :: t) 0 :: pk b t (hn t) := by
      unfold pk
      rw [List.range_succ_eq_map, List.map_cons, List.map_map]
      rfl
    rw [e, e2, List.sum_cons, ih]
    show pw b (x :: y :: t) 0 + pl b 0 t = x * wt b 0 + (y * wt b (0 + 1) + pl b (0 + 1 + 1) t)
    rw [pl_par (hs := t) (a := 0 + 1 + 1) (c := 0) (by decide)]
    unfold pw wt
    simp
    omega
/-- a word turned by half, as by_pieces finds it -/
theorem turn_half (h : 1 ≤ b) {v : Int} (v0 : 0 ≤ v) (v1 : v ≤ mw (2 * b)) : cr (2 * b) (v * 2 ^ b) = v % 2 ^ b * 2 ^ b + v / 2 ^ b := by
  obtain ⟨n, rfl⟩ : ∃ n : Nat, v = (n : Int) := ⟨v.toNat, by omega⟩
  have hv : n < 2 ^ (2 * b) := by
    have e : ((2 ^ (2 * b) : Nat) : Int) = 2 ^ (2 * b) := by rw [Int.natCast_pow] <;> rfl
    unfold mw at v1
    omega
  have q := cr_turn (w := 2 * b) (s := b) (by omega) (by omega) hv
  rw [q, show 2 * b - b = b by omega, Int.natCast_add, Int.natCast_mul, Int.natCast_emod, Int.natCast_ediv, Int.natCast_pow]
  rfl
end
/-! ### pieces -/
def ten30 : Int := 1000000000000000000000000000000
def PcAt (C : Addr) (H : Hp) (b : Nat) (y : V) (q : Int × Int) : Prop := ∃ p x, y = .ref p ∧ H p = some (.tup [.int q.1, .ref x]) ∧ 0 ≤ q.1 ∧ q.1 ≤ ten30 ∧ WordAt C H x (2 * b) q.2
inductive NoPc (C : Addr) (H : Hp) (b : Nat) : V → Prop where
  | thing {y : V} {g : Tag} (k : Kd C H y g) (ng : g ≠ .tup) : NoPc C H b y
  | long {p : Addr} {ys : List V} (h : H p = some (.tup ys)) (n : ys.length ≠ 2) : NoPc C H b (.ref p)
  | num {p : Addr} {x z : V} {g : Tag} (h : H p = some (.tup [x, z])) (k : Kd C H x g) (no : ∀ n, x = .int n → ¬ (0 ≤ n ∧ n ≤ ten30)) : NoPc C H b (.ref p)
  | part {p : Addr} {n : Int} {z : V} {g : Tag} (h : H p = some (.tup [.int n, z])) (n0 : 0 ≤ n) (n1 : n ≤ ten30) (k : Kd C H z g) (ng : g ≠ .own) : NoPc C H b (.ref p)
  | wide {p x : Addr} {n v : Int} {w' : Nat} (h : H p = some (.tup [.int n, .ref x])) (n0 : 0 ≤ n) (n1 : n ≤ ten30) (W : WordAt C H x w' v) (ne : w' ≠ 2 * b) : NoPc C H b (.ref p)
section
variable {C : Addr} {H H' : Hp} {b : Nat} {y : V} {q : Int × Int}
theorem PcAt.keep (h : PcAt C H b y q) (e : ∀ a o, H a = some o → (∀ ps, o ≠ .tbl ps) → (∀ xs, o ≠ .lst xs) → H' a = some o) : PcAt C H' b y q := by
  obtain ⟨p, x, rfl, h1, h2, h3, ⟨dx, h4⟩, h5, h6, h7, h8⟩ := h
  exact ⟨p, x, rfl, e _ _ h1 (fun _ q => by cases q) (fun _ q => by cases q), h2, h3, ⟨dx, e _ _ h4 (fun _ q => by cases q) (fun _ q => by cases q)⟩, h5, h6, h7, h8⟩
theorem PcAt.ex (h : PcAt C H b y q) (e : Ex H H') : PcAt C H' b y q := h.keep fun a o z _ _ => e a o z
end
theorem NoPc.keep {C : Addr} {H H' : Hp} {b : Nat} {y : V} (h : NoPc C H b y) (e : ∀ a o, H a = some o → (∀ ps, o ≠ .tbl ps) → ((∃ xs, o = .lst xs) → y = .ref a ∨ ∃ p xs, y = .ref p ∧ H p = some (.tup xs) ∧ V.ref a ∈ xs) → H' a = some o) : NoPc C H' b y := by
  cases h with
  | thing k ng => exact .thing (k.step fun a o h m q => e a o h m fun _ => .inl q) ng
  | long h n => exact .long (e _ _ h (fun _ q => by cases q) fun ⟨_, q⟩ => by cases q) n
  | num h k no => exact .num (e _ _ h (fun _ q => by cases q) fun ⟨_, q⟩ => by cases q) (k.step fun a o h' m q => e a o h' m fun _ => .inr ⟨_, _, rfl, h, by rw [q]; exact List.mem_cons_self⟩) no
  | part h n0 n1 k ng => exact .part (e _ _ h (fun _ q => by cases q) fun ⟨_, q⟩ => by cases q) n0 n1 (k.step fun a o h' m q => e a o h' m fun _ => .inr ⟨_, _, rfl, h, by rw [q]; exact List.mem_cons_of_mem _ List.mem_cons_self⟩) ng
  | wide h n0 n1 W ne =>
    obtain ⟨⟨dx, h1⟩, h2, h3, h4, h5⟩ := W
    exact .wide (e _ _ h (fun _ q => by cases q) fun ⟨_, q⟩ => by cases q) n0 n1 ⟨⟨dx, e _ _ h1 (fun _ q => by cases q) fun ⟨_, q⟩ => by cases q⟩, h2, h3, h4, h5⟩ ne
theorem NoPc.ex {C : Addr} {H H' : Hp} {b : Nat} {y : V} (h : NoPc C H b y) (e : Ex H H') : NoPc C H' b y := h.keep fun a o z _ _ => e a o z
def Pcs (C : Addr) (H : Hp) (b : Nat) (ys : List V) (qs : List (Int × Int)) : Prop := ys.length = qs.length ∧ ∀ (i : Nat) y q, ys[i]? = some y → qs[i]? = some q → PcAt C H b y q
def spIsPiece (C : Addr) : Sp := fun vs H Q _ => ∃ (b : Nat) (y : V), vs = [.int ((2 * b : Nat) : Int), y] ∧ ((∃ q, PcAt C H b y q ∧ Q (.bl true) H) ∨ (NoPc C H b y ∧ Q (.bl false) H))
def spCheckP (C B : Addr) : Sp := fun vs H Q E => ∃ (b : Nat) (l : Addr) (ys : List V), vs = [.int ((2 * b : Nat) : Int), .ref l] ∧ H l = some (.lst ys) ∧
  ((∃ qs, Pcs C H b ys qs ∧ ∀ H', Ex H H' → Q .non H') ∨ ∃ as z rest qs, ys = as ++ z :: rest ∧ Pcs C H b as qs ∧ NoPc C H b z ∧ Flies B [("at", .int as.length)] H E)
def spJoined (C B1 B2 : Addr) : Sp := fun vs H Q E => ∃ (y : V) (g : Tag) (l : Addr) (ys : List V), vs = [y, .ref l] ∧ Kd C H y g ∧ H l = some (.lst ys) ∧
  ((OddW y ∧ Flies B1 [("width", y)] H E) ∨ ∃ b : Nat, y = .int ((2 * b : Nat) : Int) ∧ 1 ≤ b ∧ b ≤ 32 ∧
    ((∃ qs, Pcs C H b ys qs ∧ qs.length ≤ 100 ∧ NewW C (2 * b) (jv b 0 0 qs) H Q) ∨ ∃ as z rest qs, ys = as ++ z :: rest ∧ Pcs C H b as qs ∧ NoPc C H b z ∧ Flies B2 [("at", .int as.length)] H E))
def spPlaces : Sp := fun vs H Q _ => ∃ (b : Nat) (l : Addr) (hs : List Int), vs = [.int ((2 * b : Nat) : Int), .ref l] ∧ 1 ≤ b ∧ b ≤ 32 ∧ H l = some (.lst (hs.map V.int)) ∧ Halfs b hs ∧ hs.length ≤ 100 ∧ Q (.int (cr (2 * b) (pl b 0 hs))) H
def spPieces (C : Addr) : Sp := fun vs H Q _ => ∃ (b : Nat) (l : Addr) (ys : List V) (qs : List (Int × Int)), vs = [.int ((2 * b : Nat) : Int), .ref l] ∧ 1 ≤ b ∧ b ≤ 32 ∧ H l = some (.lst ys) ∧ Pcs C H b ys qs ∧ Vn qs ∧ ∀ H', Ex H H' → Q (.int (cr (2 * b) (tp b 0 qs))) H'
theorem half_turn {b : Nat} (h : 1 ≤ b) {v : Int} (v0 : 0 ≤ v) (v1 : v ≤ mw (2 * b)) : Builtin.bitAnd (v * 2 ^ (((2 * b : Nat) : Int) / 2).toNat) (mw (2 * b)) + v / 2 ^ (((2 * b : Nat) : Int) / 2).toNat = cr (2 * b) (v * 2 ^ b) := by
  rw [nat2, Int.toNat_natCast, turn_half h v0 v1]
  have e : mw (2 * b) = 2 ^ (2 * b) - 1 := rfl
  rw [e, PySem.W.kbt_mask, show 2 * b = b + b by omega, Int.pow_add, Int.mul_comm v, Int.mul_emod_mul_of_pos _ _ (p0 b), Int.mul_comm]
def RowsAt (H : Hp) (as : List Addr) (rows : List (List Int)) : Prop := as.length = rows.length ∧ ∀ (i : Nat) a r, as[i]? = some a → rows[i]? = some r → H a = some (.lst (r.map V.int))
def spCut : Sp := fun vs H Q _ => ∃ z c cells t l, ∃ hs : List Int, vs = [.ref z, .ref l] ∧ PenAt H z c cells t ∧ t ≤ 80000 ∧ H l = some (.lst (hs.map V.int)) ∧ hs.length ≤ 9 ∧ l ≠ z ∧
  ∀ L as rows H', H' L = some (.lst (as.map V.ref)) → RowsAt H' as rows → rows.flatten = hs → 2 ≤ rows.length → rows.length ≤ 6 → H L = none → (∀ a ∈ as, H a = none) → PenAt H' z c cells (t + 12) → Fw z H H' → Q (.ref L) H'
def spStrange (C : Addr) : Sp := fun vs H Q _ => ∃ z c cells t, ∃ b : Nat, vs = [.ref z, .int ((2 * b : Nat) : Int)] ∧ PenAt H z c cells t ∧ t ≤ 80000 ∧ 1 ≤ b ∧ b ≤ 32 ∧
  ∀ y q H', PcAt C H' b y q → PenAt H' z c cells (t + 6) → Fw z H H' → Q y H'
def spNoPiece (C : Addr) : Sp := fun vs H Q _ => ∃ z c cells t, ∃ b : Nat, vs = [.ref z, .int ((2 * b : Nat) : Int)] ∧ PenAt H z c cells t ∧ t ≤ 80000 ∧ 1 ≤ b ∧ b ≤ 32 ∧
  ∀ y H', (∀ H'', Go z H' H'' → NoPc C H'' b y) → PenAt H' z c cells (t + 1) → Fw z H H' → Q y H'
def HE2R (B1 B2 : Addr) (Q : VK) : XK := fun k d H => Catch1 B1 "width" "wide" Q k d H ∨ Catch1 B2 "at" "rows" Q k d H
end Tz
namespace Tz
open PySem PySem.Spec PyProof.Rows L2 TzF TzRepr
/-! ### a list of lists, of tuples -/
def RListA (D : Addr → Rpr) (as : List Addr) : Rpr := fun x t H => ∃ a xs ts, x = .ref a ∧ a ∉ as ∧ H a = some (.lst xs) ∧ t = listText ts ∧ Each (D a) xs ts H
theorem mon_listA {D : Addr → Rpr} {as : List Addr} (hD : ∀ a, Mon (D a)) : Mon (RListA D as) := fun x t H H' e ⟨a, xs, ts, hx, hn, h1, ht, p⟩ => ⟨a, xs, ts, hx, hn, e _ _ h1, ht, p.mon (hD a) e⟩
section
variable {X : Cx} {n : Nat} {as : List Addr}
theorem rpG_listA {D : Addr → Rpr} (hm : ∀ a, Mon (D a)) (h : ∀ a, RpG X n (a :: as) (D a)) : RpG X (n + 1) as (RListA D as) := by
  intro A g pins s σ H x u t b hr hf hg hc I r d hs
  obtain ⟨a, xs, ts, rfl, hna, ha, rfl, p⟩ := d
  cases r
  refine wpAny_pyReprUnder_ref (by omega) ?_
  obtain ⟨_, its, m, rv, hl, he⟩ := I.lstM ha
  by_cases hne : xs = []
  · subst hne
    have e1 : its = [] := List.length_eq_zero_iff.mp hl.symm
    subst e1
    have e2 : ts = [] := List.length_eq_zero_iff.mp p.1.symm
    subst e2
    exact wpAny_pyReprObjUnder_list_empty ⟨_, he, rfl⟩ hr.units0 he rfl ⟨_, _, rfl, rfl, H, I.kept (h' := s.heap) fun _ _ z => z, fun _ _ z => z⟩
  · refine wpAny_pyReprObjUnder_twin (twin := "list.__repr__.under") ⟨_, he, rfl⟩ F.slot_list_repr.toG rfl hr.units0 ?_
    refine call_twin_plain F.plain_list_repr_under F.entry_list_repr_under F.check_list_repr_under ⟨_, he, rfl⟩ F.slot_list_repr.toG (F.args_list_repr_1 _) ?_
    exact at_run (R := callEnd _ X.xe) (h a) (hm a) hr hf hg hc hna I ha hne p hs (fun e s' q => q) fun u H' s' I' e => ⟨⟨_, _, rfl⟩, _, _, rfl, rfl, H', I', e⟩
end
/-- what the law keeps: a list of numbers, a list of pairs -/
def RKept (K : PySem.W.Frag) (C a : Addr) : Rpr := fun x t H => RList RFlat [a] x t H ∨ RListA (fun b => RTupA K (fun _ => Flat C) [b, a]) [a] x t H
theorem mon_Kept {K : PySem.W.Frag} {C a : Addr} : Mon (RKept K C a) := (mon_list mon_flat).or (mon_listA fun _ => mon_tupA fun _ => mon_Flat)
theorem rpG_Kept {X : Cx} {CX : CXT} {C f : Addr} {fd : FuncData} {ps : List Str} {E : XK} (N : FnOk X.prog X.w X.K X.mg X.base CX 1 f fd ps (spRepr (WText C))) (M : Meth X.K C "__repr__" f) (hb : Binds X.K fd ps []) (hx : Passes CX X E) (a : Addr) : RpG X 3 [a] (RKept X.K C a) := by
  have fl : ∀ as, RpG X 1 as (Flat C) := fun as => (rpG_flat.mono (by decide)).or ((rpG_str.mono (by decide)).or (rpG_ins N M hb hx))
  exact ((rpG_list mon_flat fun _ => rpG_flat).mono (by decide)).or (rpG_listA (fun _ => mon_tupA fun _ => mon_Flat) fun b => rpG_tupA (fun _ => mon_Flat) fun c => fl _)
theorem call_len_seqK {X : Cx} {K : PySem.W.Frag} (hK : X.K = K) : CallR X (.builtin "len") (fun xs H Q => ∃ p ys, xs = [V.ref p] ∧ (SqL K H p ys ∨ SqT K H p ys) ∧ Q (V.int ys.length) H) := by
  subst hK
  exact call_len_seq
/-! ### a call by two keywords alone -/
def kw2 {α : Type} : List α → List α → List α
  | [], [a, b] => [a, b]
  | _, _ => []
theorem kw2_vals {vs : List V} {us : List Value} {zs : List V} {ws : List Value} (r : Vals vs us) (z : Vals zs ws) : Vals (kw2 vs zs) (kw2 us ws) := by
  cases r with
  | nil =>
    cases z with
    | nil => exact .nil
    | cons h z =>
      cases z with
      | nil => exact .nil
      | cons g z =>
        cases z with
        | nil => exact .cons h (.cons g .nil)
        | cons _ _ => exact .nil
  | cons _ _ => exact .nil
def kwX {α : Type} : List α → List α → List α
  | [], [a, b] => [b, a]
  | _, _ => []
theorem kwX_vals {vs : List V} {us : List Value} {zs : List V} {ws : List Value} (r : Vals vs us) (z : Vals zs ws) : Vals (kwX vs zs) (kwX us ws) := by
  cases r with
  | nil =>
    cases z with
    | nil => exact .nil
    | cons h z =>
      cases z with
      | nil => exact .nil
      | cons g z =>
        cases z with
        | nil => exact .cons g (.cons h .nil)
        | cons _ _ => exact .nil
  | cons _ _ => exact .nil
theorem pe_callKx {X : Cx} {CX : CXT} {k : Nat} {f : Addr} {fd : FuncData} {ps ks : List Str} {sp : Sp} {E : XK} {x : Str} {p pos : Pos} {kws : List Keyword} {tk : TA} {g : List Value → List Value → List Value} {gV : List V → List V → List V}
    (F : FnOk X.prog X.w X.K X.mg X.base CX k f fd ps sp) (hr : Room k X.A) (gl : Gl X x) (hm : X.mg x = some (.ref f)) (hk : PySem.W.keepIn X.K (.ref f) = true) (hb : KBinds X.K fd ps ks g gV) (hx : Passes CX X E) (hkw : PK X kws tk)
    (hall : (backToKw pos (keywordEach kws X.env)).all (·.1.isSome) = true := by rfl) (hks : (backToKw pos (keywordEach kws X.env)).filterMap (·.1) = ks := by rfl) (hdb : (x == ("__debug__" : Str)) = false := by decide)
    (hpl : ((backTo pos (starEach [] X.env)).any (·.1) || (backToKw pos (keywordEach kws X.env)).any (·.1.isNone)) = false := by rfl) : PE X (.Call (.Name x p) [] kws pos) (fun σ H Q => tk σ H fun zs H2 => sp (gV [] zs) H2 Q E) := by
  refine ⟨fun pins s σ H Q I h => wpAny_Call_Name_kw (ld_glob I gl hm ?_ hdb)⟩
  refine PySem.W.callWith_KW0 (first := []) (h₀ := X.base) I.ok.mod.kin hk hall (thn (hkw.run pos pins s σ H _ I h) fun ws s2 ⟨zs, H2, I2, rz, q⟩ => ⟨I2.kIn, ?_⟩) hpl
  rw [hks]
  exact run_fnk (us := []) (vs := []) F hr hb hx I2 .nil rz q
end Tz
namespace Tz
open PySem PySem.Spec PyProof.Rows L2 TzF TzRepr
theorem cut_toV {ys : List V} {n : Nat} (h : n ≤ ys.length) : cutV ys none (some (n : Int)) = ys.take n := by
  unfold cutV
  rw [HT.sIx_none, HT.sIx_nat, Nat.min_eq_left h, List.drop_zero, Nat.sub_zero]
theorem cut_fromV {ys : List V} {n : Nat} (h : n ≤ ys.length) : cutV ys (some (n : Int)) none = ys.drop n := by
  unfold cutV
  rw [HT.sIx_none, HT.sIx_nat, Nat.min_eq_left h, List.take_of_length_le]
  rw [List.length_drop]
  exact Nat.le_refl _
theorem cut_two {ys : List V} {n : Nat} (h : n + 2 ≤ ys.length) : cutV ys (some (n : Int)) (some ((n + 2 : Nat) : Int)) = (ys.drop n).take 2 := by
  unfold cutV
  rw [HT.sIx_nat, HT.sIx_nat, Nat.min_eq_left (by omega), Nat.min_eq_left (by omega)]
  congr 1
  omega
section
variable {C : Addr} {H H' : Hp} {b : Nat} {ys zs : List V} {qs rs : List (Int × Int)} {y : V} {q : Int × Int}
theorem Pcs.keep (h : Pcs C H b ys qs) (e : ∀ a o, H a = some o → (∀ ps, o ≠ .tbl ps) → (∀ xs, o ≠ .lst xs) → H' a = some o) : Pcs C H' b ys qs := ⟨h.1, fun i y q h1 h2 => (h.2 i y q h1 h2).keep e⟩
theorem Pcs.ex (h : Pcs C H b ys qs) (e : Ex H H') : Pcs C H' b ys qs := h.keep fun a o z _ _ => e a o z
theorem Pcs.ext (h : Pcs C H b ys qs) (e : LamX.ExtN H H') : Pcs C H' b ys qs := h.keep fun a o z n _ => e a o z n
theorem Pcs.fw {z c t : _} {cells : List Int} (h : Pcs C H b ys qs) (f : Fw z H H') (p : PenAt H z c cells t) : Pcs C H' b ys qs := h.keep fun a o e _ n => f a o (fun q => by
  obtain ⟨⟨ix, left, hz, _⟩, _⟩ := p
  rw [q, hz] at e
  exact n _ (Option.some.inj e).symm) e
theorem PcAt.fw {z c t : _} {cells : List Int} (h : PcAt C H b y q) (f : Fw z H H') (p : PenAt H z c cells t) : PcAt C H' b y q := h.keep fun a o e _ n => f a o (fun q => by
  obtain ⟨⟨ix, left, hz, _⟩, _⟩ := p
  rw [q, hz] at e
  exact n _ (Option.some.inj e).symm) e
theorem PcAt.ext (h : PcAt C H b y q) (e : LamX.ExtN H H') : PcAt C H' b y q := h.keep fun a o z n _ => e a o z n
theorem Pcs.nil : Pcs C H b [] [] := ⟨rfl, fun i y q h => by simp at h⟩
theorem Pcs.one (h : PcAt C H b y q) : Pcs C H b [y] [q] := ⟨rfl, fun i x r h1 h2 => by
  match i with
  | 0 => cases h1; cases h2; exact h
  | i + 1 => simp at h1⟩
theorem Pcs.app (h : Pcs C H b ys qs) (g : Pcs C H b zs rs) : Pcs C H b (ys ++ zs) (qs ++ rs) := ⟨by rw [List.length_append, List.length_append, h.1, g.1], fun i x r h1 h2 => by
  by_cases il : i < ys.length
  · rw [List.getElem?_append_left il] at h1
    rw [List.getElem?_append_left (by rw [← h.1]; exact il)] at h2
    exact h.2 i x r h1 h2
  · rw [List.getElem?_append_right (by omega)] at h1
    rw [List.getElem?_append_right (by rw [← h.1]; omega), ← h.1] at h2
    exact g.2 _ x r h1 h2⟩
theorem Pcs.take (h : Pcs C H b ys qs) (n : Nat) : Pcs C H b (ys.take n) (qs.take n) := ⟨by rw [List.length_take, List.length_take, h.1], fun i x r h1 h2 => by
  rw [List.getElem?_take] at h1 h2
  split at h1
  · rename_i q
    rw [if_pos q] at h2
    exact h.2 i x r h1 h2
  · cases h1⟩
theorem Pcs.drop (h : Pcs C H b ys qs) (n : Nat) : Pcs C H b (ys.drop n) (qs.drop n) := ⟨by rw [List.length_drop, List.length_drop, h.1], fun i x r h1 h2 => by
  rw [List.getElem?_drop] at h1 h2
  exact h.2 _ x r h1 h2⟩
end
theorem Vn.app {xs ys : List (Int × Int)} (h : Vn xs) (g : Vn ys) : Vn (xs ++ ys) := fun q hq => by
  rcases List.mem_append.mp hq with z | z
  · exact h q z
  · exact g q z
theorem Vn.take {xs : List (Int × Int)} (h : Vn xs) (n : Nat) : Vn (xs.take n) := fun q hq => h q (List.mem_of_mem_take hq)
theorem Vn.drop {xs : List (Int × Int)} (h : Vn xs) (n : Nat) : Vn (xs.drop n) := fun q hq => h q (List.mem_of_mem_drop hq)
theorem Vn.one {q : Int × Int} (h : 0 ≤ q.2) : Vn [q] := fun p hp => by rw [List.mem_singleton.mp hp]; exact h
/-! ### texts -/
theorem two_len (a b : Str) : (tupleText [a, b]).length ≤ a.length + b.length + 10 := by
  have h := tupleText_len_le [a, b]
  simp only [List.map_cons, List.map_nil, List.sum_cons, List.sum_nil, List.length_cons, List.length_nil] at h
  omega
theorem lst_len {ts : List Str} {m : Nat} (h : ∀ t ∈ ts, t.length ≤ m) : (listText ts).length ≤ (m + 2) * ts.length + 2 := by
  have key : ∀ l : List Str, (∀ t ∈ l, t.length ≤ m) → (l.map (·.length)).sum + 2 * l.length ≤ (m + 2) * l.length := by
    intro l
    induction l with
    | nil => intro _; exact Nat.le_refl 0
    | cons a r ih =>
      intro hl
      have h1 := hl a List.mem_cons_self
      have h2 := ih fun t ht => hl t (List.mem_cons_of_mem _ ht)
      have e3 : (m + 2) * (r.length + 1) = (m + 2) * r.length + (m + 2) := by rw [Nat.mul_add, Nat.mul_one]
      rw [List.map_cons, List.sum_cons, List.length_cons, e3]
      omega
  have h1 := textFrom_len_le ts 0 "["
  have h2 := key ts h
  have e : (listText ts).length = (textFrom 0 "[" ts).length + 1 := by
    show (textFrom 0 "[" ts ++ "]").length = _
    rw [strLen_append]; rfl
  have e1 : ("[" : Str).length = 1 := rfl
  omega
def ptext (b : Nat) (q : Int × Int) : Str := tupleText [PyData.shown (.int q.1), wtext (2 * b) q.2]
def wtexts (hs : List Int) : Str := listText (hs.map fun h => PyData.shown (.int h))
theorem kept_each {K : PySem.W.Frag} {C kp l D : Addr} {H : Hp} {b : Nat} {hs : List Int} {ys : List V} {qs : List (Int × Int)} (hk : H kp = some (.lst [.ref l, .ref D])) (hl : H l = some (.lst (hs.map V.int))) (hd : H D = some (.lst ys)) (pc : Pcs C H b ys qs) (lk : l ≠ kp) (dk : D ≠ kp)
    (few : ∀ h ∈ hs, 0 ≤ h ∧ h ≤ 18446744073709551616) (small : ∀ q ∈ qs, 0 ≤ q.1 ∧ q.1 ≤ 100) : Each (RKept K C kp) [.ref l, .ref D] [wtexts hs, listText (qs.map (ptext b))] H := by
  have no : ∀ {p a : Addr} {us vs : List V}, H p = some (.tup us) → H a = some (.lst vs) → p ≠ a := fun h1 h2 e => by
    rw [e, h2] at h1
    cases h1
  refine two_each (.inl ⟨l, _, _, rfl, fun z => lk (List.mem_singleton.mp z), hl, rfl, by rw [List.length_map, List.length_map], fun i x t h1 h2 => ?_⟩) (.inr ⟨D, ys, _, rfl, fun z => dk (List.mem_singleton.mp z), hd, rfl, by rw [List.length_map]; exact pc.1, fun i x t h1 h2 => ?_⟩)
  · rw [List.getElem?_map] at h1 h2
    cases q : hs[i]? with
    | none =>
      rw [q] at h1
      cases h1
    | some h =>
      rw [q] at h1 h2
      cases h1
      cases h2
      have := few h (List.mem_of_getElem? q)
      exact .inr (.inr ⟨h, rfl, log_64 this.1 this.2, rfl⟩)
  · rw [List.getElem?_map] at h2
    cases e : qs[i]? with
    | none =>
      rw [e] at h2
      cases h2
    | some q =>
      rw [e] at h2
      cases h2
      obtain ⟨p, x, rfl, hp, n0, n1, W⟩ := pc.2 i _ q h1 e
      have s := small q (List.mem_of_getElem? e)
      obtain ⟨dx, hx⟩ := W.ob
      refine ⟨p, _, _, rfl, fun z => ?_, hp, rfl, two_each (fl_int (log_64 s.1 (by omega))) (.inr (.inr ⟨x, dx, _, rfl, hx, _, _, W, rfl⟩))⟩
      rcases List.mem_cons.mp z with z | z
      · exact no hp hd z
      · exact no hp hk (List.mem_singleton.mp z)
theorem kept_short {b : Nat} (b2 : b ≤ 32) {hs : List Int} {qs : List (Int × Int)} (few : ∀ h ∈ hs, 0 ≤ h ∧ h ≤ 18446744073709551616) (small : ∀ q ∈ qs, (0 ≤ q.1 ∧ q.1 ≤ 100) ∧ 0 ≤ q.2 ∧ q.2 < 18446744073709551616) (n1 : hs.length ≤ 9) (n2 : qs.length ≤ 6) :
    (listText [wtexts hs, listText (qs.map (ptext b))]).length ≤ sizeLine := by
  have h1 : (wtexts hs).length ≤ 102 * hs.length + 2 := by
    have q := lst_len (ts := hs.map fun h => PyData.shown (.int h)) (m := 100) fun t ht => by
      obtain ⟨v, hv, rfl⟩ := List.mem_map.mp ht
      have := few v hv
      exact len_64 this.1 this.2
    rw [List.length_map] at q
    exact q
  have h2 : (listText (qs.map (ptext b))).length ≤ 202 * qs.length + 2 := by
    have q := lst_len (ts := qs.map (ptext b)) (m := 200) fun t ht => by
      obtain ⟨v, hv, rfl⟩ := List.mem_map.mp ht
      have := small v hv
      unfold ptext
      have tl := two_len (PyData.shown (.int v.1)) (wtext (2 * b) v.2)
      have a := len_64 this.1.1 (by omega)
      have c := wtext_len (w := 2 * b) (by omega) this.2.1 this.2.2
      omega
    rw [List.length_map] at q
    exact q
  refine short_lst (fun t ht => ?_) (by show 2 ≤ 100; decide)
  rcases List.mem_cons.mp ht with rfl | ht
  · omega
  · rw [List.mem_singleton.mp ht]
    omega
theorem fly_wide {B1 B2 : Addr} {Q : VK} {H : Hp} {y : V} (h : ∀ H1, Ex H H1 → Tup H1 [.str "wide", y] Q) : Flies B1 [("width", y)] H (HE2R B1 B2 Q) := fun d H' e q => .inl ⟨rfl, d, y, rfl, q, h H' e⟩
theorem fly_rows {B1 B2 : Addr} {Q : VK} {H : Hp} {y : V} (h : ∀ H1, Ex H H1 → Tup H1 [.str "rows", y] Q) : Flies B2 [("at", y)] H (HE2R B1 B2 Q) := fun d H' e q => .inr ⟨rfl, d, y, rfl, q, h H' e⟩
theorem jv_tp {b : Nat} (h : 1 ≤ b) {qs : List (Int × Int)} (v : Vn qs) : jv b 0 0 qs = cr (2 * b) (tp b 0 qs) := by
  rw [jv_is h v (Int.le_refl 0) (Int.le_of_lt (mw_pos (by omega))), Int.zero_add]
theorem drop2 {α : Type} {xs : List α} {n : Nat} {u v : α} (g0 : xs[n]? = some u) (g1 : xs[n + 1]? = some v) : xs.drop n = u :: v :: xs.drop (n + 2) := by
  obtain ⟨h, rfl⟩ := List.getElem?_eq_some_iff.mp g0
  obtain ⟨h', rfl⟩ := List.getElem?_eq_some_iff.mp g1
  rw [List.drop_eq_getElem_cons h, List.drop_eq_getElem_cons h']
theorem PcAt.val {C : Addr} {H : Hp} {b : Nat} {y : V} {q : Int × Int} (h : PcAt C H b y q) : 0 ≤ q.2 ∧ q.2 ≤ mw (2 * b) := by
  obtain ⟨_, _, _, _, _, _, W⟩ := h
  obtain ⟨_, _, _, h0, h1⟩ := W
  exact ⟨h0, h1⟩
end Tz
namespace Tz
open PySem L2 TzF TzRepr
def top (i : Nat) : Stmt := PySem.Challenge.pw_twozeros_k12_whole_pieces_at_odd_places.main.body.getD i (.Pass ⟨0, 0, 0, 0⟩)
abbrev s_BadWord_init_ : Stmt := inClass (top 4) 0
abbrev s_BadWidth_init_ : Stmt := inClass (top 3) 0
abbrev s_BadRows_init_ : Stmt := inClass (top 6) 0
abbrev s_is_whole : Stmt := top 9
abbrev s_is_from : Stmt := top 10
abbrev s_most_value : Stmt := top 14
abbrev s_checked_width : Stmt := top 13
abbrev s_Word_init_ : Stmt := inClass (top 12) 1
abbrev s_carried_round : Stmt := top 15
abbrev s_sum_word : Stmt := top 16
abbrev s_Word_repr_ : Stmt := inClass (top 12) 7
abbrev s_checked_even : Stmt := top 29
abbrev s_check_halves : Stmt := top 30
abbrev s_packed : Stmt := top 26
abbrev s_half_total : Stmt := top 27
abbrev s_checked_times : Stmt := top 20
abbrev s_turned : Stmt := top 18
abbrev s_Word_lshift_ : Stmt := inClass (top 12) 19
abbrev s_operand_value : Stmt := top 21
abbrev s_Word_add_ : Stmt := inClass (top 12) 11
abbrev s_Word_empty : Stmt := inClass (top 12) 2
abbrev s_is_piece : Stmt := top 32
abbrev s_check_pieces : Stmt := top 31
abbrev s_joined : Stmt := top 28
abbrev s_law_pen : Stmt := top 34
abbrev s_law_draw : Stmt := top 35
abbrev s_law_halves : Stmt := top 36
abbrev s_law_by_places : Stmt := top 38
abbrev s_law_by_pieces : Stmt := top 41
abbrev s_law_cut : Stmt := top 37
abbrev s_law_strange : Stmt := top 42
abbrev s_law_no_piece : Stmt := top 40
abbrev s_law_heard : Stmt := top 39
abbrev s_law : Stmt := top 43
structure FnG (K : PySem.W.Frag) (mg : Str → Option Value) (x : Str) (st : Stmt) where
  a : Addr
  fd : FuncData
  F : Fun K x x st a fd
  m : mg x = some (.ref a)
structure FnM (K : PySem.W.Frag) (C : Addr) (x q : Str) (st : Stmt) where
  a : Addr
  fd : FuncData
  F : Fun K x q st a fd
  M : Meth K C x a
structure Kl (K : PySem.W.Frag) (mg : Str → Option Value) (x : Str) where
  C : Addr
  cl : Cls K C
  m : mg x = some (.ref C)
  kp : PySem.W.keepIn K (.ref C) = true
  al : Alone K C
  rd : ClX.CRead K C (.type "type")
structure ErG (K : PySem.W.Frag) (mg : Str → Option Value) (x : Str) where
  C : Addr
  m : mg x = some (.ref C)
  er : Err K C
structure CoI (mg : Str → Option Value) (x : Str) (n : Int) where
  t : Tok
  m : mg x = some (.int n t)
structure CoC (K : PySem.W.Frag) (C : Addr) (x : Str) (n : Int) where
  t : Tok
  c : ClX.CVal K C (.type "type") x (.int n) (.int n t)
structure FnS (K : PySem.W.Frag) (C : Addr) (x q : Str) (st : Stmt) where
  a : Addr
  fd : FuncData
  F : Fun K x q st a fd
  p : Addr
  S : TzOwn.SMet K C (.type "type") x p a
structure FnC (K : PySem.W.Frag) (C : Addr) (x q : Str) (st : Stmt) where
  a : Addr
  fd : FuncData
  F : Fun K x q st a fd
  p : Addr
  S : ClX.CMet K C (.type "type") x p a
structure Tx (K : PySem.W.Frag) (mg : Str → Option Value) where
  b_int : mg "int" = none
  b_len : mg "len" = none
  b_abs : mg "abs" = none
  b_list : mg "list" = none
  b_isinstance : mg "isinstance" = none
  b_bool : mg "bool" = none
  b_range : mg "range" = none
  b_str : mg "str" = none
  b_repr : mg "repr" = none
  b_sum : mg "sum" = none
  b_enumerate : mg "enumerate" = none
  b_tuple : mg "tuple" = none
  c_MOST_TIMES : CoI mg "MOST_TIMES" 1000000000000000000000000000000
  k_Word : Kl K mg "Word"
  mk_w : PySem.W.makesIn K k_Word.C = true
  e_BadWidth : ErG K mg "BadWidth"
  n_BadWidth_width : PySem.W.findIn K (.ref e_BadWidth.C) "width" = some none
  e_BadWord : ErG K mg "BadWord"
  n_BadWord_value : PySem.W.findIn K (.ref e_BadWord.C) "value" = some none
  e_BadRows : ErG K mg "BadRows"
  n_BadRows_at : PySem.W.findIn K (.ref e_BadRows.C) "at" = some none
  n_Word_width : NoAttr K k_Word.C "width"
  n_Word_value : NoAttr K k_Word.C "value"
  n_Word_rest : NoAttr K k_Word.C "rest"
  n_Word_is_empty : NoAttr K k_Word.C "is_empty"
  n_Word_is_full : NoAttr K k_Word.C "is_full"
  cc_Word_MOST_WIDTH : CoC K k_Word.C "MOST_WIDTH" 64
  o_lshift : knownB K "__lshift__" = true
  o_rlshift : knownB K "__rlshift__" = true
  n_rlshift : PySem.W.findIn K (.ref k_Word.C) "__rlshift__" = some none
  xm_BadWidth_BadWidth : PySem.W.exmOne K (.ref e_BadWidth.C) (.ref e_BadWidth.C) = some true
  xm_BadRows_BadWidth : PySem.W.exmOne K (.ref e_BadRows.C) (.ref e_BadWidth.C) = some false
  xm_BadRows_BadRows : PySem.W.exmOne K (.ref e_BadRows.C) (.ref e_BadRows.C) = some true
  f_BadWord_init_ : FnM K e_BadWord.C "__init__" "BadWord.__init__" s_BadWord_init_
  f_BadWidth_init_ : FnM K e_BadWidth.C "__init__" "BadWidth.__init__" s_BadWidth_init_
  f_BadRows_init_ : FnM K e_BadRows.C "__init__" "BadRows.__init__" s_BadRows_init_
  f_is_whole : FnG K mg "is_whole" s_is_whole
  f_is_from : FnG K mg "is_from" s_is_from
  f_most_value : FnG K mg "most_value" s_most_value
  f_checked_width : FnG K mg "checked_width" s_checked_width
  f_Word_init_ : FnM K k_Word.C "__init__" "Word.__init__" s_Word_init_
  f_carried_round : FnG K mg "carried_round" s_carried_round
  f_sum_word : FnG K mg "sum_word" s_sum_word
  f_Word_repr_ : FnM K k_Word.C "__repr__" "Word.__repr__" s_Word_repr_
  f_checked_even : FnG K mg "checked_even" s_checked_even
  f_check_halves : FnG K mg "check_halves" s_check_halves
  f_packed : FnG K mg "packed" s_packed
  f_half_total : FnG K mg "half_total" s_half_total
  f_checked_times : FnG K mg "checked_times" s_checked_times
  f_turned : FnG K mg "turned" s_turned
  f_Word_lshift_ : FnM K k_Word.C "__lshift__" "Word.__lshift__" s_Word_lshift_
  f_operand_value : FnG K mg "operand_value" s_operand_value
  f_Word_add_ : FnM K k_Word.C "__add__" "Word.__add__" s_Word_add_
  f_Word_empty : FnS K k_Word.C "empty" "Word.empty" s_Word_empty
  f_is_piece : FnG K mg "is_piece" s_is_piece
  f_check_pieces : FnG K mg "check_pieces" s_check_pieces
  f_joined : FnG K mg "joined" s_joined
  f_law_pen : FnG K mg "_law_pen" s_law_pen
  f_law_draw : FnG K mg "_law_draw" s_law_draw
  f_law_halves : FnG K mg "_law_halves" s_law_halves
  f_law_by_places : FnG K mg "_law_by_places" s_law_by_places
  f_law_by_pieces : FnG K mg "_law_by_pieces" s_law_by_pieces
  f_law_cut : FnG K mg "_law_cut" s_law_cut
  f_law_strange : FnG K mg "_law_strange" s_law_strange
  f_law_no_piece : FnG K mg "_law_no_piece" s_law_no_piece
  f_law_heard : FnG K mg "_law_heard" s_law_heard
  f_law : FnG K mg "law" s_law
  t_law : f_law.a = He.ga K "law"
def cP (K : PySem.W.Frag) : Addr × Addr := He.cT K ("law", none)
abbrev TL (P : Addr) : List (Addr × Str) := [(P, (("law" : Str) ++ ".<locals>.") ++ "<lambda>")]
section
variable {P : Program} {w : World} {K : PySem.W.Frag} {mg : Str → Option Value} {base : Heap}
theorem code_lam (T : Tx K mg) (fd : FuncData) (oc : Value) (od : Option Addr) (osl : Array (Option Value)) (lk : K.lookup T.f_law.a = some ⟨oc, od, .func fd, osl⟩) (ci : PySem.W.codeIn K fd.code "law" = true) : fd.code = .ref (cP K).1 := by
  obtain ⟨c, e⟩ := He.codeIn_ref ci
  rw [T.t_law] at lk
  have l2 : K.lookup (He.fAd K ("law", none)) = some ⟨oc, od, .func fd, osl⟩ := lk
  rw [e, ← He.codeOf_eq l2 e]
  rfl
theorem sc_BadWord_init_ : FnScope ["self", "value"] ["self", "value"] (defScope s_BadWord_init_) := ⟨rfl, rfl, rfl, by decide +kernel, rfl, by decide +kernel, by decide +kernel⟩
theorem bd_BadWord_init_ (T : Tx K mg) : Binds K T.f_BadWord_init_.fd ["self", "value"] [] := T.f_BadWord_init_.F.binds (ps := ["self", "value"]) fun _ _ _ _ _ _ us hl => match us, hl with | [_, _], _ => rfl
theorem sc_BadWidth_init_ : FnScope ["self", "width"] ["self", "width"] (defScope s_BadWidth_init_) := ⟨rfl, rfl, rfl, by decide +kernel, rfl, by decide +kernel, by decide +kernel⟩
theorem bd_BadWidth_init_ (T : Tx K mg) : Binds K T.f_BadWidth_init_.fd ["self", "width"] [] := T.f_BadWidth_init_.F.binds (ps := ["self", "width"]) fun _ _ _ _ _ _ us hl => match us, hl with | [_, _], _ => rfl
theorem sc_BadRows_init_ : FnScope ["self", "at"] ["self", "at"] (defScope s_BadRows_init_) := ⟨rfl, rfl, rfl, by decide +kernel, rfl, by decide +kernel, by decide +kernel⟩
theorem bd_BadRows_init_ (T : Tx K mg) : Binds K T.f_BadRows_init_.fd ["self", "at"] [] := T.f_BadRows_init_.F.binds (ps := ["self", "at"]) fun _ _ _ _ _ _ us hl => match us, hl with | [_, _], _ => rfl
theorem sc_is_whole : FnScope ["value"] ["value"] (defScope s_is_whole) := ⟨rfl, rfl, rfl, by decide +kernel, rfl, by decide +kernel, by decide +kernel⟩
theorem bd_is_whole (T : Tx K mg) : Binds K T.f_is_whole.fd ["value"] [] := T.f_is_whole.F.binds (ps := ["value"]) fun _ _ _ _ _ _ us hl => match us, hl with | [_], _ => rfl
theorem sc_is_from : FnScope ["value", "least", "most"] ["value", "least", "most"] (defScope s_is_from) := ⟨rfl, rfl, rfl, by decide +kernel, rfl, by decide +kernel, by decide +kernel⟩
theorem bd_is_from (T : Tx K mg) : Binds K T.f_is_from.fd ["value", "least", "most"] [] := T.f_is_from.F.binds (ps := ["value", "least", "most"]) fun _ _ _ _ _ _ us hl => match us, hl with | [_, _, _], _ => rfl
theorem sc_most_value : FnScope ["width"] ["width"] (defScope s_most_value) := ⟨rfl, rfl, rfl, by decide +kernel, rfl, by decide +kernel, by decide +kernel⟩
theorem bd_most_value (T : Tx K mg) : Binds K T.f_most_value.fd ["width"] [] := T.f_most_value.F.binds (ps := ["width"]) fun _ _ _ _ _ _ us hl => match us, hl with | [_], _ => rfl
theorem sc_checked_width : FnScope ["width"] ["width"] (defScope s_checked_width) := ⟨rfl, rfl, rfl, by decide +kernel, rfl, by decide +kernel, by decide +kernel⟩
theorem bd_checked_width (T : Tx K mg) : Binds K T.f_checked_width.fd ["width"] [] := T.f_checked_width.F.binds (ps := ["width"]) fun _ _ _ _ _ _ us hl => match us, hl with | [_], _ => rfl
theorem mk_Word (T : Tx K mg) : Mk K T.k_Word.C T.f_Word_init_.a := ⟨T.mk_w, T.f_Word_init_.M.at_, T.f_Word_init_.M.fn, T.k_Word.kp⟩
theorem sc_Word_init_ : FnScope ["self", "width", "value", "most"] ["self", "width", "value"] (defScope s_Word_init_) := ⟨rfl, rfl, rfl, by decide +kernel, rfl, by decide +kernel, by decide +kernel⟩
theorem bd_Word_init_ (T : Tx K mg) : Binds K T.f_Word_init_.fd ["self", "width", "value"] [] := T.f_Word_init_.F.binds (ps := ["self", "width", "value"]) fun _ _ _ _ _ _ us hl => match us, hl with | [_, _, _], _ => rfl
theorem sc_carried_round : FnScope ["width", "number"] ["width", "number"] (defScope s_carried_round) := ⟨rfl, rfl, rfl, by decide +kernel, rfl, by decide +kernel, by decide +kernel⟩
theorem bd_carried_round (T : Tx K mg) : Binds K T.f_carried_round.fd ["width", "number"] [] := T.f_carried_round.F.binds (ps := ["width", "number"]) fun _ _ _ _ _ _ us hl => match us, hl with | [_, _], _ => rfl
theorem sc_sum_word : FnScope ["width", "one", "other"] ["width", "one", "other"] (defScope s_sum_word) := ⟨rfl, rfl, rfl, by decide +kernel, rfl, by decide +kernel, by decide +kernel⟩
theorem bd_sum_word (T : Tx K mg) : Binds K T.f_sum_word.fd ["width", "one", "other"] [] := T.f_sum_word.F.binds (ps := ["width", "one", "other"]) fun _ _ _ _ _ _ us hl => match us, hl with | [_, _, _], _ => rfl
theorem sc_Word_repr_ : FnScope ["self"] ["self"] (defScope s_Word_repr_) := ⟨rfl, rfl, rfl, by decide +kernel, rfl, by decide +kernel, by decide +kernel⟩
theorem bd_Word_repr_ (T : Tx K mg) : Binds K T.f_Word_repr_.fd ["self"] [] := T.f_Word_repr_.F.binds (ps := ["self"]) fun _ _ _ _ _ _ us hl => match us, hl with | [_], _ => rfl
theorem sc_checked_even : FnScope ["width"] ["width"] (defScope s_checked_even) := ⟨rfl, rfl, rfl, by decide +kernel, rfl, by decide +kernel, by decide +kernel⟩
theorem bd_checked_even (T : Tx K mg) : Binds K T.f_checked_even.fd ["width"] [] := T.f_checked_even.F.binds (ps := ["width"]) fun _ _ _ _ _ _ us hl => match us, hl with | [_], _ => rfl
theorem sc_check_halves : FnScope ["width", "halves", "most", "half"] ["width", "halves"] (defScope s_check_halves) := ⟨rfl, rfl, rfl, by decide +kernel, rfl, by decide +kernel, by decide +kernel⟩
theorem bd_check_halves (T : Tx K mg) : Binds K T.f_check_halves.fd ["width", "halves"] [] := T.f_check_halves.F.binds (ps := ["width", "halves"]) fun _ _ _ _ _ _ us hl => match us, hl with | [_, _], _ => rfl
theorem sc_packed : FnScope ["width", "halves", "filled", "at"] ["width", "halves"] (defScope s_packed) := ⟨rfl, rfl, rfl, by decide +kernel, rfl, by decide +kernel, by decide +kernel⟩
theorem bd_packed (T : Tx K mg) : Binds K T.f_packed.fd ["width", "halves"] [] := T.f_packed.F.binds (ps := ["width", "halves"]) fun _ _ _ _ _ _ us hl => match us, hl with | [_, _], _ => rfl
theorem sc_half_total : FnScope ["width", "halves", "plain_sum", "word"] ["width", "halves"] (defScope s_half_total) := ⟨rfl, rfl, rfl, by decide +kernel, rfl, by decide +kernel, by decide +kernel⟩
theorem bd_half_total (T : Tx K mg) : Binds K T.f_half_total.fd ["width", "halves"] [] := T.f_half_total.F.binds (ps := ["width", "halves"]) fun _ _ _ _ _ _ us hl => match us, hl with | [_, _], _ => rfl
theorem sc_checked_times : FnScope ["times"] ["times"] (defScope s_checked_times) := ⟨rfl, rfl, rfl, by decide +kernel, rfl, by decide +kernel, by decide +kernel⟩
theorem bd_checked_times (T : Tx K mg) : Binds K T.f_checked_times.fd ["times"] [] := T.f_checked_times.F.binds (ps := ["times"]) fun _ _ _ _ _ _ us hl => match us, hl with | [_], _ => rfl
theorem sc_turned : FnScope ["word", "places"] ["word", "places"] (defScope s_turned) := ⟨rfl, rfl, rfl, by decide +kernel, rfl, by decide +kernel, by decide +kernel⟩
theorem bd_turned (T : Tx K mg) : Binds K T.f_turned.fd ["word", "places"] [] := T.f_turned.F.binds (ps := ["word", "places"]) fun _ _ _ _ _ _ us hl => match us, hl with | [_, _], _ => rfl
theorem sc_Word_lshift_ : FnScope ["self", "other"] ["self", "other"] (defScope s_Word_lshift_) := ⟨rfl, rfl, rfl, by decide +kernel, rfl, by decide +kernel, by decide +kernel⟩
theorem bd_Word_lshift_ (T : Tx K mg) : Binds K T.f_Word_lshift_.fd ["self", "other"] [] := T.f_Word_lshift_.F.binds (ps := ["self", "other"]) fun _ _ _ _ _ _ us hl => match us, hl with | [_, _], _ => rfl
theorem sc_operand_value : FnScope ["word", "other"] ["word", "other"] (defScope s_operand_value) := ⟨rfl, rfl, rfl, by decide +kernel, rfl, by decide +kernel, by decide +kernel⟩
theorem bd_operand_value (T : Tx K mg) : Binds K T.f_operand_value.fd ["word", "other"] [] := T.f_operand_value.F.binds (ps := ["word", "other"]) fun _ _ _ _ _ _ us hl => match us, hl with | [_, _], _ => rfl
theorem sc_Word_add_ : FnScope ["self", "other"] ["self", "other"] (defScope s_Word_add_) := ⟨rfl, rfl, rfl, by decide +kernel, rfl, by decide +kernel, by decide +kernel⟩
theorem bd_Word_add_ (T : Tx K mg) : Binds K T.f_Word_add_.fd ["self", "other"] [] := T.f_Word_add_.F.binds (ps := ["self", "other"]) fun _ _ _ _ _ _ us hl => match us, hl with | [_, _], _ => rfl
theorem sc_Word_empty : FnScope ["width"] ["width"] (defScope s_Word_empty) := ⟨rfl, rfl, rfl, by decide +kernel, rfl, by decide +kernel, by decide +kernel⟩
theorem bd_Word_empty (T : Tx K mg) : Binds K T.f_Word_empty.fd ["width"] [] := T.f_Word_empty.F.binds (ps := ["width"]) fun _ _ _ _ _ _ us hl => match us, hl with | [_], _ => rfl
theorem sc_is_piece : FnScope ["width", "piece", "number", "part"] ["width", "piece"] (defScope s_is_piece) := ⟨rfl, rfl, rfl, by decide +kernel, rfl, by decide +kernel, by decide +kernel⟩
theorem bd_is_piece (T : Tx K mg) : Binds K T.f_is_piece.fd ["width", "piece"] [] := T.f_is_piece.F.binds (ps := ["width", "piece"]) fun _ _ _ _ _ _ us hl => match us, hl with | [_, _], _ => rfl
theorem sc_check_pieces : FnScope ["width", "pieces", "at", "piece"] ["width", "pieces"] (defScope s_check_pieces) := ⟨rfl, rfl, rfl, by decide +kernel, rfl, by decide +kernel, by decide +kernel⟩
theorem bd_check_pieces (T : Tx K mg) : Binds K T.f_check_pieces.fd ["width", "pieces"] [] := T.f_check_pieces.F.binds (ps := ["width", "pieces"]) fun _ _ _ _ _ _ us hl => match us, hl with | [_, _], _ => rfl
theorem sc_joined : FnScope ["width", "pieces", "together", "ahead", "number", "part"] ["width", "pieces"] (defScope s_joined) := ⟨rfl, rfl, rfl, by decide +kernel, rfl, by decide +kernel, by decide +kernel⟩
theorem bd_joined (T : Tx K mg) : Binds K T.f_joined.fd ["width", "pieces"] [] := T.f_joined.F.binds (ps := ["width", "pieces"]) fun _ _ _ _ _ _ us hl => match us, hl with | [_, _], _ => rfl
theorem sc_law_pen : FnScope ["_law_script"] ["_law_script"] (defScope s_law_pen) := ⟨rfl, rfl, rfl, by decide +kernel, rfl, by decide +kernel, by decide +kernel⟩
theorem bd_law_pen (T : Tx K mg) : Binds K T.f_law_pen.fd ["_law_script"] [] := T.f_law_pen.F.binds (ps := ["_law_script"]) fun _ _ _ _ _ _ us hl => match us, hl with | [_], _ => rfl
theorem sc_law_draw : FnScope ["_law_pen_here", "_law_many", "_law_digit", "_law_at", "_law_cell", "_law_great", "_law_mixed"] ["_law_pen_here", "_law_many"] (defScope s_law_draw) := ⟨rfl, rfl, rfl, by decide +kernel, rfl, by decide +kernel, by decide +kernel⟩
theorem bd_law_draw (T : Tx K mg) : Binds K T.f_law_draw.fd ["_law_pen_here", "_law_many"] [] := T.f_law_draw.F.binds (ps := ["_law_pen_here", "_law_many"]) fun _ _ _ _ _ _ us hl => match us, hl with | [_, _], _ => rfl
theorem sc_law_halves : FnScope ["_law_pen_here", "_law_wide", "_law_top", "_law_way", "_law_found", "_law_k", "_law_some"] ["_law_pen_here", "_law_wide"] (defScope s_law_halves) := ⟨rfl, rfl, rfl, by decide +kernel, rfl, by decide +kernel, by decide +kernel⟩
theorem bd_law_halves (T : Tx K mg) : Binds K T.f_law_halves.fd ["_law_pen_here", "_law_wide"] [] := T.f_law_halves.F.binds (ps := ["_law_pen_here", "_law_wide"]) fun _ _ _ _ _ _ us hl => match us, hl with | [_, _], _ => rfl
theorem sc_law_by_places : FnScope ["_law_wide", "_law_whole_row", "_law_s", "_law_at"] ["_law_wide", "_law_whole_row"] (defScope s_law_by_places) := ⟨rfl, rfl, rfl, by decide +kernel, rfl, by decide +kernel, by decide +kernel⟩
theorem bd_law_by_places (T : Tx K mg) : Binds K T.f_law_by_places.fd ["_law_wide", "_law_whole_row"] [] := T.f_law_by_places.F.binds (ps := ["_law_wide", "_law_whole_row"]) fun _ _ _ _ _ _ us hl => match us, hl with | [_, _], _ => rfl
theorem sc_law_by_pieces : FnScope ["_law_wide", "_law_told", "_law_s", "_law_ahead", "_law_top", "_law_many", "_law_word", "_law_turned"] ["_law_wide", "_law_told"] (defScope s_law_by_pieces) := ⟨rfl, rfl, rfl, by decide +kernel, rfl, by decide +kernel, by decide +kernel⟩
theorem bd_law_by_pieces (T : Tx K mg) : Binds K T.f_law_by_pieces.fd ["_law_wide", "_law_told"] [] := T.f_law_by_pieces.F.binds (ps := ["_law_wide", "_law_told"]) fun _ _ _ _ _ _ us hl => match us, hl with | [_, _], _ => rfl
theorem sc_law_cut : FnScope ["_law_pen_here", "_law_whole_row", "_law_left", "_law_found", "_law_turn", "_law_many"] ["_law_pen_here", "_law_whole_row"] (defScope s_law_cut) := ⟨rfl, rfl, rfl, by decide +kernel, rfl, by decide +kernel, by decide +kernel⟩
theorem bd_law_cut (T : Tx K mg) : Binds K T.f_law_cut.fd ["_law_pen_here", "_law_whole_row"] [] := T.f_law_cut.F.binds (ps := ["_law_pen_here", "_law_whole_row"]) fun _ _ _ _ _ _ us hl => match us, hl with | [_, _], _ => rfl
theorem sc_law_strange : FnScope ["_law_pen_here", "_law_wide", "_law_some", "_law_worth"] ["_law_pen_here", "_law_wide"] (defScope s_law_strange) := ⟨rfl, rfl, rfl, by decide +kernel, rfl, by decide +kernel, by decide +kernel⟩
theorem bd_law_strange (T : Tx K mg) : Binds K T.f_law_strange.fd ["_law_pen_here", "_law_wide"] [] := T.f_law_strange.F.binds (ps := ["_law_pen_here", "_law_wide"]) fun _ _ _ _ _ _ us hl => match us, hl with | [_, _], _ => rfl
theorem sc_law_no_piece : FnScope ["_law_pen_here", "_law_wide", "_law_word", "_law_some"] ["_law_pen_here", "_law_wide"] (defScope s_law_no_piece) := ⟨rfl, rfl, rfl, by decide +kernel, rfl, by decide +kernel, by decide +kernel⟩
theorem bd_law_no_piece (T : Tx K mg) : Binds K T.f_law_no_piece.fd ["_law_pen_here", "_law_wide"] [] := T.f_law_no_piece.F.binds (ps := ["_law_pen_here", "_law_wide"]) fun _ _ _ _ _ _ us hl => match us, hl with | [_, _], _ => rfl
theorem sc_law_heard : FnScope ["_law_ask", "_law_heard_here", "error"] ["_law_ask"] (defScope s_law_heard) := ⟨rfl, rfl, rfl, by decide +kernel, rfl, by decide +kernel, by decide +kernel⟩
theorem bd_law_heard (T : Tx K mg) : Binds K T.f_law_heard.fd ["_law_ask"] [] := T.f_law_heard.F.binds (ps := ["_law_ask"]) fun _ _ _ _ _ _ us hl => match us, hl with | [_], _ => rfl
theorem sc_law : FnScope ["_law_script", "_law_pen_here", "_law_turn", "_law_whole_row", "_law_rows", "_law_told", "_law_due", "_law_kept", "_law_more_so", "_law_place", "_law_pieces_so", "_law_at", "_law_both", "_law_far", "_law_again", "_law_odd", "_law_spot", "_law_bent", "_law_wide", "_law_wrong", "_law_row"] ["_law_script"] (defScope s_law) := ⟨rfl, rfl, rfl, by decide +kernel, rfl, by decide +kernel, by decide +kernel⟩
theorem bd_law (T : Tx K mg) : Binds K T.f_law.fd ["_law_script"] [] := T.f_law.F.binds (ps := ["_law_script"]) fun _ _ _ _ _ _ us hl => match us, hl with | [_], _ => rfl
end
section
variable {P : Program} {w : World} {K : PySem.W.Frag} {mg : Str → Option Value} {base : Heap}
theorem ok_BadWord_init_ (T : Tx K mg) : FnOk P w K mg base CX0 1 T.f_BadWord_init_.a T.f_BadWord_init_.fd ["self", "value"] (spErr1 T.e_BadWord.C "value") := by
  refine T.f_BadWord_init_.F.ok sc_BadWord_init_ (fun vs H Q E h => ?_) (fun cdv A outer s H vs Q E hr h => ?_)
  · obtain ⟨a, v, rfl, _⟩ := h
    rfl
  · obtain ⟨a, v, rfl, ha, k⟩ := h
    refine ⟨_, (pss_one (ps_ost (pv 0) (pv 1))), ?_⟩

    exact ⟨v, rfl, _, rfl, a, T.e_BadWord.C, rfl, T.e_BadWord.er.made, T.n_BadWord_value, .inl ⟨ha, fun dx n ne => k dx n ne⟩⟩
theorem ok_BadWidth_init_ (T : Tx K mg) : FnOk P w K mg base CX0 1 T.f_BadWidth_init_.a T.f_BadWidth_init_.fd ["self", "width"] (spErr1 T.e_BadWidth.C "width") := by
  refine T.f_BadWidth_init_.F.ok sc_BadWidth_init_ (fun vs H Q E h => ?_) (fun cdv A outer s H vs Q E hr h => ?_)
  · obtain ⟨a, v, rfl, _⟩ := h
    rfl
  · obtain ⟨a, v, rfl, ha, k⟩ := h
    refine ⟨_, (pss_one (ps_ost (pv 0) (pv 1))), ?_⟩

    exact ⟨v, rfl, _, rfl, a, T.e_BadWidth.C, rfl, T.e_BadWidth.er.made, T.n_BadWidth_width, .inl ⟨ha, fun dx n ne => k dx n ne⟩⟩
theorem ok_BadRows_init_ (T : Tx K mg) : FnOk P w K mg base CX0 1 T.f_BadRows_init_.a T.f_BadRows_init_.fd ["self", "at"] (spErr1 T.e_BadRows.C "at") := by
  refine T.f_BadRows_init_.F.ok sc_BadRows_init_ (fun vs H Q E h => ?_) (fun cdv A outer s H vs Q E hr h => ?_)
  · obtain ⟨a, v, rfl, _⟩ := h
    rfl
  · obtain ⟨a, v, rfl, ha, k⟩ := h
    refine ⟨_, (pss_one (ps_ost (pv 0) (pv 1))), ?_⟩

    exact ⟨v, rfl, _, rfl, a, T.e_BadRows.C, rfl, T.e_BadRows.er.made, T.n_BadRows_at, .inl ⟨ha, fun dx n ne => k dx n ne⟩⟩
theorem ok_is_whole (T : Tx K mg) : FnOk P w K mg base CX0 1 T.f_is_whole.a T.f_is_whole.fd ["value"] (spWhole T.k_Word.C) := by
  refine T.f_is_whole.F.ok sc_is_whole (fun vs H Q E h => ?_) (fun cdv A outer s H vs Q E hr h => ?_)
  · obtain ⟨y, g, rfl, _⟩ := h
    rfl
  · obtain ⟨y, g, rfl, d, k⟩ := h
    refine ⟨_, (pss_one (ps_ret (pe_and (pe_callB call_isi (by rfl) T.b_isinstance (by decide +kernel) (pa_cons (pv 0) (pa_cons (pe_bltn (v := .ty "int") (by rfl) T.b_int (by decide +kernel) rfl) pa_nil))) (pe_one (pe_not (pe_callB call_isi (by rfl) T.b_isinstance (by decide +kernel) (pa_cons (pv 0) (pa_cons (pe_bltn (v := .ty "bool") (by rfl) T.b_bool (by decide +kernel) rfl) pa_nil)))))))), ?_⟩

    have yes : ∀ {A B : Prop}, A → (if true = true then A else B) := fun h => iteT h
    refine ⟨_, rfl, _, _, _, _, _, rfl, .ty "int", d.tyx T.k_Word.al T.k_Word.cl, Tag.kit T.k_Word.al _ (by decide), _, rfl, ?_⟩
    cases g with
    | int => exact iteT ⟨_, rfl, _, _, _, _, _, rfl, .ty "bool", d.tyx T.k_Word.al T.k_Word.cl, Tag.kit T.k_Word.al _ (by decide), _, rfl, k⟩
    | bl => exact iteT ⟨_, rfl, _, _, _, _, _, rfl, .ty "bool", d.tyx T.k_Word.al T.k_Word.cl, Tag.kit T.k_Word.al _ (by decide), _, rfl, k⟩
    | _ => exact iteF k
theorem ok_is_from (T : Tx K mg) : FnOk P w K mg base CX0 2 T.f_is_from.a T.f_is_from.fd ["value", "least", "most"] (spFrom T.k_Word.C) := by
  refine T.f_is_from.F.ok sc_is_from (fun vs H Q E h => ?_) (fun cdv A outer s H vs Q E hr h => ?_)
  · obtain ⟨y, g, lo, hi, rfl, _⟩ := h
    rfl
  · obtain ⟨y, g, lo, hi, rfl, d, k⟩ := h
    refine ⟨_, (pss_one (ps_ret (pe_and (pe_call (ok_is_whole T) (hr.mono (by decide)) (by rfl) T.f_is_whole.m T.f_is_whole.F.kp (bd_is_whole T) .nil pass0 (pa_cons (pv 0) pa_nil)) (pe_one (pe_chain op_le op_le (pv 1) (pv 0) (pv 2)))))), ?_⟩

    refine ⟨_, rfl, y, g, rfl, d, _, rfl, ?_⟩
    have no : g ≠ .int → Q (.bl false) H := fun ng => k false ⟨fun h => absurd h Bool.false_ne_true, fun ⟨n, e, _⟩ => by
      subst e
      cases d
      exact absurd rfl ng⟩
    cases g with
    | int =>
      obtain ⟨n, rfl⟩ := d.int_of
      refine iteT ?_
      refine ⟨_, rfl, _, rfl, _, _, rfl, rfl, _, rfl, ?_⟩
      refine ite2 (fun h1 => ?_) (fun h1 => ?_)
      · refine ⟨_, rfl, _, _, rfl, rfl, ?_⟩
        exact k _ ⟨fun h2 => ⟨n, rfl, of_decide_eq_true h1, of_decide_eq_true h2⟩, fun ⟨m, e, h2⟩ => by
          cases e
          exact decide_eq_true h2.2⟩
      · exact k _ ⟨fun h2 => absurd h2 Bool.false_ne_true, fun ⟨m, e, h2⟩ => by
          cases e
          exact absurd (decide_eq_true h2.1) h1⟩
    | _ => exact iteF (no (by decide))
theorem ok_is_from_int (T : Tx K mg) : FnOk P w K mg base CX0 2 T.f_is_from.a T.f_is_from.fd ["value", "least", "most"] spIsFromI :=
  weak (ok_is_from T) fun vs H Q E ⟨v, lo, hi, e, k⟩ => ⟨.int v, .int, lo, hi, e, .int v, fun b hb => k b (hb.trans ⟨fun ⟨n, e, h⟩ => by cases e; exact h, fun h => ⟨v, rfl, h⟩⟩)⟩
theorem ok_most_value (T : Tx K mg) : FnOk P w K mg base CX0 1 T.f_most_value.a T.f_most_value.fd ["width"] spMost := by
  refine T.f_most_value.F.ok sc_most_value (fun vs H Q E h => ?_) (fun cdv A outer s H vs Q E hr h => ?_)
  · obtain ⟨wd, rfl, _⟩ := h
    rfl
  · obtain ⟨wd, rfl, w1, w64, k⟩ := h
    refine ⟨_, (pss_one (ps_ret (pe_op op_sub (pe_op op_shl pe_int (pv 0)) pe_int))), ?_⟩

    refine ⟨_, rfl, _, _, rfl, rfl, ⟨by omega, by omega, by decide⟩, _, _, rfl, rfl, ?_⟩
    have et : (1 : Int) * 2 ^ (wd : Int).toNat - 1 = mw wd := by
      rw [Int.one_mul, Int.toNat_natCast]
      all_goals rfl
    dsimp only
    rw [et]
    exact k
theorem ok_checked_width_int (T : Tx K mg) : FnOk P w K mg base CX0 3 T.f_checked_width.a T.f_checked_width.fd ["width"] spCheckedWidth := by
  refine T.f_checked_width.F.ok sc_checked_width (fun vs H Q E h => ?_) (fun cdv A outer s H vs Q E hr h => ?_)
  · obtain ⟨wd, rfl, _⟩ := h
    rfl
  · obtain ⟨wd, rfl, w1, w64, k⟩ := h
    refine ⟨_, (pss_cons (ps_if (pt_not (pt_val (pe_call (ok_is_from_int T) (hr.mono (by decide)) (by rfl) T.f_is_from.m T.f_is_from.F.kp (bd_is_from T) .nil pass0 (pa_cons (pv 0) (pa_cons pe_int (pa_cons (ClX.pe_cval (pe_glob (v := .ref T.k_Word.C) (by rfl) T.k_Word.m rfl)) pa_nil)))))) (pss_one ps_never) pss_nil)
      (pss_one (ps_ret (pv 0)))), ?_⟩

    refine ⟨_, rfl, T.k_Word.C, _, .int 64, _, rfl, T.k_Word.rd, T.cc_Word_MOST_WIDTH.c, _, _, _, rfl, fun b hb => ?_⟩
    have e : b = true := hb.mpr ⟨by omega, by omega⟩
    subst e
    refine ⟨_, rfl, iteF ?_⟩
    exact ⟨_, rfl, k⟩
theorem ok_Word_init_ (T : Tx K mg) : FnOk P w K mg base CX0 4 T.f_Word_init_.a T.f_Word_init_.fd ["self", "width", "value"] (spWordInit T.k_Word.C) := by
  refine T.f_Word_init_.F.ok sc_Word_init_ (fun vs H Q E h => ?_) (fun cdv A outer s H vs Q E hr h => ?_)
  · obtain ⟨p, dx, wd, v, rfl, _⟩ := h
    rfl
  · obtain ⟨p, dx, wd, v, rfl, hp, w1, w64, v0, vm, k⟩ := h
    refine ⟨_, (pss_cons (ps_set (i := 3) sc_Word_init_.nd rfl (Or.inl rfl) (pe_call (ok_most_value T) (hr.mono (by decide)) (by rfl) T.f_most_value.m T.f_most_value.F.kp (bd_most_value T) .nil pass0 (pa_cons (pe_call (ok_checked_width_int T) (hr.mono (by decide)) (by rfl) T.f_checked_width.m T.f_checked_width.F.kp (bd_checked_width T) .nil pass0 (pa_cons (pv 1) pa_nil)) pa_nil)))
      (pss_cons (ps_if (pt_not (pt_val (pe_call (ok_is_from_int T) (hr.mono (by decide)) (by rfl) T.f_is_from.m T.f_is_from.F.kp (bd_is_from T) .nil pass0 (pa_cons (pv 2) (pa_cons pe_int (pa_cons (pv 3) pa_nil)))))) (pss_one ps_never) pss_nil)
      (pss_cons (ps_fld (pv 0) (pv 1) rfl)
      (pss_cons (ps_fld (pv 0) (pv 2) rfl)
      (pss_cons (ps_fld (pv 0) (pe_op op_mod (pv 2) (pv 3)) rfl)
      (pss_cons (ps_fld (pv 0) (pe_cmpR op_eq (pv 2) pe_int (nomark _)) rfl)
      (pss_one (ps_fld (pv 0) (pe_cmpR op_eq (pv 2) (pv 3) (nomark _)) rfl)))))))), ?_⟩

    have hM := mw_pos w1
    refine ⟨_, rfl, wd, rfl, w1, w64, wd, rfl, w1, w64, ?_⟩
    refine ⟨_, rfl, _, rfl, _, _, _, rfl, fun b hb => ?_⟩
    have e : b = true := hb.mpr ⟨v0, vm⟩
    subst e
    refine ⟨_, rfl, iteF ?_⟩
    refine ⟨_, rfl, _, rfl, p, _, dx, _, rfl, hp, T.k_Word.cl, T.n_Word_width, by show 0 < 1000; decide, ?_⟩
    refine ⟨_, rfl, _, rfl, p, _, dx, _, rfl, upd_same, T.k_Word.cl, T.n_Word_value, by show 1 < 1000; decide, ?_⟩
    refine ⟨_, rfl, _, rfl, _, _, rfl, rfl, by omega, _, rfl, p, _, dx, _, rfl, upd_same, T.k_Word.cl, T.n_Word_rest, by show 2 < 1000; decide, ?_⟩
    refine ⟨_, rfl, rfl, _, rfl, p, _, dx, _, rfl, upd_same, T.k_Word.cl, T.n_Word_is_empty, by show 3 < 1000; decide, ?_⟩
    refine ⟨_, rfl, _, rfl, rfl, _, rfl, p, _, dx, _, rfl, upd_same, T.k_Word.cl, T.n_Word_is_full, by show 4 < 1000; decide, ?_⟩
    refine k _ ?_ fun b o e hb => ?_
    · rw [upd_same]
      unfold wf
      rw [dec_int, dec_int]
    · rw [upd_ne hb, upd_ne hb, upd_ne hb, upd_ne hb, upd_ne hb]
      exact e
theorem ok_carried_round (T : Tx K mg) : FnOk P w K mg base CX0 2 T.f_carried_round.a T.f_carried_round.fd ["width", "number"] spCarried := by
  refine T.f_carried_round.F.ok sc_carried_round (fun vs H Q E h => ?_) (fun cdv A outer s H vs Q E hr h => ?_)
  · obtain ⟨wd, n, rfl, _⟩ := h
    rfl
  · obtain ⟨wd, n, rfl, w1, w64, k⟩ := h
    refine ⟨_, (pss_one (ps_ret (pe_ifExp (pt_cmpR op_gt (pv 1) pe_int (nomark _)) (pe_op op_add (pe_op op_mod (pe_op op_sub (pv 1) pe_int) (pe_call (ok_most_value T) (hr.mono (by decide)) (by rfl) T.f_most_value.m T.f_most_value.F.kp (bd_most_value T) .nil pass0 (pa_cons (pv 0) pa_nil))) pe_int) pe_int))), ?_⟩

    have hM := mw_pos w1
    refine ⟨_, rfl, _, _, rfl, rfl, _, rfl, ?_⟩
    refine ite2 (fun h1 => ?_) (fun h1 => ?_)
    · have h1 := of_decide_eq_true h1
      refine ⟨_, rfl, _, _, rfl, rfl, _, rfl, wd, rfl, w1, w64, _, _, rfl, rfl, by omega, _, _, rfl, rfl, ?_⟩
      have e : (n - 1) % mw wd + 1 = cr wd n := by
        unfold cr
        rw [if_pos h1]
      dsimp only
      rw [e]
      exact k
    · have e : cr wd n = 0 := cr_non fun h => h1 (decide_eq_true h)
      rw [e] at k
      exact k
theorem ok_sum_word (T : Tx K mg) : FnOk P w K mg base CX0 6 T.f_sum_word.a T.f_sum_word.fd ["width", "one", "other"] (spSumWord T.k_Word.C) := by
  refine T.f_sum_word.F.ok sc_sum_word (fun vs H Q E h => ?_) (fun cdv A outer s H vs Q E hr h => ?_)
  · obtain ⟨wd, a, b, rfl, _⟩ := h
    rfl
  · obtain ⟨wd, a, b, rfl, w1, w64, k⟩ := h
    refine ⟨_, (pss_one (ps_ret (pe_make (mk_Word T) (ok_Word_init_ T) (hr.mono (by decide)) (by rfl) T.k_Word.m (bd_Word_init_ T) .nil pass0 (pa_cons (pv 0) (pa_cons (pe_call (ok_carried_round T) (hr.mono (by decide)) (by rfl) T.f_carried_round.m T.f_carried_round.F.kp (bd_carried_round T) .nil pass0 (pa_cons (pv 0) (pa_cons (pe_op op_add (pv 1) (pv 2)) pa_nil))) pa_nil))))), ?_⟩

    have cb := cr_bd w1 (a + b)
    refine ⟨_, rfl, _, rfl, _, rfl, _, rfl, _, _, rfl, rfl, wd, _, rfl, w1, w64, ?_⟩
    exact mk_word w1 w64 cb.1 cb.2 k
theorem ok_Word_repr_ (T : Tx K mg) : FnOk P w K mg base CX0 1 T.f_Word_repr_.a T.f_Word_repr_.fd ["self"] (TzRepr.spRepr (WText T.k_Word.C)) := by
  refine T.f_Word_repr_.F.ok sc_Word_repr_ (fun vs H Q E h => ?_) (fun cdv A outer s H vs Q E hr h => ?_)
  · obtain ⟨a, t, rfl, _⟩ := h
    rfl
  · obtain ⟨x, t, rfl, ⟨wd, u, W, rfl⟩, k⟩ := h
    obtain ⟨⟨dx, hx⟩, w1, w64, u0, um⟩ := id W
    have m64 := mw_64 w64
    have l1 : ((wd : Int)).natAbs.log2 < 1920 := by
      have : ((wd : Int)).natAbs < 2 ^ 64 := by omega
      have := PySem.Flt.log2_lt_of (by decide) this
      omega
    have l2 : u.natAbs.log2 < 1920 := by
      have : u.natAbs < 2 ^ 64 := by omega
      have := PySem.Flt.log2_lt_of (by decide) this
      omega
    have a := int20 (n := (wd : Int)) (by omega) (by omega)
    have b := int20 u0 (by omega)
    have e0 : (Str.empty : Str).length = 0 := rfl
    have e1 : ("Word(" : Str).length = 5 := rfl
    have e2 : (", " : Str).length = 2 := rfl
    have e3 : (")" : Str).length = 1 := rfl
    have sz : ∀ {n : Nat}, n ≤ 60 → n ≤ sizeLine := fun h => Nat.le_trans h (by decide)
    refine ⟨_, (pss_one (ps_ret (pe_joined (.cons pe_str (.cons (pe_fmt (pe_fld (pv 0) rfl)) (.cons pe_str (.cons (pe_fmt (pe_fld (pv 0) rfl)) (.cons pe_str .nil)))))))), ?_⟩
    refine ⟨_, rfl, sz (by rw [strLen_append, e0, e1]; omega), ?_⟩
    refine ⟨_, rfl, x, _, dx, _, _, rfl, hx, T.k_Word.cl, T.n_Word_width, wf_width _ _, .inr ⟨_, rfl, l1, _, rfl, sz (by rw [strLen_append, strLen_append, e0, e1]; omega), ?_⟩⟩
    refine ⟨_, rfl, sz (by rw [strLen_append, strLen_append, strLen_append, e0, e1, e2]; omega), ?_⟩
    refine ⟨_, rfl, x, _, dx, _, _, rfl, hx, T.k_Word.cl, T.n_Word_value, wf_value _ _, .inr ⟨_, rfl, l2, _, rfl, sz (by rw [strLen_append, strLen_append, strLen_append, strLen_append, e0, e1, e2]; omega), ?_⟩⟩
    refine ⟨_, rfl, sz (by rw [strLen_append, strLen_append, strLen_append, strLen_append, strLen_append, e0, e1, e2, e3]; omega), ?_⟩
    exact k H fun _ _ e => e
theorem ok_checked_even (T : Tx K mg) : FnOk P w K mg base (L2.CX P w) 4 T.f_checked_even.a T.f_checked_even.fd ["width"] (spEvenX T.k_Word.C T.e_BadWidth.C) := by
  refine T.f_checked_even.F.okX sc_checked_even (fun vs H Q E h => ?_) (fun cdv A outer s H vs Q E hr h => ?_)
  · obtain ⟨y, g, rfl, _⟩ := h
    rfl
  · obtain ⟨y, g, rfl, d, k⟩ := h
    refine ⟨_, (pss_cons (ps_if (PW.pt (pw_or (pt_not (pt_val (pe_call (ok_is_from T) (hr.mono (by decide)) (by rfl) T.f_is_from.m T.f_is_from.F.kp (bd_is_from T) .nil pass0 (pa_cons (pv 0) (pa_cons pe_int (pa_cons (ClX.pe_cval (pe_glob (v := .ref T.k_Word.C) (by rfl) T.k_Word.m rfl)) pa_nil)))))) (pw_or1 (pt_cmpR op_eq (pe_op op_mod (pv 0) pe_int) pe_int (nomark _))))) (pss_one (ps_raise rfl (takes_of rfl rfl rfl rfl) (pmk_oex T.e_BadWidth.er.made T.f_BadWidth_init_.M.at_ (beq_iff_eq.mp T.f_BadWidth_init_.M.fn) (ok_BadWidth_init_ T) (hr.mono (by decide)) (bd_BadWidth_init_ T) .nil pass0 (by rfl) T.e_BadWidth.m (pa_cons (pv 0) pa_nil)))) pss_nil)
      (pss_one (ps_ret (pv 0)))), ?_⟩

    refine ⟨_, rfl, T.k_Word.C, _, .int 64, _, rfl, T.k_Word.rd, T.cc_Word_MOST_WIDTH.c, y, g, _, _, rfl, d, fun c hc => ?_⟩
    rcases k with ⟨b, rfl, b1, b2, k⟩ | ⟨no, k⟩
    · have e : c = true := hc.mpr ⟨_, rfl, by omega, by omega⟩
      subst e
      refine ⟨_, rfl, iteF ?_⟩
      refine ⟨_, rfl, _, _, rfl, rfl, (by decide : (0 : Int) < 2), rfl, _, rfl, iteN (fun z => by have := V.int.inj z; omega) ?_⟩
      exact ⟨_, rfl, k⟩
    · cases c with
      | false =>
        refine ⟨_, rfl, iteT ?_⟩
        exact ⟨_, rfl, err1 k⟩
      | true =>
        obtain ⟨n, rfl, n0, n1⟩ := hc.mp rfl
        refine ⟨_, rfl, iteF ?_⟩
        have odd : n % 2 = 1 := by
          have q := no (n / 2).toNat
          by_cases z : n % 2 = 1
          · exact z
          · refine absurd ?_ (q (by omega) (by omega))
            congr 1
            omega
        refine ⟨_, rfl, _, _, rfl, rfl, (by decide : (0 : Int) < 2), rfl, _, rfl, iteD (congrArg V.int odd) ?_⟩
        exact ⟨_, rfl, err1 k⟩
theorem ok_check_halves (T : Tx K mg) : FnOk P w K mg base (L2.CX P w) 4 T.f_check_halves.a T.f_check_halves.fd ["width", "halves"] (spHalvesX T.k_Word.C T.e_BadWord.C) := by
  refine T.f_check_halves.F.okX sc_check_halves (fun vs H Q E h => ?_) (fun cdv A outer s H vs Q E hr h => ?_)
  · obtain ⟨b, l, ys, rfl, _⟩ := h
    rfl
  · obtain ⟨b, l, ys, rfl, b1, b2, hl, k⟩ := h
    refine ⟨_, (pss_cons (ps_set (i := 2) sc_check_halves.nd rfl (Or.inl rfl) (pe_op op_sub (pe_op op_shl pe_int (pe_op op_fdiv (pv 0) pe_int)) pe_int))
      (pss_one (ps_for (passes_of rfl) rfl (pi_list (pv 1)) (pg_name (i := 3) sc_check_halves.nd rfl (Or.inl rfl)) (pss_one (ps_if (pt_not (pt_val (pe_call (ok_is_from T) (hr.mono (by decide)) (by rfl) T.f_is_from.m T.f_is_from.F.kp (bd_is_from T) .nil pass0 (pa_cons (pv 3) (pa_cons pe_int (pa_cons (pv 2) pa_nil)))))) (pss_one (ps_raise rfl (takes_of rfl rfl rfl rfl) (pmk_oex T.e_BadWord.er.made T.f_BadWord_init_.M.at_ (beq_iff_eq.mp T.f_BadWord_init_.M.fn) (ok_BadWord_init_ T) (hr.mono (by decide)) (bd_BadWord_init_ T) .nil pass0 (by rfl) T.e_BadWord.m (pa_cons (pv 3) pa_nil)))) pss_nil))))), ?_⟩

    refine ⟨_, rfl, _, _, rfl, rfl, ⟨by decide, by decide⟩, _, _, rfl, rfl, ⟨by omega, by omega, by decide⟩, _, _, rfl, rfl, ?_⟩
    dsimp only
    rw [shl_half]
    have mem : ∀ {hs : List Int} {i : Nat} (il : i < hs.length), Halfs b hs → 0 ≤ hs[i] ∧ hs[i] ≤ hmax b := fun il hh => hh _ (List.getElem_mem il)
    rcases k with ⟨hs, z, g, r, rfl, hh, d, no, f⟩ | ⟨hs, rfl, hh, k⟩
    · refine ⟨_, rfl, l, rfl, ⟨_, sq hl⟩, for_list (K := K) (a := l) (xs := hs.map V.int ++ z :: r) (fun i σ' H' => H' = H ∧ i ≤ hs.length ∧ ∃ o, σ' = [some (.int ((2 * b : Nat) : Int)), some (.ref l), some (.int (hmax b)), o]) ⟨rfl, Nat.zero_le _, _, rfl⟩ (fun i σ' H' _ q => by rw [q.1]; exact sq hl) ?_ ?_⟩
      · rintro i y σ' H2 hy ⟨rfl, ih, o, rfl⟩
        by_cases il : i < hs.length
        · rw [List.getElem?_append_left (by rw [List.length_map]; exact il), List.getElem?_map, List.getElem?_eq_getElem il] at hy
          have ey := (Option.some.inj hy).symm
          subst ey
          refine ⟨_, rfl, _, rfl, _, .int, _, _, rfl, .int _, fun c hc => ?_⟩
          have e : c = true := hc.mpr ⟨_, rfl, mem il hh⟩
          subst e
          exact ⟨_, rfl, iteF ⟨rfl, il, _, rfl⟩⟩
        · have ei : i = hs.length := by omega
          subst ei
          rw [List.getElem?_append_right (by rw [List.length_map]; exact Nat.le_refl _), List.length_map, Nat.sub_self] at hy
          have ey : z = y := Option.some.inj hy
          subst ey
          refine ⟨_, rfl, _, rfl, _, g, _, _, rfl, d, fun c hc => ?_⟩
          have e : c = false := by
            cases c with
            | false => rfl
            | true =>
              obtain ⟨n, e, h⟩ := hc.mp rfl
              exact absurd h (no n e)
          subst e
          exact ⟨_, rfl, iteT ⟨_, rfl, err1 f⟩⟩
      · rintro σ' H2 ⟨rfl, ih, _⟩
        rw [List.length_append, List.length_map, List.length_cons] at ih
        omega
    · refine ⟨_, rfl, l, rfl, ⟨_, sq hl⟩, for_list (K := K) (a := l) (xs := hs.map V.int) (fun i σ' H' => H' = H ∧ ∃ o, σ' = [some (.int ((2 * b : Nat) : Int)), some (.ref l), some (.int (hmax b)), o]) ⟨rfl, _, rfl⟩ (fun i σ' H' _ q => by rw [q.1]; exact sq hl) ?_ ?_⟩
      · rintro i y σ' H2 hy ⟨rfl, o, rfl⟩
        have il : i < hs.length := by
          have := (List.getElem?_eq_some_iff.mp hy).1
          rwa [List.length_map] at this
        rw [List.getElem?_map, List.getElem?_eq_getElem il] at hy
        have ey := (Option.some.inj hy).symm
        subst ey
        refine ⟨_, rfl, _, rfl, _, .int, _, _, rfl, .int _, fun c hc => ?_⟩
        have e : c = true := hc.mpr ⟨_, rfl, mem il hh⟩
        subst e
        exact ⟨_, rfl, iteF ⟨rfl, _, rfl⟩⟩
      · rintro σ' H2 ⟨rfl, o, rfl⟩
        exact k
theorem ok_packed (T : Tx K mg) : FnOk P w K mg base (L2.CX P w) 6 T.f_packed.a T.f_packed.fd ["width", "halves"] (spPackedX T.k_Word.C T.e_BadWidth.C T.e_BadWord.C) := by
  refine T.f_packed.F.okX sc_packed (fun vs H Q E h => ?_) (fun cdv A outer s H vs Q E hr h => ?_)
  · obtain ⟨y, g, l, ys, rfl, _⟩ := h
    rfl
  · obtain ⟨y, g, l, ys, rfl, d, hl, k⟩ := h
    refine ⟨_, (pss_cons (ps_expr (pe_call (ok_check_halves T) (hr.mono (by decide)) (by rfl) T.f_check_halves.m T.f_check_halves.F.kp (bd_check_halves T) .nil (passes_call (takes_of rfl rfl rfl rfl) fun _ _ _ _ z => z) (pa_cons (pe_call (ok_checked_even T) (hr.mono (by decide)) (by rfl) T.f_checked_even.m T.f_checked_even.F.kp (bd_checked_even T) .nil (passes_call (takes_of rfl rfl rfl rfl) fun _ _ _ _ z => z) (pa_cons (pv 0) pa_nil)) (pa_cons (pv 1) pa_nil))))
      (Evl.pss_cut (ps_set (i := 2) sc_packed.nd rfl (Or.inr rfl) (pe_ifExp (pt_cmpR op_eq (pe_op op_mod (pe_callB call_len_seq (by rfl) T.b_len (by decide +kernel) (pa_cons (pv 1) pa_nil)) pe_int) pe_int (nomark _)) (pe_op op_cat (pv 1) (pe_lst (pa_cons pe_int pa_nil))) (pv 1)))
      (pss_one (ps_ret (pe_lc (own := [("at", 3)]) (g := gName 3) (tt := tYes) (by rfl) sc_packed.nd (pi_range3 (by rfl) T.b_range (pa_cons pe_int (pa_cons (pe_callB call_len_seq (by rfl) T.b_len (by decide +kernel) (pa_cons (pv 2) pa_nil)) (pa_cons pe_int pa_nil)))) (blkOk_by (own := [("at", 3)]) (N := ["width", "halves", "filled", "at"]) (sc := defScope s_packed) (by decide +kernel)) (fun _ _ _ _ _ => pg_name (i := 3) sc_packed.nd rfl (Or.inl rfl)) (fun _ _ _ _ _ => pts_nil) (fun _ _ _ _ _ => (pe_make (mk_Word T) (ok_Word_init_ T) (hr.mono (by decide)) (by rfl) T.k_Word.m (bd_Word_init_ T) .nil pass0 (pa_cons (pv 0) (pa_cons (pe_op op_add (pe_op op_shl (pe_ix (ix_listK (K := K) rfl) (pv 2) (pv 3) (fun _ _ => rfl)) (pe_op op_fdiv (pv 0) pe_int)) (pe_ix (ix_listK (K := K) rfl) (pv 2) (pe_op op_add (pv 3) pe_int) (fun _ _ => rfl))) pa_nil))))))))), ?_⟩

    refine ⟨_, rfl, y, g, rfl, d, ?_⟩
    rcases k with ⟨o, f⟩ | ⟨b, rfl, b1, b2, k⟩
    · exact .inr ⟨o, f⟩
    refine .inl ⟨b, rfl, b1, b2, ?_⟩
    refine ⟨_, rfl, b, l, ys, rfl, b1, b2, hl, ?_⟩
    rcases k with ⟨hs, z, g', r, e, hh, dz, no, f⟩ | ⟨hs, rfl, hh, few, k⟩
    · exact .inl ⟨hs, z, g', r, e, hh, dz, no, f⟩
    refine .inr ⟨hs, rfl, hh, ?_⟩
    refine ⟨fun σ' H' => ∃ F, ∃ fl : List Int, Ex H H' ∧ σ' = [some (.int ((2 * b : Nat) : Int)), some (.ref l), some (.ref F), none] ∧ H' F = some (.lst (fl.map V.int)) ∧ fl.length = 2 * hn hs ∧ ∀ j, j < fl.length → fl[j]? = some (hs.getD j 0), ?_, ?_⟩
    · refine ⟨_, rfl, l, _, rfl, .inl (sq hl), _, _, rfl, rfl, (by decide : (0 : Int) < 2), rfl, _, rfl, ite2 (fun q => ?_) (fun q => ?_)⟩
      · have q := V.int.inj (of_decide_eq_true q)
        rw [List.length_map] at q
        refine ⟨_, rfl, by show 1 ≤ sizeLine; decide, fun e ne => ?_⟩
        (generalize g_H1 : upd _ e _ = H1); have he := gat g_H1; have e1 := gex g_H1 ne; clear g_H1
        refine ⟨l, e, _, _, rfl, rfl, e1 _ _ hl, he, by rw [List.length_map]; exact Nat.le_trans (show hs.length + 1 ≤ 101 by omega) (by decide), fun F nF => ?_⟩
        (generalize g_H2 : upd _ F _ = H2); have hF := gat g_H2; have e2 := gex g_H2 nF; clear g_H2
        refine ⟨F, hs ++ [0], e1.trans e2, rfl, by rw [hF, List.map_append]; rfl, ?_, fun j hj => ?_⟩
        · rw [List.length_append]
          unfold hn
          show hs.length + 1 = _
          omega
        · rw [List.length_append] at hj
          rw [List.getD_eq_getElem?_getD]
          by_cases q : j < hs.length
          · rw [List.getElem?_append_left q, List.getElem?_eq_getElem q]
            rfl
          · have ej : j = hs.length := by
              have : j < hs.length + 1 := hj
              omega
            subst ej
            rw [List.getElem?_append_right (Nat.le_refl _), Nat.sub_self, List.getElem?_eq_none (Nat.le_refl _)]
            rfl
      · refine ⟨_, rfl, l, hs, Ex.refl H, rfl, hl, ?_, fun j hj => ?_⟩
        · have q : ¬ ((((hs.map V.int).length : Nat) : Int) % 2 = 1) := fun z => q (decide_eq_true (congrArg V.int z))
          rw [List.length_map] at q
          unfold hn
          omega
        · rw [List.getD_eq_getElem?_getD, List.getElem?_eq_getElem hj]
          rfl
    rintro σ' H1 ⟨F, fl, e1, rfl, hF, len, get⟩
    have fl2 : fl.length ≤ 102 := by
      unfold hn at len
      omega
    refine ⟨_, rfl, F, _, rfl, .inl (sq hF), 0, _, 2, hn hs, rfl, ?_, fun D nD => lc_it walk_rangeC (fun i H' => Ex H1 H' ∧ ∃ xs, H' D = some (.lst (xs.map V.ref)) ∧ Ws T.k_Word.C H' (2 * b) xs (pk b hs i) ∧ xs.length = i) ⟨Ex.new nD, [], upd_same, .nil, rfl⟩ (fun _ _ _ _ => trivial) ?_ ?_⟩
    · have e : (fl.map V.int).length = fl.length := List.length_map ..
      rw [e]
      have q := rgc2 (n := fl.length) (by omega)
      rw [show (fl.length + 1) / 2 = hn hs by omega] at q
      exact q
    · rintro i y H2 H3 hi ⟨e2, xs, hD, WW, lx⟩ ⟨rfl, rfl⟩
      refine ⟨rfl, yes_go ?_⟩
      have hF3 := e2 _ _ hF
      have i0 : 2 * i < fl.length := by omega
      have i1 : 2 * i + 1 < fl.length := by omega
      have g0 : (fl.map V.int)[2 * i]? = some (.int (hs.getD (2 * i) 0)) := by rw [List.getElem?_map, get _ i0]; rfl
      have g1 : (fl.map V.int)[2 * i + 1]? = some (.int (hs.getD (2 * i + 1) 0)) := by rw [List.getElem?_map, get _ i1]; rfl
      have a0 : atI (fl.map V.int) (0 + (i : Nat) * 2 : Int) = some (.int (hs.getD (2 * i) 0)) := by
        rw [show (0 + (i : Nat) * 2 : Int) = ((2 * i : Nat) : Int) by omega]
        exact atI_nat g0
      have a1 : atI (fl.map V.int) ((0 + (i : Nat) * 2 : Int) + 1) = some (.int (hs.getD (2 * i + 1) 0)) := by
        rw [show ((0 + (i : Nat) * 2 : Int) + 1) = ((2 * i + 1 : Nat) : Int) by omega]
        exact atI_nat g1
      refine ⟨_, rfl, _, rfl, _, rfl, F, _, _, _, rfl, rfl, sq hF3, a0, _, rfl, _, _, rfl, rfl, ⟨by decide, by decide⟩, _, _, rfl, rfl, ?_⟩
      have bx := getD_half hh b1 (2 * i)
      have m64 := mw_64 (w := b) (by omega)
      have hb := hmax_mw b
      refine ⟨⟨by omega, by omega, by omega⟩, ?_⟩
      dsimp only
      rw [nat2, Int.toNat_natCast]
      have vb := pw_bd hh b1 i
      refine ⟨_, rfl, _, rfl, _, _, rfl, rfl, F, _, _, _, rfl, rfl, sq hF3, a1, _, _, rfl, rfl, fun p dp np ndp _ => mk_word1 (w := 2 * b) (by omega) (by omega) vb.1 vb.2 np ndp fun H4 e4 W4 => ⟨rfl, ?_⟩⟩
      have hD4 := e4 _ _ hD
      have st : ∀ x v, WordAt T.k_Word.C H4 x (2 * b) v → WordAt T.k_Word.C (upd H4 D (.lst (xs.map V.ref ++ [V.ref p]))) x (2 * b) v := fun x v W => W.stay (y := .non) (Stay.upd ⟨_, hD4⟩ (by intro q; cases q))
      refine ⟨_, hD4, ?_, fun a o h => ?_, xs ++ [p], ?_, ?_, ?_⟩
      · rw [List.length_map]
        exact Nat.lt_of_lt_of_le (show xs.length < 200 by omega) (by decide)
      · rw [upd_ne (ne_of_none h nD)]
        exact e4 _ _ (e2 _ _ h)
      · rw [upd_same, List.map_append]
        rfl
      · rw [pk_succ]
        exact ((WW.fw fun x v W => W.ex e4).fw st).snoc (st _ _ W4)
      · rw [List.length_append, lx]
        rfl
    · rintro H2 ⟨e2, xs, hD, WW, lx⟩
      exact k D H2 xs (back e1 nD) (e1.trans e2) hD WW
theorem ok_half_total (T : Tx K mg) : FnOk P w K mg base (L2.CX P w) 7 T.f_half_total.a T.f_half_total.fd ["width", "halves"] (spHalfTotX T.k_Word.C T.e_BadWidth.C T.e_BadWord.C) := by
  refine T.f_half_total.F.okX sc_half_total (fun vs H Q E h => ?_) (fun cdv A outer s H vs Q E hr h => ?_)
  · obtain ⟨y, g, l, ys, rfl, _⟩ := h
    rfl
  · obtain ⟨y, g, l, ys, rfl, d, hl, k⟩ := h
    refine ⟨_, (pss_cons (ps_set (i := 2) sc_half_total.nd rfl (Or.inl rfl) (pe_callB (cr_sum rfl) (by rfl) T.b_sum (by decide +kernel) (pa_cons (pe_lc (own := [("word", 3)]) (g := gName 3) (tt := tYes) (by rfl) sc_half_total.nd (pi_list (pe_call (ok_packed T) (hr.mono (by decide)) (by rfl) T.f_packed.m T.f_packed.F.kp (bd_packed T) .nil (passes_call (takes_of rfl rfl rfl rfl) fun _ _ _ _ z => z) (pa_cons (pv 0) (pa_cons (pv 1) pa_nil)))) (blkOk_by (own := [("word", 3)]) (N := ["width", "halves", "plain_sum", "word"]) (sc := defScope s_half_total) (by decide +kernel)) (fun _ _ _ _ _ => pg_name (i := 3) sc_half_total.nd rfl (Or.inl rfl)) (fun _ _ _ _ _ => pts_nil) (fun _ _ _ _ _ => (pe_fldK (K := K) rfl (pv 3) rfl))) pa_nil)))
      (pss_one (ps_ret (pe_make (mk_Word T) (ok_Word_init_ T) (hr.mono (by decide)) (by rfl) T.k_Word.m (bd_Word_init_ T) .nil pass0 (pa_cons (pv 0) (pa_cons (pe_call (ok_carried_round T) (hr.mono (by decide)) (by rfl) T.f_carried_round.m T.f_carried_round.F.kp (bd_carried_round T) .nil pass0 (pa_cons (pv 0) (pa_cons (pv 2) pa_nil))) pa_nil)))))), ?_⟩

    refine ⟨_, rfl, _, rfl, y, g, l, ys, rfl, d, hl, ?_⟩
    rcases k with ⟨o, f⟩ | ⟨b, rfl, b1, b2, k⟩
    · exact .inl ⟨o, f⟩
    refine .inr ⟨b, rfl, b1, b2, ?_⟩
    rcases k with ⟨hs, z, g', r, e, hh, dz, no, f⟩ | ⟨hs, rfl, hh, few, k⟩
    · exact .inl ⟨hs, z, g', r, e, hh, dz, no, f⟩
    refine .inr ⟨hs, rfl, hh, few, fun p H1 xs np e1 hp WW => ?_⟩
    have lx := WW.len
    rw [pk_len] at lx
    have h50 : hn hs ≤ 51 := by
      unfold hn
      omega
    refine ⟨p, rfl, ⟨_, sq hp⟩, fun D nD => lc_list (K := K) (a := p) (xs := xs.map V.ref) (fun i H' => Ex H1 H' ∧ H' D = some (.lst (((pk b hs (hn hs)).take i).map V.int))) ⟨Ex.new nD, upd_same⟩ (fun i H' _ q => sq (q.1 _ _ hp)) ?_ ?_⟩
    · rintro i y H2 hy ⟨e2, hD⟩
      refine ⟨rfl, yes_go ?_⟩
      have il : i < xs.length := by
        have := (List.getElem?_eq_some_iff.mp hy).1
        rwa [List.length_map] at this
      obtain ⟨x, v, hx, hv, W⟩ := WW.get il
      rw [List.getElem?_map, hx] at hy
      have ey : V.ref x = y := Option.some.inj hy
      subst ey
      obtain ⟨dx, ox⟩ := (W.ex e2).ob
      refine ⟨_, rfl, x, _, dx, _, _, rfl, ox, T.k_Word.cl, T.n_Word_value, wf_value _ _, _, hD, ?_, fun a o h => ?_, ?_⟩
      · rw [List.length_map, List.length_take]
        exact Nat.lt_of_le_of_lt (Nat.min_le_left _ _) (Nat.lt_of_lt_of_le (show i < 200 by omega) (by decide))
      · rw [upd_ne (ne_of_none h nD)]
        exact e2 _ _ h
      · rw [upd_same, List.take_add_one, hv, List.map_append]
        rfl
    · rintro H2 ⟨e2, hD⟩
      rw [List.length_map, lx, List.take_of_length_le (by rw [pk_len]; exact Nat.le_refl _)] at hD
      refine ⟨D, _, rfl, sq hD, ?_⟩
      have cb := cr_bd (w := 2 * b) (by omega) (pk b hs (hn hs)).sum
      refine ⟨_, rfl, _, rfl, _, rfl, 2 * b, _, rfl, by omega, by omega, mk_word (w := 2 * b) (by omega) (by omega) cb.1 cb.2 fun q H' nq e W => ?_⟩
      exact k q H' (back (e1.trans e2) nq) ((e1.trans e2).trans e) W
theorem ok_checked_times (T : Tx K mg) : FnOk P w K mg base CX0 3 T.f_checked_times.a T.f_checked_times.fd ["times"] spTimes := by
  refine T.f_checked_times.F.ok sc_checked_times (fun vs H Q E h => ?_) (fun cdv A outer s H vs Q E hr h => ?_)
  · obtain ⟨n, rfl, _⟩ := h
    rfl
  · obtain ⟨n, rfl, n0, n1, k⟩ := h
    refine ⟨_, (pss_cons (ps_if (pt_not (pt_val (pe_call (ok_is_from_int T) (hr.mono (by decide)) (by rfl) T.f_is_from.m T.f_is_from.F.kp (bd_is_from T) .nil pass0 (pa_cons (pv 0) (pa_cons pe_int (pa_cons (pe_glob (v := .int 1000000000000000000000000000000) (by rfl) T.c_MOST_TIMES.m ⟨_, rfl⟩) pa_nil)))))) (pss_one ps_never) pss_nil)
      (pss_one (ps_ret (pv 0)))), ?_⟩

    refine ⟨_, rfl, _, _, _, rfl, fun b hb => ?_⟩
    have e : b = true := hb.mpr ⟨n0, n1⟩
    subst e
    refine ⟨_, rfl, iteF ?_⟩
    exact ⟨_, rfl, k⟩
theorem ok_turned (T : Tx K mg) : FnOk P w K mg base CX0 6 T.f_turned.a T.f_turned.fd ["word", "places"] (spTurned T.k_Word.C) := by
  refine T.f_turned.F.ok sc_turned (fun vs H Q E h => ?_) (fun cdv A outer s H vs Q E hr h => ?_)
  · obtain ⟨x, wd, v, n, rfl, _⟩ := h
    rfl
  · obtain ⟨x, wd, v, n, rfl, W, k⟩ := h
    refine ⟨_, (pss_one (ps_ret (pe_make (mk_Word T) (ok_Word_init_ T) (hr.mono (by decide)) (by rfl) T.k_Word.m (bd_Word_init_ T) .nil pass0 (pa_cons (pe_fld (pv 0) rfl) (pa_cons (pe_call (ok_carried_round T) (hr.mono (by decide)) (by rfl) T.f_carried_round.m T.f_carried_round.F.kp (bd_carried_round T) .nil pass0 (pa_cons (pe_fld (pv 0) rfl) (pa_cons (pe_op op_shl (pe_fld (pv 0) rfl) (pe_op op_mod (pv 1) (pe_fld (pv 0) rfl))) pa_nil))) pa_nil))))), ?_⟩

    obtain ⟨⟨dx, hx⟩, w1, w64, v0, vm⟩ := W
    have hb := emod_bd (a := n) (m := (wd : Int)) (by omega)
    have cb := cr_bd w1 (v * 2 ^ (n % wd).toNat)
    have m64 := mw_64 w64
    refine ⟨_, rfl, x, _, dx, _, _, rfl, hx, T.k_Word.cl, T.n_Word_width, wf_width _ _, ?_⟩
    refine ⟨_, rfl, x, _, dx, _, _, rfl, hx, T.k_Word.cl, T.n_Word_width, wf_width _ _, ?_⟩
    refine ⟨_, rfl, x, _, dx, _, _, rfl, hx, T.k_Word.cl, T.n_Word_value, wf_value _ _, ?_⟩
    refine ⟨_, rfl, _, rfl, x, _, dx, _, _, rfl, hx, T.k_Word.cl, T.n_Word_width, wf_width _ _, _, _, rfl, rfl, by omega, _, _, rfl, rfl, ⟨by omega, by omega, by omega⟩, ?_⟩
    refine ⟨wd, _, rfl, w1, w64, ?_⟩
    exact mk_word w1 w64 cb.1 cb.2 k
theorem ok_Word_lshift_int (T : Tx K mg) : FnOk P w K mg base CX0 7 T.f_Word_lshift_.a T.f_Word_lshift_.fd ["self", "other"] (spShlI T.k_Word.C) := by
  refine T.f_Word_lshift_.F.ok sc_Word_lshift_ (fun vs H Q E h => ?_) (fun cdv A outer s H vs Q E hr h => ?_)
  · obtain ⟨x, wd, u, n, rfl, _⟩ := h
    rfl
  · obtain ⟨x, wd, u, n, rfl, W, n0, n1, k⟩ := h
    refine ⟨_, (pss_one (ps_ret (pe_call (ok_turned T) (hr.mono (by decide)) (by rfl) T.f_turned.m T.f_turned.F.kp (bd_turned T) .nil pass0 (pa_cons (pv 0) (pa_cons (pe_call (ok_checked_times T) (hr.mono (by decide)) (by rfl) T.f_checked_times.m T.f_checked_times.F.kp (bd_checked_times T) .nil pass0 (pa_cons (pv 1) pa_nil)) pa_nil))))), ?_⟩

    exact ⟨_, rfl, _, rfl, n, rfl, n0, n1, x, wd, u, n, rfl, W, k⟩
theorem ok_operand_value (T : Tx K mg) : FnOk P w K mg base CX0 1 T.f_operand_value.a T.f_operand_value.fd ["word", "other"] (spOperand T.k_Word.C) := by
  refine T.f_operand_value.F.ok sc_operand_value (fun vs H Q E h => ?_) (fun cdv A outer s H vs Q E hr h => ?_)
  · obtain ⟨x, y, wd, u, v, rfl, _⟩ := h
    rfl
  · obtain ⟨x, y, wd, u, v, rfl, W, W', k⟩ := h
    refine ⟨_, (pss_cons (ps_if (pt_not (pt_val (pe_callB call_isi (by rfl) T.b_isinstance (by decide +kernel) (pa_cons (pv 1) (pa_cons (pe_glob (v := .ref T.k_Word.C) (by rfl) T.k_Word.m rfl) pa_nil))))) (pss_one ps_never) pss_nil)
      (pss_cons (ps_if (pt_cmpR op_ne (pe_fld (pv 1) rfl) (pe_fld (pv 0) rfl) (nomark _)) (pss_one ps_never) pss_nil)
      (pss_one (ps_ret (pe_fld (pv 1) rfl))))), ?_⟩

    obtain ⟨⟨dx, hx⟩, w1, w64, _, _⟩ := W
    obtain ⟨⟨dy, hy⟩, _, _, v0, vm⟩ := W'
    refine ⟨_, rfl, _, _, _, _, true, rfl, .own _, .base (.ins hy T.k_Word.cl T.k_Word.al.ha T.k_Word.al.hn T.k_Word.al.ht T.k_Word.al.hm), kit_self, _, rfl, iteF ?_⟩
    refine ⟨_, rfl, y, _, dy, _, _, rfl, hy, T.k_Word.cl, T.n_Word_width, wf_width _ _, ?_⟩
    refine ⟨_, rfl, x, _, dx, _, _, rfl, hx, T.k_Word.cl, T.n_Word_width, wf_width _ _, rfl, _, rfl, iteNS rfl ?_⟩
    exact ⟨_, rfl, y, _, dy, _, _, rfl, hy, T.k_Word.cl, T.n_Word_value, wf_value _ _, k⟩
theorem ok_Word_add_ (T : Tx K mg) : FnOk P w K mg base CX0 7 T.f_Word_add_.a T.f_Word_add_.fd ["self", "other"] (spAdd T.k_Word.C) := by
  refine T.f_Word_add_.F.ok sc_Word_add_ (fun vs H Q E h => ?_) (fun cdv A outer s H vs Q E hr h => ?_)
  · obtain ⟨x, y, wd, u, v, rfl, _⟩ := h
    rfl
  · obtain ⟨x, y, wd, u, v, rfl, W, W', k⟩ := h
    refine ⟨_, (pss_one (ps_ret (pe_call (ok_sum_word T) (hr.mono (by decide)) (by rfl) T.f_sum_word.m T.f_sum_word.F.kp (bd_sum_word T) .nil pass0 (pa_cons (pe_fld (pv 0) rfl) (pa_cons (pe_fld (pv 0) rfl) (pa_cons (pe_call (ok_operand_value T) (hr.mono (by decide)) (by rfl) T.f_operand_value.m T.f_operand_value.F.kp (bd_operand_value T) .nil pass0 (pa_cons (pv 0) (pa_cons (pv 1) pa_nil))) pa_nil)))))), ?_⟩
    obtain ⟨⟨dx, hx⟩, w1, w64, u0, um⟩ := id W

    refine ⟨_, rfl, x, _, dx, _, _, rfl, hx, T.k_Word.cl, T.n_Word_width, wf_width _ _, ?_⟩
    refine ⟨_, rfl, x, _, dx, _, _, rfl, hx, T.k_Word.cl, T.n_Word_value, wf_value _ _, ?_⟩
    exact ⟨_, rfl, _, rfl, x, y, wd, u, v, rfl, W, W', wd, u, v, rfl, w1, w64, k⟩
theorem ok_Word_empty (T : Tx K mg) : FnOk P w K mg base CX0 6 T.f_Word_empty.a T.f_Word_empty.fd ["width"] (spConst T.k_Word.C fun _ => 0) := by
  refine T.f_Word_empty.F.ok sc_Word_empty (fun vs H Q E h => ?_) (fun cdv A outer s H vs Q E hr h => ?_)
  · obtain ⟨wd, rfl, _⟩ := h
    rfl
  · obtain ⟨wd, rfl, w1, w64, k⟩ := h
    refine ⟨_, (pss_one (ps_ret (pe_make (mk_Word T) (ok_Word_init_ T) (hr.mono (by decide)) (by rfl) T.k_Word.m (bd_Word_init_ T) .nil pass0 (pa_cons (pv 0) (pa_cons pe_int pa_nil))))), ?_⟩

    have hM := mw_pos w1
    refine ⟨_, rfl, ?_⟩
    exact mk_word w1 w64 (by omega) (by omega) k
theorem ok_is_piece (T : Tx K mg) : FnOk P w K mg base CX0 3 T.f_is_piece.a T.f_is_piece.fd ["width", "piece"] (spIsPiece T.k_Word.C) := by
  refine T.f_is_piece.F.ok sc_is_piece (fun vs H Q E h => ?_) (fun cdv A outer s H vs Q E hr h => ?_)
  · obtain ⟨b, y, rfl, _⟩ := h
    rfl
  · obtain ⟨b, y, rfl, k⟩ := h
    refine ⟨_, (pss_cons (ps_if (PW.pt (pw_or (pt_not (pt_val (pe_callB call_isi (by rfl) T.b_isinstance (by decide +kernel) (pa_cons (pv 1) (pa_cons (pe_bltn (v := .ty "tuple") (by rfl) T.b_tuple (by decide +kernel) rfl) pa_nil))))) (pw_or1 (pt_cmpR op_ne (pe_callB call_len_seq (by rfl) T.b_len (by decide +kernel) (pa_cons (pv 1) pa_nil)) pe_int (nomark _))))) (pss_one (ps_ret pe_bl)) pss_nil)
      (pss_cons (ps_asg (pv 1) (pg_tup rfl (pgs_cons (pg_name (i := 2) sc_is_piece.nd rfl (Or.inl rfl)) (pgs_cons (pg_name (i := 3) sc_is_piece.nd rfl (Or.inl rfl)) pgs_nil))))
      (pss_one (ps_ret (pe_and (pe_call (ok_is_from T) (hr.mono (by decide)) (by rfl) T.f_is_from.m T.f_is_from.F.kp (bd_is_from T) .nil pass0 (pa_cons (pv 2) (pa_cons pe_int (pa_cons (pe_glob (v := .int 1000000000000000000000000000000) (by rfl) T.c_MOST_TIMES.m ⟨_, rfl⟩) pa_nil)))) (pe_and (pe_callB call_isi (by rfl) T.b_isinstance (by decide +kernel) (pa_cons (pv 3) (pa_cons (pe_glob (v := .ref T.k_Word.C) (by rfl) T.k_Word.m rfl) pa_nil))) (pe_one (pe_cmpR op_eq (pe_fld (pv 3) rfl) (pv 0) (nomark _))))))))), ?_⟩
    rcases k with ⟨⟨n, v⟩, ⟨p, x, rfl, h, n0, n1, Wx⟩, k⟩ | ⟨no, k⟩
    · obtain ⟨⟨dx, hx⟩, _⟩ := id Wx
      refine ⟨_, rfl, _, _, _, _, _, rfl, .ty "tuple", (Kd.tup h).tyx T.k_Word.al T.k_Word.cl, Tag.kit T.k_Word.al _ (by decide), _, rfl, iteF ?_⟩
      refine ⟨_, rfl, _, _, rfl, .inr (sqt h), rfl, _, rfl, iteNS rfl ?_⟩
      refine ⟨_, rfl, _, _, rfl, .inl (.inl h), rfl, _, _, rfl, _, _, rfl, rfl, ?_⟩
      refine ⟨_, rfl, _, .int, _, _, rfl, .int _, fun c hc => ?_⟩
      have e : c = true := hc.mpr ⟨n, rfl, n0, n1⟩
      subst e
      refine ⟨_, rfl, iteT ?_⟩
      refine ⟨_, rfl, _, _, _, _, _, rfl, .own _, (Kd.own Wx).tyx T.k_Word.al T.k_Word.cl, Tag.kitC T.k_Word.al _, _, rfl, iteT ?_⟩
      refine ⟨_, rfl, x, _, dx, _, _, rfl, hx, T.k_Word.cl, T.n_Word_width, wf_width _ _, _, rfl, rfl, ?_⟩
      rw [decide_eq_true rfl]
      exact k
    cases no with
    | @thing _ g d ng =>
      have e : g.is "tuple" = false := by
        cases g <;> first | rfl | exact absurd rfl ng | decide +kernel
      refine ⟨_, rfl, _, _, _, _, false, rfl, .ty "tuple", d.tyx T.k_Word.al T.k_Word.cl, (Tag.kit T.k_Word.al _ (by decide)).trans (by rw [e]), _, rfl, iteT ?_⟩
      exact k
    | @long p ys h ne =>
      refine ⟨_, rfl, _, _, _, _, _, rfl, .ty "tuple", (Kd.tup h).tyx T.k_Word.al T.k_Word.cl, Tag.kit T.k_Word.al _ (by decide), _, rfl, iteF ?_⟩
      refine ⟨_, rfl, _, _, rfl, .inr (sqt h), rfl, _, rfl, ite2 (fun _ => k) (fun q => ?_)⟩
      refine absurd ?_ q
      show (!decide (V.int (ys.length : Int) = V.int 2)) = true
      rw [decide_eq_false fun z => ne (by have := V.int.inj z; omega)]
      rfl
    | @num p x z g h d no =>
      refine ⟨_, rfl, _, _, _, _, _, rfl, .ty "tuple", (Kd.tup h).tyx T.k_Word.al T.k_Word.cl, Tag.kit T.k_Word.al _ (by decide), _, rfl, iteF ?_⟩
      refine ⟨_, rfl, _, _, rfl, .inr (sqt h), rfl, _, rfl, iteNS rfl ?_⟩
      refine ⟨_, rfl, _, _, rfl, .inl (.inl h), rfl, _, _, rfl, _, _, rfl, rfl, ?_⟩
      refine ⟨_, rfl, _, g, _, _, rfl, d, fun c hc => ?_⟩
      have e : c = false := by
        cases c with
        | false => rfl
        | true =>
          obtain ⟨n, e, h⟩ := hc.mp rfl
          exact absurd h (no n e)
      subst e
      exact ⟨_, rfl, iteF k⟩
    | @part p n z g h n0 n1 d ng =>
      have e2 : decide (g = .own) = false := decide_eq_false ng
      refine ⟨_, rfl, _, _, _, _, _, rfl, .ty "tuple", (Kd.tup h).tyx T.k_Word.al T.k_Word.cl, Tag.kit T.k_Word.al _ (by decide), _, rfl, iteF ?_⟩
      refine ⟨_, rfl, _, _, rfl, .inr (sqt h), rfl, _, rfl, iteNS rfl ?_⟩
      refine ⟨_, rfl, _, _, rfl, .inl (.inl h), rfl, _, _, rfl, _, _, rfl, rfl, ?_⟩
      refine ⟨_, rfl, _, .int, _, _, rfl, .int _, fun c hc => ?_⟩
      have e : c = true := hc.mpr ⟨n, rfl, n0, n1⟩
      subst e
      refine ⟨_, rfl, iteT ?_⟩
      exact ⟨_, rfl, _, _, _, _, false, rfl, .own _, d.tyx T.k_Word.al T.k_Word.cl, (Tag.kitC T.k_Word.al g).trans (by rw [e2]), _, rfl, iteF k⟩
    | @wide p x n v w' h n0 n1 Wx ne =>
      obtain ⟨⟨dx, hx⟩, _⟩ := id Wx
      refine ⟨_, rfl, _, _, _, _, _, rfl, .ty "tuple", (Kd.tup h).tyx T.k_Word.al T.k_Word.cl, Tag.kit T.k_Word.al _ (by decide), _, rfl, iteF ?_⟩
      refine ⟨_, rfl, _, _, rfl, .inr (sqt h), rfl, _, rfl, iteNS rfl ?_⟩
      refine ⟨_, rfl, _, _, rfl, .inl (.inl h), rfl, _, _, rfl, _, _, rfl, rfl, ?_⟩
      refine ⟨_, rfl, _, .int, _, _, rfl, .int _, fun c hc => ?_⟩
      have e : c = true := hc.mpr ⟨n, rfl, n0, n1⟩
      subst e
      refine ⟨_, rfl, iteT ?_⟩
      refine ⟨_, rfl, _, _, _, _, _, rfl, .own _, (Kd.own Wx).tyx T.k_Word.al T.k_Word.cl, Tag.kitC T.k_Word.al _, _, rfl, iteT ?_⟩
      refine ⟨_, rfl, x, _, dx, _, _, rfl, hx, T.k_Word.cl, T.n_Word_width, wf_width _ _, _, rfl, rfl, ?_⟩
      have e3 : decide (V.int (w' : Int) = V.int ((2 * b : Nat) : Int)) = false := decide_eq_false fun z => ne (by have := V.int.inj z; omega)
      rw [e3]
      exact k
theorem ok_check_pieces (T : Tx K mg) : FnOk P w K mg base (L2.CX P w) 4 T.f_check_pieces.a T.f_check_pieces.fd ["width", "pieces"] (spCheckP T.k_Word.C T.e_BadRows.C) := by
  refine T.f_check_pieces.F.okX sc_check_pieces (fun vs H Q E h => ?_) (fun cdv A outer s H vs Q E hr h => ?_)
  · obtain ⟨b, l, ys, rfl, _⟩ := h
    rfl
  · obtain ⟨b, l, ys, rfl, hl, k⟩ := h
    refine ⟨_, (pss_one (ps_for (passes_of rfl) rfl (pi_enum (by rfl) T.b_enumerate (pa_cons (pv 1) pa_nil)) (pg_tup rfl (pgs_cons (pg_name (i := 2) sc_check_pieces.nd rfl (Or.inl rfl)) (pgs_cons (pg_name (i := 3) sc_check_pieces.nd rfl (Or.inl rfl)) pgs_nil))) (pss_one (ps_if (pt_not (pt_val (pe_call (ok_is_piece T) (hr.mono (by decide)) (by rfl) T.f_is_piece.m T.f_is_piece.F.kp (bd_is_piece T) .nil pass0 (pa_cons (pv 0) (pa_cons (pv 3) pa_nil))))) (pss_one (ps_raise rfl (takes_of rfl rfl rfl rfl) (pmk_oex T.e_BadRows.er.made T.f_BadRows_init_.M.at_ (beq_iff_eq.mp T.f_BadRows_init_.M.fn) (ok_BadRows_init_ T) (hr.mono (by decide)) (bd_BadRows_init_ T) .nil pass0 (by rfl) T.e_BadRows.m (pa_cons (pv 2) pa_nil)))) pss_nil)))), ?_⟩
    rcases k with ⟨qs, ⟨len, all⟩, k⟩ | ⟨as, z0, rest, qs, rfl, ⟨len, all⟩, no, f⟩
    · refine ⟨_, rfl, l, ys, rfl, sq hl, for_it walk_enum (fun i σ' H' => Ex H H' ∧ ∃ o2 o3, σ' = [some (.int ((2 * b : Nat) : Int)), some (.ref l), o2, o3]) ⟨Ex.refl _, _, _, rfl⟩ (fun i σ' H' _ q => sq (q.1 _ _ hl)) ?_ ?_⟩
      · rintro i y σ' H1 H2 hi ⟨e1, o2, o3, rfl⟩ ⟨t, x, z, rfl, nt, rfl, ex, ez⟩
        have e2 := e1.trans (Ex.new (o := .tup [x, z]) nt)
        cases ex
        refine ⟨t, _, rfl, .inl (.inl upd_same), rfl, _, _, rfl, _, _, rfl, rfl, ?_⟩
        have il : i < qs.length := by omega
        have pc := (all i z qs[i] ez (List.getElem?_eq_getElem il)).ex e2
        refine ⟨_, rfl, _, rfl, b, z, rfl, .inl ⟨_, pc, ?_⟩⟩
        exact ⟨_, rfl, iteF ⟨e2, _, _, rfl⟩⟩
      · rintro σ' H1 ⟨e1, o2, o3, rfl⟩
        exact k H1 e1
    · refine ⟨_, rfl, l, as ++ z0 :: rest, rfl, sq hl, for_it walk_enum (fun i σ' H' => Ex H H' ∧ i ≤ as.length ∧ ∃ o2 o3, σ' = [some (.int ((2 * b : Nat) : Int)), some (.ref l), o2, o3]) ⟨Ex.refl _, Nat.zero_le _, _, _, rfl⟩ (fun i σ' H' _ q => sq (q.1 _ _ hl)) ?_ ?_⟩
      · rintro i y σ' H1 H2 hi ⟨e1, ia, o2, o3, rfl⟩ ⟨t, x, z, rfl, nt, rfl, ex, ez⟩
        have e2 := e1.trans (Ex.new (o := .tup [x, z]) nt)
        cases ex
        refine ⟨t, _, rfl, .inl (.inl upd_same), rfl, _, _, rfl, _, _, rfl, rfl, ?_⟩
        have ez : (as ++ z0 :: rest)[i]? = some z := ez
        by_cases il : i < as.length
        · rw [List.getElem?_append_left il] at ez
          have iq : i < qs.length := by omega
          have pc := (all i z qs[i] ez (List.getElem?_eq_getElem iq)).ex e2
          refine ⟨_, rfl, _, rfl, b, z, rfl, .inl ⟨_, pc, ?_⟩⟩
          exact ⟨_, rfl, iteF ⟨e2, il, _, _, rfl⟩⟩
        · have ei : i = as.length := by omega
          subst ei
          rw [List.getElem?_append_right (Nat.le_refl _), Nat.sub_self] at ez
          have ez : z0 = z := Option.some.inj ez
          subst ez
          refine ⟨_, rfl, _, rfl, b, z0, rfl, .inr ⟨no.ex e2, ?_⟩⟩
          exact ⟨_, rfl, iteT ⟨_, rfl, err1 (f.ex e2)⟩⟩
      · rintro σ' H1 ⟨e1, ia, o2, o3, rfl⟩
        rw [List.length_append, List.length_cons] at ia
        omega
theorem ok_joined (T : Tx K mg) : FnOk P w K mg base (L2.CX P w) 8 T.f_joined.a T.f_joined.fd ["width", "pieces"] (spJoined T.k_Word.C T.e_BadWidth.C T.e_BadRows.C) := by
  refine T.f_joined.F.okX sc_joined (fun vs H Q E h => ?_) (fun cdv A outer s H vs Q E hr h => ?_)
  · obtain ⟨y, g, l, ys, rfl, _⟩ := h
    rfl
  · obtain ⟨y, g, l, ys, rfl, d, hl, k⟩ := h
    refine ⟨_, (pss_cons (ps_expr (pe_call (ok_check_pieces T) (hr.mono (by decide)) (by rfl) T.f_check_pieces.m T.f_check_pieces.F.kp (bd_check_pieces T) .nil (passes_call (takes_of rfl rfl rfl rfl) fun _ _ _ _ z => z) (pa_cons (pe_call (ok_checked_even T) (hr.mono (by decide)) (by rfl) T.f_checked_even.m T.f_checked_even.F.kp (bd_checked_even T) .nil (passes_call (takes_of rfl rfl rfl rfl) fun _ _ _ _ z => z) (pa_cons (pv 0) pa_nil)) (pa_cons (pv 1) pa_nil))))
      (pss_cons (ps_set (i := 2) sc_joined.nd rfl (Or.inl rfl) (TzOwn.pe_smeth (pe_glob (v := .ref T.k_Word.C) (by rfl) T.k_Word.m rfl) T.k_Word.rd T.f_Word_empty.S (ok_Word_empty T) (hr.mono (by decide)) (bd_Word_empty T) pass0 (pa_cons (pv 0) pa_nil)))
      (pss_cons (ps_set (i := 3) sc_joined.nd rfl (Or.inl rfl) pe_int)
      (pss_cons (ps_for (passes_of rfl) rfl (pi_list (pv 1)) (pg_tup rfl (pgs_cons (pg_name (i := 4) sc_joined.nd rfl (Or.inl rfl)) (pgs_cons (pg_name (i := 5) sc_joined.nd rfl (Or.inl rfl)) pgs_nil))) (pss_cons (ps_set (i := 2) sc_joined.nd rfl (Or.inl rfl) (pe_op (TzOwn.op_own (ok_Word_add_ T) (hr.mono (by decide)) T.f_Word_add_.M (by decide +kernel) T.k_Word.al.sf (bd_Word_add_ T) pass0) (pv 2) (pe_op (TzOwn.op_ownI (ok_Word_lshift_int T) (hr.mono (by decide)) T.f_Word_lshift_.M (by decide +kernel) T.k_Word.al.sf (bd_Word_lshift_ T) pass0 (by decide +kernel) T.n_rlshift (.inl rfl) (known_ok T.o_lshift (T := "int") (by decide)).choose_spec (known_ok T.o_rlshift (T := "int") (by decide)).choose_spec (T.k_Word.al.to _ (by decide))) (pv 5) (pe_op op_mul (pe_op op_mod (pv 3) pe_int) (pe_op op_fdiv (pv 0) pe_int)))))
      (pss_one (ps_set (i := 3) sc_joined.nd rfl (Or.inl rfl) (pe_op op_add (pv 3) (pv 4))))))
      (pss_one (ps_ret (pv 2))))))), ?_⟩
    rcases k with ⟨o, f⟩ | ⟨b, rfl, b1, b2, k⟩
    · exact ⟨_, rfl, y, g, rfl, d, .inr ⟨o, f⟩⟩
    refine ⟨_, rfl, _, g, rfl, d, .inl ⟨b, rfl, b1, b2, ?_⟩⟩
    rcases k.symm with ⟨as, z, rest, qs, e, pcs, no, f⟩ | ⟨qs, pcs, few, k⟩
    · exact ⟨_, rfl, b, l, ys, rfl, hl, .inr ⟨as, z, rest, qs, e, pcs, no, f⟩⟩
    refine ⟨_, rfl, b, l, ys, rfl, hl, .inl ⟨qs, pcs, fun H1 e1 => ?_⟩⟩
    refine ⟨rfl, _, rfl, 2 * b, rfl, by omega, by omega, fun t H2 nt e2 Wt => ?_⟩
    have w64 : 2 * b ≤ 64 := by omega
    obtain ⟨len, all⟩ := pcs
    refine ⟨_, rfl, l, rfl, ⟨_, sq (e2 _ _ (e1 _ _ hl))⟩, for_list (K := K) (a := l) (xs := ys) (fun i σ' H' => Ex H H' ∧ ∃ (t : Addr) (s a : Int) (o4 o5 : Option V), σ' = [some (.int ((2 * b : Nat) : Int)), some (.ref l), some (.ref t), some (.int a), o4, o5] ∧ WordAt T.k_Word.C H' t (2 * b) s ∧ H t = none ∧ 0 ≤ a ∧ jv b 0 0 qs = jv b s a (qs.drop i)) ⟨e1.trans e2, t, 0, 0, none, none, rfl, Wt, back e1 nt, Int.le_refl _, by rw [List.drop_zero]⟩ (fun i σ' H' _ q => sq (q.1 _ _ hl)) ?_ ?_⟩
    · rintro i y σ' H3 hy ⟨e3, t, s, a, o4, o5, rfl, Wt, _, a0, ej⟩
      have iy : i < ys.length := (List.getElem?_eq_some_iff.mp hy).1
      have il : i < qs.length := by omega
      obtain ⟨p, x, rfl, hp, n0, n1, Wx⟩ := (all i y qs[i] hy (List.getElem?_eq_getElem il)).ex e3
      have ed : qs.drop i = qs[i] :: qs.drop (i + 1) := List.drop_eq_getElem_cons il
      rw [ed] at ej
      generalize qs[i] = q at hp n0 n1 Wx ej
      obtain ⟨n, v⟩ := q
      refine ⟨p, _, rfl, .inl (.inl hp), rfl, _, _, rfl, _, _, rfl, rfl, ?_⟩
      obtain ⟨dx, hx⟩ := Wx.ob
      have a2 := emod_bd (a := a) (m := 2) (by decide)
      refine ⟨_, rfl, _, rfl, _, rfl, _, _, rfl, rfl, (by decide : (0 : Int) < 2), _, rfl, _, _, rfl, rfl, ⟨by decide, by decide⟩, _, _, rfl, rfl, .inl ⟨by omega, by omega⟩, ?_⟩
      dsimp only
      rw [nat2]
      have k0 : 0 ≤ a % 2 * (b : Int) := Int.mul_nonneg a2.1 (by omega)
      have k1 : a % 2 * (b : Int) ≤ 1000000000000000000000000000000 := by
        have : a % 2 * (b : Int) ≤ 1 * (b : Int) := Int.mul_le_mul_of_nonneg_right (by omega) (by omega)
        omega
      refine ⟨x, _, dx, _, rfl, rfl, hx, x, 2 * b, v, _, rfl, Wx, k0, k1, fun p1 H4 np1 e4 W1 => ?_⟩
      have Wt4 := Wt.ex e4
      obtain ⟨dt, ht⟩ := Wt4.ob
      obtain ⟨d1, h1⟩ := W1.ob
      refine ⟨t, p1, dt, d1, _, _, rfl, rfl, ht, h1, t, p1, 2 * b, s, _, rfl, Wt4, W1, fun p2 H5 np2 e5 W2 => ?_⟩
      refine ⟨_, rfl, _, rfl, _, _, rfl, rfl, ?_⟩
      exact ⟨(e3.trans e4).trans e5, p2, _, _, _, _, rfl, W2, back (e3.trans e4) np2, by show 0 ≤ a + n; omega, ej⟩
    · rintro σ' H3 ⟨e3, t, s, a, o4, o5, rfl, Wt, nt, a0, ej⟩
      rw [len, List.drop_length] at ej
      have ej : jv b 0 0 qs = s := ej
      rw [ej] at k
      exact ⟨_, rfl, k t H3 nt e3 Wt⟩
theorem ok_law_pen (T : Tx K mg) : FnOk P w K mg base CX0 1 T.f_law_pen.a T.f_law_pen.fd ["_law_script"] (spPen K) := by
  refine T.f_law_pen.F.ok sc_law_pen (fun vs H Q E h => ?_) (fun cdv A outer s H vs Q E hr h => ?_)
  · obtain ⟨a, ns, rfl, _⟩ := h
    rfl
  · obtain ⟨a, ns, rfl, hS, hl, k⟩ := h
    refine ⟨_, (pss_one (ps_ret (pe_lst (pa_cons (pe_callTy call_list_of (by rfl) T.b_list (by decide +kernel) (pa_cons (pe_slice sl_list (pv 0) po_none (po_some pe_int)) pa_nil)) (pa_cons pe_int (pa_cons pe_int pa_nil)))))), ?_⟩
    refine ⟨_, rfl, _, rfl, a, _, rfl, hS, fun b nb => ?_⟩
    (generalize g_H1 : upd _ b _ = H1); have hb := gat g_H1; have e1 := gex g_H1 nb; clear g_H1
    refine ⟨b, _, rfl, .inl (sq hb), fun c nc => ?_⟩
    (generalize g_H2 : upd _ c _ = H2); have hc := gat g_H2; have e2 := gex g_H2 nc; clear g_H2
    refine ⟨by show 3 ≤ sizeLine; decide, fun z nz => ?_⟩
    (generalize g_H3 : upd _ z _ = H3); have hz := gat g_H3; have e3 := gex g_H3 nz; clear g_H3
    have ec : cutV (ns.map V.int) none (some 63) = ns.map V.int := by
      unfold cutV
      have h1 : HT.sIx (ns.map V.int).length 0 none = 0 := rfl
      rw [h1, List.drop_zero, List.take_of_length_le]
      rw [List.length_map]
      have h2 : HT.sIx ns.length ns.length (some 63) = min 63 ns.length := cut63 ns.length
      rw [h2]
      omega
    rw [ec] at hc
    refine k z c H3 ⟨⟨0, 0, hz, by omega, by omega, by omega⟩, e3 _ _ hc, ne_of_none hc nz, hl⟩ ((e1.trans e2).trans e3) ?_ ?_
    · exact back (e1.trans e2) nz
    · exact back e1 nc
theorem ok_law_draw (T : Tx K mg) : FnOk P w K mg base CX0 1 T.f_law_draw.a T.f_law_draw.fd ["_law_pen_here", "_law_many"] spDraw := by
  refine T.f_law_draw.F.ok sc_law_draw (fun vs H Q E h => ?_) (fun cdv A outer s H vs Q E hr h => ?_)
  · obtain ⟨z, c, cells, t, many, rfl, _⟩ := h
    rfl
  · obtain ⟨z, c, cells, t, many, rfl, PA, ht, hm0, hm1, k⟩ := h
    obtain ⟨⟨ix, left, hz, i0, it, l0⟩, hc, cz, few⟩ := id PA
    refine ⟨_, (pss_cons (ps_if (pt_cmpR op_gt (pe_ix ix_list (pv 0) pe_int (fun _ _ => rfl)) pe_int (nomark _)) (pss_cons (ps_set (i := 2) sc_law_draw.nd rfl (Or.inl rfl) (pe_op op_mod (pe_callTy call_int1 (by rfl) T.b_int (by decide +kernel) (pa_cons (pe_ix ix_list (pv 0) pe_int (fun _ _ => rfl)) pa_nil)) (pv 1)))
      (pss_cons (ps_asg (pe_op op_fdivW (pe_ix ix_list (pv 0) pe_int (fun _ _ => rfl)) (pv 1)) (pg_sub (pv 0) pe_int set_list))
      (pss_one (ps_ret (pv 2))))) pss_nil)
      (pss_cons (ps_set (i := 3) sc_law_draw.nd rfl (Or.inl rfl) (pe_ix ix_list (pv 0) pe_int (fun _ _ => rfl)))
      (pss_cons (ps_asg (pe_op op_add (pv 3) pe_int) (pg_sub (pv 0) pe_int set_list))
      (pss_cons (ps_set (i := 4) sc_law_draw.nd rfl (Or.inl rfl) (pe_op op_add (pe_op op_mul pe_int (pv 3)) pe_int))
      (Evl.pss_cut (ps_if (pt_cmpR (op_neD hr.units) (pe_ix ix_list (pv 0) pe_int (fun _ _ => rfl)) (pe_lst pa_nil) (nomark _)) (pss_one (ps_set (i := 4) sc_law_draw.nd rfl (Or.inl rfl) (pe_ix ix_list (pe_ix ix_list (pv 0) pe_int (fun _ _ => rfl)) (pe_op op_mod (pe_callTy call_int1 (by rfl) T.b_int (by decide +kernel) (pa_cons (pv 3) pa_nil)) (pe_callB call_len_seq (by rfl) T.b_len (by decide +kernel) (pa_cons (pe_ix ix_list (pv 0) pe_int (fun _ _ => rfl)) pa_nil))) (fun _ _ => rfl)))) pss_nil)
      (Evl.pss_cut (ps_if (PW.pt (pw_and (pt_cmpR op_lt (pv 3) (pe_callB call_len_seq (by rfl) T.b_len (by decide +kernel) (pa_cons (pe_ix ix_list (pv 0) pe_int (fun _ _ => rfl)) pa_nil)) (nomark _)) (pw_and1 (pt_cmpR op_ge (pe_callB call_abs (by rfl) T.b_abs (by decide +kernel) (pa_cons (pv 4) pa_nil)) (pe_op op_pow pe_int pe_int) (nomark _))))) (pss_cons (ps_set (i := 5) sc_law_draw.nd rfl (Or.inl rfl) (pe_op op_add (pe_op op_mul pe_int (pe_op op_sub (pe_callB call_abs (by rfl) T.b_abs (by decide +kernel) (pa_cons (pv 4) pa_nil)) (pe_op op_pow pe_int pe_int))) (pe_callTy call_int1 (by rfl) T.b_int (by decide +kernel) (pa_cons (pe_cmpR op_lt (pv 4) pe_int (nomark _)) pa_nil))))
      (pss_cons (ps_asg (pe_op op_fdivW (pv 5) (pv 1)) (pg_sub (pv 0) pe_int set_list))
      (pss_one (ps_ret (pe_op op_mod (pe_callTy call_int1 (by rfl) T.b_int (by decide +kernel) (pa_cons (pv 5) pa_nil)) (pv 1)))))) pss_nil)
      (pss_cons (ps_set (i := 6) sc_law_draw.nd rfl (Or.inl rfl) (pe_op op_mod (pe_callTy call_int1 (by rfl) T.b_int (by decide +kernel) (pa_cons (pe_op op_pow (pe_op op_add (pe_op op_add (pe_op op_mod (pe_callTy call_int1 (by rfl) T.b_int (by decide +kernel) (pa_cons (pv 4) pa_nil)) pe_int) (pe_op op_mul pe_int (pv 3))) pe_int) pe_int) pa_nil)) pe_int))
      (pss_cons (ps_set (i := 6) sc_law_draw.nd rfl (Or.inl rfl) (pe_op op_mod (pe_callTy call_int1 (by rfl) T.b_int (by decide +kernel) (pa_cons (pe_op op_pow (pe_op op_add (pe_op op_add (pe_op op_mul (pv 6) (pe_op op_add (pe_op op_mul pe_int (pv 3)) pe_int)) (pe_op op_mul (pe_op op_mul pe_int (pv 3)) (pv 3))) pe_int) pe_int) pa_nil)) pe_int))
      (pss_one (ps_ret (pe_op op_mod (pe_callTy call_int1 (by rfl) T.b_int (by decide +kernel) (pa_cons (pe_op op_fdiv (pv 6) pe_int) pa_nil)) (pv 1)))))))))))), ?_⟩
    refine ⟨_, rfl, z, _, 2, .int left, rfl, rfl, sq hz, rfl, _, _, rfl, rfl, _, rfl, ?_⟩
    have divw : CDivW left many := wide_div hm0 (b := 20) (by omega) (by decide) (by decide)
    refine ite2 (fun _ => ?_) (fun _ => ?_)
    · -- a digit of a great cell
      refine ⟨_, rfl, z, _, 2, .int left, rfl, rfl, sq hz, rfl, .inl ⟨_, rfl, ?_⟩⟩
      refine ⟨_, rfl, _, _, rfl, rfl, hm0, ?_⟩
      refine ⟨_, rfl, z, _, 2, .int left, rfl, rfl, sq hz, rfl, _, rfl, _, _, rfl, rfl, divw, ?_⟩
      refine ⟨_, rfl, z, _, 2, 2, rfl, rfl, hz, rfl, ?_⟩
      refine ⟨_, rfl, ?_⟩
      refine k _ _ (emod_bd hm0).1 (emod_bd hm0).2 ⟨⟨ix, left / many, upd_same, i0, by omega, Int.ediv_nonneg l0 (by omega)⟩, ?_, cz, few⟩ Fw.at
      rw [upd_ne cz]
      exact hc
    · refine ⟨_, rfl, z, _, 1, .int ix, rfl, rfl, sq hz, rfl, ?_⟩
      refine ⟨_, rfl, _, _, rfl, rfl, _, rfl, z, _, 1, 1, rfl, rfl, hz, rfl, ?_⟩
      refine ⟨_, rfl, _, _, rfl, rfl, .inl ⟨by omega, by omega⟩, _, _, rfl, rfl, ?_⟩
      (generalize g_H1 : upd _ z _ = H1); have z1 := gat g_H1; have f1 := gfw g_H1; clear g_H1
      have z1 : H1 z = some (.lst [.ref c, .int (ix + 1), .int left]) := z1
      have c1 : H1 c = some (.lst (cells.map V.int)) := f1 _ _ cz hc
      -- the cell, whatever it is
      refine ⟨fun σ' H' => ∃ cell : Int, σ' = [some (.ref z), some (.int many), none, some (.int ix), some (.int cell), none, none] ∧ H' z = some (.lst [.ref c, .int (ix + 1), .int left]) ∧ H' c = some (.lst (cells.map V.int)) ∧ Fw z H H', ?_, ?_⟩
      · refine ⟨_, rfl, z, _, 0, .ref c, rfl, rfl, sq z1, rfl, ?_⟩
        refine ⟨by show 0 ≤ sizeLine; decide, fun b nb => ?_⟩
        (generalize g_H2 : upd _ b _ = H2); have hb := gat g_H2; have e2 := gex g_H2 nb; clear g_H2
        refine ⟨_, _, Dp.lst (sq (e2 _ _ c1)) (dp_ints cells), Dp.lst (sq hb) DpAll.nil, shaped_ints cells, rfl, _, rfl, ?_⟩
        cases hcl : cells with
        | nil =>
          refine iteF ?_
          exact ⟨_, rfl, e2 _ _ z1, by rw [← hcl]; exact e2 _ _ c1, f1.trans e2.fw⟩
        | cons y ys =>
          refine iteT ?_
          rw [← hcl]
          have hpos : 0 < cells.length := by rw [hcl]; exact Nat.succ_pos _
          have hlen : (0 : Int) < ((cells.map V.int).length : Nat) := by rw [List.length_map]; omega
          obtain ⟨j, hj⟩ : ∃ j : Nat, ix % ((cells.map V.int).length : Nat) = (j : Int) := ⟨(ix % ((cells.map V.int).length : Nat)).toNat, by rw [Int.toNat_of_nonneg (emod_bd hlen).1]⟩
          have hjl : j < cells.length := by
            have h1 := (emod_bd (a := ix) hlen).2
            rw [hj, List.length_map] at h1
            omega
          obtain ⟨v, hv⟩ := cell_get hjl
          refine ⟨_, rfl, z, _, 0, .ref c, rfl, rfl, sq (e2 _ _ z1), rfl, ?_⟩
          refine ⟨_, rfl, .inl ⟨_, rfl, ?_⟩⟩
          refine ⟨_, rfl, z, _, 0, .ref c, rfl, rfl, sq (e2 _ _ z1), rfl, c, _, rfl, .inl (sq (e2 _ _ c1)), _, _, rfl, rfl, hlen, ?_⟩
          refine ⟨c, _, _, .int v, rfl, rfl, sq (e2 _ _ c1), by rw [hj]; exact atI_nat hv, ?_⟩
          exact ⟨v, rfl, e2 _ _ z1, e2 _ _ c1, f1.trans e2.fw⟩
      · rintro σ' H2 ⟨cell, rfl, z2, c2, f2⟩
        have lenc : (((cells.map V.int).length : Nat) : Int) ≤ 63 := by rw [List.length_map]; omega
        have ix1 : ix ≤ 100000 := by omega
        refine ⟨fun σ' H' => σ' = [some (.ref z), some (.int many), none, some (.int ix), some (.int cell), none, none] ∧ H' = H2, ?_, ?_⟩
        · refine ⟨_, rfl, _, rfl, z, _, 0, .ref c, rfl, rfl, sq z2, rfl, c, _, rfl, .inl (sq c2), _, _, rfl, rfl, _, rfl, ?_⟩
          refine ite2 (fun _ => ?_) (fun _ => iteF ⟨rfl, rfl⟩)
          refine ⟨_, rfl, _, rfl, _, _, rfl, rfl, ⟨by decide, by decide, by decide⟩, _, _, rfl, rfl, _, rfl, ?_⟩
          refine ite2 (fun hg => ?_) (fun _ => ⟨rfl, rfl⟩)
          have hg := of_decide_eq_true hg
          rw [pow18] at hg
          -- a great cell
          refine ⟨_, rfl, _, rfl, _, _, rfl, rfl, ⟨by decide, by decide, by decide⟩, _, _, rfl, rfl, _, _, rfl, rfl, .inl ⟨by decide, by decide⟩, _, rfl, _, _, rfl, rfl, .inr ⟨_, rfl, _, _, rfl, rfl, ?_⟩⟩
          dsimp only
          rw [pow18]
          have g0 : 0 ≤ 2 * ((if cell < 0 then -cell else cell) - 1000000000000000000) + (if decide (cell < 0) = true then 1 else 0) := by
            split at hg <;> split <;> omega
          generalize 2 * ((if cell < 0 then -cell else cell) - 1000000000000000000) + (if decide (cell < 0) = true then 1 else 0) = great at g0
          refine ⟨_, rfl, _, rfl, _, _, rfl, rfl, divw, _, rfl, z, _, 2, 2, rfl, rfl, z2, rfl, ?_⟩
          (generalize g_H3 : upd _ z _ = H3); have z3 := gat g_H3; have f3 := gfw g_H3; clear g_H3
          refine ⟨_, rfl, .inl ⟨_, rfl, _, rfl, _, _, rfl, rfl, hm0, ?_⟩⟩
          exact k _ _ (emod_bd hm0).1 (emod_bd hm0).2 ⟨⟨ix + 1, great / many, z3, by omega, by omega, Int.ediv_nonneg g0 (by omega)⟩, f3 _ _ cz c2, cz, few⟩ (f2.trans f3)
        · rintro σ' H' ⟨rfl, rfl⟩
          refine ⟨_, rfl, .inl ⟨_, rfl, _, _, rfl, rfl, by show (0 : Int) < 2147483563; decide, _, rfl, _, _, rfl, rfl, .inl ⟨by decide, by decide⟩, _, _, rfl, rfl, _, _, rfl, rfl, _, _, rfl, rfl,
            draw_pw5 i0 ix1 (by decide) (by decide) (by decide) (by decide), .inl ⟨_, rfl, _, _, rfl, rfl, by show (0 : Int) < 2147483629; decide, ?_⟩⟩⟩
          dsimp only
          generalize hm : (_ % 2147483629 : Int) = m
          have mb : 0 ≤ m ∧ m < 2147483629 := by rw [← hm]; exact emod_bd (by decide)
          refine ⟨_, rfl, _, rfl, _, _, rfl, rfl, .inl ⟨by decide, by decide⟩, _, _, rfl, rfl, _, _, rfl, rfl, .inl ⟨by omega, by omega⟩, _, rfl, _, _, rfl, rfl, .inl ⟨by decide, by decide⟩, _, rfl, _, _, rfl, rfl, .inr ⟨by omega, by omega⟩,
            _, _, rfl, rfl, _, _, rfl, rfl, _, _, rfl, rfl, draw_pw3 i0 ix1 mb.1 mb.2 (by decide) (by decide) (by decide) (by decide) (by decide) (by decide), .inl ⟨_, rfl, _, _, rfl, rfl, by show (0 : Int) < 2147483587; decide, ?_⟩⟩
          dsimp only
          generalize (_ % 2147483587 : Int) = m2
          refine ⟨_, rfl, _, _, rfl, rfl, ⟨by decide, by decide⟩, .inl ⟨_, rfl, _, rfl, _, _, rfl, rfl, hm0, ?_⟩⟩
          exact k _ _ (emod_bd hm0).1 (emod_bd hm0).2 ⟨⟨ix + 1, left, z2, by omega, by omega, l0⟩, c2, cz, few⟩ f2
def spLawHalves : Sp := fun vs H Q _ => ∃ z c cells t, ∃ b : Nat, vs = [.ref z, .int ((2 * b : Nat) : Int)] ∧ PenAt H z c cells t ∧ t ≤ 80000 ∧ 1 ≤ b ∧ b ≤ 32 ∧
  ∀ l hs H', H' l = some (.lst (hs.map V.int)) → Halfs b hs → hs.length ≤ 9 → l ≠ z → PenAt H' z c cells (t + 40) → Fw z H H' → Q (.ref l) H'

theorem ok_law_halves (T : Tx K mg) : FnOk P w K mg base CX0 3 T.f_law_halves.a T.f_law_halves.fd ["_law_pen_here", "_law_wide"] spLawHalves := by
  refine T.f_law_halves.F.ok sc_law_halves (fun vs H Q E h => ?_) (fun cdv A outer s H vs Q E hr h => ?_)
  · obtain ⟨z, c, cells, t, b, rfl, _⟩ := h
    rfl
  · obtain ⟨z, c, cells, t, b, rfl, PA, ht, b1, b2, k⟩ := h
    refine ⟨_, (pss_cons (ps_par (i := 2) (j := 3) (by rfl) sc_law_halves.nd rfl rfl (by decide) rfl rfl (pa_cons (pe_op op_sub (pe_op op_shl pe_int (pe_op op_fdiv (pv 1) pe_int)) pe_int) (pa_cons (pe_call (ok_law_draw T) (hr.mono (by decide)) (by rfl) T.f_law_draw.m T.f_law_draw.F.kp (bd_law_draw T) .nil pass0 (pa_cons (pv 0) (pa_cons pe_int pa_nil))) pa_nil)) (by rfl))
      (pss_cons (ps_set (i := 4) sc_law_halves.nd rfl (Or.inl rfl) (pe_lst pa_nil))
      (pss_cons (ps_for PassesOwn.never rfl (pi_range1 (by rfl) T.b_range (pa_cons (pe_call (ok_law_draw T) (hr.mono (by decide)) (by rfl) T.f_law_draw.m T.f_law_draw.F.kp (bd_law_draw T) .nil pass0 (pa_cons (pv 0) (pa_cons pe_int pa_nil))) pa_nil)) (pg_name (i := 5) sc_law_halves.nd rfl (Or.inl rfl)) (pss_cons (ps_set (i := 6) sc_law_halves.nd rfl (Or.inl rfl) (pe_op op_and (pe_op op_add (pe_op op_mul (pe_call (ok_law_draw T) (hr.mono (by decide)) (by rfl) T.f_law_draw.m T.f_law_draw.F.kp (bd_law_draw T) .nil pass0 (pa_cons (pv 0) (pa_cons pe_int pa_nil))) pe_int) (pe_call (ok_law_draw T) (hr.mono (by decide)) (by rfl) T.f_law_draw.m T.f_law_draw.F.kp (bd_law_draw T) .nil pass0 (pa_cons (pv 0) (pa_cons pe_int pa_nil)))) (pv 2)))
      (pss_one (ps_expr (pe_bm PySem.F.plainAttrs_list PySem.F.slot_list_append PySem.F.type_list_append mt_append (pv 4) (pa_cons (pe_ix ix_list (pe_lst (pa_cons pe_int (pa_cons (pv 2) (pa_cons (pv 6) (pa_cons (pv 6) (pa_cons (pe_ix ix_list (pe_lst (pa_cons pe_int (pa_cons (pv 2) (pa_cons (pv 6) pa_nil)))) (pe_call (ok_law_draw T) (hr.mono (by decide)) (by rfl) T.f_law_draw.m T.f_law_draw.F.kp (bd_law_draw T) .nil pass0 (pa_cons (pv 0) (pa_cons pe_int pa_nil))) (fun _ _ => rfl)) pa_nil)))))) (pv 3) (fun _ _ => rfl)) pa_nil))))))
      (pss_one (ps_ret (pv 4)))))), ?_⟩

    have hM := hmax_pos b1
    refine ⟨_, rfl, _, _, rfl, rfl, ⟨by decide, by decide⟩, _, _, rfl, rfl, ⟨by omega, by omega, by decide⟩, _, _, rfl, rfl, ?_⟩
    dsimp only
    rw [shl_half]
    refine ⟨_, rfl, z, c, cells, t, 5, rfl, PA, by omega, by decide, by decide, fun way H1 y0 y1 P1 f1 => ?_⟩
    refine ⟨_, _, rfl, ?_⟩
    refine ⟨by show 0 ≤ sizeLine; decide, fun l nl => ?_⟩
    (generalize g_H2 : upd _ l _ = H2); have hl := gat g_H2; have e2 := gex g_H2 nl; clear g_H2
    have lz := (P1.off nl).1
    have lc := (P1.off nl).2
    refine ⟨_, rfl, z, c, cells, t + 1, 10, rfl, P1.ex e2, by omega, by decide, by decide, fun n H3 n0 n1 P3 f3 => ?_⟩
    have hl3 := f3 _ _ lz hl
    have nlH : H l = none := f1.back nl lz
    refine ⟨n, rfl, by omega, by omega, for_range (n := n.toNat) (fun i σ' H' => PenAt H' z c cells (t + 2 + 3 * i) ∧ Fw z H H' ∧ ∃ hs : List Int, H' l = some (.lst (hs.map V.int)) ∧ Halfs b hs ∧ hs.length = i ∧ ∃ o5 o6, σ' = [some (.ref z), some (.int ((2 * b : Nat) : Int)), some (.int (hmax b)), some (.int way), some (.ref l), o5, o6]) ⟨P3, (f1.trans e2.fw).trans f3, [], hl3, (fun h q => by cases q), rfl, _, _, rfl⟩ ?_ ?_⟩
    · rintro i σ' H4 hi ⟨P4, f4, hs, hl4, hh, len, o5, o6, rfl⟩
      refine ⟨_, rfl, z, c, cells, t + 2 + 3 * i, 65536, rfl, P4, by omega, by decide, by decide, fun lo H5 l0 l1 P5 f5 => ?_⟩
      refine ⟨_, _, rfl, rfl, .inl ⟨by omega, by omega⟩, ?_⟩
      refine ⟨_, rfl, z, c, cells, t + 2 + 3 * i + 1, 65536, rfl, P5, by omega, by decide, by decide, fun hi' H6 h0 h1 P6 f6 => ?_⟩
      refine ⟨_, _, rfl, rfl, _, rfl, _, _, rfl, rfl, ?_⟩
      have sb := and_top (wd := b) (x := lo * 65537 + hi') (by omega)
      have eh : hmax b = 2 ^ b - 1 := rfl
      dsimp only
      rw [← eh] at sb
      generalize Builtin.bitAnd (lo * 65537 + hi') (hmax b) = some_ at sb
      refine ⟨_, rfl, (.inl ⟨rfl, _, sq (f6 _ _ lz (f5 _ _ lz hl4))⟩), ?_⟩
      refine ⟨_, rfl, _, rfl, _, rfl, _, rfl, _, rfl, by show 3 ≤ sizeLine; decide, fun e ne => ?_⟩
      (generalize g_H7 : upd _ e _ = H7); have he := gat g_H7; have e7 := gex g_H7 ne; clear g_H7
      refine ⟨_, rfl, z, c, cells, t + 2 + 3 * i + 2, 3, rfl, P6.ex e7, by omega, by decide, by decide, fun j H8 j0 j1 P8 f8 => ?_⟩
      obtain ⟨j, rfl⟩ : ∃ i : Nat, j = (i : Int) := ⟨j.toNat, by omega⟩
      obtain ⟨way, rfl⟩ : ∃ i : Nat, way = (i : Int) := ⟨way.toNat, by omega⟩
      have he8 := f8 _ _ (P6.off ne).1 he
      obtain ⟨v, hv, v0, v1⟩ : ∃ v, ([V.int 0, .int (hmax b), .int some_] : List V)[j]? = some (.int v) ∧ 0 ≤ v ∧ v ≤ hmax b := by
        match j, j1 with
        | 0, _ => exact ⟨_, rfl, by omega, by omega⟩
        | 1, _ => exact ⟨_, rfl, by omega, by omega⟩
        | 2, _ => exact ⟨_, rfl, by omega, by omega⟩
        | j + 3, h => exact absurd h (by omega)
      refine ⟨e, _, _, _, rfl, rfl, sq he8, atI_nat hv, ?_⟩
      refine ⟨by show 5 ≤ sizeLine; decide, fun g ng => ?_⟩
      (generalize g_H9 : upd _ g _ = H9); have hg := gat g_H9; have e9 := gex g_H9 ng; clear g_H9
      obtain ⟨u, hu, u0, u1⟩ : ∃ u, ([V.int 0, .int (hmax b), .int some_, .int some_, .int v] : List V)[way]? = some (.int u) ∧ 0 ≤ u ∧ u ≤ hmax b := by
        match way, y1 with
        | 0, _ => exact ⟨_, rfl, by omega, by omega⟩
        | 1, _ => exact ⟨_, rfl, by omega, by omega⟩
        | 2, _ => exact ⟨_, rfl, by omega, by omega⟩
        | 3, _ => exact ⟨_, rfl, by omega, by omega⟩
        | 4, _ => exact ⟨_, rfl, by omega, by omega⟩
        | j + 5, h => exact absurd h (by omega)
      refine ⟨_, rfl, g, _, _, _, rfl, rfl, sq hg, atI_nat hu, ?_⟩
      have hl9 := e9 _ _ (f8 _ _ lz (e7 _ _ (f6 _ _ lz (f5 _ _ lz hl4))))
      refine ⟨l, _, _, rfl, rfl, hl9, by rw [List.length_map]; exact Nat.lt_of_lt_of_le (show hs.length < 100 by omega) (by decide), ?_⟩
      have F9 := ((((f4.trans f5).trans f6).trans e7.fw).trans f8).trans e9.fw
      refine ⟨((P8.ex e9).upd lz lc).mono (by omega), F9.mut nlH, hs ++ [u], ?_, fun h q => ?_, ?_, _, _, rfl⟩
      · rw [upd_same, List.map_append]
        rfl
      · rcases List.mem_append.mp q with q | q
        · exact hh h q
        · rw [List.mem_singleton.mp q]
          exact ⟨u0, u1⟩
      · rw [List.length_append, len]
        rfl
    · rintro σ' H4 ⟨P4, f4, hs, hl4, hh, len, o5, o6, rfl⟩
      exact ⟨_, rfl, k l hs H4 hl4 hh (by omega) lz (P4.mono (by omega)) f4⟩
theorem ok_law_by_places (T : Tx K mg) : FnOk P w K mg base CX0 1 T.f_law_by_places.a T.f_law_by_places.fd ["_law_wide", "_law_whole_row"] spPlaces := by
  refine T.f_law_by_places.F.ok sc_law_by_places (fun vs H Q E h => ?_) (fun cdv A outer s H vs Q E hr h => ?_)
  · obtain ⟨b, l, hs, rfl, _⟩ := h
    rfl
  · obtain ⟨b, l, hs, rfl, b1, b2, hl, hh, few, k⟩ := h
    refine ⟨_, (pss_cons (ps_set (i := 2) sc_law_by_places.nd rfl (Or.inl rfl) pe_int)
      (pss_cons (ps_for PassesOwn.never rfl (pi_range1 (by rfl) T.b_range (pa_cons (pe_callB call_len_seq (by rfl) T.b_len (by decide +kernel) (pa_cons (pv 1) pa_nil)) pa_nil)) (pg_name (i := 3) sc_law_by_places.nd rfl (Or.inl rfl)) (pss_one (ps_set (i := 2) sc_law_by_places.nd rfl (Or.inl rfl) (pe_op op_add (pv 2) (pe_op op_shl (pe_ix ix_list (pv 1) (pv 3) (fun _ _ => rfl)) (pe_op op_mul (pe_op op_fdiv (pv 0) pe_int) (pe_callTy call_int1 (by rfl) T.b_int (by decide +kernel) (pa_cons (pe_cmpR op_eq (pe_op op_mod (pe_callTy call_int1 (by rfl) T.b_int (by decide +kernel) (pa_cons (pv 3) pa_nil)) pe_int) pe_int (nomark _)) pa_nil))))))))
      (pss_one (ps_ret (pe_ifExp (pt_cmpR op_eq (pv 2) pe_int (nomark _)) pe_int (pe_op op_add (pe_op op_mod (pe_callTy call_int1 (by rfl) T.b_int (by decide +kernel) (pa_cons (pe_op op_sub (pv 2) pe_int) pa_nil)) (pe_op op_sub (pe_op op_shl pe_int (pv 0)) pe_int)) pe_int)))))), ?_⟩
    have w64 : 2 * b ≤ 64 := by omega
    have nn : Nn hs := fun x hx => (hh x hx).1
    have len : (hs.map V.int).length = hs.length := List.length_map ..
    refine ⟨_, rfl, l, _, rfl, .inl (sq hl), _, rfl, by omega, by omega, for_range (n := (hs.map V.int).length) (fun i σ' H' => H' = H ∧ ∃ o, σ' = [some (.int ((2 * b : Nat) : Int)), some (.ref l), some (.int (pl b 0 (hs.take i))), o]) ⟨rfl, _, rfl⟩ ?_ ?_⟩
    · rintro i σ' H' hi ⟨rfl, o, rfl⟩
      have il : i < hs.length := by rw [len] at hi; exact hi
      have gi : (hs.map V.int)[i]? = some (.int hs[i]) := by rw [List.getElem?_map, List.getElem?_eq_getElem il]; rfl
      have ai : atI (hs.map V.int) (0 + (i : Int)) = some (.int hs[i]) := by
        rw [show (0 : Int) + (i : Int) = ((i : Nat) : Int) by omega]
        exact atI_nat gi
      have hb := hh _ (List.getElem_mem il)
      have ep : pl b 0 (hs.take (i + 1)) = pl b 0 (hs.take i) + hs[i] * wt b (i : Int) := by
        rw [List.take_add_one, List.getElem?_eq_getElem il]
        show pl b 0 (hs.take i ++ [hs[i]]) = _
        rw [pl_app, List.length_take, Nat.min_eq_left (Nat.le_of_lt il), Int.zero_add]
        show pl b 0 (hs.take i) + (hs[i] * wt b (i : Int) + 0) = _
        rw [Int.add_zero]
      have m64 := mw_64 (w := b) (by omega)
      have hm := hmax_mw b
      refine ⟨_, rfl, _, rfl, _, rfl, l, _, _, _, rfl, rfl, sq hl, ai, _, rfl, _, _, rfl, rfl, ⟨by decide, by decide⟩, _, rfl, .inl ⟨_, rfl, _, _, rfl, rfl, (by decide : (0 : Int) < 2), rfl, .inr ⟨_, rfl, _, _, rfl, rfl, .inl ⟨by omega, by omega⟩, _, _, rfl, rfl, ?_⟩⟩⟩
      dsimp only
      rw [nat2]
      have ew : hs[i] * 2 ^ ((b : Int) * (if decide (V.int ((0 + (i : Int)) % 2) = V.int 0) = true then 1 else 0)).toNat = hs[i] * wt b (i : Int) := by
        congr 1
        unfold wt
        by_cases e : (i : Int) % 2 = 0
        · rw [if_pos e, if_pos (decide_eq_true (by rw [Int.zero_add, e])), Int.mul_one, Int.toNat_natCast]
        · rw [if_neg e, if_neg (fun z => e (by have := V.int.inj (of_decide_eq_true z); omega)), Int.mul_zero]
          rfl
      have eb : (b : Int) * (if decide (V.int ((0 + (i : Int)) % 2) = V.int 0) = true then 1 else 0) ≤ (b : Int) ∧ 0 ≤ (b : Int) * (if decide (V.int ((0 + (i : Int)) % 2) = V.int 0) = true then 1 else 0) := by
        split <;> omega
      refine ⟨⟨eb.2, by omega, by omega⟩, _, _, rfl, rfl, rfl, some (.int (0 + (i : Int))), ?_⟩
      rw [ep, ← ew]
      rfl
    · rintro σ' H' ⟨rfl, o, rfl⟩
      rw [len, List.take_length]
      have s0 := pl0 (b := b) 0 nn
      generalize pl b 0 hs = s at k s0
      unfold cr at k
      refine ⟨_, rfl, rfl, _, rfl, ite2 (fun q => ?_) (fun q => ?_)⟩
      · have e : s = 0 := V.int.inj (of_decide_eq_true q)
        rw [e, if_neg (by decide)] at k
        exact k
      · have e : s ≠ 0 := fun e => q (decide_eq_true (by rw [e]))
        rw [if_pos (by omega)] at k
        refine ⟨_, rfl, _, _, rfl, rfl, .inl ⟨_, rfl, _, rfl, _, _, rfl, rfl, ⟨by omega, by omega, by decide⟩, _, _, rfl, rfl, ?_⟩⟩
        have hM := mw_pos (w := 2 * b) (by omega)
        have em : (1 : Int) * 2 ^ (((2 * b : Nat) : Int)).toNat - 1 = mw (2 * b) := by rw [Int.one_mul, Int.toNat_natCast]; rfl
        dsimp only
        rw [em]
        exact ⟨_, _, rfl, rfl, by omega, _, _, rfl, rfl, k⟩
theorem ok_law_by_pieces (T : Tx K mg) : FnOk P w K mg base CX0 1 T.f_law_by_pieces.a T.f_law_by_pieces.fd ["_law_wide", "_law_told"] (spPieces T.k_Word.C) := by
  refine T.f_law_by_pieces.F.ok sc_law_by_pieces (fun vs H Q E h => ?_) (fun cdv A outer s H vs Q E hr h => ?_)
  · obtain ⟨b, l, ys, qs, rfl, _⟩ := h
    rfl
  · obtain ⟨b, l, ys, qs, rfl, b1, b2, hl, pcs, nn, k⟩ := h
    refine ⟨_, (pss_cons (ps_par3 (i := 2) (j := 3) (l := 4) (by rfl) sc_law_by_pieces.nd rfl rfl rfl (by decide) (by decide) (by decide) rfl rfl rfl (pa_cons pe_int (pa_cons pe_int (pa_cons (pe_op op_sub (pe_op op_shl pe_int (pv 0)) pe_int) pa_nil))) (by rfl))
      (pss_cons (ps_for PassesOwn.never rfl (pi_list (pv 1)) (pg_tup rfl (pgs_cons (pg_name (i := 5) sc_law_by_pieces.nd rfl (Or.inl rfl)) (pgs_cons (pg_name (i := 6) sc_law_by_pieces.nd rfl (Or.inl rfl)) pgs_nil))) (pss_cons (ps_set (i := 7) sc_law_by_pieces.nd rfl (Or.inl rfl) (pe_op op_add (pe_op op_and (pe_op op_shl (pe_fld (pv 6) rfl) (pe_op op_fdiv (pv 0) pe_int)) (pv 4)) (pe_op op_shr (pe_fld (pv 6) rfl) (pe_op op_fdiv (pv 0) pe_int))))
      (pss_cons (ps_set (i := 2) sc_law_by_pieces.nd rfl (Or.inl rfl) (pe_op op_add (pv 2) (pe_ix ix_list (pe_lst (pa_cons (pe_fld (pv 6) rfl) (pa_cons (pv 7) pa_nil))) (pe_op op_mod (pe_callTy call_int1 (by rfl) T.b_int (by decide +kernel) (pa_cons (pv 3) pa_nil)) pe_int) (fun _ _ => rfl))))
      (pss_one (ps_set (i := 3) sc_law_by_pieces.nd rfl (Or.inl rfl) (pe_op op_add (pv 3) (pv 5)))))))
      (pss_one (ps_ret (pe_ifExp (pt_cmpR op_eq (pv 2) pe_int (nomark _)) pe_int (pe_op op_add (pe_op op_mod (pe_callTy call_int1 (by rfl) T.b_int (by decide +kernel) (pa_cons (pe_op op_sub (pv 2) pe_int) pa_nil)) (pv 4)) pe_int)))))), ?_⟩
    have w1 : 1 ≤ 2 * b := by omega
    have w64 : 2 * b ≤ 64 := by omega
    have m64 := mw_64 w64
    have em : (1 : Int) * 2 ^ (((2 * b : Nat) : Int)).toNat - 1 = mw (2 * b) := by rw [Int.one_mul, Int.toNat_natCast]; rfl
    refine ⟨_, rfl, _, _, rfl, rfl, ⟨by omega, by omega, by decide⟩, _, _, rfl, rfl, _, _, _, rfl, ?_⟩
    dsimp only
    rw [em]
    have len := pcs.1
    refine ⟨_, rfl, l, rfl, ⟨_, sq hl⟩, for_list (K := K) (a := l) (xs := ys) (fun i σ' H' => Ex H H' ∧ ∃ S : Int, 0 ≤ S ∧ cr (2 * b) S = cr (2 * b) (tp b 0 (qs.take i)) ∧ ∃ o5 o6 o7, σ' = [some (.int ((2 * b : Nat) : Int)), some (.ref l), some (.int S), some (.int (((qs.take i).map (·.1)).sum)), some (.int (mw (2 * b))), o5, o6, o7]) ⟨Ex.refl _, 0, by decide, rfl, _, _, _, rfl⟩ (fun i σ' H' _ q => sq (q.1 _ _ hl)) ?_ ?_⟩
    · rintro i y σ' H' hy ⟨e1, S, S0, cS, o5, o6, o7, rfl⟩
      have il : i < qs.length := by
        have := (List.getElem?_eq_some_iff.mp hy).1
        omega
      have hq : qs[i]? = some qs[i] := List.getElem?_eq_getElem il
      have ep1 : tp b 0 (qs.take (i + 1)) = tp b 0 (qs.take i) + qs[i].2 * wp b (((qs.take i).map (·.1)).sum) := by
        rw [List.take_add_one, hq]
        show tp b 0 (qs.take i ++ [(qs[i].1, qs[i].2)]) = _
        rw [tp_app, Int.zero_add]
        show _ + (qs[i].2 * wp b _ + 0) = _
        rw [Int.add_zero]
      have ep2 : ((qs.take (i + 1)).map (·.1)).sum = ((qs.take i).map (·.1)).sum + qs[i].1 := by
        rw [List.take_add_one, hq]
        show ((qs.take i ++ [qs[i]]).map (·.1)).sum = _
        rw [List.map_append, List.sum_append]
        show _ + (qs[i].1 + 0) = _
        rw [Int.add_zero]
      obtain ⟨p, x, rfl, h, n0, n1, Wx⟩ := (pcs.2 i y _ hy hq).ex e1
      rw [ep1, ep2]
      have pos := tp0 (b := b) (ps := qs.take i) 0 fun q m => nn q (List.mem_of_mem_take m)
      generalize tp b 0 (qs.take i) = A at cS pos
      generalize (((qs.take i).map (·.1)).sum) = a
      generalize qs[i].1 = n at h n0 n1
      generalize qs[i].2 = v at Wx
      obtain ⟨⟨dx, hx⟩, _, _, v0, v1⟩ := id Wx
      refine ⟨p, _, rfl, sqt h, rfl, _, _, rfl, _, _, rfl, rfl, ?_⟩
      refine ⟨_, rfl, x, _, dx, _, _, rfl, hx, T.k_Word.cl, T.n_Word_value, wf_value _ _, _, rfl, _, _, rfl, rfl, ⟨by decide, by decide⟩, _, _, rfl, rfl, ⟨by omega, by omega, by omega⟩, ?_⟩
      refine ⟨_, rfl, _, _, rfl, rfl, _, rfl, x, _, dx, _, _, rfl, hx, T.k_Word.cl, T.n_Word_value, wf_value _ _, _, rfl, _, _, rfl, rfl, ⟨by decide, by decide⟩, _, _, rfl, rfl, by omega, _, _, rfl, rfl, ?_⟩
      dsimp only
      rw [half_turn b1 v0 v1]
      refine ⟨_, rfl, _, rfl, x, _, dx, _, _, rfl, hx, T.k_Word.cl, T.n_Word_value, wf_value _ _, _, rfl, by show 2 ≤ sizeLine; decide, fun e ne => ?_⟩
      (generalize g_H2 : upd _ e _ = H2); have he := gat g_H2; have e2 := gex g_H2 ne; clear g_H2
      have c0 := (cr_bd w1 (v * 2 ^ b)).1
      obtain ⟨r, hr, r0, er⟩ : ∃ r : Int, atI [V.int v, V.int (cr (2 * b) (v * 2 ^ b))] (a % 2) = some (.int r) ∧ 0 ≤ r ∧ cr (2 * b) r = cr (2 * b) (v * wp b a) := by
        unfold wp
        by_cases q : a % 2 = 0
        · rw [if_pos q, q]
          exact ⟨v, rfl, v0, by rw [Int.mul_one]⟩
        · rw [if_neg q, show a % 2 = 1 by omega]
          exact ⟨_, rfl, c0, cr_cr b1 _⟩
      refine ⟨_, rfl, .inl ⟨_, rfl, _, _, rfl, rfl, (by decide : (0 : Int) < 2), e, _, _, _, rfl, rfl, sq he, hr, _, _, rfl, rfl, ?_⟩⟩
      refine ⟨_, rfl, _, rfl, _, _, rfl, rfl, ?_⟩
      exact ⟨e1.trans e2, S + r, Int.add_nonneg S0 r0, cr_cong b1 S0 pos r0 (Int.mul_nonneg v0 (wp0 b a)) cS er, _, _, _, rfl⟩
    · rintro σ' H' ⟨e1, S, S0, cS, o5, o6, o7, rfl⟩
      rw [len, List.take_length] at cS
      have k := k H' e1
      rw [← cS] at k
      unfold cr at k
      have hM := mw_pos w1
      refine ⟨_, rfl, rfl, _, rfl, ite2 (fun q => ?_) (fun q => ?_)⟩
      · have e : S = 0 := V.int.inj (of_decide_eq_true q)
        rw [e, if_neg (by decide)] at k
        exact k
      · have e : S ≠ 0 := fun e => q (decide_eq_true (by rw [e]))
        rw [if_pos (by omega)] at k
        exact ⟨_, rfl, _, _, rfl, rfl, .inl ⟨_, rfl, _, rfl, _, _, rfl, rfl, by omega, _, _, rfl, rfl, k⟩⟩
theorem ok_law_cut (T : Tx K mg) : FnOk P w K mg base CX0 2 T.f_law_cut.a T.f_law_cut.fd ["_law_pen_here", "_law_whole_row"] spCut := by
  refine T.f_law_cut.F.ok sc_law_cut (fun vs H Q E h => ?_) (fun cdv A outer s H vs Q E hr h => ?_)
  · obtain ⟨z, c, cells, t, l, hs, rfl, _⟩ := h
    rfl
  · obtain ⟨z, c, cells, t, l, hs, rfl, PA, ht, hl, few, lz, k⟩ := h
    refine ⟨_, (pss_cons (ps_par (i := 2) (j := 3) (by rfl) sc_law_cut.nd rfl rfl (by decide) rfl rfl (pa_cons (pe_callTy call_list_of (by rfl) T.b_list (by decide +kernel) (pa_cons (pv 1) pa_nil)) (pa_cons (pe_lst pa_nil) pa_nil)) (by rfl))
      (pss_cons (ps_for PassesOwn.never rfl (pi_range1 (by rfl) T.b_range (pa_cons (pe_op op_add pe_int (pe_call (ok_law_draw T) (hr.mono (by decide)) (by rfl) T.f_law_draw.m T.f_law_draw.F.kp (bd_law_draw T) .nil pass0 (pa_cons (pv 0) (pa_cons pe_int pa_nil)))) pa_nil)) (pg_name (i := 4) sc_law_cut.nd rfl (Or.inl rfl)) (pss_cons (ps_set (i := 5) sc_law_cut.nd rfl (Or.inl rfl) (pe_call (ok_law_draw T) (hr.mono (by decide)) (by rfl) T.f_law_draw.m T.f_law_draw.F.kp (bd_law_draw T) .nil pass0 (pa_cons (pv 0) (pa_cons (pe_op op_add (pe_callB call_len_seq (by rfl) T.b_len (by decide +kernel) (pa_cons (pv 2) pa_nil)) pe_int) pa_nil))))
      (pss_cons (ps_expr (pe_bm PySem.F.plainAttrs_list PySem.F.slot_list_append PySem.F.type_list_append mt_append (pv 3) (pa_cons (pe_slice sl_list (pv 2) po_none (po_some (pv 5))) pa_nil)))
      (pss_one (ps_set (i := 2) sc_law_cut.nd rfl (Or.inl rfl) (pe_slice sl_list (pv 2) (po_some (pv 5)) po_none))))))
      (pss_one (ps_ret (pe_op op_cat (pv 3) (pe_lst (pa_cons (pv 2) pa_nil))))))), ?_⟩
    refine ⟨_, rfl, l, _, rfl, .inl (sq hl), fun p np => ?_⟩
    (generalize g_H1 : upd _ p _ = H1); have hp := gat g_H1; have e1 := gex g_H1 np; clear g_H1
    refine ⟨by show 0 ≤ sizeLine; decide, fun q nq => ?_⟩
    (generalize g_H2 : upd _ q _ = H2); have hq := gat g_H2; have e2 := gex g_H2 nq; clear g_H2
    refine ⟨_, _, rfl, ?_⟩
    have P2 := PA.ex (e1.trans e2)
    have qz := ((PA.ex e1).off nq).1
    have qc := ((PA.ex e1).off nq).2
    have pz := (PA.off np).1
    have pq : p ≠ q := fun e => by rw [← e, hp] at nq; cases nq
    have nqH := back e1 nq
    refine ⟨_, rfl, z, c, cells, t, 5, rfl, P2, by omega, by decide, by decide, fun n H3 n0 n1 P3 f3 => ?_⟩
    have hp3 := f3 _ _ pz (e2 _ _ hp)
    have hq3 := f3 _ _ qz hq
    refine ⟨_, _, rfl, rfl, _, rfl, by omega, by omega, for_range (n := (1 + n).toNat) (fun i σ' H' => PenAt H' z c cells (t + 1 + i) ∧ Fw z H H' ∧ ∃ (as : List Addr) (rows : List (List Int)) (r : Addr) (rest : List Int), H' q = some (.lst (as.map V.ref)) ∧ RowsAt H' as rows ∧ as.length = i ∧ rows.flatten ++ rest = hs ∧ H' r = some (.lst (rest.map V.int)) ∧ r ≠ z ∧ r ≠ q ∧ H r = none ∧ (∀ a ∈ as, H a = none ∧ a ≠ q ∧ a ≠ z) ∧ ∃ o4 o5, σ' = [some (.ref z), some (.ref l), some (.ref r), some (.ref q), o4, o5])
      ⟨P3, ((e1.trans e2).fw).trans f3, [], [], p, hs, hq3, ⟨rfl, fun i a r h => by simp at h⟩, rfl, rfl, hp3, pz, pq, np, (fun a h => by cases h), _, _, rfl⟩ ?_ ?_⟩
    · rintro i σ' H4 hi ⟨P4, f4, as, rows, r, rest, hq4, RA, la, fl, hr, rz, rq, nr, nas, o4, o5, rfl⟩
      have lr : rest.length ≤ 9 := by
        rw [← fl, List.length_append] at few
        omega
      refine ⟨_, rfl, _, rfl, r, _, rfl, .inl (sq hr), _, _, rfl, rfl, z, c, cells, t + 1 + i, _, rfl, P4, by omega, by omega, by rw [List.length_map]; omega, fun m H5 m0 m1 P5 f5 => ?_⟩
      rw [List.length_map] at m1
      obtain ⟨m, rfl⟩ : ∃ j : Nat, m = (j : Int) := ⟨m.toNat, by omega⟩
      have ml : m ≤ rest.length := by omega
      have hq5 := f5 _ _ qz hq4
      have hr5 := f5 _ _ rz hr
      refine ⟨_, rfl, (.inl ⟨rfl, _, sq hq5⟩), _, rfl, _, rfl, _, rfl, r, _, rfl, sq hr5, fun a na => ?_⟩
      rw [cut_to ml]
      (generalize g_H6 : upd _ a _ = H6); have ha := gat g_H6; have e6 := gex g_H6 na; clear g_H6
      have az := (P5.off na).1
      have aq : a ≠ q := fun e => by rw [e, hq5] at na; cases na
      have naH := (f4.trans f5).back na az
      refine ⟨q, _, _, rfl, rfl, e6 _ _ hq5, by rw [List.length_map]; exact Nat.lt_of_lt_of_le (show as.length < 100 by omega) (by decide), ?_⟩
      have P7 := (P5.ex e6).upd (o := .lst (as.map V.ref ++ [.ref a])) qz qc
      have F7 := (((f4.trans f5).trans e6.fw).mut (o := .lst (as.map V.ref ++ [.ref a])) nqH)
      have hq7 : upd H6 q (.lst (as.map V.ref ++ [.ref a])) q = some (.lst ((as ++ [a]).map V.ref)) := by rw [upd_same, List.map_append]; rfl
      have hr7 : upd H6 q (.lst (as.map V.ref ++ [.ref a])) r = some (.lst (rest.map V.int)) := by rw [upd_ne rq]; exact e6 _ _ hr5
      have RA7 : RowsAt (upd H6 q (.lst (as.map V.ref ++ [.ref a]))) (as ++ [a]) (rows ++ [rest.take m]) := by
        refine ⟨by rw [List.length_append, List.length_append, RA.1]; rfl, fun j b x hb hx => ?_⟩
        by_cases jl : j < as.length
        · rw [List.getElem?_append_left jl] at hb
          rw [List.getElem?_append_left (by rw [← RA.1]; exact jl)] at hx
          have mb := nas b (List.mem_of_getElem? hb)
          rw [upd_ne mb.2.1]
          exact e6 _ _ (f5 _ _ mb.2.2 (RA.2 j b x hb hx))
        · rw [List.getElem?_append_right (by omega)] at hb
          rw [List.getElem?_append_right (by rw [← RA.1]; omega), ← RA.1] at hx
          generalize j - as.length = d at hb hx
          match d, hb, hx with
          | 0, hb, hx =>
            cases hb
            cases hx
            rw [upd_ne aq]
            exact ha
          | d + 1, hb, _ => simp at hb
      generalize upd H6 q (.lst (as.map V.ref ++ [.ref a])) = H7 at P7 F7 hq7 hr7 RA7
      refine ⟨_, rfl, _, rfl, _, rfl, r, _, rfl, sq hr7, fun a2 na2 => ?_⟩
      rw [cut_from ml]
      (generalize g_H8 : upd _ a2 _ = H8); have ha2 := gat g_H8; have e8 := gex g_H8 na2; clear g_H8
      have a2z := (P7.off na2).1
      refine ⟨(P7.ex e8).mono (by omega), F7.trans e8.fw, as ++ [a], rows ++ [rest.take m], a2, rest.drop m, e8 _ _ hq7, ⟨RA7.1, fun j b x hb hx => e8 _ _ (RA7.2 j b x hb hx)⟩, ?_, ?_, ha2, a2z, (fun e => by rw [e, hq7] at na2; cases na2), F7.back na2 a2z, fun b hb => ?_, _, _, rfl⟩
      · rw [List.length_append, la]
        rfl
      · rw [← fl, List.flatten_append]
        show rows.flatten ++ (rest.take m ++ []) ++ rest.drop m = _
        rw [List.append_nil, List.append_assoc, List.take_append_drop]
      · rcases List.mem_append.mp hb with hb | hb
        · exact nas b hb
        · rw [List.mem_singleton.mp hb]
          exact ⟨naH, aq, az⟩
    · rintro σ' H4 ⟨P4, f4, as, rows, r, rest, hq4, RA, la, fl, hr, rz, rq, nr, nas, o4, o5, rfl⟩
      refine ⟨_, rfl, _, rfl, by show 1 ≤ sizeLine; decide, fun e ne => ?_⟩
      (generalize g_H5 : upd _ e _ = H5); have he := gat g_H5; have e5 := gex g_H5 ne; clear g_H5
      refine ⟨q, e, _, _, rfl, rfl, e5 _ _ hq4, he, by rw [List.length_map]; exact Nat.le_trans (show as.length + 1 ≤ 100 by omega) (by decide), fun L nL => ?_⟩
      (generalize g_H6 : upd _ L _ = H6); have hL := gat g_H6; have e6 := gex g_H6 nL; clear g_H6
      have E := e5.trans e6
      have lr : rows.length = as.length := RA.1.symm
      refine k L (as ++ [r]) (rows ++ [rest]) H6 (by rw [hL, List.map_append]; rfl) ⟨by rw [List.length_append, List.length_append, RA.1]; rfl, fun j b x hb hx => ?_⟩ (by rw [List.flatten_append]; show rows.flatten ++ (rest ++ []) = hs; rw [List.append_nil, fl]) ?_ ?_ (f4.back (back e5 nL) (((P4.ex e5).off nL).1)) (fun a ha => ?_) ((P4.ex E).mono (by omega)) (f4.trans E.fw)
      · by_cases jl : j < as.length
        · rw [List.getElem?_append_left jl] at hb
          rw [List.getElem?_append_left (by rw [← RA.1]; exact jl)] at hx
          exact E _ _ (RA.2 j b x hb hx)
        · rw [List.getElem?_append_right (by omega)] at hb
          rw [List.getElem?_append_right (by rw [← RA.1]; omega), ← RA.1] at hx
          generalize j - as.length = d at hb hx
          match d, hb, hx with
          | 0, hb, hx =>
            cases hb
            cases hx
            exact E _ _ hr
          | d + 1, hb, _ => simp at hb
      · rw [List.length_append, lr, la]
        show 2 ≤ (1 + n).toNat + 1
        omega
      · rw [List.length_append, lr, la]
        show (1 + n).toNat + 1 ≤ 6
        omega
      · rcases List.mem_append.mp ha with ha | ha
        · exact (nas a ha).1
        · rw [List.mem_singleton.mp ha]
          exact nr
theorem ok_law_strange (T : Tx K mg) : FnOk P w K mg base CX0 6 T.f_law_strange.a T.f_law_strange.fd ["_law_pen_here", "_law_wide"] (spStrange T.k_Word.C) := by
  refine T.f_law_strange.F.ok sc_law_strange (fun vs H Q E h => ?_) (fun cdv A outer s H vs Q E hr h => ?_)
  · obtain ⟨z, c, cells, t, b, rfl, _⟩ := h
    rfl
  · obtain ⟨z, c, cells, t, b, rfl, PA, ht, b1, b2, k⟩ := h
    refine ⟨_, (pss_cons (ps_set (i := 2) sc_law_strange.nd rfl (Or.inl rfl) (pe_op op_and (pe_op op_add (pe_op op_mul (pe_call (ok_law_draw T) (hr.mono (by decide)) (by rfl) T.f_law_draw.m T.f_law_draw.F.kp (bd_law_draw T) .nil pass0 (pa_cons (pv 0) (pa_cons pe_int pa_nil))) pe_int) (pe_call (ok_law_draw T) (hr.mono (by decide)) (by rfl) T.f_law_draw.m T.f_law_draw.F.kp (bd_law_draw T) .nil pass0 (pa_cons (pv 0) (pa_cons pe_int pa_nil)))) (pe_op op_sub (pe_op op_shl pe_int (pv 1)) pe_int)))
      (pss_cons (ps_set (i := 3) sc_law_strange.nd rfl (Or.inl rfl) (pe_ix ix_list (pe_lst (pa_cons pe_int (pa_cons (pe_op op_sub (pe_op op_shl pe_int (pv 1)) pe_int) (pa_cons pe_int (pa_cons (pv 2) (pa_cons (pv 2) pa_nil)))))) (pe_call (ok_law_draw T) (hr.mono (by decide)) (by rfl) T.f_law_draw.m T.f_law_draw.F.kp (bd_law_draw T) .nil pass0 (pa_cons (pv 0) (pa_cons pe_int pa_nil))) (fun _ _ => rfl)))
      (pss_one (ps_ret (pe_tup (pa_cons (pe_ix ix_list (pe_lst (pa_cons pe_int (pa_cons pe_int (pa_cons pe_int (pa_cons pe_int (pa_cons pe_int (pa_cons (pe_op op_pow pe_int pe_int) pa_nil))))))) (pe_call (ok_law_draw T) (hr.mono (by decide)) (by rfl) T.f_law_draw.m T.f_law_draw.F.kp (bd_law_draw T) .nil pass0 (pa_cons (pv 0) (pa_cons pe_int pa_nil))) (fun _ _ => rfl)) (pa_cons (pe_make (mk_Word T) (ok_Word_init_ T) (hr.mono (by decide)) (by rfl) T.k_Word.m (bd_Word_init_ T) .nil pass0 (pa_cons (pv 1) (pa_cons (pv 3) pa_nil))) pa_nil))))))), ?_⟩
    have w1 : 1 ≤ 2 * b := by omega
    have w64 : 2 * b ≤ 64 := by omega
    have hM := mw_pos w1
    have em : (1 : Int) * 2 ^ (((2 * b : Nat) : Int)).toNat - 1 = mw (2 * b) := by rw [Int.one_mul, Int.toNat_natCast]; rfl
    refine ⟨_, rfl, z, c, cells, t, 65536, rfl, PA, by omega, by decide, by decide, fun lo H1 l0 l1 P1 f1 => ?_⟩
    refine ⟨_, _, rfl, rfl, .inl ⟨by omega, by omega⟩, ?_⟩
    refine ⟨_, rfl, z, c, cells, t + 1, 65536, rfl, P1, by omega, by decide, by decide, fun hi H2 h0 h1 P2 f2 => ?_⟩
    refine ⟨_, _, rfl, rfl, _, rfl, _, _, rfl, rfl, ⟨by omega, by omega, by decide⟩, _, _, rfl, rfl, _, _, rfl, rfl, ?_⟩
    dsimp only
    rw [em]
    have sb := and_top (wd := 2 * b) (x := lo * 281479271677953 + hi) (by omega)
    rw [show (2 : Int) ^ (2 * b) - 1 = mw (2 * b) from rfl] at sb
    rw [mw_lt] at sb
    generalize Builtin.bitAnd (lo * 281479271677953 + hi) (mw (2 * b)) = some_ at sb
    refine ⟨_, rfl, _, _, rfl, rfl, ⟨by omega, by omega, by decide⟩, _, _, rfl, rfl, _, rfl, _, rfl, by show 5 ≤ sizeLine; decide, fun e ne => ?_⟩
    dsimp only
    rw [em]
    (generalize g_H3 : upd _ e _ = H3); have he := gat g_H3; have e3 := gex g_H3 ne; clear g_H3
    refine ⟨_, rfl, z, c, cells, t + 2, 5, rfl, P2.ex e3, by omega, by decide, by decide, fun j H4 j0 j1 P4 f4 => ?_⟩
    have he4 := f4 _ _ (P2.off ne).1 he
    obtain ⟨j, rfl⟩ : ∃ i : Nat, j = (i : Int) := ⟨j.toNat, by omega⟩
    obtain ⟨v, hv, v0, v1⟩ : ∃ v, ([V.int 0, .int (mw (2 * b)), .int 1, .int some_, .int some_] : List V)[j]? = some (.int v) ∧ 0 ≤ v ∧ v ≤ mw (2 * b) := by
      match j, j1 with
      | 0, _ => exact ⟨_, rfl, by omega, by omega⟩
      | 1, _ => exact ⟨_, rfl, by omega, by omega⟩
      | 2, _ => exact ⟨_, rfl, by omega, by omega⟩
      | 3, _ => exact ⟨_, rfl, by omega, by omega⟩
      | 4, _ => exact ⟨_, rfl, by omega, by omega⟩
      | j + 5, h => exact absurd h (by omega)
    refine ⟨e, _, _, _, rfl, rfl, sq he4, atI_nat hv, ?_⟩
    refine ⟨_, _, rfl, rfl, ⟨by decide, by decide, by decide⟩, by show 6 ≤ sizeLine; decide, fun g ng => ?_⟩
    have e10 : (10 : Int) ^ (30 : Int).toNat = ten30 := by decide +kernel
    dsimp only
    rw [e10]
    (generalize g_H5 : upd _ g _ = H5); have hg := gat g_H5; have e5 := gex g_H5 ng; clear g_H5
    refine ⟨_, rfl, z, c, cells, t + 3, 6, rfl, P4.ex e5, by omega, by decide, by decide, fun i H6 i0 i1 P6 f6 => ?_⟩
    have hg6 := f6 _ _ (P4.off ng).1 hg
    obtain ⟨i, rfl⟩ : ∃ j : Nat, i = (j : Int) := ⟨i.toNat, by omega⟩
    obtain ⟨n, hn, n0, n1⟩ : ∃ n, ([V.int 0, .int 0, .int 1, .int 1, .int 2, .int ten30] : List V)[i]? = some (.int n) ∧ 0 ≤ n ∧ n ≤ ten30 := by
      match i, i1 with
      | 0, _ => exact ⟨_, rfl, by decide, by decide⟩
      | 1, _ => exact ⟨_, rfl, by decide, by decide⟩
      | 2, _ => exact ⟨_, rfl, by decide, by decide⟩
      | 3, _ => exact ⟨_, rfl, by decide, by decide⟩
      | 4, _ => exact ⟨_, rfl, by decide, by decide⟩
      | 5, _ => exact ⟨_, rfl, by decide, by decide⟩
      | j + 6, h => exact absurd h (by omega)
    refine ⟨g, _, _, _, rfl, rfl, sq hg6, atI_nat hn, ?_⟩
    refine ⟨_, rfl, _, rfl, fun x dx nx ndx _ => mk_word1 w1 w64 v0 v1 nx ndx fun H7 e7 W => ⟨rfl, ?_⟩⟩
    refine ⟨by show 2 ≤ sizeLine; decide, fun p np => ?_⟩
    (generalize g_H8 : upd _ p _ = H8); have hp := gat g_H8; have e8 := gex g_H8 np; clear g_H8
    exact k _ (n, v) H8 ⟨p, x, rfl, hp, n0, n1, W.ex e8⟩ (((P6.ex e7).ex e8).mono (by omega)) ((((((f1.trans f2).trans e3.fw).trans f4).trans e5.fw).trans f6).trans (e7.trans e8).fw)
theorem ok_law_no_piece (T : Tx K mg) : FnOk P w K mg base CX0 6 T.f_law_no_piece.a T.f_law_no_piece.fd ["_law_pen_here", "_law_wide"] (spNoPiece T.k_Word.C) := by
  refine T.f_law_no_piece.F.ok sc_law_no_piece (fun vs H Q E h => ?_) (fun cdv A outer s H vs Q E hr h => ?_)
  · obtain ⟨z, c, cells, t, b, rfl, _⟩ := h
    rfl
  · obtain ⟨z, c, cells, t, b, rfl, PA, ht, b1, b2, k⟩ := h
    refine ⟨_, (pss_cons (ps_set (i := 2) sc_law_no_piece.nd rfl (Or.inl rfl) (pe_make (mk_Word T) (ok_Word_init_ T) (hr.mono (by decide)) (by rfl) T.k_Word.m (bd_Word_init_ T) .nil pass0 (pa_cons (pv 1) (pa_cons pe_int pa_nil))))
      (pss_cons (ps_set (i := 3) sc_law_no_piece.nd rfl (Or.inl rfl) (pe_lst (pa_cons pe_non (pa_cons (pv 2) (pa_cons (pe_tup (pa_cons pe_int pa_nil)) (pa_cons (pe_tup (pa_cons pe_int (pa_cons (pv 2) (pa_cons (pv 2) pa_nil)))) (pa_cons (pe_lst (pa_cons pe_int (pa_cons (pv 2) pa_nil))) (pa_cons (pe_tup (pa_cons (pe_un un_neg pe_int) (pa_cons (pv 2) pa_nil))) (pa_cons (pe_tup (pa_cons pe_bl (pa_cons (pv 2) pa_nil))) (pa_cons (pe_tup (pa_cons pe_int (pa_cons pe_int pa_nil))) (pa_cons (pe_tup (pa_cons (pe_op op_add (pe_op op_pow pe_int pe_int) pe_int) (pa_cons (pv 2) pa_nil))) pa_nil)))))))))))
      (pss_one (ps_ret (pe_ix ix_list (pe_op op_cat (pv 3) (pe_lst (pa_cons (pe_tup (pa_cons pe_non (pa_cons (pv 2) pa_nil))) (pa_cons (pe_tup (pa_cons pe_int (pa_cons (pe_make (mk_Word T) (ok_Word_init_ T) (hr.mono (by decide)) (by rfl) T.k_Word.m (bd_Word_init_ T) .nil pass0 (pa_cons (pe_op op_add (pe_op op_mod (pe_callTy call_int1 (by rfl) T.b_int (by decide +kernel) (pa_cons (pv 1) pa_nil)) pe_int) pe_int) (pa_cons pe_int pa_nil))) pa_nil))) (pa_cons (pe_tup (pa_cons pe_str (pa_cons (pv 2) pa_nil))) pa_nil))))) (pe_call (ok_law_draw T) (hr.mono (by decide)) (by rfl) T.f_law_draw.m T.f_law_draw.F.kp (bd_law_draw T) .nil pass0 (pa_cons (pv 0) (pa_cons pe_int pa_nil))) (fun _ _ => rfl)))))), ?_⟩
    have w1 : 1 ≤ 2 * b := by omega
    have w64 : 2 * b ≤ 64 := by omega
    have hM := mw_pos w1
    refine ⟨_, rfl, fun x dx nx ndx _ => mk_word1 w1 w64 (by decide) hM nx ndx fun H1 e1 W1 => ⟨rfl, ?_⟩⟩
    have P1 := PA.ex e1
    refine ⟨_, rfl, by show 1 ≤ sizeLine; decide, fun a2 n2 => ?_⟩
    (generalize g_H2 : upd _ a2 _ = H2); have h2 := gat g_H2; have e2 := gex g_H2 n2; clear g_H2
    have P2 := P1.ex e2
    have z2 := (P1.off n2).1
    refine ⟨_, rfl, _, rfl, by show 3 ≤ sizeLine; decide, fun a3 n3 => ?_⟩
    (generalize g_H3 : upd _ a3 _ = H3); have h3 := gat g_H3; have e3 := gex g_H3 n3; clear g_H3
    have P3 := P2.ex e3
    have z3 := (P2.off n3).1
    refine ⟨_, rfl, by show 2 ≤ sizeLine; decide, fun a4 n4 => ?_⟩
    (generalize g_H4 : upd _ a4 _ = H4); have h4 := gat g_H4; have e4 := gex g_H4 n4; clear g_H4
    have P4 := P3.ex e4
    have z4 := (P3.off n4).1
    refine ⟨_, rfl, _, rfl, by show 2 ≤ sizeLine; decide, fun a5 n5 => ?_⟩
    (generalize g_H5 : upd _ a5 _ = H5); have h5 := gat g_H5; have e5 := gex g_H5 n5; clear g_H5
    have P5 := P4.ex e5
    have z5 := (P4.off n5).1
    refine ⟨_, rfl, by show 2 ≤ sizeLine; decide, fun a6 n6 => ?_⟩
    (generalize g_H6 : upd _ a6 _ = H6); have h6 := gat g_H6; have e6 := gex g_H6 n6; clear g_H6
    have P6 := P5.ex e6
    have z6 := (P5.off n6).1
    refine ⟨by show 2 ≤ sizeLine; decide, fun a7 n7 => ?_⟩
    (generalize g_H7 : upd _ a7 _ = H7); have h7 := gat g_H7; have e7 := gex g_H7 n7; clear g_H7
    have P7 := P6.ex e7
    have z7 := (P6.off n7).1
    refine ⟨_, _, rfl, rfl, ⟨by decide, by decide, by decide⟩, _, _, rfl, rfl, _, rfl, by show 2 ≤ sizeLine; decide, fun a8 n8 => ?_⟩
    have e10 : (10 : Int) ^ (30 : Int).toNat = ten30 := by decide +kernel
    dsimp only
    rw [e10]
    (generalize g_H8 : upd _ a8 _ = H8); have h8 := gat g_H8; have e8 := gex g_H8 n8; clear g_H8
    have P8 := P7.ex e8
    have z8 := (P7.off n8).1
    refine ⟨by show 9 ≤ sizeLine; decide, fun a9 n9 => ?_⟩
    (generalize g_H9 : upd _ a9 _ = H9); have h9 := gat g_H9; have e9 := gex g_H9 n9; clear g_H9
    have P9 := P8.ex e9
    have z9 := (P8.off n9).1
    refine ⟨_, rfl, _, rfl, by show 2 ≤ sizeLine; decide, fun a10 n10 => ?_⟩
    (generalize g_H10 : upd _ a10 _ = H10); have h10 := gat g_H10; have e10_ := gex g_H10 n10; clear g_H10
    have P10 := P9.ex e10_
    have z10 := (P9.off n10).1
    have ew : ((2 * b : Nat) : Int) % 64 + 1 = ((2 * b % 64 + 1 : Nat) : Int) := by omega
    refine ⟨_, rfl, .inl ⟨_, rfl, _, _, rfl, rfl, (by decide : (0 : Int) < 64), _, _, rfl, rfl, ?_⟩⟩
    dsimp only
    rw [ew]
    refine fun x2 dx2 nx2 ndx2 _ => mk_word1 (by omega) (by omega) (by decide) (mw_pos (by omega)) nx2 ndx2 fun H11 e11 W2 => ⟨rfl, ?_⟩
    have P11 := P10.ex e11
    refine ⟨by show 2 ≤ sizeLine; decide, fun a12 n12 => ?_⟩
    (generalize g_H12 : upd _ a12 _ = H12); have h12 := gat g_H12; have e12 := gex g_H12 n12; clear g_H12
    have P12 := P11.ex e12
    have z12 := (P11.off n12).1
    refine ⟨_, rfl, by show 2 ≤ sizeLine; decide, fun a13 n13 => ?_⟩
    (generalize g_H13 : upd _ a13 _ = H13); have h13 := gat g_H13; have e13 := gex g_H13 n13; clear g_H13
    have P13 := P12.ex e13
    have z13 := (P12.off n13).1
    refine ⟨by show 3 ≤ sizeLine; decide, fun a14 n14 => ?_⟩
    (generalize g_H14 : upd _ a14 _ = H14); have h14 := gat g_H14; have e14 := gex g_H14 n14; clear g_H14
    have P14 := P13.ex e14
    have z14 := (P13.off n14).1
    have hl := ((((e10_.trans e11).trans e12).trans e13).trans e14) _ _ h9
    refine ⟨a9, a14, _, _, rfl, rfl, hl, h14, by show 12 ≤ sizeLine; decide, fun a15 n15 => ?_⟩
    (generalize g_H15 : upd _ a15 _ = H15); have h15 := gat g_H15; have e15 := gex g_H15 n15; clear g_H15
    have P15 := P14.ex e15
    have z15 := (P14.off n15).1
    refine ⟨_, rfl, z, c, cells, t, 12, rfl, P15, by omega, by decide, by decide, fun j H16 j0 j1 P16 f16 => ?_⟩
    have h := f16 _ _ z15 h15
    have E14 : Ex H14 H15 := e15
    have E13 := e14.trans E14
    have E12 := e13.trans E13
    have E11 := e12.trans E12
    have E10 := e11.trans E11
    have E9 := e10_.trans E10
    have E8 := e9.trans E9
    have E7 := e8.trans E8
    have E6 := e7.trans E7
    have E5 := e6.trans E6
    have E4 := e5.trans E5
    have E3 := e4.trans E4
    have E2 := e3.trans E3
    have E1 := e2.trans E2
    have g2 := f16 _ _ z2 (E2 _ _ h2)
    have g3 := f16 _ _ z3 (E3 _ _ h3)
    have g4 := f16 _ _ z4 (E4 _ _ h4)
    have g5 := f16 _ _ z5 (E5 _ _ h5)
    have g6 := f16 _ _ z6 (E6 _ _ h6)
    have g7 := f16 _ _ z7 (E7 _ _ h7)
    have g8 := f16 _ _ z8 (E8 _ _ h8)
    have g10 := f16 _ _ z10 (E10 _ _ h10)
    have g12 := f16 _ _ z12 (E12 _ _ h12)
    have g13 := f16 _ _ z13 (E13 _ _ h13)
    have W1z := W1.ne_pen P1
    have W2z := W2.ne_pen P11
    have V1 := (W1.ex E1).fw f16 W1z
    have V2 := (W2.ex E11).fw f16 W2z
    obtain ⟨j, rfl⟩ : ∃ i : Nat, j = (i : Int) := ⟨j.toNat, by omega⟩
    obtain ⟨y, hy, no⟩ : ∃ y, ([V.non, .ref x, .ref a2, .ref a3, .ref a4, .ref a5, .ref a6, .ref a7, .ref a8, .ref a10, .ref a12, .ref a13] : List V)[j]? = some y ∧ ∀ H'', Go z H16 H'' → NoPc T.k_Word.C H'' b y := by
      have nt : ∀ {ys : List V}, ∀ ps, HO.tup ys ≠ .tbl ps := fun ps q => by cases q
      have nls : ∀ {ys : List V}, ∀ ps, HO.lst ys ≠ .tbl ps := fun ps q => by cases q
      match j, j1 with
      | 0, _ => exact ⟨_, rfl, fun J g => .thing .non (by decide)⟩
      | 1, _ => exact ⟨_, rfl, fun J g => .thing (.own (V1.go g W1z)) (by decide)⟩
      | 2, _ => exact ⟨_, rfl, fun J g => .long (g _ _ z2 nt g2) (by show 1 ≠ 2; decide)⟩
      | 3, _ => exact ⟨_, rfl, fun J g => .long (g _ _ z3 nt g3) (by show 3 ≠ 2; decide)⟩
      | 4, _ => exact ⟨_, rfl, fun J g => .thing (.lst (g _ _ z4 nls g4)) (by decide)⟩
      | 5, _ => exact ⟨_, rfl, fun J g => .num (g _ _ z5 nt g5) (.int _) (fun n e => by cases e; decide)⟩
      | 6, _ => exact ⟨_, rfl, fun J g => .num (g _ _ z6 nt g6) (.bl _) (fun n e => by cases e)⟩
      | 7, _ => exact ⟨_, rfl, fun J g => .part (g _ _ z7 nt g7) (by decide) (by decide) (.int _) (by decide)⟩
      | 8, _ => exact ⟨_, rfl, fun J g => .num (g _ _ z8 nt g8) (.int _) (fun n e => by cases e; omega)⟩
      | 9, _ => exact ⟨_, rfl, fun J g => .num (g _ _ z10 nt g10) .non (fun n e => by cases e)⟩
      | 10, _ => exact ⟨_, rfl, fun J g => .wide (g _ _ z12 nt g12) (by decide) (by decide) (V2.go g W2z) (by omega)⟩
      | 11, _ => exact ⟨_, rfl, fun J g => .num (g _ _ z13 nt g13) (.str _) (fun n e => by cases e)⟩
      | j + 12, h => exact absurd h (by omega)
    exact ⟨a15, _, _, _, rfl, rfl, sq h, atI_nat hy, k y H16 no P16 ((e1.trans E1).fw.trans f16)⟩
theorem gives_heard {X : Cx} (T : Tx X.K X.mg) {q : Str} {cdg : Value} : LamX.GivesTo X ["_law_ask", "_law_heard_here", "error"] "_law_heard" (defScope s_law_heard) T.f_law_heard.a cdg (defBody s_law_heard) "_law_ask" q (TTH (HE2R T.e_BadWidth.C T.e_BadRows.C)) := by
  intro f c' s H Q tl act hc want
  refine ⟨_, pss_cons (ps_set (i := 1) sc_law_heard.nd rfl (.inl rfl) (pe_tup (pa_cons pe_str pa_nil)))
    (pss_cons (TzTry.ps_try_all rfl rfl sc_law_heard.nd (tb := fun W D z J => ∃ Ech : XK, (∀ k d z J, Ech k d J → W k d z J) ∧ z[0]? = some (some (.ref f)) ∧ J c' = some (LamX.CodeO c' q) ∧ ∃ Q0 : VK, tl Ech J Q0 ∧
        ∀ v J2, Q0 v J2 → ([V.str "made", v].length ≤ sizeLine ∧ ∀ p, J2 p = none → D.nx (z.set 1 (some (.ref p))) (upd J2 p (.tup [.str "made", v]))))
      (fun W pn xe tk _ => ⟨fun pins s' z J D I h' => ?_⟩)
      (.cons (c := .ref T.e_BadWidth.C) (i := 2) ⟨rfl, by decide, .inl T.e_BadWidth.m⟩ rfl rfl (fun a oe cls d pn hz hf => pss_one (ps_set (i := 1) sc_law_heard.nd rfl (.inl rfl) (pe_tup (pa_cons pe_str (pa_cons (pe_xf T.e_BadWidth.er.read T.n_BadWidth_width hz hf (pv 2)) pa_nil))))) (.cons (c := .ref T.e_BadRows.C) (i := 2) ⟨rfl, by decide, .inl T.e_BadRows.m⟩ rfl rfl (fun a oe cls d pn hz hf => pss_one (ps_set (i := 1) sc_law_heard.nd rfl (.inl rfl) (pe_tup (pa_cons pe_str (pa_cons (pe_xf T.e_BadRows.er.read T.n_BadRows_at hz hf (pv 2)) pa_nil))))) .nil))) (pss_one (ps_ret (pv 1)))), ?_⟩
  · obtain ⟨Ech, hW, h1, h2, Q0, h3, h4⟩ := h'
    exact (pss_one (ps_set (i := 1) sc_law_heard.nd rfl (.inl rfl) (pe_tup (pa_cons pe_str (pa_cons (pe_up (act W pn xe Ech _ _ tk hW)) pa_nil))))).run pins s' z J D I ⟨Q0, ⟨h1, h2, h3⟩, h4⟩
  · refine ⟨by show 1 ≤ sizeLine; decide, fun p np => ?_⟩
    refine ⟨HE2R T.e_BadWidth.C T.e_BadRows.C Q, fun k d z J hE len => ?_, rfl, by rw [upd_ne (ne_of_none hc np)]; exact hc, _, want _ (Ex.new np), fun v J2 h => ⟨by show 2 ≤ sizeLine; decide, fun p2 np2 => ⟨_, rfl, h _ _ np2 (Ex.new np2) upd_same⟩⟩⟩
    rcases hE with hE | hE
    · skip
      obtain ⟨rfl, dd, v0, rfl, hd, q⟩ := hE
      match z, len with
      | [z0, z1, z2], _ =>
        refine ⟨true, T.xm_BadWidth_BadWidth, fun _ a _ => ?_, fun q => Bool.noConfusion q⟩
        exact ⟨_, rfl, rfl, rfl, dd, _, _, rfl, hd, by simp [List.lookup], by show 2 ≤ sizeLine; decide, fun p np => ⟨_, rfl, q.go np⟩⟩
    · skip
      obtain ⟨rfl, dd, v0, rfl, hd, q⟩ := hE
      match z, len with
      | [z0, z1, z2], _ =>
        refine ⟨false, T.xm_BadRows_BadWidth, fun q => Bool.noConfusion q, fun _ => ?_⟩
        refine ⟨true, T.xm_BadRows_BadRows, fun _ a _ => ?_, fun q => Bool.noConfusion q⟩
        exact ⟨_, rfl, rfl, rfl, dd, _, _, rfl, hd, by simp [List.lookup], by show 2 ≤ sizeLine; decide, fun p np => ⟨_, rfl, q.go np⟩⟩

theorem pe_heard {X : Cx} (T : Tx X.K X.mg) {c P : Addr} (TB : LamX.TabB X.base X.mg c P) (hcode : X.env.code = .ref c) {TL : List (Addr × Str)} (hmT : (P, X.env.qual ++ "<lambda>") ∈ TL) (hu : ∀ p ∈ TL, p.1 = P → p.2 = X.env.qual ++ "<lambda>") {k : Nat} (hr : Room (k + 2) X.A)
    {params : Arguments} {body : Expr} {scope : Scope} {t : XK → TE} {p lpos pos : Pos} (L : LamX.LamS X.env.scope scope) (hdef : defaultsOf params X.env = ([], []))
    (hbind : ∀ (q : Str) (cl : List (Str × Addr)) (pm cv ctv : Value), bindArgs (PySem.W.kla_fn "<lambda>" q params body scope cl pm cv ctv) ⟨[], []⟩ = pure [])
    (hbody : ∀ (A : Around) (outer : List Env) (s : Shared) (H : Hp) (E : XK) (f c' : Addr), Room k (A.deeper (LamX.lamEnv X scope s.heap.objs.size f c')) → PE (LamX.lamCx X A outer s H E scope f c') body (t E))
    (hg : Gl X "_law_heard" := by rfl) : PE X (.Call (.Name "_law_heard" p) [.Lambda params body scope lpos] [] pos) (LamX.tLam TL (TTH (HE2R T.e_BadWidth.C T.e_BadRows.C)) t) := by
  obtain ⟨oc, od, kV, doc, pm, an, cdv, ct, osl, e, lk, code⟩ := T.f_law_heard.F.ex
  have bd := bd_law_heard T
  rw [e] at lk bd
  exact LamX.pe_lamcall hg T.f_law_heard.m T.f_law_heard.F.kp lk code bd sc_law_heard rfl (.inl rfl) (gives_heard T) TB hcode hmT hu hr L hdef hbind hbody
theorem kb_half_total (T : Tx K mg) : KBinds K T.f_half_total.fd ["width", "halves"] ["halves", "width"] kwX kwX where
  to := by
    obtain ⟨oc, od, kV, doc, pm, an, cdv, ct, osl, e, lk, hcd⟩ := T.f_half_total.F.ex
    rw [e]
    intro s us ws _ hl
    match us, ws, hl with
    | [], [_, _], _ => exact .of_eq rfl
  rel := kwX_vals

theorem kb_joined (T : Tx K mg) : KBinds K T.f_joined.fd ["width", "pieces"] ["width", "pieces"] kw2 kw2 where
  to := by
    obtain ⟨oc, od, kV, doc, pm, an, cdv, ct, osl, e, lk, hcd⟩ := T.f_joined.F.ex
    rw [e]
    intro s us ws _ hl
    match us, ws, hl with
    | [], [_, _], _ => exact .of_eq rfl
  rel := kw2_vals

set_option maxHeartbeats 40000000 in
theorem ok_law {Pr : Program} (T : Tx K mg) {c0 P : Addr} (TB : LamX.TabB base mg c0 P) (ec : (cP K).1 = c0) : FnQ Pr w K mg base 11 T.f_law.a T.f_law.fd ["_law_script"] (spLawT K (TL P)) := by
  refine fnqC T.f_law.F sc_law (fun fd oc od osl lk ci => (code_lam T fd oc od osl lk ci).trans (by rw [ec])) (fun vs H Q E h => ?_) (fun A outer s H vs Q gd hr h => ?_)
  · obtain ⟨a, ns, rfl, _⟩ := h
    rfl
  · obtain ⟨a, ns, rfl, hS, hl, TS, k⟩ := h
    refine ⟨_, (pss_cons (ps_set (i := 1) sc_law.nd rfl (Or.inl rfl) (pe_call (ok_law_pen T) (hr.mono (by decide)) (by rfl) T.f_law_pen.m T.f_law_pen.F.kp (bd_law_pen T) .nil pass0 (pa_cons (pv 0) pa_nil)))
      (pss_cons (ps_for PassesOwn.never rfl (pi_range1 (by rfl) T.b_range (pa_cons pe_int pa_nil)) (pg_name (i := 2) sc_law.nd rfl (Or.inl rfl)) (pss_cons (ps_set (i := 18) sc_law.nd rfl (Or.inr rfl) (pe_op op_mul pe_int (pe_ix ix_list (pe_lst (pa_cons pe_int (pa_cons pe_int (pa_cons pe_int (pa_cons pe_int (pa_cons pe_int (pa_cons pe_int (pa_cons (pe_op op_add pe_int (pe_call (ok_law_draw T) (hr.mono (by decide)) (by rfl) T.f_law_draw.m T.f_law_draw.F.kp (bd_law_draw T) .nil pass0 (pa_cons (pv 1) (pa_cons pe_int pa_nil)))) pa_nil)))))))) (pe_call (ok_law_draw T) (hr.mono (by decide)) (by rfl) T.f_law_draw.m T.f_law_draw.F.kp (bd_law_draw T) .nil pass0 (pa_cons (pv 1) (pa_cons pe_int pa_nil))) (fun _ _ => rfl))))
      (pss_cons (ps_set (i := 3) sc_law.nd rfl (Or.inl rfl) (pe_call (ok_law_halves T) (hr.mono (by decide)) (by rfl) T.f_law_halves.m T.f_law_halves.F.kp (bd_law_halves T) .nil pass0 (pa_cons (pv 1) (pa_cons (pv 18) pa_nil))))
      (pss_cons (ps_set (i := 4) sc_law.nd rfl (Or.inl rfl) (pe_call (ok_law_cut T) (hr.mono (by decide)) (by rfl) T.f_law_cut.m T.f_law_cut.F.kp (bd_law_cut T) .nil pass0 (pa_cons (pv 1) (pa_cons (pv 3) pa_nil))))
      (pss_cons (ps_setLc (i := 5) (own := [("_law_row", 20)]) (g := gName 20) (tt := tYes) rfl sc_law.nd rfl rfl (sw_true rfl rfl rfl (by decide +kernel)) (pi_list (pv 4)) (blkOk_by (own := [("_law_row", 20)]) (N := ["_law_script", "_law_pen_here", "_law_turn", "_law_whole_row", "_law_rows", "_law_told", "_law_due", "_law_kept", "_law_more_so", "_law_place", "_law_pieces_so", "_law_at", "_law_both", "_law_far", "_law_again", "_law_odd", "_law_spot", "_law_bent", "_law_wide", "_law_wrong", "_law_row"]) (sc := defScope s_law) (by decide +kernel)) (fun _ _ _ _ _ => pg_name (i := 20) sc_law.nd rfl (Or.inl rfl)) (fun _ _ _ _ _ => pts_nil) (fun _ _ _ _ _ => (pe_tup (pa_cons (pe_callB (call_len_seqK (K := K) rfl) (by rfl) T.b_len (by decide +kernel) (pa_cons (pv 20) pa_nil)) (pa_cons (pe_call (ok_half_total T) (hr.mono (by decide)) (by rfl) T.f_half_total.m T.f_half_total.F.kp (bd_half_total T) .nil passX0 (pa_cons (pv 18) (pa_cons (pv 20) pa_nil))) pa_nil)))))
      (pss_cons (ps_set (i := 6) sc_law.nd rfl (Or.inl rfl) (pe_callB (TzRepr.repr_ins (ok_Word_repr_ T) (hr.mono (by decide)) T.f_Word_repr_.M (bd_Word_repr_ T) pass0) (by rfl) T.b_repr (by decide +kernel) (pa_cons (pe_make (mk_Word T) (ok_Word_init_ T) (hr.mono (by decide)) (by rfl) T.k_Word.m (bd_Word_init_ T) .nil pass0 (pa_cons (pv 18) (pa_cons (pe_call (ok_law_by_places T) (hr.mono (by decide)) (by rfl) T.f_law_by_places.m T.f_law_by_places.F.kp (bd_law_by_places T) .nil pass0 (pa_cons (pv 18) (pa_cons (pv 3) pa_nil))) pa_nil))) pa_nil)))
      (pss_cons (ps_set (i := 7) sc_law.nd rfl (Or.inl rfl) (pe_callB (repr_listA (fun a => mon_Kept) (fun a => rpG_Kept (ok_Word_repr_ T) T.f_Word_repr_.M (bd_Word_repr_ T) pass0 a) gd (hr.mono (by decide))) (by rfl) T.b_repr (by decide +kernel) (pa_cons (pe_lst (pa_cons (pv 3) (pa_cons (pv 5) pa_nil))) pa_nil)))
      (pss_cons (ps_if (PW.pt (pw_or (pt_cmpR op_ne (pe_callB (TzRepr.repr_ins (ok_Word_repr_ T) (hr.mono (by decide)) T.f_Word_repr_.M (bd_Word_repr_ T) pass0) (by rfl) T.b_repr (by decide +kernel) (pa_cons (pe_callKx (ok_half_total T) (hr.mono (by decide)) (by rfl) T.f_half_total.m T.f_half_total.F.kp (kb_half_total T) passX0 (pk_cons (pv 3) (pk_cons (pv 18) pk_nil))) pa_nil)) (pv 6) (nomark _)) (pw_or1 (pt_cmpR op_ne (pe_callB (TzRepr.repr_ins (ok_Word_repr_ T) (hr.mono (by decide)) T.f_Word_repr_.M (bd_Word_repr_ T) pass0) (by rfl) T.b_repr (by decide +kernel) (pa_cons (pe_call (ok_joined T) (hr.mono (by decide)) (by rfl) T.f_joined.m T.f_joined.F.kp (bd_joined T) .nil passX0 (pa_cons (pv 18) (pa_cons (pv 5) pa_nil))) pa_nil)) (pv 6) (nomark _))))) (pss_one (ps_ret pe_bl)) pss_nil)
      (Evl.pss_cut (ps_if (pt_cmpR op_ne (pe_callB (repr_listA (fun a => mon_Kept) (fun a => rpG_Kept (ok_Word_repr_ T) T.f_Word_repr_.M (bd_Word_repr_ T) pass0 a) gd (hr.mono (by decide))) (by rfl) T.b_repr (by decide +kernel) (pa_cons (pe_lst (pa_cons (pv 3) (pa_cons (pv 5) pa_nil))) pa_nil)) (pv 7) (nomark _)) (pss_one (ps_ret pe_bl)) pss_nil)
      (pss_cons (ps_par (i := 8) (j := 9) (by rfl) sc_law.nd rfl rfl (by decide) rfl rfl (pa_cons (pe_call (ok_law_strange T) (hr.mono (by decide)) (by rfl) T.f_law_strange.m T.f_law_strange.F.kp (bd_law_strange T) .nil pass0 (pa_cons (pv 1) (pa_cons (pv 18) pa_nil))) (pa_cons (pe_call (ok_law_draw T) (hr.mono (by decide)) (by rfl) T.f_law_draw.m T.f_law_draw.F.kp (bd_law_draw T) .nil pass0 (pa_cons (pv 1) (pa_cons (pe_op op_add (pe_callB call_len_seq (by rfl) T.b_len (by decide +kernel) (pa_cons (pv 5) pa_nil)) pe_int) pa_nil))) pa_nil)) (by rfl))
      (pss_cons (ps_set (i := 10) sc_law.nd rfl (Or.inl rfl) (pe_op op_cat (pe_op op_cat (pe_slice sl_list (pv 5) po_none (po_some (pv 9))) (pe_lst (pa_cons (pv 8) pa_nil))) (pe_slice sl_list (pv 5) (po_some (pv 9)) po_none)))
      (Evl.pss_cut (ps_if (pt_cmpR op_ne (pe_callB (TzRepr.repr_ins (ok_Word_repr_ T) (hr.mono (by decide)) T.f_Word_repr_.M (bd_Word_repr_ T) pass0) (by rfl) T.b_repr (by decide +kernel) (pa_cons (pe_call (ok_joined T) (hr.mono (by decide)) (by rfl) T.f_joined.m T.f_joined.F.kp (bd_joined T) .nil passX0 (pa_cons (pv 18) (pa_cons (pv 10) pa_nil))) pa_nil)) (pe_callB (TzRepr.repr_ins (ok_Word_repr_ T) (hr.mono (by decide)) T.f_Word_repr_.M (bd_Word_repr_ T) pass0) (by rfl) T.b_repr (by decide +kernel) (pa_cons (pe_make (mk_Word T) (ok_Word_init_ T) (hr.mono (by decide)) (by rfl) T.k_Word.m (bd_Word_init_ T) .nil pass0 (pa_cons (pv 18) (pa_cons (pe_call (ok_law_by_pieces T) (hr.mono (by decide)) (by rfl) T.f_law_by_pieces.m T.f_law_by_pieces.F.kp (bd_law_by_pieces T) .nil pass0 (pa_cons (pv 18) (pa_cons (pv 10) pa_nil))) pa_nil))) pa_nil)) (nomark _)) (pss_one (ps_ret pe_bl)) pss_nil)
      (pss_cons (ps_set (i := 11) sc_law.nd rfl (Or.inl rfl) (pe_call (ok_law_draw T) (hr.mono (by decide)) (by rfl) T.f_law_draw.m T.f_law_draw.F.kp (bd_law_draw T) .nil pass0 (pa_cons (pv 1) (pa_cons (pe_op op_sub (pe_callB call_len_seq (by rfl) T.b_len (by decide +kernel) (pa_cons (pv 5) pa_nil)) pe_int) pa_nil))))
      (pss_cons (ps_set (i := 12) sc_law.nd rfl (Or.inl rfl) (pe_tup (pa_cons (pe_op op_add (pe_ix ix_tup (pe_ix ix_list (pv 5) (pv 11) (fun _ _ => rfl)) pe_int (fun _ _ => rfl)) (pe_ix ix_tup (pe_ix ix_list (pv 5) (pe_op op_add (pv 11) pe_int) (fun _ _ => rfl)) pe_int (fun _ _ => rfl))) (pa_cons (pe_callKx (ok_joined T) (hr.mono (by decide)) (by rfl) T.f_joined.m T.f_joined.F.kp (kb_joined T) passX0 (pk_cons (pv 18) (pk_cons (pe_slice sl_list (pv 5) (po_some (pv 11)) (po_some (pe_op op_add (pv 11) pe_int))) pk_nil))) pa_nil))))
      (pss_cons (ps_set (i := 13) sc_law.nd rfl (Or.inl rfl) (pe_op op_add (pe_op op_mul pe_int (pe_op op_pow pe_int pe_int)) (pe_op op_mul pe_int (pe_call (ok_law_draw T) (hr.mono (by decide)) (by rfl) T.f_law_draw.m T.f_law_draw.F.kp (bd_law_draw T) .nil pass0 (pa_cons (pv 1) (pa_cons pe_int pa_nil))))))
      (pss_cons (ps_set (i := 14) sc_law.nd rfl (Or.inl rfl) (pe_op op_cat (pe_op op_cat (pe_slice sl_list (pv 5) po_none (po_some (pv 11))) (pe_lst (pa_cons (pe_tup (pa_cons (pe_op op_add (pe_ix ix_tup (pv 12) pe_int (fun _ _ => rfl)) (pv 13)) (pa_cons (pe_ix ix_tup (pv 12) pe_int (fun _ _ => rfl)) pa_nil))) pa_nil))) (pe_slice sl_list (pv 5) (po_some (pe_op op_add (pv 11) pe_int)) po_none)))
      (Evl.pss_cut (ps_if (pt_cmpR op_ne (pe_callB (TzRepr.repr_ins (ok_Word_repr_ T) (hr.mono (by decide)) T.f_Word_repr_.M (bd_Word_repr_ T) pass0) (by rfl) T.b_repr (by decide +kernel) (pa_cons (pe_call (ok_joined T) (hr.mono (by decide)) (by rfl) T.f_joined.m T.f_joined.F.kp (bd_joined T) .nil passX0 (pa_cons (pv 18) (pa_cons (pv 14) pa_nil))) pa_nil)) (pv 6) (nomark _)) (pss_one (ps_ret pe_bl)) pss_nil)
      (pss_cons (ps_par (i := 15) (j := 16) (by rfl) sc_law.nd rfl rfl (by decide) rfl rfl (pa_cons (pe_call (ok_law_no_piece T) (hr.mono (by decide)) (by rfl) T.f_law_no_piece.m T.f_law_no_piece.F.kp (bd_law_no_piece T) .nil pass0 (pa_cons (pv 1) (pa_cons (pv 18) pa_nil))) (pa_cons (pe_call (ok_law_draw T) (hr.mono (by decide)) (by rfl) T.f_law_draw.m T.f_law_draw.F.kp (bd_law_draw T) .nil pass0 (pa_cons (pv 1) (pa_cons (pe_op op_add (pe_callB call_len_seq (by rfl) T.b_len (by decide +kernel) (pa_cons (pv 5) pa_nil)) pe_int) pa_nil))) pa_nil)) (by rfl))
      (Evl.pss_cut (ps_set (i := 17) sc_law.nd rfl (Or.inr rfl) (pe_op op_cat (pe_op op_cat (pe_op op_cat (pe_slice sl_list (pv 5) po_none (po_some (pv 16))) (pe_lst (pa_cons (pv 15) pa_nil))) (pe_slice sl_list (pv 5) (po_some (pv 16)) po_none)) (pe_op op_rep (pe_lst (pa_cons pe_non pa_nil)) (pe_call (ok_law_draw T) (hr.mono (by decide)) (by rfl) T.f_law_draw.m T.f_law_draw.F.kp (bd_law_draw T) .nil pass0 (pa_cons (pv 1) (pa_cons pe_int pa_nil))))))
      (Evl.pss_cut (ps_if (pt_cmpR op_ne (pe_callB (repr_tupA (fun a => mon_Thg) (fun a => rpG_Thg (ok_Word_repr_ T) T.f_Word_repr_.M (bd_Word_repr_ T) pass0 a) gd (hr.mono (by decide))) (by rfl) T.b_repr (by decide +kernel) (pa_cons (pe_heard T TB (TL := TL P) (by rfl) (by exact List.mem_singleton.mpr rfl) (by exact fun p hp _ => by rw [List.mem_singleton.mp hp]; rfl) (k := 8) (hr.mono (by decide)) (show LamX.LamS (defScope s_law) _ from LamX.lamS_by (by decide +kernel)) (by rfl) (by exact fun _ _ _ _ _ => rfl) (fun A outer s H E f c' hr2 => (pe_call (ok_joined T) (hr2.mono (by decide)) (by rfl) T.f_joined.m T.f_joined.F.kp (bd_joined T) .nil (passes_call (takes_of rfl rfl rfl rfl) fun _ _ _ _ z => z) (pa_cons (pv 18) (pa_cons (pv 17) pa_nil))))) pa_nil)) (pe_callB (repr_tupA (fun a => mon_Thg) (fun a => rpG_Thg (ok_Word_repr_ T) T.f_Word_repr_.M (bd_Word_repr_ T) pass0 a) gd (hr.mono (by decide))) (by rfl) T.b_repr (by decide +kernel) (pa_cons (pe_tup (pa_cons pe_str (pa_cons (pv 16) pa_nil))) pa_nil)) (nomark _)) (pss_one (ps_ret pe_bl)) pss_nil)
      (pss_cons (ps_set (i := 19) sc_law.nd rfl (Or.inr rfl) (pe_ix ix_list (pe_lst (pa_cons (pe_op op_add (pv 18) pe_int) (pa_cons pe_int (pa_cons pe_non (pa_cons pe_int (pa_cons pe_bl pa_nil)))))) (pe_call (ok_law_draw T) (hr.mono (by decide)) (by rfl) T.f_law_draw.m T.f_law_draw.F.kp (bd_law_draw T) .nil pass0 (pa_cons (pv 1) (pa_cons pe_int pa_nil))) (fun _ _ => rfl)))
      (pss_one (ps_if (pt_cmpR op_ne (pe_callB (repr_tupA (fun a => mon_Thg) (fun a => rpG_Thg (ok_Word_repr_ T) T.f_Word_repr_.M (bd_Word_repr_ T) pass0 a) gd (hr.mono (by decide))) (by rfl) T.b_repr (by decide +kernel) (pa_cons (pe_heard T TB (TL := TL P) (by rfl) (by exact List.mem_singleton.mpr rfl) (by exact fun p hp _ => by rw [List.mem_singleton.mp hp]; rfl) (k := 8) (hr.mono (by decide)) (show LamX.LamS (defScope s_law) _ from LamX.lamS_by (by decide +kernel)) (by rfl) (by exact fun _ _ _ _ _ => rfl) (fun A outer s H E f c' hr2 => (pe_call (ok_joined T) (hr2.mono (by decide)) (by rfl) T.f_joined.m T.f_joined.F.kp (bd_joined T) .nil (passes_call (takes_of rfl rfl rfl rfl) fun _ _ _ _ z => z) (pa_cons (pv 19) (pa_cons (pv 17) pa_nil))))) pa_nil)) (pe_callB (repr_tupA (fun a => mon_Thg) (fun a => rpG_Thg (ok_Word_repr_ T) T.f_Word_repr_.M (bd_Word_repr_ T) pass0 a) gd (hr.mono (by decide))) (by rfl) T.b_repr (by decide +kernel) (pa_cons (pe_tup (pa_cons pe_str (pa_cons (pv 19) pa_nil))) pa_nil)) (nomark _)) (pss_one (ps_ret pe_bl)) pss_nil)))))))))))))))))))))))
      (pss_one (ps_ret (pe_cmpR op_eq (pe_callB (TzRepr.repr_ins (ok_Word_repr_ T) (hr.mono (by decide)) T.f_Word_repr_.M (bd_Word_repr_ T) pass0) (by rfl) T.b_repr (by decide +kernel) (pa_cons (pe_call (ok_joined T) (hr.mono (by decide)) (by rfl) T.f_joined.m T.f_joined.F.kp (bd_joined T) .nil passX0 (pa_cons pe_int (pa_cons (pe_lst pa_nil) pa_nil))) pa_nil)) (pe_callB (TzRepr.repr_ins (ok_Word_repr_ T) (hr.mono (by decide)) T.f_Word_repr_.M (bd_Word_repr_ T) pass0) (by rfl) T.b_repr (by decide +kernel) (pa_cons (pe_make (mk_Word T) (ok_Word_init_ T) (hr.mono (by decide)) (by rfl) T.k_Word.m (bd_Word_init_ T) .nil pass0 (pa_cons pe_int (pa_cons pe_int pa_nil))) pa_nil)) (nomark _)))))), ?_⟩
    refine ⟨_, rfl, a, ns, rfl, hS, hl, fun z c H1 P1 e1 nz nc => ?_⟩
    have TS1 := TS.ext e1
    refine ⟨5, rfl, by decide, by decide, for_range (n := 5) (fun i σ' H' => PenAt H' z c ns (i * 90) ∧ LamX.Tabs (TL P) H' ∧ ∃ o2 o3 o4 o5 o6 o7 o8 o9 o10 o11 o12 o13 o14 o15 o16 o17 o18 o19 o20, σ' = [some (.ref a), some (.ref z), o2, o3, o4, o5, o6, o7, o8, o9, o10, o11, o12, o13, o14, o15, o16, o17, o18, o19, o20]) ⟨P1, TS1, _, _, _, _, _, _, _, _, _, _, _, _, _, _, _, _, _, _, _, rfl⟩ ?_ ?_⟩
    · rintro i σ' H2 hi ⟨P2, T2, o2, o3, o4, o5, o6, o7, o8, o9, o10, o11, o12, o13, o14, o15, o16, o17, o18, o19, o20, rfl⟩
      refine ⟨_, rfl, z, c, ns, i * 90, 32, rfl, P2, by omega, by decide, by decide, fun n H3 n0 n1 P3 f3 => ?_⟩
      have T3 := tabs_go T2 f3 P2.isl
      refine ⟨_, _, rfl, rfl, by show 7 ≤ sizeLine; decide, fun B nB => ?_⟩
      (generalize g_H4 : upd _ B _ = H4); have hB := gat g_H4; have e4 := gex g_H4 nB; clear g_H4
      refine ⟨_, rfl, z, c, ns, i * 90 + 1, 7, rfl, P3.ex e4, by omega, by decide, by decide, fun j H5 j0 j1 P5 f5 => ?_⟩
      have T5 := tabs_go (T3.ext e4) f5 (P3.ex e4).isl
      obtain ⟨j, rfl⟩ : ∃ i : Nat, j = (i : Int) := ⟨j.toNat, by omega⟩
      obtain ⟨n, rfl⟩ : ∃ i : Nat, n = (i : Int) := ⟨n.toNat, by omega⟩
      have hB5 := f5 _ _ (P3.off nB).1 hB
      obtain ⟨b, hbb, b1, b2⟩ : ∃ b : Nat, ([V.int 1, .int 1, .int 2, .int 4, .int 8, .int 32, .int (1 + (n : Int))] : List V)[j]? = some (.int (b : Int)) ∧ 1 ≤ b ∧ b ≤ 32 := by
        match j, j1 with
        | 0, _ => exact ⟨1, rfl, by decide, by decide⟩
        | 1, _ => exact ⟨1, rfl, by decide, by decide⟩
        | 2, _ => exact ⟨2, rfl, by decide, by decide⟩
        | 3, _ => exact ⟨4, rfl, by decide, by decide⟩
        | 4, _ => exact ⟨8, rfl, by decide, by decide⟩
        | 5, _ => exact ⟨32, rfl, by decide, by decide⟩
        | 6, _ => exact ⟨1 + n, by rw [show ((1 + n : Nat) : Int) = 1 + (n : Int) by omega]; rfl, by omega, by omega⟩
        | j + 7, h => exact absurd h (by omega)
      refine ⟨B, _, _, _, rfl, rfl, sq hB5, atI_nat hbb, ?_⟩
      refine ⟨_, _, rfl, rfl, .inl ⟨by decide, by decide⟩, ?_⟩
      dsimp only
      rw [show (2 : Int) * (b : Int) = ((2 * b : Nat) : Int) by omega]
      have w1 : 1 ≤ 2 * b := by omega
      have w64 : 2 * b ≤ 64 := by omega
      have m64 := mw_64 w64
      -- the halves, the pieces
      refine ⟨_, rfl, _, rfl, z, c, ns, i * 90 + 2, b, rfl, P5, by omega, b1, b2, fun l hs H6 hl6 hh few lz P6 f6 => ?_⟩
      have T6 := tabs_go T5 f6 P5.isl
      refine ⟨_, rfl, _, rfl, z, c, ns, _, l, hs, rfl, P6, by omega, hl6, few, lz, fun L as rows H7 hL RA fl r2 r6 nL nas P7 f7 => ?_⟩
      have T7 := tabs_go T6 f7 P6.isl
      have hl7 := f7 _ _ lz hl6
      have Hr : ∀ r ∈ rows, Halfs b r := fun r hr h hx => hh h (by rw [← fl]; exact List.mem_flatten.mpr ⟨r, hr, hx⟩)
      have rl : ∀ r ∈ rows, r.length ≤ 9 := fun r hr => by
        have q := (List.sublist_flatten_of_mem hr).length_le
        rw [fl] at q
        omega
      -- what is told of them
      refine ⟨_, rfl, L, rfl, ⟨_, sq hL⟩, fun D nD => lc_list (K := K) (a := L) (xs := as.map V.ref) (fun i H' => Ex H7 H' ∧ ∃ ys, H' D = some (.lst ys) ∧ Pcs T.k_Word.C H' b ys ((tellP b rows).take i) ∧ ys.length = i) ⟨Ex.new nD, [], upd_same, Pcs.nil, rfl⟩ (fun i H' _ y => sq (y.1 _ _ hL)) ?_ ?_⟩
      · rintro j y H8 hy ⟨e8, ys, hD, PY, ly⟩
        have jl : j < as.length := by
          have := (List.getElem?_eq_some_iff.mp hy).1
          rwa [List.length_map] at this
        have jr : j < rows.length := by rw [← RA.1]; exact jl
        rw [List.getElem?_map, List.getElem?_eq_getElem jl] at hy
        have ey := (Option.some.inj hy).symm
        subst ey
        have har := e8 _ _ (RA.2 j _ _ (List.getElem?_eq_getElem jl) (List.getElem?_eq_getElem jr))
        have mr := List.getElem_mem jr
        refine ⟨rfl, yes_go ?_⟩
        refine ⟨_, rfl, _, _, rfl, .inl (sq har), ?_⟩
        refine ⟨_, rfl, _, rfl, .int ((2 * b : Nat) : Int), .int, _, _, rfl, .int _, har, .inr ⟨b, rfl, b1, b2, .inr ⟨rows[j], rfl, Hr _ mr, by have := rl _ mr; omega, fun x H9 nx e9 W => ?_⟩⟩⟩
        refine ⟨by show 2 ≤ sizeLine; decide, fun p np => ?_⟩
        (generalize g_H10 : upd _ p _ = H10); have hp := gat g_H10; have e10 := gex g_H10 np; clear g_H10
        have hD10 := (e9.trans e10) _ _ hD
        rw [pk_pl] at W
        rw [List.length_map] at hp
        have QT : (tellP b rows).take (j + 1) = (tellP b rows).take j ++ [((rows[j].length : Int), cr (2 * b) (pl b 0 rows[j]))] := by
          rw [List.take_add_one]
          congr 1
          unfold tellP
          rw [List.getElem?_map, List.getElem?_eq_getElem jr]
          rfl
        have kU : ∀ a o, H10 a = some o → (∀ ps, o ≠ .tbl ps) → (∀ xs, o ≠ .lst xs) → upd H10 D (.lst (ys ++ [.ref p])) a = some o := fun a o h _ n => by
          rw [upd_ne (fun e => by rw [e, hD10] at h; exact n _ (Option.some.inj h).symm)]
          exact h
        refine ⟨ys, hD10, ?_, fun a o h => ?_, ys ++ [.ref p], upd_same, ?_, ?_⟩
        · exact Nat.lt_of_lt_of_le (show ys.length < 200 by omega) (by decide)
        · rw [upd_ne (ne_of_none h nD)]
          exact (e9.trans e10) _ _ (e8 _ _ h)
        · rw [QT]
          refine ((PY.ex (e9.trans e10)).keep kU).app (.one (PcAt.keep ⟨p, x, rfl, hp, by show (0 : Int) ≤ (rows[j].length : Int); omega, ?_, W.ex e10⟩ kU))
          have := rl _ mr
          show (rows[j].length : Int) ≤ 1000000000000000000000000000000
          omega
        · rw [List.length_append, ly]
          rfl
      rintro H8 ⟨e8, ys, hD, PY, ly⟩
      have eT : (tellP b rows).take (as.map V.ref).length = tellP b rows := List.take_of_length_le (by rw [List.length_map, RA.1]; unfold tellP; rw [List.length_map]; exact Nat.le_refl _)
      rw [eT] at PY
      have Vq := tellP_nn b1 rows
      have sm : ∀ q ∈ tellP b rows, (0 ≤ q.1 ∧ q.1 ≤ 100) ∧ 0 ≤ q.2 ∧ q.2 < 18446744073709551616 := fun q hq => by
        obtain ⟨r, hr, rfl⟩ := List.mem_map.mp hq
        have := rl r hr
        have cb := cr_bd (w := 2 * b) w1 (pl b 0 r)
        exact ⟨⟨by show (0 : Int) ≤ (r.length : Int); omega, by show (r.length : Int) ≤ 100; omega⟩, cb.1, by show cr (2 * b) (pl b 0 r) < _; omega⟩
      have nq : (tellP b rows).length = rows.length := List.length_map ..
      have eS : cr (2 * b) (tp b 0 (tellP b rows)) = cr (2 * b) (pl b 0 hs) := by
        rw [tell_is b1 0 (fun r hr x hx => (Hr r hr x hx).1), fl]
      generalize tellP b rows = qs at PY Vq sm nq eS
      clear eT
      have lq := PY.1
      have Dz := (P7.off nD).1
      have P8 := P7.ex e8
      have T8 := T7.ext e8
      have hl8 := e8 _ _ hl7
      have cb := cr_bd (w := 2 * b) w1 (pl b 0 hs)
      refine ⟨_, rfl, _, rfl, _, rfl, b, l, hs, rfl, b1, b2, hl8, hh, by omega, fun x dx nx ndx _ => mk_word1 w1 w64 cb.1 cb.2 nx ndx fun H9 e9 W9 => ⟨rfl, ?_⟩⟩
      obtain ⟨dn, hn9⟩ := W9.ob
      refine ⟨x, dn, _, rfl, hn9, x, _, rfl, ⟨2 * b, _, W9, rfl⟩, fun H10 e10 => ⟨⟨_, rfl⟩, ?_⟩⟩

      -- what is kept
      refine ⟨_, rfl, _, rfl, by show 2 ≤ sizeLine; decide, fun kp nkp => ?_⟩
      (generalize g_H11 : upd _ kp _ = H11); have hk := gat g_H11; have e11 := gex g_H11 nkp; clear g_H11
      have E10 := e9.trans e10
      have E11 := E10.trans e11
      have few64 : ∀ h ∈ hs, 0 ≤ h ∧ h ≤ 18446744073709551616 := fun h hx => by
        have q := hh h hx
        have m := mw_64 (w := b) (by omega)
        have e := hmax_mw b
        omega
      have sh := kept_short (b := b) b2 few64 sm few (by omega)
      have sm1 : ∀ q ∈ qs, 0 ≤ q.1 ∧ q.1 ≤ 100 := fun q hq => (sm q hq).1
      refine ⟨kp, _, _, rfl, hk, kept_each hk (E11 _ _ hl8) (E11 _ _ hD) (PY.ex E11) (ne_of_none (E10 _ _ hl8) nkp) (ne_of_none (E10 _ _ hD) nkp) few64 sm1, sh, fun H12 e12 => ?_⟩
      have E12 := E11.trans e12
      refine ⟨_, rfl, _, rfl, .int ((2 * b : Nat) : Int), .int, l, _, rfl, .int _, E12 _ _ hl8, .inr ⟨b, rfl, b1, b2, .inr ⟨hs, rfl, hh, by omega, fun hw H13 nw e13 Wt => ?_⟩⟩⟩
      rw [pk_pl] at Wt
      obtain ⟨dw, hhw⟩ := Wt.ob
      refine ⟨hw, dw, _, rfl, hhw, hw, _, rfl, ⟨2 * b, _, Wt, rfl⟩, fun H14 e14 => ⟨⟨_, rfl⟩, ?_⟩⟩

      refine ⟨_, rfl, rfl, _, rfl, iteNS rfl ?_⟩
      have E14 := (E12.trans e13).trans e14
      refine ⟨_, rfl, _, rfl, .int ((2 * b : Nat) : Int), .int, D, ys, rfl, .int _, E14 _ _ hD, .inr ⟨b, rfl, b1, b2, .inl ⟨qs, PY.ex E14, by omega, fun hv H15 nv e15 Wj => ?_⟩⟩⟩
      rw [jv_tp b1 Vq, eS] at Wj
      obtain ⟨dv, hhv⟩ := Wj.ob
      refine ⟨hv, dv, _, rfl, hhv, hv, _, rfl, ⟨2 * b, _, Wj, rfl⟩, fun H16 e16 => ⟨⟨_, rfl⟩, ?_⟩⟩

      refine ⟨_, rfl, rfl, _, rfl, iteNS rfl ?_⟩
      have E16 := (E14.trans e15).trans e16
      refine ⟨fun σ' H' => PenAt H' z c ns (i * 90 + 54) ∧ LamX.Tabs (TL P) H' ∧ H' D = some (.lst ys) ∧ Pcs T.k_Word.C H' b ys qs ∧ ∃ o2 o3 o4 o7 o8 o9 o10 o11 o12 o13 o14 o15 o16 o17 o19 o20, σ' = [some (.ref a), some (.ref z), o2, o3, o4, some (.ref D), some (.str (wtext (2 * b) (cr (2 * b) (pl b 0 hs)))), o7, o8, o9, o10, o11, o12, o13, o14, o15, o16, o17, some (.int ((2 * b : Nat) : Int)), o19, o20], ?_, ?_⟩
      · skip
        refine ⟨_, rfl, _, rfl, by show 2 ≤ sizeLine; decide, fun kq nkq => ?_⟩
        (generalize g_H17 : upd _ kq _ = H17); have hkq := gat g_H17; have e17 := gex g_H17 nkq; clear g_H17
        have E17 := E16.trans e17
        refine ⟨kq, _, _, rfl, hkq, kept_each hkq (E17 _ _ hl8) (E17 _ _ hD) (PY.ex E17) (ne_of_none (E16 _ _ hl8) nkq) (ne_of_none (E16 _ _ hD) nkq) few64 sm1, sh, fun H18 e18 => ?_⟩
        refine ⟨_, rfl, rfl, _, rfl, iteNS rfl ?_⟩
        have E18 := E17.trans e18
        exact ⟨(P8.ex E18).mono (by omega), T8.ext E18, E18 _ _ hD, PY.ex E18, _, _, _, _, _, _, _, _, _, _, _, _, _, _, _, _, rfl⟩
      rintro σ' H18 ⟨P18, T18, hD18, PY18, o2, o3, o4, o7, o8, o9, o10, o11, o12, o13, o14, o15, o16, o17, o19, o20, rfl⟩
      -- a piece more
      refine ⟨_, rfl, _, rfl, z, c, ns, _, b, rfl, P18, by omega, b1, b2, fun sy sq_ H19 PcS P19 f19 => ?_⟩
      have T19 := tabs_go T18 f19 P18.isl
      have hD19 := f19 _ _ Dz hD18
      have PY19 := PY18.fw f19 P18
      refine ⟨_, rfl, _, rfl, D, _, rfl, .inl (sq hD19), _, _, rfl, rfl, z, c, ns, _, _, rfl, P19, by omega, by omega, by omega, fun place H20 p0 p1 P20 f20 => ?_⟩
      refine ⟨_, _, rfl, ?_⟩
      obtain ⟨place, rfl⟩ : ∃ i : Nat, place = (i : Int) := ⟨place.toNat, by omega⟩
      have pll : place ≤ ys.length := by omega
      have T20 := tabs_go T19 f20 P19.isl
      have hD20 := f20 _ _ Dz hD19
      have PY20 := PY19.fw f20 P19
      have PcS20 := PcS.fw f20 P19
      refine ⟨_, rfl, _, rfl, _, rfl, D, _, rfl, sq hD20, fun b3 nb3 => ?_⟩
      rw [cut_toV pll]
      (generalize g_H21 : upd _ b3 _ = H21); have hb3 := gat g_H21; have e21 := gex g_H21 nb3; clear g_H21
      refine ⟨_, rfl, by show 1 ≤ sizeLine; decide, fun a3 na3 => ?_⟩
      (generalize g_H22 : upd _ a3 _ = H22); have ha3 := gat g_H22; have e22 := gex g_H22 na3; clear g_H22
      refine ⟨b3, a3, _, _, rfl, rfl, e22 _ _ hb3, ha3, Nat.le_trans (show _ ≤ 100 by simp only [List.length_append, List.length_take, List.length_drop, List.length_cons, List.length_nil]; omega) (by decide), fun r1 nr1 => ?_⟩
      (generalize g_H23 : upd _ r1 _ = H23); have hr1 := gat g_H23; have e23 := gex g_H23 nr1; clear g_H23
      refine ⟨_, rfl, _, rfl, _, rfl, D, _, rfl, sq (((e21.trans e22).trans e23) _ _ hD20), fun b4 nb4 => ?_⟩
      rw [cut_fromV pll]
      (generalize g_H24 : upd _ b4 _ = H24); have hb4 := gat g_H24; have e24 := gex g_H24 nb4; clear g_H24
      refine ⟨r1, b4, _, _, rfl, rfl, e24 _ _ hr1, hb4, Nat.le_trans (show _ ≤ 100 by simp only [List.length_append, List.length_take, List.length_drop, List.length_cons, List.length_nil]; omega) (by decide), fun r2_ nr2_ => ?_⟩
      (generalize g_H25 : upd _ r2_ _ = H25); have hr2 := gat g_H25; have e25 := gex g_H25 nr2_; clear g_H25
      have E25 := (((e21.trans e22).trans e23).trans e24).trans e25
      have PS : Pcs T.k_Word.C H25 b (ys.take place ++ [sy] ++ ys.drop place) (qs.take place ++ [sq_] ++ qs.drop place) := (((PY20.ex E25).take place).app (.one (PcS20.ex E25))).app ((PY20.ex E25).drop place)
      have VS : Vn (qs.take place ++ [sq_] ++ qs.drop place) := ((Vq.take _).app (.one PcS20.val.1)).app (Vq.drop _)
      have lS : (qs.take place ++ [sq_] ++ qs.drop place).length ≤ 100 := by
        simp only [List.length_append, List.length_take, List.length_drop, List.length_cons, List.length_nil]
        omega
      generalize qs.take place ++ [sq_] ++ qs.drop place = qs2 at PS VS lS
      generalize ys.take place ++ [sy] ++ ys.drop place = ys2 at PS hr2
      refine ⟨fun σ' H' => PenAt H' z c ns (i * 90 + 61) ∧ LamX.Tabs (TL P) H' ∧ H' D = some (.lst ys) ∧ Pcs T.k_Word.C H' b ys qs ∧ ∃ o2 o3 o4 o7 o8 o9 o10 o11 o12 o13 o14 o15 o16 o17 o19 o20, σ' = [some (.ref a), some (.ref z), o2, o3, o4, some (.ref D), some (.str (wtext (2 * b) (cr (2 * b) (pl b 0 hs)))), o7, o8, o9, o10, o11, o12, o13, o14, o15, o16, o17, some (.int ((2 * b : Nat) : Int)), o19, o20], ?_, ?_⟩
      · skip
        refine ⟨_, rfl, _, rfl, .int ((2 * b : Nat) : Int), .int, r2_, _, rfl, .int _, hr2, .inr ⟨b, rfl, b1, b2, .inl ⟨qs2, PS, lS, fun hv2 H26 nv2 e26 Wj2 => ?_⟩⟩⟩
        rw [jv_tp b1 VS] at Wj2
        obtain ⟨dv2, hhv2⟩ := Wj2.ob
        refine ⟨hv2, dv2, _, rfl, hhv2, hv2, _, rfl, ⟨2 * b, _, Wj2, rfl⟩, fun H27 e27 => ⟨⟨_, rfl⟩, ?_⟩⟩

        have E27 := e26.trans e27
        have cb2 := cr_bd (w := 2 * b) w1 (tp b 0 qs2)
        refine ⟨_, rfl, _, rfl, _, rfl, b, r2_, _, _, rfl, b1, b2, E27 _ _ hr2, PS.ex E27, VS, fun H28 e28 => ?_⟩
        refine fun x2 dx2 nx2 ndx2 _ => mk_word1 w1 w64 cb2.1 cb2.2 nx2 ndx2 fun H29 e29 W29 => ⟨rfl, ?_⟩
        obtain ⟨dn2, hn29⟩ := W29.ob
        refine ⟨x2, dn2, _, rfl, hn29, x2, _, rfl, ⟨2 * b, _, W29, rfl⟩, fun H30 e30 => ⟨⟨_, rfl⟩, ?_⟩⟩

        refine ⟨rfl, _, rfl, iteNS rfl ?_⟩
        have E30 := E25.trans (((E27.trans e28).trans e29).trans e30)
        exact ⟨(P20.ex E30).mono (by omega), T20.ext E30, E30 _ _ hD20, PY20.ex E30, _, _, _, _, _, _, _, _, _, _, _, _, _, _, _, _, rfl⟩
      rintro σ' H30 ⟨P30, T30, hD30, PY30, o2, o3, o4, o7, o8, o9, o10, o11, o12, o13, o14, o15, o16, o17, o19, o20, rfl⟩
      -- two neighbours
      refine ⟨_, rfl, _, rfl, D, _, rfl, .inl (sq hD30), _, _, rfl, rfl, z, c, ns, _, _, rfl, P30, by omega, by omega, by omega, fun at_ H31 t0 t1 P31 f31 => ?_⟩
      obtain ⟨at_, rfl⟩ : ∃ i : Nat, at_ = (i : Int) := ⟨at_.toNat, by omega⟩
      have al : at_ + 2 ≤ ys.length := by omega
      have T31 := tabs_go T30 f31 P30.isl
      have hD31 := f31 _ _ Dz hD30
      have PY31 := PY30.fw f31 P30
      obtain ⟨y0, g0⟩ : ∃ y, ys[at_]? = some y := ⟨_, List.getElem?_eq_getElem (by omega)⟩
      obtain ⟨y1, g1⟩ : ∃ y, ys[at_ + 1]? = some y := ⟨_, List.getElem?_eq_getElem (by omega)⟩
      obtain ⟨⟨m0, v0⟩, h0⟩ : ∃ q, qs[at_]? = some q := ⟨_, List.getElem?_eq_getElem (by omega)⟩
      obtain ⟨⟨m1, v1⟩, h1⟩ : ∃ q, qs[at_ + 1]? = some q := ⟨_, List.getElem?_eq_getElem (by omega)⟩
      have pc0 := PY31.2 at_ _ _ g0 h0
      have pc1 := PY31.2 (at_ + 1) _ _ g1 h1
      have s0 := sm _ (List.mem_of_getElem? h0)
      have s1 := sm _ (List.mem_of_getElem? h1)
      obtain ⟨q0, x0, rfl, hq0, _⟩ := id pc0
      obtain ⟨q1, x1, rfl, hq1, _⟩ := id pc1
      have a1 : atI ys ((at_ : Int) + 1) = some (.ref q1) := by
        rw [show ((at_ : Int) + 1) = ((at_ + 1 : Nat) : Int) by omega]
        exact atI_nat g1
      refine ⟨_, rfl, _, rfl, D, _, _, _, rfl, rfl, sq hD31, atI_nat g0, q0, _, _, .int m0, rfl, rfl, sqt hq0, rfl, ?_⟩
      refine ⟨_, rfl, _, rfl, _, _, rfl, rfl, D, _, _, _, rfl, rfl, sq hD31, a1, q1, _, _, .int m1, rfl, rfl, sqt hq1, rfl, _, _, rfl, rfl, ?_⟩
      refine ⟨_, rfl, _, rfl, _, rfl, _, rfl, _, rfl, _, _, rfl, rfl, _, rfl, D, _, rfl, sq hD31, fun b5 nb5 => ?_⟩
      rw [show ((at_ : Int) + 2) = ((at_ + 2 : Nat) : Int) by omega, cut_two al, drop2 g0 g1]
      (generalize g_H32 : upd _ b5 _ = H32); have hb5 := gat g_H32; have e32 := gex g_H32 nb5; clear g_H32
      have hb5 : H32 b5 = some (.lst [.ref q0, .ref q1]) := hb5
      have pc2 : Pcs T.k_Word.C H32 b [.ref q0, .ref q1] [(m0, v0), (m1, v1)] := ((Pcs.one pc0).app (Pcs.one pc1)).ex e32
      have V2 : Vn [(m0, v0), (m1, v1)] := (Vn.one (q := (m0, v0)) s0.2.1).app (Vn.one (q := (m1, v1)) s1.2.1)
      refine ⟨.int ((2 * b : Nat) : Int), .int, b5, _, rfl, .int _, hb5, .inr ⟨b, rfl, b1, b2, .inl ⟨_, pc2, by show 2 ≤ 100; decide, fun hv3 H33 nv3 e33 W3 => ?_⟩⟩⟩
      rw [jv_tp b1 V2] at W3
      refine ⟨by show 2 ≤ sizeLine; decide, fun bp nbp => ?_⟩
      (generalize g_H34 : upd _ bp _ = H34); have hbp := gat g_H34; have e34 := gex g_H34 nbp; clear g_H34
      have E34 := (e32.trans e33).trans e34
      have P34 := P31.ex E34
      have bpz := ((P31.ex (e32.trans e33)).off nbp).1
      refine ⟨_, _, rfl, rfl, ⟨by decide, by decide, by decide⟩, _, _, rfl, rfl, .inl ⟨by decide, by decide⟩, ?_⟩
      refine ⟨_, rfl, z, c, ns, _, 9, rfl, P34, by omega, by decide, by decide, fun d H35 d0 d1 P35 f35 => ?_⟩
      refine ⟨_, _, rfl, rfl, .inl ⟨by decide, by decide⟩, _, _, rfl, rfl, ?_⟩
      have e29_ : (10 : Int) ^ (29 : Int).toNat = 100000000000000000000000000000 := by decide +kernel
      dsimp only
      rw [e29_]
      obtain ⟨far, ef, fr0, fr2, fr1⟩ : ∃ far : Int, 2 * 100000000000000000000000000000 + 2 * d = far ∧ 0 ≤ far ∧ far % 2 = 0 ∧ far ≤ 300000000000000000000000000000 := ⟨_, rfl, by omega, by omega, by omega⟩
      rw [ef]
      have T35 := tabs_go (T31.ext E34) f35 P34.isl
      have hD35 := f35 _ _ Dz (E34 _ _ hD31)
      have PY35 := (PY31.ex E34).fw f35 P34
      have hbp35 := f35 _ _ bpz hbp
      have W35 := ((W3.ex e34).fw f35 ((W3.ex e34).ne_pen P34))
      refine ⟨_, rfl, _, rfl, _, rfl, D, _, rfl, sq hD35, fun b6 nb6 => ?_⟩
      rw [cut_toV (by omega)]
      (generalize g_H36 : upd _ b6 _ = H36); have hb6 := gat g_H36; have e36 := gex g_H36 nb6; clear g_H36
      have hbp36 := e36 _ _ hbp35
      refine ⟨_, rfl, bp, _, _, .int (m0 + m1), rfl, rfl, sqt hbp36, rfl, _, rfl, _, _, rfl, rfl, _, rfl, bp, _, _, .ref hv3, rfl, rfl, sqt hbp36, rfl, by show 2 ≤ sizeLine; decide, fun tq ntq => ?_⟩
      (generalize g_H37 : upd _ tq _ = H37); have htq := gat g_H37; have e37 := gex g_H37 ntq; clear g_H37
      refine ⟨by show 1 ≤ sizeLine; decide, fun a6 na6 => ?_⟩
      (generalize g_H38 : upd _ a6 _ = H38); have ha6 := gat g_H38; have e38 := gex g_H38 na6; clear g_H38
      refine ⟨b6, a6, _, _, rfl, rfl, (e37.trans e38) _ _ hb6, ha6, Nat.le_trans (show _ ≤ 100 by simp only [List.length_append, List.length_take, List.length_drop, List.length_cons, List.length_nil]; omega) (by decide), fun r3 nr3 => ?_⟩
      (generalize g_H39 : upd _ r3 _ = H39); have hr3 := gat g_H39; have e39 := gex g_H39 nr3; clear g_H39
      refine ⟨_, rfl, _, rfl, _, _, rfl, rfl, _, rfl, D, _, rfl, sq ((((e36.trans e37).trans e38).trans e39) _ _ hD35), fun b7 nb7 => ?_⟩
      rw [show ((at_ : Int) + 2) = ((at_ + 2 : Nat) : Int) by omega, cut_fromV al]
      (generalize g_H40 : upd _ b7 _ = H40); have hb7 := gat g_H40; have e40 := gex g_H40 nb7; clear g_H40
      refine ⟨r3, b7, _, _, rfl, rfl, e40 _ _ hr3, hb7, Nat.le_trans (show _ ≤ 100 by simp only [List.length_append, List.length_take, List.length_drop, List.length_cons, List.length_nil]; omega) (by decide), fun r4 nr4 => ?_⟩
      (generalize g_H41 : upd _ r4 _ = H41); have hr4 := gat g_H41; have e41 := gex g_H41 nr4; clear g_H41
      have E41 := (((e37.trans e38).trans e39).trans e40).trans e41
      have E41b := e36.trans E41
      have PA3 : Pcs T.k_Word.C H41 b (ys.take at_ ++ [.ref tq] ++ ys.drop (at_ + 2)) (qs.take at_ ++ [(m0 + m1 + far, cr (2 * b) (tp b 0 [(m0, v0), (m1, v1)]))] ++ qs.drop (at_ + 2)) :=
        (((PY35.ex E41b).take at_).app (.one ⟨tq, hv3, rfl, ((((e38.trans e39).trans e40).trans e41) _ _ htq), by show 0 ≤ m0 + m1 + far; omega, by show m0 + m1 + far ≤ 1000000000000000000000000000000; omega, W35.ex E41b⟩)).app ((PY35.ex E41b).drop (at_ + 2))
      have c2 := cr_bd (w := 2 * b) w1 (tp b 0 [(m0, v0), (m1, v1)])
      have VA : Vn (qs.take at_ ++ [(m0 + m1 + far, cr (2 * b) (tp b 0 [(m0, v0), (m1, v1)]))] ++ qs.drop (at_ + 2)) := ((Vq.take _).app (.one c2.1)).app (Vq.drop _)
      have eA : cr (2 * b) (tp b 0 (qs.take at_ ++ [(m0 + m1 + far, cr (2 * b) (tp b 0 [(m0, v0), (m1, v1)]))] ++ qs.drop (at_ + 2))) = cr (2 * b) (pl b 0 hs) := by
        rw [List.append_assoc, List.singleton_append, both_is b1 (Vq.take at_) (Vq.drop (at_ + 2)) s0.2.1 s1.2.1 fr2, ← drop2 h0 h1, List.take_append_drop, eS]
      refine ⟨fun σ' H' => PenAt H' z c ns (i * 90 + 63) ∧ LamX.Tabs (TL P) H' ∧ H' D = some (.lst ys) ∧ Pcs T.k_Word.C H' b ys qs ∧ ∃ o2 o3 o4 o7 o8 o9 o10 o11 o12 o13 o14 o15 o16 o17 o19 o20, σ' = [some (.ref a), some (.ref z), o2, o3, o4, some (.ref D), some (.str (wtext (2 * b) (cr (2 * b) (pl b 0 hs)))), o7, o8, o9, o10, o11, o12, o13, o14, o15, o16, o17, some (.int ((2 * b : Nat) : Int)), o19, o20], ?_, ?_⟩
      · skip
        refine ⟨_, rfl, _, rfl, .int ((2 * b : Nat) : Int), .int, r4, _, rfl, .int _, hr4, .inr ⟨b, rfl, b1, b2, .inl ⟨_, PA3, by simp only [List.length_append, List.length_take, List.length_drop, List.length_cons, List.length_nil]; omega, fun hv4 H42 nv4 e42 Wj4 => ?_⟩⟩⟩
        rw [jv_tp b1 VA, eA] at Wj4
        obtain ⟨dv4, hhv4⟩ := Wj4.ob
        refine ⟨hv4, dv4, _, rfl, hhv4, hv4, _, rfl, ⟨2 * b, _, Wj4, rfl⟩, fun H43 e43 => ⟨⟨_, rfl⟩, ?_⟩⟩

        refine ⟨_, rfl, rfl, _, rfl, iteNS rfl ?_⟩
        have E43 := (E41b.trans e42).trans e43
        exact ⟨(P35.ex E43).mono (by omega), T35.ext E43, E43 _ _ hD35, PY35.ex E43, _, _, _, _, _, _, _, _, _, _, _, _, _, _, _, _, rfl⟩
      rintro σ' H43 ⟨P43, T43, hD43, PY43, o2, o3, o4, o7, o8, o9, o10, o11, o12, o13, o14, o15, o16, o17, o19, o20, rfl⟩
      -- a thing that is no piece
      refine ⟨_, rfl, _, rfl, z, c, ns, _, b, rfl, P43, by omega, b1, b2, fun od H44 no P44 f44 => ?_⟩
      have T44 := tabs_go T43 f44 P43.isl
      have hD44 := f44 _ _ Dz hD43
      have PY44 := PY43.fw f44 P43
      refine ⟨_, rfl, _, rfl, D, _, rfl, .inl (sq hD44), _, _, rfl, rfl, z, c, ns, _, _, rfl, P44, by omega, by omega, by omega, fun spot H45 u0 u1 P45 f45 => ?_⟩
      refine ⟨_, _, rfl, ?_⟩
      obtain ⟨spn, tk, tq, etk, etq, esp⟩ : ∃ (spn : Nat) (tk : List V) (tq : List (Int × Int)), ys.take spn = tk ∧ qs.take spn = tq ∧ spot = (tk.length : Int) := ⟨spot.toNat, _, _, rfl, rfl, by rw [List.length_take]; omega⟩
      subst esp
      have spl : tk.length ≤ ys.length := by omega
      have etl : ys.take tk.length = tk := by
        rw [← etk]
        by_cases q : spn ≤ ys.length
        · rw [List.length_take, Nat.min_eq_left q]
        · rw [List.length_take, Nat.min_eq_right (by omega), List.take_of_length_le (Nat.le_refl _), List.take_of_length_le (by omega)]
      have T45 := tabs_go T44 f45 P44.isl
      have hD45 := f45 _ _ Dz hD44
      have PY45 := PY44.fw f45 P44
      refine ⟨fun σ' H' => PenAt H' z c ns (i * 90 + 66) ∧ LamX.Tabs (TL P) H' ∧ Pcs T.k_Word.C H' b tk tq ∧ (∀ J, LamX.ExtN H' J → NoPc T.k_Word.C J b od) ∧ ∃ bn rest, H' bn = some (.lst (tk ++ od :: rest)) ∧ bn ≠ z ∧ ∃ o2 o3 o4 o5 o6 o7 o8 o9 o10 o11 o12 o13 o14 o15 o19 o20, σ' = [some (.ref a), some (.ref z), o2, o3, o4, o5, o6, o7, o8, o9, o10, o11, o12, o13, o14, o15, some (.int (tk.length : Int)), some (.ref bn), some (.int ((2 * b : Nat) : Int)), o19, o20], ?_, ?_⟩
      · skip
        refine ⟨_, rfl, _, rfl, _, rfl, D, _, rfl, sq hD45, fun c3 nc3 => ?_⟩
        rw [cut_toV spl, etl]
        (generalize g_H46 : upd _ c3 _ = H46); have hc3 := gat g_H46; have e46 := gex g_H46 nc3; clear g_H46
        refine ⟨_, rfl, by show 1 ≤ sizeLine; decide, fun c4 nc4 => ?_⟩
        (generalize g_H47 : upd _ c4 _ = H47); have hc4 := gat g_H47; have e47 := gex g_H47 nc4; clear g_H47
        refine ⟨c3, c4, _, _, rfl, rfl, e47 _ _ hc3, hc4, Nat.le_trans (show _ ≤ 100 by simp only [List.length_append, List.length_take, List.length_drop, List.length_cons, List.length_nil]; omega) (by decide), fun c5 nc5 => ?_⟩
        (generalize g_H48 : upd _ c5 _ = H48); have hc5 := gat g_H48; have e48 := gex g_H48 nc5; clear g_H48
        refine ⟨_, rfl, _, rfl, _, rfl, D, _, rfl, sq (((e46.trans e47).trans e48) _ _ hD45), fun c6 nc6 => ?_⟩
        rw [cut_fromV spl]
        (generalize g_H49 : upd _ c6 _ = H49); have hc6 := gat g_H49; have e49 := gex g_H49 nc6; clear g_H49
        refine ⟨c5, c6, _, _, rfl, rfl, e49 _ _ hc5, hc6, Nat.le_trans (show _ ≤ 100 by simp only [List.length_append, List.length_take, List.length_drop, List.length_cons, List.length_nil]; omega) (by decide), fun c7 nc7 => ?_⟩
        (generalize g_H50 : upd _ c7 _ = H50); have hc7 := gat g_H50; have e50 := gex g_H50 nc7; clear g_H50
        refine ⟨by show 1 ≤ sizeLine; decide, fun c8 nc8 => ?_⟩
        (generalize g_H51 : upd _ c8 _ = H51); have hc8 := gat g_H51; have e51 := gex g_H51 nc8; clear g_H51
        have E49 := ((e46.trans e47).trans e48).trans e49
        have E51 := (E49.trans e50).trans e51
        have P51 := P45.ex E51
        refine ⟨_, rfl, z, c, ns, _, 2, rfl, P51, by omega, by decide, by decide, fun m H52 k0 k1 P52 f52 => ?_⟩
        have hc8b := f52 _ _ ((P45.ex (E49.trans e50)).off nc8).1 hc8
        have hc7b := f52 _ _ ((P45.ex E49).off nc7).1 (e51 _ _ hc7)
        refine ⟨c8, m, _, rfl, rfl, hc8b, by omega, by omega, ?_, fun c9 nc9 => ?_⟩
        · show 1 * m.toNat ≤ sizeLine
          exact Nat.le_trans (show 1 * m.toNat ≤ 100 by omega) (by decide)
        (generalize g_H53 : upd _ c9 _ = H53); have hc9 := gat g_H53; have e53 := gex g_H53 nc9; clear g_H53
        refine ⟨c7, c9, _, _, rfl, rfl, e53 _ _ hc7b, hc9, ?_, fun bn nbn => ?_⟩
        · simp only [List.length_append, List.length_take, List.length_drop, List.length_cons, List.length_nil, List.length_flatten, List.map_replicate, List.sum_replicate_nat]
          exact Nat.le_trans (show _ ≤ 100 by omega) (by decide)
        (generalize g_H54 : upd _ bn _ = H54); have hbn := gat g_H54; have e54 := gex g_H54 nbn; clear g_H54
        obtain ⟨rest, hbn⟩ : ∃ rest, H54 bn = some (.lst (tk ++ od :: rest)) := ⟨_, by rw [hbn, List.append_assoc, List.append_assoc]; rfl⟩
        have P54 := (P52.ex e53).ex e54
        have T54 := ((tabs_go (T45.ext E51) f52 P51.isl).ext e53).ext e54
        have PY54 := (((PY45.ex E51).fw f52 P51).ex e53).ex e54
        have G54 : Go z H44 H54 := fun a o n nt h => (e53.trans e54) _ _ (f52 _ _ n (E51 _ _ (f45 _ _ n h)))
        exact ⟨P54, T54, (by rw [← etk, ← etq]; exact PY54.take spn), fun J g => no J fun a o n nt h => g _ _ (G54 a o n nt h) nt, bn, rest, hbn, ((P52.ex e53).off nbn).1, _, _, _, _, _, _, _, _, _, _, _, _, _, _, _, _, rfl⟩
      rintro σ' H54 ⟨P54, T54, PT, no54, bn, rest, hbn, bnz, o2, o3, o4, o5, o6, o7, o8, o9, o10, o11, o12, o13, o14, o15, o19, o20, rfl⟩
      have tk6 : tk.length ≤ 6 := by omega
      clear no PY45 hD45 T45 P45 T44 P44 PY44 hD44
      have nls : ∀ {ys : List V}, ∀ ps, HO.lst ys ≠ .tbl ps := fun ps q => by cases q
      have szr : (tupleText [reprText "rows", PyData.shown (.int (tk.length : Int))]).length ≤ sizeLine := two_short (by decide +kernel) (len_64 (by omega) (by omega))
      refine ⟨fun σ' H' => PenAt H' z c ns (i * 90 + 66) ∧ LamX.Tabs (TL P) H' ∧ H' bn = some (.lst (tk ++ od :: rest)) ∧ ∃ o2 o3 o4 o5 o6 o7 o8 o9 o10 o11 o12 o13 o14 o15 o16 o19 o20, σ' = [some (.ref a), some (.ref z), o2, o3, o4, o5, o6, o7, o8, o9, o10, o11, o12, o13, o14, o15, o16, some (.ref bn), some (.int ((2 * b : Nat) : Int)), o19, o20], ?_, ?_⟩
      · skip
        refine ⟨T54, fun K2 g2 U2 K3 e3 => ?_⟩
        have G3 : LamX.ExtN H54 K3 := g2.trans (exn e3)
        refine ⟨_, rfl, _, rfl, .int ((2 * b : Nat) : Int), .int, bn, _, rfl, .int _, G3 _ _ hbn nls, .inr ⟨b, rfl, b1, b2, .inr ⟨tk, od, rest, tq, rfl, PT.ext G3, no54 _ G3, ?_⟩⟩⟩
        refine fly_rows fun J1 i1 p J2 np i2 hp => ?_
        refine ⟨p, _, _, rfl, .inl (.inl hp), two_each th_str (th_nat (by omega)), szr, fun J3 i3 => ?_⟩
        refine ⟨_, rfl, by show 2 ≤ sizeLine; decide, fun q nq_ => ?_⟩
        refine ⟨q, _, _, rfl, .inl (.inl upd_same), two_each th_str (th_nat (by omega)), szr, fun J4 i4 => ?_⟩
        refine ⟨rfl, _, rfl, iteNS rfl ?_⟩
        have XQ := Ex.new (o := .tup [.str "rows", .int (tk.length : Int)]) nq_
        have G4 : LamX.ExtN H54 J4 := ((((G3.trans (exn i1)).trans (exn i2)).trans (exn i3)).trans (exn XQ)).trans (exn i4)
        have T4 : LamX.Tabs (TL P) J4 := (((((U2.ext e3).ext i1).ext i2).ext i3).ext XQ).ext i4
        have P4 := P54.ext G4
        have hbn4 := G4 _ _ hbn nls
        exact ⟨P4, T4, hbn4, _, _, _, _, _, _, _, _, _, _, _, _, _, _, _, _, _, rfl⟩
      rintro σ' J4 ⟨P4, T4, hbn4, o2, o3, o4, o5, o6, o7, o8, o9, o10, o11, o12, o13, o14, o15, o16, o19, o20, rfl⟩
      -- a width that is wrong
      refine ⟨_, rfl, _, _, rfl, rfl, by show 5 ≤ sizeLine; decide, fun ww nww => ?_⟩
      (generalize g_H60 : upd _ ww _ = H60); have hw60 := gat g_H60; have e60 := gex g_H60 nww; clear g_H60
      refine ⟨_, rfl, z, c, ns, _, 5, rfl, P4.ex e60, by omega, by decide, by decide, fun j H61 j0 j1 P61 f61 => ?_⟩
      have hw61 := f61 _ _ (P4.off nww).1 hw60
      have T61 := tabs_go (T4.ext e60) f61 (P4.ex e60).isl
      have hbn61 := f61 _ _ bnz (e60 _ _ hbn4)
      obtain ⟨j, rfl⟩ : ∃ i : Nat, j = (i : Int) := ⟨j.toNat, by omega⟩
      obtain ⟨y, g, ty, hy, dy, oy, sy_, ly_, ry⟩ : ∃ y g ty, ([V.int (((2 * b : Nat) : Int) + 1), .int 0, .non, .int 66, .bl true] : List V)[j]? = some y ∧ (∀ H', Kd T.k_Word.C H' y g) ∧ OddW y ∧ (∀ H', Shown T.k_Word.C H' y ty) ∧ ty.length ≤ 100 ∧ ∀ a, y ≠ .ref a := by
        have int : ∀ n : Int, 0 ≤ n → n ≤ 66 → (∀ b : Nat, 1 ≤ b → b ≤ 32 → n ≠ ((2 * b : Nat) : Int)) → (∀ H', Kd T.k_Word.C H' (.int n) .int) ∧ OddW (.int n) ∧ (∀ H', Shown T.k_Word.C H' (.int n) (PyData.shown (.int n))) ∧ (PyData.shown (.int n)).length ≤ 100 ∧ ∀ a, V.int n ≠ .ref a := fun n h0 h1 h2 =>
          ⟨fun _ => .int n, fun b q1 q2 e => h2 b q1 q2 (V.int.inj e), fun _ => sh_int (log_64 h0 (by omega)), len_64 h0 (by omega), fun a e => by cases e⟩
        match j, j1 with
        | 0, _ => exact ⟨_, _, _, rfl, int _ (by omega) (by omega) fun b' _ _ => by omega⟩
        | 1, _ => exact ⟨_, _, _, rfl, int 0 (by decide) (by decide) fun b _ _ => by omega⟩
        | 2, _ => exact ⟨_, _, _, rfl, fun _ => .non, (fun b _ _ e => by cases e), fun _ => sh_non, by decide, fun a e => by cases e⟩
        | 3, _ => exact ⟨_, _, _, rfl, int 66 (by decide) (by decide) fun b _ _ => by omega⟩
        | 4, _ => exact ⟨_, _, _, rfl, fun _ => .bl true, (fun b _ _ e => by cases e), fun _ => sh_bl true, len_bl _, fun a e => by cases e⟩
        | j + 5, h => exact absurd h (by omega)
      refine ⟨ww, _, _, _, rfl, rfl, sq hw61, atI_nat hy, ?_⟩
      have szw : (tupleText [reprText "wide", ty]).length ≤ sizeLine := two_short (by decide +kernel) ly_
      refine ⟨T61, fun K5 g5 U5 K6 e6 => ?_⟩
      have G6 : LamX.ExtN H61 K6 := g5.trans (exn e6)
      refine ⟨_, rfl, _, rfl, y, g, bn, _, rfl, dy _, G6 _ _ hbn61 nls, .inl ⟨oy, fly_wide fun I1 k1 p I2 np k2 hp => ?_⟩⟩
      refine ⟨p, _, _, rfl, .inl (.inl hp), two_each th_str (mon_Thg _ _ _ _ k2 ((sy_ _).at np)), szw, fun I3 k3 => ?_⟩
      refine ⟨_, rfl, by show 2 ≤ sizeLine; decide, fun q nq_ => ?_⟩
      refine ⟨q, _, _, rfl, .inl (.inl upd_same), two_each th_str ((sy_ _).atN (ry _)), szw, fun I4 k4 => ?_⟩
      refine ⟨rfl, _, rfl, iteNS rfl ?_⟩
      have XQ2 := Ex.new (o := .tup [.str "wide", y]) nq_
      exact ⟨(P61.ext (((((G6.trans (exn k1)).trans (exn k2)).trans (exn k3)).trans (exn XQ2)).trans (exn k4))).mono (by omega), (((((U5.ext e6).ext k1).ext k2).ext k3).ext XQ2).ext k4, _, _, _, _, _, _, _, _, _, _, _, _, _, _, _, _, _, _, _, rfl⟩
    · rintro σ' H2 ⟨P2, T2, o2, o3, o4, o5, o6, o7, o8, o9, o10, o11, o12, o13, o14, o15, o16, o17, o18, o19, o20, rfl⟩
      refine ⟨by show 0 ≤ sizeLine; decide, fun q nq => ?_⟩
      (generalize g_H3 : upd _ q _ = H3); have hq := gat g_H3; have e3 := gex g_H3 nq; clear g_H3
      refine ⟨.int 2, .int, q, [], rfl, .int _, hq, .inr ⟨1, rfl, by decide, by decide, .inl ⟨[], .nil, by decide, fun x H4 nx e4 W => ?_⟩⟩⟩
      obtain ⟨dx, hx⟩ := W.ob
      refine ⟨x, dx, _, rfl, hx, x, _, rfl, ⟨2, _, W, rfl⟩, fun H5 e5 => ⟨⟨_, rfl⟩, ?_⟩⟩
      refine fun x2 dx2 nx2 ndx2 _ => mk_word1 (w := 2) (by decide) (by decide) (by decide) (Int.le_of_lt (mw_pos (by decide))) nx2 ndx2 fun H6 e6 W6 => ⟨rfl, ?_⟩
      obtain ⟨d6, h6⟩ := W6.ob
      refine ⟨x2, d6, _, rfl, h6, x2, _, rfl, ⟨2, _, W6, rfl⟩, fun H7 e7 => ⟨⟨_, rfl⟩, ?_⟩⟩
      refine ⟨rfl, ?_⟩
      have e : decide (V.str (wtext 2 (jv 1 0 0 [])) = V.str (wtext 2 0)) = true := decide_eq_true rfl
      rw [e]
      exact k H7
end
end Tz
namespace TzH
open PySem PySem.Spec PyProof.Rows L2 TzF Tz
def fn : List He.DefD := [⟨("BadWord", some "__init__"), "__init__", "BadWord.__init__", defArgs s_BadWord_init_, defBody s_BadWord_init_, defScope s_BadWord_init_, [], []⟩, ⟨("BadWidth", some "__init__"), "__init__", "BadWidth.__init__", defArgs s_BadWidth_init_, defBody s_BadWidth_init_, defScope s_BadWidth_init_, [], []⟩, ⟨("BadRows", some "__init__"), "__init__", "BadRows.__init__", defArgs s_BadRows_init_, defBody s_BadRows_init_, defScope s_BadRows_init_, [], []⟩, ⟨("is_whole", none), "is_whole", "is_whole", defArgs s_is_whole, defBody s_is_whole, defScope s_is_whole, [], []⟩, ⟨("is_from", none), "is_from", "is_from", defArgs s_is_from, defBody s_is_from, defScope s_is_from, [], []⟩, ⟨("most_value", none), "most_value", "most_value", defArgs s_most_value, defBody s_most_value, defScope s_most_value, [], []⟩, ⟨("checked_width", none), "checked_width", "checked_width", defArgs s_checked_width, defBody s_checked_width, defScope s_checked_width, [], []⟩, ⟨("Word", some "__init__"), "__init__", "Word.__init__", defArgs s_Word_init_, defBody s_Word_init_, defScope s_Word_init_, [], []⟩, ⟨("carried_round", none), "carried_round", "carried_round", defArgs s_carried_round, defBody s_carried_round, defScope s_carried_round, [], []⟩, ⟨("sum_word", none), "sum_word", "sum_word", defArgs s_sum_word, defBody s_sum_word, defScope s_sum_word, [], []⟩, ⟨("Word", some "__repr__"), "__repr__", "Word.__repr__", defArgs s_Word_repr_, defBody s_Word_repr_, defScope s_Word_repr_, [], []⟩, ⟨("checked_even", none), "checked_even", "checked_even", defArgs s_checked_even, defBody s_checked_even, defScope s_checked_even, [], []⟩, ⟨("check_halves", none), "check_halves", "check_halves", defArgs s_check_halves, defBody s_check_halves, defScope s_check_halves, [], []⟩, ⟨("packed", none), "packed", "packed", defArgs s_packed, defBody s_packed, defScope s_packed, [], []⟩, ⟨("half_total", none), "half_total", "half_total", defArgs s_half_total, defBody s_half_total, defScope s_half_total, [], []⟩, ⟨("checked_times", none), "checked_times", "checked_times", defArgs s_checked_times, defBody s_checked_times, defScope s_checked_times, [], []⟩, ⟨("turned", none), "turned", "turned", defArgs s_turned, defBody s_turned, defScope s_turned, [], []⟩, ⟨("Word", some "__lshift__"), "__lshift__", "Word.__lshift__", defArgs s_Word_lshift_, defBody s_Word_lshift_, defScope s_Word_lshift_, [], []⟩, ⟨("operand_value", none), "operand_value", "operand_value", defArgs s_operand_value, defBody s_operand_value, defScope s_operand_value, [], []⟩, ⟨("Word", some "__add__"), "__add__", "Word.__add__", defArgs s_Word_add_, defBody s_Word_add_, defScope s_Word_add_, [], []⟩, ⟨("is_piece", none), "is_piece", "is_piece", defArgs s_is_piece, defBody s_is_piece, defScope s_is_piece, [], []⟩, ⟨("check_pieces", none), "check_pieces", "check_pieces", defArgs s_check_pieces, defBody s_check_pieces, defScope s_check_pieces, [], []⟩, ⟨("joined", none), "joined", "joined", defArgs s_joined, defBody s_joined, defScope s_joined, [], []⟩, ⟨("_law_pen", none), "_law_pen", "_law_pen", defArgs s_law_pen, defBody s_law_pen, defScope s_law_pen, [], []⟩, ⟨("_law_draw", none), "_law_draw", "_law_draw", defArgs s_law_draw, defBody s_law_draw, defScope s_law_draw, [], []⟩, ⟨("_law_halves", none), "_law_halves", "_law_halves", defArgs s_law_halves, defBody s_law_halves, defScope s_law_halves, [], []⟩, ⟨("_law_by_places", none), "_law_by_places", "_law_by_places", defArgs s_law_by_places, defBody s_law_by_places, defScope s_law_by_places, [], []⟩, ⟨("_law_by_pieces", none), "_law_by_pieces", "_law_by_pieces", defArgs s_law_by_pieces, defBody s_law_by_pieces, defScope s_law_by_pieces, [], []⟩, ⟨("_law_cut", none), "_law_cut", "_law_cut", defArgs s_law_cut, defBody s_law_cut, defScope s_law_cut, [], []⟩, ⟨("_law_strange", none), "_law_strange", "_law_strange", defArgs s_law_strange, defBody s_law_strange, defScope s_law_strange, [], []⟩, ⟨("_law_no_piece", none), "_law_no_piece", "_law_no_piece", defArgs s_law_no_piece, defBody s_law_no_piece, defScope s_law_no_piece, [], []⟩, ⟨("_law_heard", none), "_law_heard", "_law_heard", defArgs s_law_heard, defBody s_law_heard, defScope s_law_heard, [], []⟩, ⟨("law", none), "law", "law", defArgs s_law, defBody s_law, defScope s_law, [], []⟩]
def fa : List He.Fa := [.free "int", .free "len", .free "abs", .free "list", .free "isinstance", .free "bool", .free "range", .free "str", .free "repr", .free "sum", .free "enumerate", .free "tuple", .int "MOST_TIMES" 1000000000000000000000000000000, .cls "Word", .glo "Word", .keep "Word", .glo "BadWidth", .noat "BadWidth" "width", .glo "BadWord", .noat "BadWord" "value", .glo "BadRows", .noat "BadRows" "at", .noat "Word" "width", .noat "Word" "value", .noat "Word" "rest", .noat "Word" "is_empty", .noat "Word" "is_full", .exm "BadWidth" "BadWidth" true, .exm "BadRows" "BadWidth" false, .exm "BadRows" "BadRows" true, .meth "BadWord" "__init__", .meth "BadWidth" "__init__", .meth "BadRows" "__init__", .glo "is_whole", .glo "is_from", .glo "most_value", .glo "checked_width", .meth "Word" "__init__", .glo "carried_round", .glo "sum_word", .meth "Word" "__repr__", .glo "checked_even", .glo "check_halves", .glo "packed", .glo "half_total", .glo "checked_times", .glo "turned", .meth "Word" "__lshift__", .glo "operand_value", .meth "Word" "__add__", .glo "is_piece", .glo "check_pieces", .glo "joined", .glo "_law_pen", .glo "_law_draw", .glo "_law_halves", .glo "_law_by_places", .glo "_law_by_pieces", .glo "_law_cut", .glo "_law_strange", .glo "_law_no_piece", .glo "_law_heard", .glo "law"]
def sm : List TzF.SM := [⟨"staticmethod", ("Word", "empty"), "Word.empty", s_Word_empty⟩]
def tf : List He.Defn := [("law", none)]
def ex0 (K : PySem.W.Frag) : Bool := aloneB K (He.ga K "Word")
def ex1 (K : PySem.W.Frag) : Bool := PySem.W.readsIn K (He.ga K "Word") (.type "type")
def ex2 (K : PySem.W.Frag) : Bool := eqV (PySem.W.specialIn K (.ref (He.ga K "Word")) "__getattribute__") (some (some (.builtin "type.__getattribute__")))
def ex3 (K : PySem.W.Frag) : Bool := PySem.W.makesIn K (He.ga K "Word")
def ex4 (K : PySem.W.Frag) : Bool := errB K (He.ga K "BadWidth")
def ex5 (K : PySem.W.Frag) : Bool := errB K (He.ga K "BadWord")
def ex6 (K : PySem.W.Frag) : Bool := errB K (He.ga K "BadRows")
def ex7 (K : PySem.W.Frag) : Bool := cvalB K (He.ga K "Word") "MOST_WIDTH" 64
def ex8 (K : PySem.W.Frag) : Bool := knownB K "__lshift__"
def ex9 (K : PySem.W.Frag) : Bool := knownB K "__rlshift__"
def ex10 (K : PySem.W.Frag) : Bool := eqV (PySem.W.findIn K (.ref (He.ga K "Word")) "__rlshift__") (some none)
def ex (K : PySem.W.Frag) : Bool := [ex0, ex1, ex2, ex3, ex4, ex5, ex6, ex7, ex8, ex9, ex10].all fun f => f K
abbrev R : PySem.W.OpenRow := PySem.W.OpenLaw.row PySem.Challenge.rw_twozeros_k12_whole_pieces_at_odd_places
abbrev hk : PySem.W.Hook := TzF.hookY 6 fa fn sm tf ex
def ob (s : PySem.W.SharedT) : TzF.AlY := TzF.obsY 6 fa fn sm tf ex (HandSHeadRun.getT s)
theorem ob_eq (s : PySem.W.SharedT) : ob s = hk.obs s.abs := TzF.obsY_eq (HandSHeadRun.getT_eq s)
def loose : List Str := (["_wall", "ZerosError", "BadWidth", "BadWord", "UnlikeWidths", "BadRows", "MOST_TIMES", "is_whole", "is_from", "Word", "checked_width", "most_value", "carried_round", "sum_word", "difference_word", "turned", "is_bits", "checked_times", "operand_value", "ordered_value", "found_value", "checked_value", "packed", "half_total", "joined", "checked_even", "check_halves", "check_pieces", "is_piece", "_law_pen"] : List Str) ++ (["_law_draw", "_law_halves", "_law_cut", "_law_by_places", "_law_heard", "_law_no_piece", "_law_by_pieces", "_law_strange"] : List Str)
theorem run (w : World) : HandSHeadRun.RunEq R (PySem.W.view R.prog [43]) hk ob 4000 loose w := by
  intro os
  kernel_rfl
theorem facts {w : World} {K : PySem.W.Frag} {h : Heap} {mg : Str → Option Value} {f : Addr} (KX : K.In h) (G : h.Ns mainGlobals mg) (hfa : mg ("law" : Str) = some (.ref f)) (c : TzF.SaysY fa fn sm tf ex h K) : LawQ PySem.Challenge.rw_twozeros_k12_whole_pieces_at_odd_places w K 11 63 "_law_script" mg f h := by
  have x_0 : ex0 K = true := List.all_eq_true.mp c.more ex0 (by simp)
  have x_1 : ex1 K = true := List.all_eq_true.mp c.more ex1 (by simp)
  have x_2 : ex2 K = true := List.all_eq_true.mp c.more ex2 (by simp)
  have x_3 : ex3 K = true := List.all_eq_true.mp c.more ex3 (by simp)
  have x_4 : ex4 K = true := List.all_eq_true.mp c.more ex4 (by simp)
  have x_5 : ex5 K = true := List.all_eq_true.mp c.more ex5 (by simp)
  have x_6 : ex6 K = true := List.all_eq_true.mp c.more ex6 (by simp)
  have x_7 : ex7 K = true := List.all_eq_true.mp c.more ex7 (by simp)
  have x_8 : ex8 K = true := List.all_eq_true.mp c.more ex8 (by simp)
  have x_9 : ex9 K = true := List.all_eq_true.mp c.more ex9 (by simp)
  have x_10 : ex10 K = true := List.all_eq_true.mp c.more ex10 (by simp)
  obtain ⟨t_MOST_TIMES, h_MOST_TIMES⟩ := He.int_ok KX G (c.d.fact 12 rfl)
  obtain ⟨t_MOST_WIDTH, h_MOST_WIDTH⟩ := cval_ok x_7
  obtain ⟨fd_BadWord_init_, D_BadWord_init_⟩ := c.d.def_ 0 (d := ⟨("BadWord", some "__init__"), "__init__", "BadWord.__init__", defArgs s_BadWord_init_, defBody s_BadWord_init_, defScope s_BadWord_init_, [], []⟩) rfl
  obtain ⟨fd_BadWidth_init_, D_BadWidth_init_⟩ := c.d.def_ 1 (d := ⟨("BadWidth", some "__init__"), "__init__", "BadWidth.__init__", defArgs s_BadWidth_init_, defBody s_BadWidth_init_, defScope s_BadWidth_init_, [], []⟩) rfl
  obtain ⟨fd_BadRows_init_, D_BadRows_init_⟩ := c.d.def_ 2 (d := ⟨("BadRows", some "__init__"), "__init__", "BadRows.__init__", defArgs s_BadRows_init_, defBody s_BadRows_init_, defScope s_BadRows_init_, [], []⟩) rfl
  obtain ⟨fd_is_whole, D_is_whole⟩ := c.d.def_ 3 (d := ⟨("is_whole", none), "is_whole", "is_whole", defArgs s_is_whole, defBody s_is_whole, defScope s_is_whole, [], []⟩) rfl
  obtain ⟨fd_is_from, D_is_from⟩ := c.d.def_ 4 (d := ⟨("is_from", none), "is_from", "is_from", defArgs s_is_from, defBody s_is_from, defScope s_is_from, [], []⟩) rfl
  obtain ⟨fd_most_value, D_most_value⟩ := c.d.def_ 5 (d := ⟨("most_value", none), "most_value", "most_value", defArgs s_most_value, defBody s_most_value, defScope s_most_value, [], []⟩) rfl
  obtain ⟨fd_checked_width, D_checked_width⟩ := c.d.def_ 6 (d := ⟨("checked_width", none), "checked_width", "checked_width", defArgs s_checked_width, defBody s_checked_width, defScope s_checked_width, [], []⟩) rfl
  obtain ⟨fd_Word_init_, D_Word_init_⟩ := c.d.def_ 7 (d := ⟨("Word", some "__init__"), "__init__", "Word.__init__", defArgs s_Word_init_, defBody s_Word_init_, defScope s_Word_init_, [], []⟩) rfl
  obtain ⟨fd_carried_round, D_carried_round⟩ := c.d.def_ 8 (d := ⟨("carried_round", none), "carried_round", "carried_round", defArgs s_carried_round, defBody s_carried_round, defScope s_carried_round, [], []⟩) rfl
  obtain ⟨fd_sum_word, D_sum_word⟩ := c.d.def_ 9 (d := ⟨("sum_word", none), "sum_word", "sum_word", defArgs s_sum_word, defBody s_sum_word, defScope s_sum_word, [], []⟩) rfl
  obtain ⟨fd_Word_repr_, D_Word_repr_⟩ := c.d.def_ 10 (d := ⟨("Word", some "__repr__"), "__repr__", "Word.__repr__", defArgs s_Word_repr_, defBody s_Word_repr_, defScope s_Word_repr_, [], []⟩) rfl
  obtain ⟨fd_checked_even, D_checked_even⟩ := c.d.def_ 11 (d := ⟨("checked_even", none), "checked_even", "checked_even", defArgs s_checked_even, defBody s_checked_even, defScope s_checked_even, [], []⟩) rfl
  obtain ⟨fd_check_halves, D_check_halves⟩ := c.d.def_ 12 (d := ⟨("check_halves", none), "check_halves", "check_halves", defArgs s_check_halves, defBody s_check_halves, defScope s_check_halves, [], []⟩) rfl
  obtain ⟨fd_packed, D_packed⟩ := c.d.def_ 13 (d := ⟨("packed", none), "packed", "packed", defArgs s_packed, defBody s_packed, defScope s_packed, [], []⟩) rfl
  obtain ⟨fd_half_total, D_half_total⟩ := c.d.def_ 14 (d := ⟨("half_total", none), "half_total", "half_total", defArgs s_half_total, defBody s_half_total, defScope s_half_total, [], []⟩) rfl
  obtain ⟨fd_checked_times, D_checked_times⟩ := c.d.def_ 15 (d := ⟨("checked_times", none), "checked_times", "checked_times", defArgs s_checked_times, defBody s_checked_times, defScope s_checked_times, [], []⟩) rfl
  obtain ⟨fd_turned, D_turned⟩ := c.d.def_ 16 (d := ⟨("turned", none), "turned", "turned", defArgs s_turned, defBody s_turned, defScope s_turned, [], []⟩) rfl
  obtain ⟨fd_Word_lshift_, D_Word_lshift_⟩ := c.d.def_ 17 (d := ⟨("Word", some "__lshift__"), "__lshift__", "Word.__lshift__", defArgs s_Word_lshift_, defBody s_Word_lshift_, defScope s_Word_lshift_, [], []⟩) rfl
  obtain ⟨fd_operand_value, D_operand_value⟩ := c.d.def_ 18 (d := ⟨("operand_value", none), "operand_value", "operand_value", defArgs s_operand_value, defBody s_operand_value, defScope s_operand_value, [], []⟩) rfl
  obtain ⟨fd_Word_add_, D_Word_add_⟩ := c.d.def_ 19 (d := ⟨("Word", some "__add__"), "__add__", "Word.__add__", defArgs s_Word_add_, defBody s_Word_add_, defScope s_Word_add_, [], []⟩) rfl
  obtain ⟨⟨fd_Word_empty, F_Word_empty⟩, r_Word_empty⟩ := c.sm 0 (d := ⟨"staticmethod", ("Word", "empty"), "Word.empty", s_Word_empty⟩) rfl
  obtain ⟨r1_Word_empty, r2_Word_empty, r3_Word_empty⟩ := recB_ok r_Word_empty
  obtain ⟨fd_is_piece, D_is_piece⟩ := c.d.def_ 20 (d := ⟨("is_piece", none), "is_piece", "is_piece", defArgs s_is_piece, defBody s_is_piece, defScope s_is_piece, [], []⟩) rfl
  obtain ⟨fd_check_pieces, D_check_pieces⟩ := c.d.def_ 21 (d := ⟨("check_pieces", none), "check_pieces", "check_pieces", defArgs s_check_pieces, defBody s_check_pieces, defScope s_check_pieces, [], []⟩) rfl
  obtain ⟨fd_joined, D_joined⟩ := c.d.def_ 22 (d := ⟨("joined", none), "joined", "joined", defArgs s_joined, defBody s_joined, defScope s_joined, [], []⟩) rfl
  obtain ⟨fd_law_pen, D_law_pen⟩ := c.d.def_ 23 (d := ⟨("_law_pen", none), "_law_pen", "_law_pen", defArgs s_law_pen, defBody s_law_pen, defScope s_law_pen, [], []⟩) rfl
  obtain ⟨fd_law_draw, D_law_draw⟩ := c.d.def_ 24 (d := ⟨("_law_draw", none), "_law_draw", "_law_draw", defArgs s_law_draw, defBody s_law_draw, defScope s_law_draw, [], []⟩) rfl
  obtain ⟨fd_law_halves, D_law_halves⟩ := c.d.def_ 25 (d := ⟨("_law_halves", none), "_law_halves", "_law_halves", defArgs s_law_halves, defBody s_law_halves, defScope s_law_halves, [], []⟩) rfl
  obtain ⟨fd_law_by_places, D_law_by_places⟩ := c.d.def_ 26 (d := ⟨("_law_by_places", none), "_law_by_places", "_law_by_places", defArgs s_law_by_places, defBody s_law_by_places, defScope s_law_by_places, [], []⟩) rfl
  obtain ⟨fd_law_by_pieces, D_law_by_pieces⟩ := c.d.def_ 27 (d := ⟨("_law_by_pieces", none), "_law_by_pieces", "_law_by_pieces", defArgs s_law_by_pieces, defBody s_law_by_pieces, defScope s_law_by_pieces, [], []⟩) rfl
  obtain ⟨fd_law_cut, D_law_cut⟩ := c.d.def_ 28 (d := ⟨("_law_cut", none), "_law_cut", "_law_cut", defArgs s_law_cut, defBody s_law_cut, defScope s_law_cut, [], []⟩) rfl
  obtain ⟨fd_law_strange, D_law_strange⟩ := c.d.def_ 29 (d := ⟨("_law_strange", none), "_law_strange", "_law_strange", defArgs s_law_strange, defBody s_law_strange, defScope s_law_strange, [], []⟩) rfl
  obtain ⟨fd_law_no_piece, D_law_no_piece⟩ := c.d.def_ 30 (d := ⟨("_law_no_piece", none), "_law_no_piece", "_law_no_piece", defArgs s_law_no_piece, defBody s_law_no_piece, defScope s_law_no_piece, [], []⟩) rfl
  obtain ⟨fd_law_heard, D_law_heard⟩ := c.d.def_ 31 (d := ⟨("_law_heard", none), "_law_heard", "_law_heard", defArgs s_law_heard, defBody s_law_heard, defScope s_law_heard, [], []⟩) rfl
  obtain ⟨fd_law, D_law⟩ := c.d.def_ 32 (d := ⟨("law", none), "law", "law", defArgs s_law, defBody s_law, defScope s_law, [], []⟩) rfl
  have e := hfa.symm.trans (He.glo_ok KX G (c.d.fact 62 rfl))
  cases e
  let T : Tx K mg := {
    b_int := He.free_ok KX G (c.d.fact 0 rfl),
    b_len := He.free_ok KX G (c.d.fact 1 rfl),
    b_abs := He.free_ok KX G (c.d.fact 2 rfl),
    b_list := He.free_ok KX G (c.d.fact 3 rfl),
    b_isinstance := He.free_ok KX G (c.d.fact 4 rfl),
    b_bool := He.free_ok KX G (c.d.fact 5 rfl),
    b_range := He.free_ok KX G (c.d.fact 6 rfl),
    b_str := He.free_ok KX G (c.d.fact 7 rfl),
    b_repr := He.free_ok KX G (c.d.fact 8 rfl),
    b_sum := He.free_ok KX G (c.d.fact 9 rfl),
    b_enumerate := He.free_ok KX G (c.d.fact 10 rfl),
    b_tuple := He.free_ok KX G (c.d.fact 11 rfl),
    c_MOST_TIMES := ⟨t_MOST_TIMES, h_MOST_TIMES⟩,
    k_Word := ⟨He.ga K "Word", He.cls_ok (c.d.fact 13 rfl), He.glo_ok KX G (c.d.fact 14 rfl), He.keep_ok (c.d.fact 15 rfl), alone_ok x_0, ⟨x_1, of_decide_eq_true x_2⟩⟩,
    mk_w := x_3,
    e_BadWidth := ⟨He.ga K "BadWidth", He.glo_ok KX G (c.d.fact 16 rfl), err_ok x_4⟩,
    n_BadWidth_width := He.noat_ok (c.d.fact 17 rfl),
    e_BadWord := ⟨He.ga K "BadWord", He.glo_ok KX G (c.d.fact 18 rfl), err_ok x_5⟩,
    n_BadWord_value := He.noat_ok (c.d.fact 19 rfl),
    e_BadRows := ⟨He.ga K "BadRows", He.glo_ok KX G (c.d.fact 20 rfl), err_ok x_6⟩,
    n_BadRows_at := He.noat_ok (c.d.fact 21 rfl),
    n_Word_width := He.noat_ok (c.d.fact 22 rfl),
    n_Word_value := He.noat_ok (c.d.fact 23 rfl),
    n_Word_rest := He.noat_ok (c.d.fact 24 rfl),
    n_Word_is_empty := He.noat_ok (c.d.fact 25 rfl),
    n_Word_is_full := He.noat_ok (c.d.fact 26 rfl),
    cc_Word_MOST_WIDTH := ⟨t_MOST_WIDTH, h_MOST_WIDTH⟩,
    o_lshift := x_8,
    o_rlshift := x_9,
    n_rlshift := of_decide_eq_true x_10,
    xm_BadWidth_BadWidth := He.exm_ok (c.d.fact 27 rfl),
    xm_BadRows_BadWidth := He.exm_ok (c.d.fact 28 rfl),
    xm_BadRows_BadRows := He.exm_ok (c.d.fact 29 rfl),
    t_law := rfl,
    f_BadWord_init_ := ⟨_, fd_BadWord_init_, fun_of_D D_BadWord_init_, He.meth_ok (c.d.fact 30 rfl)⟩,
    f_BadWidth_init_ := ⟨_, fd_BadWidth_init_, fun_of_D D_BadWidth_init_, He.meth_ok (c.d.fact 31 rfl)⟩,
    f_BadRows_init_ := ⟨_, fd_BadRows_init_, fun_of_D D_BadRows_init_, He.meth_ok (c.d.fact 32 rfl)⟩,
    f_is_whole := ⟨_, fd_is_whole, fun_of_D D_is_whole, He.glo_ok KX G (c.d.fact 33 rfl)⟩,
    f_is_from := ⟨_, fd_is_from, fun_of_D D_is_from, He.glo_ok KX G (c.d.fact 34 rfl)⟩,
    f_most_value := ⟨_, fd_most_value, fun_of_D D_most_value, He.glo_ok KX G (c.d.fact 35 rfl)⟩,
    f_checked_width := ⟨_, fd_checked_width, fun_of_D D_checked_width, He.glo_ok KX G (c.d.fact 36 rfl)⟩,
    f_Word_init_ := ⟨_, fd_Word_init_, fun_of_D D_Word_init_, He.meth_ok (c.d.fact 37 rfl)⟩,
    f_carried_round := ⟨_, fd_carried_round, fun_of_D D_carried_round, He.glo_ok KX G (c.d.fact 38 rfl)⟩,
    f_sum_word := ⟨_, fd_sum_word, fun_of_D D_sum_word, He.glo_ok KX G (c.d.fact 39 rfl)⟩,
    f_Word_repr_ := ⟨_, fd_Word_repr_, fun_of_D D_Word_repr_, He.meth_ok (c.d.fact 40 rfl)⟩,
    f_checked_even := ⟨_, fd_checked_even, fun_of_D D_checked_even, He.glo_ok KX G (c.d.fact 41 rfl)⟩,
    f_check_halves := ⟨_, fd_check_halves, fun_of_D D_check_halves, He.glo_ok KX G (c.d.fact 42 rfl)⟩,
    f_packed := ⟨_, fd_packed, fun_of_D D_packed, He.glo_ok KX G (c.d.fact 43 rfl)⟩,
    f_half_total := ⟨_, fd_half_total, fun_of_D D_half_total, He.glo_ok KX G (c.d.fact 44 rfl)⟩,
    f_checked_times := ⟨_, fd_checked_times, fun_of_D D_checked_times, He.glo_ok KX G (c.d.fact 45 rfl)⟩,
    f_turned := ⟨_, fd_turned, fun_of_D D_turned, He.glo_ok KX G (c.d.fact 46 rfl)⟩,
    f_Word_lshift_ := ⟨_, fd_Word_lshift_, fun_of_D D_Word_lshift_, He.meth_ok (c.d.fact 47 rfl)⟩,
    f_operand_value := ⟨_, fd_operand_value, fun_of_D D_operand_value, He.glo_ok KX G (c.d.fact 48 rfl)⟩,
    f_Word_add_ := ⟨_, fd_Word_add_, fun_of_D D_Word_add_, He.meth_ok (c.d.fact 49 rfl)⟩,
    f_Word_empty := ⟨_, fd_Word_empty, F_Word_empty, _, ⟨r1_Word_empty, r2_Word_empty, F_Word_empty.kp⟩⟩,
    f_is_piece := ⟨_, fd_is_piece, fun_of_D D_is_piece, He.glo_ok KX G (c.d.fact 50 rfl)⟩,
    f_check_pieces := ⟨_, fd_check_pieces, fun_of_D D_check_pieces, He.glo_ok KX G (c.d.fact 51 rfl)⟩,
    f_joined := ⟨_, fd_joined, fun_of_D D_joined, He.glo_ok KX G (c.d.fact 52 rfl)⟩,
    f_law_pen := ⟨_, fd_law_pen, fun_of_D D_law_pen, He.glo_ok KX G (c.d.fact 53 rfl)⟩,
    f_law_draw := ⟨_, fd_law_draw, fun_of_D D_law_draw, He.glo_ok KX G (c.d.fact 54 rfl)⟩,
    f_law_halves := ⟨_, fd_law_halves, fun_of_D D_law_halves, He.glo_ok KX G (c.d.fact 55 rfl)⟩,
    f_law_by_places := ⟨_, fd_law_by_places, fun_of_D D_law_by_places, He.glo_ok KX G (c.d.fact 56 rfl)⟩,
    f_law_by_pieces := ⟨_, fd_law_by_pieces, fun_of_D D_law_by_pieces, He.glo_ok KX G (c.d.fact 57 rfl)⟩,
    f_law_cut := ⟨_, fd_law_cut, fun_of_D D_law_cut, He.glo_ok KX G (c.d.fact 58 rfl)⟩,
    f_law_strange := ⟨_, fd_law_strange, fun_of_D D_law_strange, He.glo_ok KX G (c.d.fact 59 rfl)⟩,
    f_law_no_piece := ⟨_, fd_law_no_piece, fun_of_D D_law_no_piece, He.glo_ok KX G (c.d.fact 60 rfl)⟩,
    f_law_heard := ⟨_, fd_law_heard, fun_of_D D_law_heard, He.glo_ok KX G (c.d.fact 61 rfl)⟩,
    f_law := ⟨_, fd_law, fun_of_D D_law, He.glo_ok KX G (c.d.fact 62 rfl)⟩ }
  refine ⟨T.f_law.fd, tf.map (He.cT K), spLawT K (TL (cP K).2), fun q hq => ?_, fun q hq => ?_, fun q hq => ?_, fun s v => FunD.bindsA (ps := ["_law_script"]) D_law (fun _ _ _ _ _ _ us hl => match us, hl with | [_], _ => rfl) s [v] rfl, ?_, fun base _ _ B => ?_⟩
  · obtain ⟨d, hd, rfl⟩ := List.mem_map.mp hq
    exact c.empty d hd
  · obtain ⟨d, hd, rfl⟩ := List.mem_map.mp hq
    exact c.out d hd
  · obtain ⟨d, hd, rfl⟩ := List.mem_map.mp hq
    exact PySem.W.codeHd_of_K KX (c.hd d hd)
  · intro H a ns hl tb hS
    exact ⟨a, ns, rfl, hS, hl, fun q hq => by rw [List.mem_singleton.mp hq]; exact LamX.TabS.nil (tb _ List.mem_cons_self), fun _ => rfl⟩
  · exact ok_law T (B _ List.mem_cons_self) rfl
end TzH
open PySem PySem.W PyProof.Rows
set_option maxRecDepth 100000 in
set_option maxHeartbeats 0 in
theorem PySem.Challenge.cw_twozeros_k12_whole_pieces_at_odd_places_holds : PySem.Challenge.rw_twozeros_k12_whole_pieces_at_odd_places.Holds := by
  w_on; o_law
  refine HandSHeadRun.head_any (r := TzH.R) (q := view TzH.R.prog [43]) (H := TzH.hk) (ob := TzH.ob) (M := 4000) (loose := TzH.loose) (d := HandSHeadRun.topDef TzH.R.prog 43) (kwd := []) TzH.ob_eq
    (by kernel_rfl) (fun s => by kernel_rfl) TzH.run (by kernel_rfl) (by kernel_rfl) (by kernel_rfl) (by rfl) (by first | assumption | decide +kernel) (by decide +kernel) ⟨rfl, rfl, rfl, rfl, rfl, by decide +kernel⟩ ?hw ?hc
  case hw => w_witness2
  case hc =>
    refine Tz.walk_qt (l := PySem.Challenge.rw_twozeros_k12_whole_pieces_at_odd_places) (n := 63) (k := 11) (x := "_law_script") rfl (by decide) (by kernel_rfl) ⟨rfl, by decide, by decide⟩ ?F
    intro w mg fa h Y G hmg0
    obtain ⟨K, KX, c⟩ := Y
    have hmg : mg ("law" : PySem.Str) = some (.ref fa) := by
      have e : (HandSHeadRun.topDef TzH.R.prog 43).name = ("law" : PySem.Str) := by kernel_rfl
      rw [← e]
      exact hmg0
    exact ⟨K, KX, TzH.facts KX G hmg c⟩
