import PyProof.Rows.All
import Wide.All
import OpenK.AllK
import Wide.FinOn
import HandS.ForMost
import HandS.Wide
import HandS.Zip
import HandS.Style
import HandS.Deep
import HandS.TupLe
import HandS.IsInst
import KE.GoesMore
import HandS.Defaults
import HandS.Walk
import HandS.ExcInit
import HandS.ExcIs
import HandS.ExcValue
import KE.KExcIs
import KE.DataEq
import PySem.Challenge.RW_alljourneys_k00_errors
set_option Elab.async false
set_option linter.all false
set_option maxRecDepth 100000
/-! What holds of the heap between the steps of a law: data made of tuples (Rep), kept by all that is done behind (Kt); expressions by their data (Ev ..). -/
namespace LB
open PySem L2
abbrev Fr := PySem.W.Frag
abbrev PD := PyData
/-! ### heaps -/
def Imm : HO → Prop
  | .tup _ => True
  | .ins _ _ _ => True
  | .own _ => True
  | .frz _ _ => True
  | _ => False
def Kt (H H' : Hp) : Prop := ∀ b o, H b = some o → Imm o → H' b = some o
theorem Kt.refl (H : Hp) : Kt H H := fun _ _ h _ => h
theorem Kt.trans {H H1 H2 : Hp} (a : Kt H H1) (b : Kt H1 H2) : Kt H H2 := fun c o h i => b c o (a c o h i) i
theorem kt_same {H H' : Hp} (s : Same H H') : Kt H H' := fun b o h _ => s b o h
/-- all but what stands at d is kept -/
def Kd (d : Addr) (H H' : Hp) : Prop := ∀ b o, H b = some o → b ≠ d → H' b = some o
theorem Kd.refl {d : Addr} (H : Hp) : Kd d H H := fun _ _ h _ => h
theorem Kd.trans {d : Addr} {H H1 H2 : Hp} (a : Kd d H H1) (b : Kd d H1 H2) : Kd d H H2 := fun c o h i => b c o (a c o h i) i
theorem kd_same {d : Addr} {H H' : Hp} (s : Same H H') : Kd d H H' := fun b o h _ => s b o h
theorem kt_kd {d : Addr} {H H' : Hp} {o : HO} (k : Kd d H H') (hd : H d = some o) (ni : ¬ Imm o) : Kt H H' := fun b u h i =>
  k b u h fun e => by subst e; rw [hd] at h; cases h; exact ni i
theorem kt_sqt {K : Fr} {H H' : Hp} (k : Kt H H') {a : Addr} {xs : List V} (h : SqT K H a xs) : SqT K H' a xs := by
  rcases h with (h | ⟨o, h⟩) | h
  · exact .inl (.inl (k _ _ h trivial))
  · exact .inl (.inr ⟨o, k _ _ h trivial⟩)
  · exact .inr h
theorem same_upd {H : Hp} {p : Addr} {o : HO} (h : H p = none) : Same H (upd H p o) := fun b u e => by
  rw [upd_ne (ne_of_none e h)]; exact e
/-! ### data made of tuples -/
mutual
inductive Rep (K : Fr) (H : Hp) : V → PD → Prop
  | non : Rep K H .non .none
  | bl (b : Bool) : Rep K H (.bl b) (.bool b)
  | int (i : Int) : Rep K H (.int i) (.int i)
  | str (x : Str) : Rep K H (.str x) (.str x)
  | tup {a : Addr} {xs : List V} {ds : List PD} : SqT K H a xs → RepAll K H xs ds → Rep K H (.ref a) (.tuple ds)
inductive RepAll (K : Fr) (H : Hp) : List V → List PD → Prop
  | nil : RepAll K H [] []
  | cons {v : V} {vs : List V} {d : PD} {ds : List PD} : Rep K H v d → RepAll K H vs ds → RepAll K H (v :: vs) (d :: ds)
end
section
variable {K : Fr} {H H' : Hp}
def ImmT : HO → Prop
  | .tup _ => True
  | .frz _ _ => True
  | _ => False
/-- the tuples are kept -/
def Kr (H H' : Hp) : Prop := ∀ b o, H b = some o → ImmT o → H' b = some o
theorem kr_sqt (k : Kr H H') {a : Addr} {xs : List V} (h : SqT K H a xs) : SqT K H' a xs := by
  rcases h with (h | ⟨o, h⟩) | h
  · exact .inl (.inl (k _ _ h trivial))
  · exact .inl (.inr ⟨o, k _ _ h trivial⟩)
  · exact .inr h
theorem kr_kt (k : Kt H H') : Kr H H' := fun b o h i => k b o h (by cases o <;> first | exact trivial | exact i.elim)
theorem kr_upd {p : Addr} {o u : HO} (h : H p = some u) (n : ¬ ImmT u) : Kr H (upd H p o) := fun b v e i => by
  have ne : b ≠ p := fun z => by subst z; rw [h] at e; cases e; exact n i
  rw [upd_ne ne]; exact e
mutual
theorem Rep.kr (k : Kr H H') {v : V} {d : PD} : Rep K H v d → Rep K H' v d
  | .non => .non
  | .bl b => .bl b
  | .int i => .int i
  | .str x => .str x
  | .tup h r => .tup (kr_sqt k h) (RepAll.kr k r)
theorem RepAll.kr (k : Kr H H') {vs : List V} {ds : List PD} : RepAll K H vs ds → RepAll K H' vs ds
  | .nil => .nil
  | .cons h r => .cons (Rep.kr k h) (RepAll.kr k r)
end
mutual
theorem Rep.kt (k : Kt H H') {v : V} {d : PD} : Rep K H v d → Rep K H' v d
  | .non => .non
  | .bl b => .bl b
  | .int i => .int i
  | .str x => .str x
  | .tup h r => .tup (kt_sqt k h) (RepAll.kt k r)
theorem RepAll.kt (k : Kt H H') {vs : List V} {ds : List PD} : RepAll K H vs ds → RepAll K H' vs ds
  | .nil => .nil
  | .cons h r => .cons (Rep.kt k h) (RepAll.kt k r)
end
theorem Rep.same (s : Same H H') {v : V} {d : PD} (h : Rep K H v d) : Rep K H' v d := h.kt (kt_same s)
theorem RepAll.same (s : Same H H') {v : List V} {d : List PD} (h : RepAll K H v d) : RepAll K H' v d := h.kt (kt_same s)
mutual
theorem Rep.dp {v : V} {d : PD} : Rep K H v d → Dp K H v d
  | .non => .non
  | .bl b => .bl b
  | .int i => .int i
  | .str x => .str x
  | .tup h r => .tup h (RepAll.dp r)
theorem RepAll.dp {vs : List V} {ds : List PD} : RepAll K H vs ds → DpAll K H vs ds
  | .nil => .nil
  | .cons h r => .cons (Rep.dp h) (RepAll.dp r)
end
theorem Rep.int_inv {v : V} {i : Int} (h : Rep K H v (.int i)) : v = .int i := by cases h; rfl
theorem Rep.bl_inv {v : V} {i : Bool} (h : Rep K H v (.bool i)) : v = .bl i := by cases h; rfl
theorem Rep.non_inv {v : V} (h : Rep K H v .none) : v = .non := by cases h; rfl
theorem Rep.str_inv {v : V} {x : Str} (h : Rep K H v (.str x)) : v = .str x := by cases h; rfl
theorem Rep.tup_inv {v : V} {ds : List PD} (h : Rep K H v (.tuple ds)) : ∃ a xs, v = .ref a ∧ SqT K H a xs ∧ RepAll K H xs ds := by
  cases h with
  | tup h r => exact ⟨_, _, rfl, h, r⟩
theorem RepAll.len : ∀ {vs : List V} {ds : List PD}, RepAll K H vs ds → vs.length = ds.length
  | _, _, .nil => rfl
  | _, _, .cons _ r => by rw [List.length_cons, List.length_cons, RepAll.len r]
theorem RepAll.get : ∀ {vs : List V} {ds : List PD} {i : Nat} {d : PD}, RepAll K H vs ds → ds[i]? = some d → ∃ v, vs[i]? = some v ∧ Rep K H v d
  | _, _, _, _, .nil, e => by simp at e
  | _, _, 0, _, .cons h _, e => by simp at e; subst e; exact ⟨_, rfl, h⟩
  | _, _, i + 1, d, .cons _ r, e => by
    obtain ⟨v, h1, h2⟩ := RepAll.get (i := i) (d := d) r (by simpa using e)
    exact ⟨v, by simpa using h1, h2⟩
theorem RepAll.getV : ∀ {vs : List V} {ds : List PD} {i : Nat} {v : V}, RepAll K H vs ds → vs[i]? = some v → ∃ d, ds[i]? = some d ∧ Rep K H v d
  | _, _, _, _, .nil, e => by simp at e
  | _, _, 0, _, .cons h _, e => by simp at e; subst e; exact ⟨_, rfl, h⟩
  | _, _, i + 1, v, .cons _ r, e => by
    obtain ⟨d, h1, h2⟩ := RepAll.getV (i := i) (v := v) r (by simpa using e)
    exact ⟨d, by simpa using h1, h2⟩
theorem RepAll.at {vs : List V} {ds : List PD} {i : Int} {d : PD} (r : RepAll K H vs ds) (e : atI ds i = some d) : ∃ v, atI vs i = some v ∧ Rep K H v d := by
  unfold atI at e ⊢
  rw [r.len]
  cases q : ixN ds.length i with
  | none => rw [q] at e; cases e
  | some j =>
    rw [q] at e
    exact r.get e
theorem RepAll.append : ∀ {vs ws : List V} {ds es : List PD}, RepAll K H vs ds → RepAll K H ws es → RepAll K H (vs ++ ws) (ds ++ es)
  | _, _, _, _, .nil, s => s
  | _, _, _, _, .cons h r, s => .cons h (RepAll.append r s)
theorem RepAll.inv1 {vs : List V} {d : PD} (h : RepAll K H vs [d]) : ∃ v, vs = [v] ∧ Rep K H v d := by
  cases h with
  | cons h r => cases r; exact ⟨_, rfl, h⟩
theorem RepAll.inv2 {vs : List V} {d e : PD} (h : RepAll K H vs [d, e]) : ∃ v w, vs = [v, w] ∧ Rep K H v d ∧ Rep K H w e := by
  cases h with
  | cons h r => obtain ⟨w, rfl, h2⟩ := r.inv1; exact ⟨_, _, rfl, h, h2⟩
theorem RepAll.inv3 {vs : List V} {d e f : PD} (h : RepAll K H vs [d, e, f]) : ∃ v w x, vs = [v, w, x] ∧ Rep K H v d ∧ Rep K H w e ∧ Rep K H x f := by
  cases h with
  | cons h r => obtain ⟨w, x, rfl, h2, h3⟩ := r.inv2; exact ⟨_, _, _, rfl, h, h2, h3⟩
theorem RepAll.inv4 {vs : List V} {d e f g : PD} (h : RepAll K H vs [d, e, f, g]) : ∃ v w x y, vs = [v, w, x, y] ∧ Rep K H v d ∧ Rep K H w e ∧ Rep K H x f ∧ Rep K H y g := by
  cases h with
  | cons h r => obtain ⟨w, x, y, rfl, h2, h3, h4⟩ := r.inv3; exact ⟨_, _, _, _, rfl, h, h2, h3, h4⟩
end
/-! ### sizes of ints -/
def Bd (n : Nat) (i : Int) : Prop := i.natAbs < 2 ^ n
theorem Bd.mono {n m : Nat} {i : Int} (h : Bd n i) (l : n ≤ m) : Bd m i := Nat.lt_of_lt_of_le h (Nat.pow_le_pow_right (by decide) l)
theorem Bd.add {n m : Nat} {i j : Int} (a : Bd n i) (b : Bd m j) : Bd (max n m + 1) (i + j) := by
  have a' := a.mono (Nat.le_max_left n m)
  have b' := b.mono (Nat.le_max_right n m)
  unfold Bd at *
  rw [Nat.pow_succ]
  omega
theorem Bd.sub {n m : Nat} {i j : Int} (a : Bd n i) (b : Bd m j) : Bd (max n m + 1) (i - j) := by
  have a' := a.mono (Nat.le_max_left n m)
  have b' := b.mono (Nat.le_max_right n m)
  unfold Bd at *
  rw [Nat.pow_succ]
  omega
theorem Bd.mul {n m : Nat} {i j : Int} (a : Bd n i) (b : Bd m j) : Bd (n + m) (i * j) := wide_lt a b
theorem Bd.neg {n : Nat} {i : Int} (a : Bd n i) : Bd n (-i) := by unfold Bd at *; omega
theorem Bd.mulW {n m : Nat} {i j : Int} (a : Bd n i) (b : Bd m j) (h : n + m ≤ 900000) : CMulW i j := by
  exact wide_mul (a.mono (Nat.le_succ n)) (b.mono (Nat.le_succ m)) (Nat.succ_pos _) (Nat.succ_pos _) (by omega)
theorem Bd.divW {n : Nat} {i j : Int} (b : Bd n j) (h : 0 < j) (l : n < 9000) : CDivW i j := wide_div h (b.mono (Nat.le_succ n)) (Nat.succ_pos _) (by omega)
theorem Bd.of_range {lo hi : Int} {i : Int} {n : Nat} (h1 : lo ≤ i) (h2 : i < hi) (h3 : -(2 ^ n : Int) < lo) (h4 : hi ≤ (2 ^ n : Int)) : Bd n i := by
  unfold Bd
  have h5 : ((2 ^ n : Nat) : Int) = (2 ^ n : Int) := by simp
  omega
/-! ### // by any wide divisor but 0 -/
def CDivNW (_ j : Int) : Prop := j ≠ 0 ∧ j.natAbs.log2 < 9000
theorem op_fdivNW {X : Cx} : OpR X (binaryOp .FloorDiv) (rI CDivNW fun i j => .int (i.fdiv j)) :=
  opI fun _ _ _ _ _ _ _ hc q => PyProof.Rows.floordiv_int hc.1 q (.inl (PyProof.noPylong_of_log2 hc.2))
theorem Bd.divNW {n : Nat} {i j : Int} (b : Bd n j) (h : j ≠ 0) (l : n < 9000) : CDivNW i j :=
  ⟨h, Nat.lt_of_lt_of_le (PySem.Flt.log2_lt_of (Nat.succ_pos n) (b.mono (Nat.le_succ n))) (by omega)⟩
/-! ### x in a tuple of data -/
def rInT (K : Fr) : R2 := fun x y H Q => ∃ d ds, Dp K H x d ∧ Dp K H y (.tuple ds) ∧ SeqAt.shaped d = true ∧ SeqAt.shaped (.tuple ds) = true ∧ Q (.bl (ds.any fun z => PyData.eqv z d)) H
theorem op_inT {X : Cx} (hu : X.A.units + 65 < cLine) : OpR X (compareOp .In) (rInT X.K) := by
  intro pins s σ H x y v u Q I rx ry h
  obtain ⟨d, ds, hd, he, sd, se, q⟩ := h
  obtain ⟨as, r1⟩ := Dp.reads I d x v hd rx
  obtain ⟨bs, r2⟩ := Dp.reads I (.tuple ds) y u he ry
  exact SeqAt.in_tuple_reads r2 r1 (SeqAt.canLay_of_shaped se) (SeqAt.canLay_of_shaped sd) (PyProof.Rows.room_in_shaped sd hu) ⟨.bl _, H, I, rfl, q⟩
/-! ### what an expression is worth -/
section
variable (K : Fr)
def Ev (te : TE) (σ : L2.St) (H : Hp) (d : PD) : Prop := ∀ H1, Same H H1 → ∀ Q : VK, (∀ v H2, Same H1 H2 → Rep K H2 v d → Q v H2) → te σ H1 Q
def EvB (tt : TT) (σ : L2.St) (H : Hp) (b : Bool) : Prop := ∀ H1, Same H H1 → ∀ Q : Bool → Hp → Prop, (∀ H2, Same H1 H2 → Q b H2) → tt σ H1 Q
def EvA (ta : TA) (σ : L2.St) (H : Hp) (ds : List PD) : Prop := ∀ H1, Same H H1 → ∀ Q : List V → Hp → Prop, (∀ vs H2, Same H1 H2 → RepAll K H2 vs ds → Q vs H2) → ta σ H1 Q
/-- a new list -/
def EvL (te : TE) (σ : L2.St) (H : Hp) (ds : List PD) : Prop := ∀ H1, Same H H1 → ∀ Q : VK, (∀ p vs H2, Same H1 H2 → H1 p = none → H2 p = some (.lst vs) → RepAll K H2 vs ds → Q (.ref p) H2) → te σ H1 Q
end
section
variable {K : Fr} {σ : L2.St} {H : Hp} {ta tb : TE} {tc : TT} {d e : PD} {ds es : List PD} {x y : Int}
theorem ev_var {i : Nat} {v : V} (e : σ[i]? = some (some v)) (h : Rep K H v d) : Ev K (tVar i) σ H d := fun H1 s Q k => ⟨v, e, k v H1 (Same.refl H1) (h.same s)⟩
theorem ev_int {i : Int} : Ev K (tC (.int i)) σ H (.int i) := fun H1 _ Q k => k _ H1 (Same.refl H1) (.int i)
theorem ev_bl {b : Bool} : Ev K (tC (.bl b)) σ H (.bool b) := fun H1 _ Q k => k _ H1 (Same.refl H1) (.bl b)
theorem ev_non : Ev K (tC .non) σ H .none := fun H1 _ Q k => k _ H1 (Same.refl H1) .non
theorem ev_str {z : Str} : Ev K (tC (.str z)) σ H (.str z) := fun H1 _ Q k => k _ H1 (Same.refl H1) (.str z)
/-- an operation on two values of known data -/
theorem ev_op {r : R2} {f : PD} (a : Ev K ta σ H d) (b : Ev K tb σ H e) (h : ∀ v w H1, Rep K H1 v d → Rep K H1 w e → ∀ Q : VK, (∀ z H2, Same H1 H2 → Rep K H2 z f → Q z H2) → r v w H1 Q) : Ev K (tOp r ta tb) σ H f := fun H1 s Q k =>
  a H1 s _ fun v H2 s2 rv => b H2 (s.trans s2) _ fun w H3 s3 rw' => h v w H3 (rv.same s3) rw' Q fun z H4 s4 rz => k z H4 ((s2.trans s3).trans s4) rz
theorem ev_add (a : Ev K ta σ H (.int x)) (b : Ev K tb σ H (.int y)) : Ev K (tOp (rI0 fun i j => .int (i + j)) ta tb) σ H (.int (x + y)) :=
  ev_op a b fun v w H1 rv rw' Q k => by cases rv.int_inv; cases rw'.int_inv; exact ⟨_, _, rfl, rfl, k _ H1 (Same.refl H1) (.int _)⟩
theorem ev_sub (a : Ev K ta σ H (.int x)) (b : Ev K tb σ H (.int y)) : Ev K (tOp (rI0 fun i j => .int (i - j)) ta tb) σ H (.int (x - y)) :=
  ev_op a b fun v w H1 rv rw' Q k => by cases rv.int_inv; cases rw'.int_inv; exact ⟨_, _, rfl, rfl, k _ H1 (Same.refl H1) (.int _)⟩
theorem ev_rI {C : Int → Int → Prop} {g : Int → Int → V} {gd : Int → Int → PD} (hg : ∀ i j H, Rep K H (g i j) (gd i j)) (hc : C x y) (a : Ev K ta σ H (.int x)) (b : Ev K tb σ H (.int y)) : Ev K (tOp (rI C g) ta tb) σ H (gd x y) :=
  ev_op a b fun v w H1 rv rw' Q k => by cases rv.int_inv; cases rw'.int_inv; exact ⟨_, _, rfl, rfl, hc, k _ H1 (Same.refl H1) (hg _ _ _)⟩
theorem ev_mul (a : Ev K ta σ H (.int x)) (b : Ev K tb σ H (.int y)) (hc : CMulW x y) : Ev K (tOp (rI CMulW fun i j => .int (i * j)) ta tb) σ H (.int (x * y)) := ev_rI (gd := fun i j => .int (i * j)) (fun _ _ _ => .int _) hc a b
theorem ev_mod (a : Ev K ta σ H (.int x)) (b : Ev K tb σ H (.int y)) (hc : 0 < y) : Ev K (tOp (rI (fun _ j => 0 < j) fun i j => .int (i % j)) ta tb) σ H (.int (x % y)) := ev_rI (C := fun _ j => 0 < j) (gd := fun i j => .int (i % j)) (fun _ _ _ => .int _) hc a b
theorem ev_modN (a : Ev K ta σ H (.int x)) (b : Ev K tb σ H (.int y)) (hc : y ≠ 0) : Ev K (tOp (rI (fun _ j => j ≠ 0) fun i j => .int (i.fmod j)) ta tb) σ H (.int (x.fmod y)) := ev_rI (C := fun _ j => j ≠ 0) (gd := fun i j => .int (i.fmod j)) (fun _ _ _ => .int _) hc a b
theorem ev_fdiv (a : Ev K ta σ H (.int x)) (b : Ev K tb σ H (.int y)) (hc : CDivW x y) : Ev K (tOp (rI CDivW fun i j => .int (i / j)) ta tb) σ H (.int (x / y)) := ev_rI (gd := fun i j => .int (i / j)) (fun _ _ _ => .int _) hc a b
theorem ev_fdivN (a : Ev K ta σ H (.int x)) (b : Ev K tb σ H (.int y)) (hc : CDivNW x y) : Ev K (tOp (rI CDivNW fun i j => .int (i.fdiv j)) ta tb) σ H (.int (x.fdiv y)) := ev_rI (gd := fun i j => .int (i.fdiv j)) (fun _ _ _ => .int _) hc a b
theorem ev_pow {g : Int} (a : Ev K ta σ H (.int x)) (b : Ev K tb σ H (.int y)) (hc : CPow x y) (hg : x ^ y.toNat = g) : Ev K (tOp (rI CPow fun i j => .int (i ^ j.toNat)) ta tb) σ H (.int g) := by
  subst hg; exact ev_rI (gd := fun i j => .int (i ^ j.toNat)) (fun _ _ _ => .int _) hc a b
theorem ev_neg (a : Ev K ta σ H (.int x)) : Ev K (tUn (rU fun i => .int (-i)) ta) σ H (.int (-x)) := fun H1 s Q k =>
  a H1 s _ fun v H2 s2 rv => by cases rv.int_inv; exact ⟨x, rfl, k _ H2 s2 (.int _)⟩
/-- an item of a tuple -/
theorem ev_ix {i : Int} (a : Ev K ta σ H (.tuple ds)) (he : atI ds i = some d) : Ev K (tOp (rIxT K) ta (tC (.int i))) σ H d := fun H1 s Q k =>
  a H1 s _ fun v H2 s2 rv => by
    obtain ⟨p, xs, rfl, hp, r⟩ := rv.tup_inv
    obtain ⟨z, hz, rz⟩ := r.at he
    exact ⟨p, xs, i, z, rfl, rfl, hp, hz, k z H2 s2 rz⟩
theorem eva_nil : EvA K tNil σ H [] := fun H1 _ Q k => k [] H1 (Same.refl H1) .nil
theorem eva_cons {tr : TA} (a : Ev K ta σ H d) (b : EvA K tr σ H ds) : EvA K (tCons ta tr) σ H (d :: ds) := fun H1 s Q k =>
  a H1 s _ fun v H2 s2 rv => b H2 (s.trans s2) _ fun vs H3 s3 rs => k (v :: vs) H3 (s2.trans s3) (.cons (rv.same s3) rs)
theorem ev_tup {tr : TA} (a : EvA K tr σ H ds) (hl : ds.length ≤ 1000 := by exact Nat.le_of_ble_eq_true rfl) : Ev K (tTup tr) σ H (.tuple ds) := fun H1 s Q k =>
  a H1 s _ fun vs H2 s2 rs => ⟨by rw [rs.len]; exact Nat.le_of_lt (small1000 hl), fun p hp => k (.ref p) _ (s2.trans (same_upd hp)) (.tup (SqT.of upd_same) (rs.same (same_upd hp)))⟩
theorem evl_lst {tr : TA} (a : EvA K tr σ H ds) (hl : ds.length ≤ 1000 := by exact Nat.le_of_ble_eq_true rfl) : EvL K (tLst tr) σ H ds := fun H1 s Q k =>
  a H1 s _ fun vs H2 s2 rs => ⟨by rw [rs.len]; exact Nat.le_of_lt (small1000 hl), fun p hp => k p vs _ (s2.trans (same_upd hp)) (s2.free hp) upd_same (rs.same (same_upd hp))⟩
theorem ev_if {c : Bool} (t : EvB tc σ H c) (a : c = true → Ev K ta σ H d) (b : c = false → Ev K tb σ H d) : Ev K (tIf tc ta tb) σ H d := fun H1 s Q k =>
  t H1 s _ fun H2 s2 => by
    cases c with
    | true => exact iteT (a rfl H2 (s.trans s2) Q fun v H3 s3 r => k v H3 (s2.trans s3) r)
    | false => exact iteF (b rfl H2 (s.trans s2) Q fun v H3 s3 r => k v H3 (s2.trans s3) r)
/-! tests -/
theorem evb_test {te : TE} {b : Bool} (a : Ev K te σ H (.bool b)) : EvB (tTest te) σ H b := fun H1 s Q k =>
  a H1 s _ fun v H2 s2 rv => by cases rv.bl_inv; exact ⟨b, rfl, k H2 s2⟩
theorem evb_b {te : TE} {b : Bool} (a : Ev K te σ H (.bool b)) : EvB (tB te) σ H b := fun H1 s Q k =>
  a H1 s _ fun v H2 s2 rv => by cases rv.bl_inv; exact ⟨b, rfl, k H2 s2⟩
theorem evb_not {b : Bool} (a : EvB tc σ H b) : EvB (tNot tc) σ H (!b) := fun H1 s Q k => a H1 s _ fun H2 s2 => k H2 s2
theorem evb_and {td : TT} {b c : Bool} (a : EvB tc σ H b) (h : b = true → EvB td σ H c) : EvB (tAnd tc td) σ H (b && c) := fun H1 s Q k => a H1 s _ fun H2 s2 => by
  cases b with
  | true => exact iteT (h rfl H2 (s.trans s2) _ fun H3 s3 => k H3 (s2.trans s3))
  | false => exact iteF (k H2 s2)
theorem evb_or {td : TT} {b c : Bool} (a : EvB tc σ H b) (h : b = false → EvB td σ H c) : EvB (tOr tc td) σ H (b || c) := fun H1 s Q k => a H1 s _ fun H2 s2 => by
  cases b with
  | true => exact iteT (k H2 s2)
  | false => exact iteF (h rfl H2 (s.trans s2) _ fun H3 s3 => k H3 (s2.trans s3))
theorem ev_andV {b c : Bool} (a : Ev K ta σ H (.bool b)) (h : b = true → Ev K tb σ H (.bool c)) : Ev K (tAndV ta tb) σ H (.bool (b && c)) := fun H1 s Q k =>
  a H1 s _ fun v H2 s2 rv => by
    cases rv.bl_inv
    refine ⟨b, rfl, ?_⟩
    cases b with
    | true => exact iteT (h rfl H2 (s.trans s2) _ fun v H3 s3 r => k v H3 (s2.trans s3) r)
    | false => exact iteF (k _ H2 s2 (.bl _))
theorem ev_orV {b c : Bool} (a : Ev K ta σ H (.bool b)) (h : b = false → Ev K tb σ H (.bool c)) : Ev K (tOrV ta tb) σ H (.bool (b || c)) := fun H1 s Q k =>
  a H1 s _ fun v H2 s2 rv => by
    cases rv.bl_inv
    refine ⟨b, rfl, ?_⟩
    cases b with
    | true => exact iteT (k _ H2 s2 (.bl _))
    | false => exact iteF (h rfl H2 (s.trans s2) _ fun v H3 s3 r => k v H3 (s2.trans s3) r)
theorem ev_lt (a : Ev K ta σ H (.int x)) (b : Ev K tb σ H (.int y)) : Ev K (tOp (rI0 fun i j => .bl (decide (i < j))) ta tb) σ H (.bool (decide (x < y))) :=
  ev_op a b fun v w H1 rv rw' Q k => by cases rv.int_inv; cases rw'.int_inv; exact ⟨_, _, rfl, rfl, k _ H1 (Same.refl H1) (.bl _)⟩
theorem ev_le (a : Ev K ta σ H (.int x)) (b : Ev K tb σ H (.int y)) : Ev K (tOp (rI0 fun i j => .bl (decide (i ≤ j))) ta tb) σ H (.bool (decide (x ≤ y))) :=
  ev_op a b fun v w H1 rv rw' Q k => by cases rv.int_inv; cases rw'.int_inv; exact ⟨_, _, rfl, rfl, k _ H1 (Same.refl H1) (.bl _)⟩
theorem ev_gt (a : Ev K ta σ H (.int x)) (b : Ev K tb σ H (.int y)) : Ev K (tOp (rI0 fun i j => .bl (decide (j < i))) ta tb) σ H (.bool (decide (y < x))) :=
  ev_op a b fun v w H1 rv rw' Q k => by cases rv.int_inv; cases rw'.int_inv; exact ⟨_, _, rfl, rfl, k _ H1 (Same.refl H1) (.bl _)⟩
theorem ev_ge (a : Ev K ta σ H (.int x)) (b : Ev K tb σ H (.int y)) : Ev K (tOp (rI0 fun i j => .bl (decide (j ≤ i))) ta tb) σ H (.bool (decide (y ≤ x))) :=
  ev_op a b fun v w H1 rv rw' Q k => by cases rv.int_inv; cases rw'.int_inv; exact ⟨_, _, rfl, rfl, k _ H1 (Same.refl H1) (.bl _)⟩
theorem dec_Vint {x y : Int} : decide (V.int x = V.int y) = decide (x = y) := by
  by_cases h : x = y
  · subst h; simp
  · rw [decide_eq_false h]; exact decide_eq_false fun e => h (V.int.inj e)
theorem dec_Vbl {x y : Bool} : decide (V.bl x = V.bl y) = decide (x = y) := by cases x <;> cases y <;> rfl
theorem ev_eqI (a : Ev K ta σ H (.int x)) (b : Ev K tb σ H (.int y)) : Ev K (tOp rEq ta tb) σ H (.bool (decide (x = y))) :=
  ev_op a b fun v w H1 rv rw' Q k => by cases rv.int_inv; cases rw'.int_inv; exact ⟨rfl, k _ H1 (Same.refl H1) (by rw [dec_Vint]; exact .bl _)⟩
theorem ev_neI (a : Ev K ta σ H (.int x)) (b : Ev K tb σ H (.int y)) : Ev K (tOp rNe ta tb) σ H (.bool (!decide (x = y))) :=
  ev_op a b fun v w H1 rv rw' Q k => by cases rv.int_inv; cases rw'.int_inv; exact ⟨rfl, k _ H1 (Same.refl H1) (by rw [dec_Vint]; exact .bl _)⟩
theorem ev_eqB {x y : Bool} (a : Ev K ta σ H (.bool x)) (b : Ev K tb σ H (.bool y)) : Ev K (tOp rEq ta tb) σ H (.bool (decide (x = y))) :=
  ev_op a b fun v w H1 rv rw' Q k => by cases rv.bl_inv; cases rw'.bl_inv; exact ⟨rfl, k _ H1 (Same.refl H1) (by rw [dec_Vbl]; exact .bl _)⟩
theorem ev_eqD (a : Ev K ta σ H d) (b : Ev K tb σ H e) (sd : SeqAt.shaped d = true) (se : SeqAt.shaped e = true) : Ev K (tOp (rEqD K) ta tb) σ H (.bool (PyData.eqv d e)) :=
  ev_op a b fun v w H1 rv rw' Q k => ⟨d, e, rv.dp, rw'.dp, sd, se, k _ H1 (Same.refl H1) (.bl _)⟩
theorem ev_neD (a : Ev K ta σ H d) (b : Ev K tb σ H e) (sd : SeqAt.shaped d = true) (se : SeqAt.shaped e = true) : Ev K (tOp (rNeD K) ta tb) σ H (.bool (!PyData.eqv d e)) :=
  ev_op a b fun v w H1 rv rw' Q k => ⟨d, e, rv.dp, rw'.dp, sd, se, k _ H1 (Same.refl H1) (.bl _)⟩
theorem ev_inT (a : Ev K ta σ H d) (b : Ev K tb σ H (.tuple ds)) (sd : SeqAt.shaped d = true) (se : SeqAt.shaped (.tuple ds) = true) : Ev K (tOp (rInT K) ta tb) σ H (.bool (ds.any fun z => PyData.eqv z d)) :=
  ev_op a b fun v w H1 rv rw' Q k => ⟨d, ds, rv.dp, rw'.dp, sd, se, k _ H1 (Same.refl H1) (.bl _)⟩
/-! None or not -/
def isN : PD → Bool
  | .none => true
  | _ => false
theorem Rep.isNon {v : V} (h : Rep K H v d) : decide (v = .non) = isN d := by
  cases h <;> rfl
theorem ev_isN (a : Ev K ta σ H d) : Ev K (tIsN ta) σ H (.bool (isN d)) := fun H1 s Q k =>
  a H1 s _ fun v H2 s2 rv => k _ H2 s2 (by rw [rv.isNon]; exact .bl _)
theorem ev_notN (a : Ev K ta σ H d) : Ev K (tNotN ta) σ H (.bool (!isN d)) := fun H1 s Q k =>
  a H1 s _ fun v H2 s2 rv => k _ H2 s2 (by rw [rv.isNon]; exact .bl _)
theorem ev_isB {x y : Bool} (a : Ev K ta σ H (.bool x)) (b : Ev K tb σ H (.bool y)) : Ev K (tOp rIsB ta tb) σ H (.bool (decide (x = y))) :=
  ev_op a b fun v w H1 rv rw' Q k => by cases rv.bl_inv; cases rw'.bl_inv; exact ⟨_, _, rfl, rfl, k _ H1 (Same.refl H1) (.bl _)⟩
theorem ev_isNB {x y : Bool} (a : Ev K ta σ H (.bool x)) (b : Ev K tb σ H (.bool y)) : Ev K (tOp rNotB ta tb) σ H (.bool (!decide (x = y))) :=
  ev_op a b fun v w H1 rv rw' Q k => by cases rv.bl_inv; cases rw'.bl_inv; exact ⟨_, _, rfl, rfl, k _ H1 (Same.refl H1) (.bl _)⟩
/-! truth, length -/
theorem evb_truT (a : Ev K ta σ H (.tuple ds)) : EvB (fun σ H Q => ta σ H fun x H' => ∃ k, TruV K x H' k ∧ Q k H') σ H (!ds.isEmpty) := fun H1 s Q k =>
  a H1 s _ fun v H2 s2 rv => by
    obtain ⟨p, xs, rfl, hp, r⟩ := rv.tup_inv
    exact ⟨_, .inr (.inl ⟨xs, hp, rfl⟩), by rw [show xs.isEmpty = ds.isEmpty by cases r <;> rfl]; exact k H2 s2⟩
theorem ev_lenT {tr : TA} (a : EvA K tr σ H [.tuple ds]) : Ev K (tCB (fun xs H Q => ∃ p ys, xs = [.ref p] ∧ (SqL K H p ys ∨ SqT K H p ys) ∧ Q (.int ys.length) H) tr) σ H (.int ds.length) := fun H1 s Q k =>
  a H1 s _ fun vs H2 s2 rs => by
    obtain ⟨v, rfl, rv⟩ := rs.inv1
    obtain ⟨p, xs, rfl, hp, r⟩ := rv.tup_inv
    exact ⟨p, xs, rfl, .inr hp, k _ H2 s2 (by rw [r.len]; exact .int _)⟩
theorem ev_intI {tr : TA} (a : EvA K tr σ H [.int x]) : Ev K (tCB (fun xs H Q => (∃ i, xs = [.int i] ∧ Q (.int i) H) ∨ ∃ k, xs = [.bl k] ∧ Q (.int (if k then 1 else 0)) H) tr) σ H (.int x) := fun H1 s Q k =>
  a H1 s _ fun vs H2 s2 rs => by
    obtain ⟨v, rfl, rv⟩ := rs.inv1
    cases rv.int_inv
    exact .inl ⟨x, rfl, k _ H2 s2 (.int _)⟩
theorem ev_abs {tr : TA} (a : EvA K tr σ H [.int x]) : Ev K (tCB (fun xs H Q => ∃ i, xs = [.int i] ∧ Q (.int (if i < 0 then -i else i)) H) tr) σ H (.int (if x < 0 then -x else x)) := fun H1 s Q k =>
  a H1 s _ fun vs H2 s2 rs => by
    obtain ⟨v, rfl, rv⟩ := rs.inv1
    cases rv.int_inv
    exact ⟨x, rfl, k _ H2 s2 (.int _)⟩
/-! a list made new, used up -/
theorem RepAll.ints : ∀ {vs : List V} {ns : List Int}, RepAll K H vs (ns.map .int) → vs = ns.map V.int
  | _, [], h => by cases h; rfl
  | _, n :: ns, h => by
    cases h with
    | cons h r => cases h.int_inv; rw [RepAll.ints r]; rfl
theorem RepAll.bools : ∀ {vs : List V} {ns : List Bool}, RepAll K H vs (ns.map .bool) → vs = ns.map V.bl
  | _, [], h => by cases h; rfl
  | _, n :: ns, h => by
    cases h with
    | cons h r => cases h.bl_inv; rw [RepAll.bools r]; rfl
theorem ev_sum {ns : List Int} (a : EvL K ta σ H (ns.map .int)) : Ev K (tCB (rSum K) (tCons ta tNil)) σ H (.int ns.sum) := fun H1 s Q k =>
  a H1 s _ fun p vs H2 s2 _ hp rs => ⟨p, ns, rfl, SqL.of (by rw [hp, rs.ints]), k _ H2 s2 (.int _)⟩
theorem ev_any {ns : List Bool} (a : EvL K ta σ H (ns.map .bool)) : Ev K (tCB (rAny K) (tCons ta tNil)) σ H (.bool (ns.any id)) := fun H1 s Q k =>
  a H1 s _ fun p vs H2 s2 _ hp rs => ⟨p, ns, rfl, SqL.of (by rw [hp, rs.bools]), k _ H2 s2 (.bl _)⟩
theorem ev_all {ns : List Bool} (a : EvL K ta σ H (ns.map .bool)) : Ev K (tCB (rAll K) (tCons ta tNil)) σ H (.bool (ns.all id)) := fun H1 s Q k =>
  a H1 s _ fun p vs H2 s2 _ hp rs => ⟨p, ns, rfl, SqL.of (by rw [hp, rs.bools]), k _ H2 s2 (.bl _)⟩
def rTupleOf (K : Fr) : List V → Hp → VK → Prop := fun xs H Q => ∃ p ys, xs = [.ref p] ∧ ((SqL K H p ys ∧ ∀ l, H l = none → Q (.ref l) (upd H l (.tup ys))) ∨ (SqT K H p ys ∧ Q (.ref p) H))
theorem ev_tupleL (a : EvL K ta σ H ds) : Ev K (tCB (rTupleOf K) (tCons ta tNil)) σ H (.tuple ds) := fun H1 s Q k =>
  a H1 s _ fun p vs H2 s2 _ hp rs => ⟨p, vs, rfl, .inl ⟨SqL.of hp, fun l hl => k (.ref l) _ (s2.trans (same_upd hl)) (.tup (SqT.of upd_same) (rs.same (same_upd hl)))⟩⟩
theorem ev_tupleT (a : Ev K ta σ H (.tuple ds)) : Ev K (tCB (rTupleOf K) (tCons ta tNil)) σ H (.tuple ds) := fun H1 s Q k =>
  a H1 s _ fun v H2 s2 rv => by
    have rv' := rv
    obtain ⟨p, xs, rfl, hp, r⟩ := rv.tup_inv
    exact ⟨p, xs, rfl, .inr ⟨hp, k (.ref p) H2 s2 rv'⟩⟩
/-- an attribute of an instance that a name holds -/
theorem ev_fld {i : Nat} {p C dx : Addr} {fs : List (Str × V)} {f : Str} {v : V} (e : σ[i]? = some (some (.ref p))) (hp : H p = some (.ins C dx fs)) (hc : Cls K C) (hn : NoAttr K C f) (hf : fs.lookup f = some v) (r : Rep K H v d) : Ev K (tFld K (tVar i) f) σ H d := fun H1 s Q k =>
  ⟨_, e, p, C, dx, fs, v, rfl, s _ _ hp, hc, hn, hf, k v H1 (Same.refl H1) (r.same s)⟩
/-- a def that hands back data, and touches nothing -/
def spF (K : Fr) (R : List PD → PD → Prop) : Sp := fun vs H Q _ => ∃ ds d, RepAll K H vs ds ∧ R ds d ∧ ∀ v H', Same H H' → Rep K H' v d → Q v H'
theorem ev_call {R : List PD → PD → Prop} {E : XK} {t : TA} (a : EvA K t σ H ds) (h : R ds d) : Ev K (tCall (spF K R) [] E t) σ H d := fun H1 s Q k =>
  a H1 s _ fun vs H2 s2 rs => ⟨ds, d, by rw [List.append_nil]; exact rs, h, fun v H3 s3 rv => k v H3 (s2.trans s3) rv⟩
/-! statements -/
variable {D : Ends} {u t1 t2 : TS}
theorem s_set {i : Nat} (a : Ev K ta σ H d) (h : ∀ v H1, Same H H1 → Rep K H1 v d → u D (σ.set i (some v)) H1) : tSeq (tAsg ta (gName i)) u D σ H := a H (Same.refl H) _ h
theorem s_ret (a : Ev K ta σ H d) (h : ∀ v H1, Same H H1 → Rep K H1 v d → D.rt v H1) : tRet ta D σ H := a H (Same.refl H) _ h
theorem s_if {c : Bool} (t : EvB tc σ H c) (a : c = true → ∀ H1, Same H H1 → t1 D σ H1) (b : c = false → ∀ H1, Same H H1 → t2 D σ H1) : tIfS tc t1 t2 D σ H :=
  t H (Same.refl H) _ fun H1 s => by
    cases c with
    | true => exact iteT (a rfl H1 s)
    | false => exact iteF (b rfl H1 s)
/-- an if in a block -/
theorem s_ifs {c : Bool} (t : EvB tc σ H c) (a : c = true → ∀ H1, Same H H1 → t1 { D with nx := u D } σ H1) (b : c = false → ∀ H1, Same H H1 → t2 { D with nx := u D } σ H1) : tSeq (tIfS tc t1 t2) u D σ H :=
  s_if t a b
/-- an if that leaves, in a block -/
theorem s_ifr {c : Bool} (t : EvB tc σ H c) (a : c = true → ∀ H1, Same H H1 → t1 { D with nx := u D } σ H1) (b : c = false → ∀ H1, Same H H1 → u D σ H1) : tSeq (tIfS tc t1 tNext) u D σ H :=
  s_if t a b
theorem s_ret1 {te : TE} {H1 : Hp} (a : Ev K te σ H d) (h : ∀ v H1, Same H H1 → Rep K H1 v d → D.rt v H1) : tRet te D σ H := a H (Same.refl H) _ h
end
/-! ### isinstance of data -/
def pyT : PD → String
  | .none => "NoneType"
  | .bool _ => "bool"
  | .int _ => "int"
  | .str _ => "str"
  | .tuple _ => "tuple"
  | .list _ => "list"
  | .dict _ => "dict"
theorem Rep.ty {K : Fr} {H : Hp} {v : V} {d : PD} (h : Rep K H v d) : TyX K H v (.type (pyT d)) := by
  cases h with
  | non => exact .base .non
  | bl b => exact .base (.bl b)
  | int i => exact .base (.int i)
  | str x => exact .base (.str x)
  | tup h r =>
    rcases h with (h | ⟨o, h⟩) | ⟨o, its, n, hk, hc, _⟩
    · exact .base (.tup h)
    · exact .fTuple h
    · exact .kTuple hk hc
theorem ev_isi {K : Fr} {σ : L2.St} {H : Hp} {ta : TE} {d : PD} {T : String} {b : Bool} (a : Ev K ta σ H d) (h : kitB (pyT d) T = some b) : Ev K (tCB (rIsi K) (tCons ta (tCons (tC (.ty T)) tNil))) σ H (.bool b) := fun H1 s Q k =>
  a H1 s _ fun v H2 s2 rv => ⟨v, .ty T, _, _, b, rfl, .ty T, rv.ty, kit_ty h, k _ H2 s2 (.bl b)⟩
/-! ### x, y = a, b -/
theorem s_par {K : Fr} {σ : L2.St} {H : Hp} {ta : TA} {d e : PD} {i j : Nat} {u : TS} {D : Ends} (a : EvA K ta σ H [d, e]) (h : ∀ v w H1, Same H H1 → Rep K H1 v d → Rep K H1 w e → u D ((σ.set i (some v)).set j (some w)) H1) : tSeq (tPar i j ta) u D σ H :=
  a H (Same.refl H) _ fun vs H1 s rs => by
    obtain ⟨v, w, rfl, r1, r2⟩ := rs.inv2
    exact ⟨v, w, rfl, h v w H1 s r1 r2⟩
theorem s_par_end {K : Fr} {σ : L2.St} {H : Hp} {ta : TA} {d e : PD} {i j : Nat} {D : Ends} (a : EvA K ta σ H [d, e]) (h : ∀ v w H1, Same H H1 → Rep K H1 v d → Rep K H1 w e → D.nx ((σ.set i (some v)).set j (some w)) H1) : tPar i j ta D σ H :=
  a H (Same.refl H) _ fun vs H1 s rs => by
    obtain ⟨v, w, rfl, r1, r2⟩ := rs.inv2
    exact ⟨v, w, rfl, h v w H1 s r1 r2⟩
theorem s_par3_end {K : Fr} {σ : L2.St} {H : Hp} {ta : TA} {d e f : PD} {i j l : Nat} {D : Ends} (a : EvA K ta σ H [d, e, f]) (h : ∀ v w x H1, Same H H1 → Rep K H1 v d → Rep K H1 w e → Rep K H1 x f → D.nx (((σ.set i (some v)).set j (some w)).set l (some x)) H1) : tPar3 i j l ta D σ H :=
  a H (Same.refl H) _ fun vs H1 s rs => by
    obtain ⟨v, w, x, rfl, r1, r2, r3⟩ := rs.inv3
    exact ⟨v, w, x, rfl, h v w x H1 s r1 r2 r3⟩
end LB
/-! Two rules of our own: zip over three tuples; x in an object by its class's own __contains__. -/
namespace LB
open PySem PySem.Spec PyProof.Rows L2
/-! ### for x, y, z in zip(a, b, c), three tuples -/
def Itz3 (K : Fr) (a b c : Addr) : It where
  go := fun i H => ∃ (xs ys zs : List V) (x y z : V), SqT K H a xs ∧ SqT K H b ys ∧ SqT K H c zs ∧ xs[i]? = some x ∧ ys[i]? = some y ∧ zs[i]? = some z
  yld := fun i H v H' => ∃ T x y z, v = .ref T ∧ H T = none ∧ H' = upd H T (.tup [x, y, z]) ∧ (∀ xs, SqT K H a xs → xs[i]? = some x) ∧ (∀ ys, SqT K H b ys → ys[i]? = some y) ∧ ∀ zs, SqT K H c zs → zs[i]? = some z
  stop := fun i H => ∃ xs ys zs : List V, SqT K H a xs ∧ SqT K H b ys ∧ SqT K H c zs ∧ (i ≤ xs.length ∧ i ≤ ys.length ∧ i ≤ zs.length) ∧ (i = xs.length ∨ i = ys.length ∨ i = zs.length)
theorem tup_ne_iter {h : Heap} {a i t : Addr} {n : Nat} {its : Array Value} (p : h.IsTuple a its) (g : h.IsTupleIter i t n) : a ≠ i := by
  intro e
  subst e
  obtain ⟨o, e1, c1, _⟩ := p
  obtain ⟨u, e2, c2, _⟩ := g
  rw [e1] at e2
  cases e2
  rw [c1] at c2
  exact absurd c2 (by decide)
theorem turn_z3 {P : Program} {w : World} {K : Fr} {elts : List Expr} {kk : Nat} {tpos : Pos} {a b c z TI TO i1 i2 i3 : Addr}
    (S : ZipSep3 z TI TO i1 i2 i3 [i1, a] [i2, b] [i3, c]) :
    Turn P w K (.Tuple elts kk tpos) (Itz3 K a b c) [z, TI, TO, i1, i2, i3] z
      (fun i h => IsZip h z TI TO .none ∧ IsTupOf3 h TI (.ref i1) (.ref i2) (.ref i3) ∧ (∃ x y v, IsTupOf3 h TO x y v) ∧ h.IsTupleIter i1 a i ∧ h.IsTupleIter i2 b i ∧ h.IsTupleIter i3 c i) where
  mem := List.mem_cons_self
  obj := by
    rintro i h ⟨g1, g2, ⟨x, y, v, g3⟩, ⟨o4, e4, _, d4⟩, ⟨o5, e5, _, d5⟩, ⟨o6, e6, _, d6⟩⟩ q hq
    have q' : q = z ∨ q = TI ∨ q = TO ∨ q = i1 ∨ q = i2 ∨ q = i3 := by simpa using hq
    rcases q' with rfl | rfl | rfl | rfl | rfl | rfl
    · exact ⟨_, g1, fun v e => nomatch e⟩
    · exact ⟨_, g2, fun v e => nomatch e⟩
    · exact ⟨_, g3, fun v e => nomatch e⟩
    · exact ⟨_, e4, fun v e => by rw [d4] at e; cases e⟩
    · exact ⟨_, e5, fun v e => by rw [d5] at e; cases e⟩
    · exact ⟨_, e6, fun v e => by rw [d6] at e; cases e⟩
  keep := by
    rintro i h h' ⟨g1, g2, ⟨x, y, v, g3⟩, g4, g5, g6⟩ k
    exact ⟨k z (by simp) _ g1, k TI (by simp) _ g2, ⟨x, y, v, k TO (by simp) _ g3⟩, g4.at fun o e => k i1 (by simp) o e, g5.at fun o e => k i2 (by simp) o e, g6.at fun o e => k i3 (by simp) o e⟩
  item := by
    intro X hP hw hK hc i pins s σ H E I hf st hg
    subst hP hw hK
    obtain ⟨g1, g2, ⟨x0, y0, v0, g3⟩, g4, g5, g6⟩ := st
    obtain ⟨xs, ys, zs, x, y, v, qa, qb, qc, hx, hy, hv⟩ := hg
    obtain ⟨its1, r1, p1, _⟩ := I.tuple qa
    obtain ⟨its2, r2, p2, _⟩ := I.tuple qb
    obtain ⟨its3, r3, p3, _⟩ := I.tuple qc
    obtain ⟨u1, hu1, ru1⟩ := r1.get hx
    obtain ⟨u2, hu2, ru2⟩ := r2.get hy
    obtain ⟨u3, hu3, ru3⟩ := r3.get hv
    have hh : X.A.in1.handled = none := I.ok.hd hc
    have zl : z < s.heap.objs.size := Heap.lt_size g1
    refine wpAny_pyNext_zipD3_item S (Draws.tuple hh i1 a (tup_ne_iter p1 g4) its1.toArray) (Draws.tuple hh i2 b (tup_ne_iter p2 g5) its2.toArray) (Draws.tuple hh i3 c (tup_ne_iter p3 g6) its3.toArray)
      g1 g2 g3 ⟨g4, p1⟩ ⟨g5, p2⟩ ⟨g6, p3⟩ (i := i) (List.getElem?_eq_some_iff.mp (by simpa using hu1)).1 (List.getElem?_eq_some_iff.mp (by simpa using hu2)).1 (List.getElem?_eq_some_iff.mp (by simpa using hu3)).1 ?_
    intro w1 w2 w3 h' tk c1 c2 c3 z' TO' n1 n2 n3 hT hsz hk
    have c1' : w1 = u1 := by
      have q : its1.toArray[i]? = some u1 := by simpa using hu1
      exact Option.some.inj (c1.symm.trans q)
    have c2' : w2 = u2 := by
      have q : its2.toArray[i]? = some u2 := by simpa using hu2
      exact Option.some.inj (c2.symm.trans q)
    have c3' : w3 = u3 := by
      have q : its3.toArray[i]? = some u3 := by simpa using hu3
      exact Option.some.inj (c3.symm.trans q)
    subst c1' c2' c3'
    refine ⟨_, rfl, wpAny_letOwnedTupleGo_zip (s := { s with heap := h', toks := tk }) z' fun h'' z'' sb => ?_⟩
    have hT2 : h''.get? s.heap.objs.size = some { cls := .type "tuple", data := .seq #[w1, w2, w3] } := (sb.2 _ (Nat.ne_of_gt zl)).trans hT
    have new : ObjOk X.prog X.w (upd H s.heap.objs.size (.tup [x, y, v])) h'' s.heap.objs.size (.tup [x, y, v]) := by
      refine ⟨by show 3 ≤ sizeLine; decide, [w1, w2, w3], .cons ru1 (.cons ru2 (.cons ru3 .nil)), ?_⟩
      exact ⟨_, hT2, rfl, _, rfl⟩
    have keep : ∀ q o, q ∉ [z, TI, TO, i1, i2, i3] → s.heap.get? q = some o → h''.get? q = some o := by
      intro q o hq e
      simp at hq
      exact (sb.2 q hq.1).trans (hk q o hq.1 hq.2.2.1 hq.2.2.2.1 hq.2.2.2.2.1 hq.2.2.2.2.2 e)
    have I1 : Inv X pins σ (upd H s.heap.objs.size (.tup [x, y, v])) { s with heap := h'', toks := tk } := I.turnedNew (t' := tk) (ch := [z, TI, TO, i1, i2, i3]) keep hf (Nat.le_refl _) new
    refine ⟨.ref s.heap.objs.size, _, I1, rfl, ⟨_, x, y, v, rfl, I.hok.fresh (Nat.le_refl _), rfl, fun l hl => by rw [I.tuple_inj hl qa]; exact hx, fun l hl => by rw [I.tuple_inj hl qb]; exact hy, fun l hl => by rw [I.tuple_inj hl qc]; exact hv⟩, ⟨z'', ?_, ⟨w1, w2, w3, ?_⟩, ?_, ?_, ?_⟩, fun q hq => ?_⟩
    · exact (sb.2 _ S.TIz).trans (hk _ _ S.TIz S.TITO S.TIi1 S.TIi2 S.TIi3 g2)
    · exact (sb.2 _ S.TOz).trans TO'
    · exact n1.1.at fun o e => (sb.2 _ (fun e' => S.zi1 e'.symm)).trans e
    · exact n2.1.at fun o e => (sb.2 _ (fun e' => S.zi2 e'.symm)).trans e
    · exact n3.1.at fun o e => (sb.2 _ (fun e' => S.zi3 e'.symm)).trans e
    · have lt : q < s.heap.objs.size := by
        have q' : q = z ∨ q = TI ∨ q = TO ∨ q = i1 ∨ q = i2 ∨ q = i3 := by simpa using hq
        obtain ⟨_, e4, _⟩ := g4
        obtain ⟨_, e5, _⟩ := g5
        obtain ⟨_, e6, _⟩ := g6
        rcases q' with rfl | rfl | rfl | rfl | rfl | rfl
        · exact zl
        · exact Heap.lt_size g2
        · exact Heap.lt_size g3
        · exact Heap.lt_size e4
        · exact Heap.lt_size e5
        · exact Heap.lt_size e6
      rw [upd_ne (Nat.ne_of_lt lt)]
      exact (hf q hq).1
  done := by
    intro X hP hw hK hc i pins s σ H E I hf st hg
    subst hP hw hK
    obtain ⟨g1, g2, ⟨x0, y0, v0, g3⟩, g4, g5, g6⟩ := st
    obtain ⟨xs, ys, zs, qa, qb, qc, ⟨l1, l2, l3⟩, hend⟩ := hg
    obtain ⟨its1, r1, p1, _⟩ := I.tuple qa
    obtain ⟨its2, r2, p2, _⟩ := I.tuple qb
    obtain ⟨its3, r3, p3, _⟩ := I.tuple qc
    have m1 : its1.toArray.size = xs.length := by simpa using r1.length.symm
    have m2 : its2.toArray.size = ys.length := by simpa using r2.length.symm
    have m3 : its3.toArray.size = zs.length := by simpa using r3.length.symm
    have hh : X.A.in1.handled = none := I.ok.hd hc
    refine wpAny_pyNext_zipD3_end S (Draws.tuple hh i1 a (tup_ne_iter p1 g4) its1.toArray) (Draws.tuple hh i2 b (tup_ne_iter p2 g5) its2.toArray) (Draws.tuple hh i3 c (tup_ne_iter p3 g6) its3.toArray)
      g1 g2 g3 ⟨g4, p1⟩ ⟨g5, p2⟩ ⟨g6, p3⟩ (i := i) (by omega) (by omega) (by omega) (by omega) ?_
    intro h' tk hk
    refine ⟨rfl, I.turnedL (t' := tk) (ch := [z, TI, TO, i1, i2, i3]) (fun q o hq e => ?_) hf⟩
    simp at hq
    exact hk q o hq.1 hq.2.2.1 hq.2.2.2.1 hq.2.2.2.2.1 hq.2.2.2.2.2 e
  self := fun A i s Q E st h => wpAny_pyIter_zip st.1 h
theorem sep3_of {n a b c : Nat} (la : a < n) (lb : b < n) (lc : c < n) : ZipSep3 (n + 5) (n + 3) (n + 4) n (n + 1) (n + 2) [n, a] [n + 1, b] [n + 2, c] := by
  constructor
  all_goals first
    | exact Nat.ne_of_lt (by omega)
    | exact Nat.ne_of_gt (by omega)
    | (simp; done)
    | (simp; exact Nat.ne_of_gt (by omega))
    | (simp; exact Nat.ne_of_lt (by omega))
def iZip3 (K : Fr) (ta : TA) : TI := fun σ H R => ta σ H fun vs H1 => ∃ a b c xs ys zs, vs = [.ref a, .ref b, .ref c] ∧ SqT K H1 a xs ∧ SqT K H1 b ys ∧ SqT K H1 c zs ∧ R (Itz3 K a b c) H1
theorem pi_zip3 {X : Cx} {e e2 e3 : Expr} {ta : TA} {p pos tpos : Pos} {elts : List Expr} {kk : Nat} (hg : Gl X "zip") (hm : X.mg "zip" = none) (ha : PA X [e, e2, e3] ta)
    (hs : starEach [e, e2, e3] X.env = (false, eval e X.env) :: starEach [e2, e3] X.env := by rfl) (hpl : (backTo pos (starEach [e2, e3] X.env)).any (·.1) = false := by rfl) :
    PI X (.Tuple elts kk tpos) (.Call (.Name "zip" p) [e, e2, e3] [] pos) (iZip3 X.K ta) := by
  refine ⟨fun pins s σ H R I h => ?_⟩
  refine Call_ (ld_blt I hg hm boot_zip (callWith_type1 (thn (ha.run pos pins s σ H _ I h) fun us s1 hh => ?_) hs hpl))
  obtain ⟨vs, H1, I1, rv, a, b, c, xs, ys, zs, ex, qa, qb, qc, q⟩ := hh
  subst ex
  obtain ⟨its1, r1, p1, _⟩ := I1.tuple qa
  obtain ⟨its2, r2, p2, _⟩ := I1.tuple qb
  obtain ⟨its3, r3, p3, _⟩ := I1.tuple qc
  cases rv with
  | cons ra rv =>
    cases rv with
    | cons rb rv =>
      cases rv with
      | cons rc rv =>
        cases rv
        cases ra
        cases rb
        cases rc
        have la : a < s1.heap.objs.size := by obtain ⟨_, e, _⟩ := id p1; exact Heap.lt_size e
        have lb : b < s1.heap.objs.size := by obtain ⟨_, e, _⟩ := id p2; exact Heap.lt_size e
        have lc : c < s1.heap.objs.size := by obtain ⟨_, e, _⟩ := id p3; exact Heap.lt_size e
        refine zip_begins3 (begins_tuple a its1.toArray) (begins_tuple b its2.toArray) (begins_tuple c its3.toArray) p1 p2 p3 fun h' hz hTI hTO h1 h2 h3 hsz hk => wpAny_pyIter_zip hz ?_
        have I2 : Inv X pins σ H1 { s1 with heap := h' } := I1.kept (t' := s1.toks) hk
        generalize hn : s1.heap.objs.size = n at *
        have S : ZipSep3 (n + 5) (n + 3) (n + 4) n (n + 1) (n + 2) [n, a] [n + 1, b] [n + 2, c] := by
          exact sep3_of la lb lc
        have fresh : ∀ q, q ∈ [n + 5, n + 3, n + 4, n, n + 1, n + 2] → FpOk X pins H1 q := fun q hq => by
          have q' : q = n + 5 ∨ q = n + 3 ∨ q = n + 4 ∨ q = n ∨ q = n + 1 ∨ q = n + 2 := by simpa using hq
          have hle : s1.heap.objs.size ≤ q := by omega
          exact I1.fpOk hle (I1.hok.fresh hle)
        exact ⟨n + 5, [n + 5, n + 3, n + 4, n, n + 1, n + 2], _, Itz3 X.K a b c, H1, rfl, I2, turn_z3 S, ⟨hz, hTI, ⟨_, _, _, hTO⟩, ⟨_, h1, rfl, rfl⟩, ⟨_, h2, rfl, rfl⟩, ⟨_, h3, rfl, rfl⟩⟩, fresh, q⟩
/-- a loop over zip of three tuples of one length -/
theorem for_zip3 {K : Fr} {a b c : Addr} {xs ys zs : List V} {g : TG} {tb : TS} {D : Ends} {σ : L2.St} {H : Hp} (hl : xs.length = ys.length) (hl2 : xs.length = zs.length) (Pv : Nat → L2.St → Hp → Prop) (h0 : Pv 0 σ H)
    (hq : ∀ i σ H, i ≤ xs.length → Pv i σ H → SqT K H a xs ∧ SqT K H b ys ∧ SqT K H c zs)
    (hs : ∀ i x y z T σ H, xs[i]? = some x → ys[i]? = some y → zs[i]? = some z → Pv i σ H → H T = none → g (.ref T) σ (upd H T (.tup [x, y, z])) fun σ2 H2 => tb { D with nx := Pv (i + 1), ct := Pv (i + 1), bk := D.nx } σ2 H2)
    (hd : ∀ σ H, Pv xs.length σ H → D.nx σ H) :
    ∃ W : Nat → Nat → L2.St → Hp → Prop, (∃ m, W 0 m σ H) ∧ ∀ i m σ H, W i m σ H →
      ((Itz3 K a b c).stop i H ∧ D.nx σ H) ∨ ((Itz3 K a b c).go i H ∧ ∃ N : L2.St → Hp → Prop, (∀ σ' H', N σ' H' → ∃ m', m' < m ∧ W (i + 1) m' σ' H') ∧ ∀ x H', (Itz3 K a b c).yld i H x H' → g x σ H' fun σ2 H2 => tb { D with nx := N, ct := N, bk := D.nx } σ2 H2) := by
  refine ⟨fun i m σ H => m = xs.length - i ∧ i ≤ xs.length ∧ Pv i σ H, ⟨xs.length, rfl, Nat.zero_le _, h0⟩, ?_⟩
  rintro i m σ H ⟨rfl, hi, p⟩
  obtain ⟨qa, qb, qc⟩ := hq i σ H hi p
  rcases Nat.lt_or_ge i xs.length with lt | ge
  · refine .inr ⟨⟨xs, ys, zs, xs[i], ys[i], zs[i], qa, qb, qc, by simp [lt], by simp [← hl, lt], by simp [← hl2, lt]⟩, Pv (i + 1), fun σ' H' p' => ⟨_, ?_, rfl, lt, p'⟩, ?_⟩
    · omega
    · rintro v H' ⟨T, x, y, z, rfl, hT, rfl, ex, ey, ez⟩
      exact hs i x y z T σ H (ex xs qa) (ey ys qb) (ez zs qc) p hT
  · have e : i = xs.length := Nat.le_antisymm hi ge
    subst e
    exact .inl ⟨⟨xs, ys, zs, qa, qb, qc, ⟨Nat.le_refl _, Nat.le_of_eq hl, Nat.le_of_eq hl2⟩, .inl rfl⟩, hd σ H p⟩
/-! ### x in an object, by its class's own __contains__ -/
def tInOwn (C : Addr) (sp : Sp) (E : XK) : R2 := fun x y H Q => ∃ a dx fs, y = .ref a ∧ H a = some (.ins C dx fs) ∧ sp [y, x] H (fun v H' => ∃ r, v = .bl r ∧ Q (.bl r) H') E
theorem op_inOwn {X : Cx} {C f : Addr} {CX : CXT} {k : Nat} {fd : FuncData} {ps : List Str} {sp : Sp} {E : XK} (hm : Meth X.K C "__contains__" f) (F : FnOk X.prog X.w X.K X.mg X.base CX k f fd ps sp) (hr : Room k X.A) (hb : Binds X.K fd ps []) (hx : Passes CX X E) :
    OpR X (compareOp .In) (tInOwn C sp E) := by
  intro pins s σ H x y v u Q I rx ry h
  obtain ⟨a, dx, fs, rfl, ea, q⟩ := h
  obtain rfl : u = Value.ref a := ry
  obtain ⟨mA, O, _, _, _, _⟩ := ins_get I.hok ea
  obtain ⟨od, J, _⟩ := O.look
  have hK := I.kIn
  show wpAny _ _ (contains (.ref a) v >>= _) _ _ _
  refine wpAny_bind ?_
  unfold contains
  refine wpAny_holding (wpAny_bind (wpAny_bind (J.type.here ?_)))
  refine (PySem.W.looks_findIn hK hm.at_).here ?_
  rw [if_neg (by simp)]
  refine wpAny_bind (PySem.W.unlessNone_K hK J hm.at_ hm.fn ?_)
  refine thn (run_fn (us := [.ref a, v]) (vs := [.ref a, x]) F hr hb .nil hx I (.cons rfl (.cons rx .nil)) (by rw [List.append_nil]; exact q)) fun r s1 hh => ?_
  obtain ⟨z, H1, I1, rz, hz⟩ := hh
  obtain ⟨c, ez, q1⟩ := hz
  subst ez
  obtain rfl : r = Value.bool c := rz
  exact wpAny_truthy_bool (wpAny_pure ⟨.bl c, H1, I1, rfl, q1⟩)
/-! ### a def as it stands behind the top, its defaults whatever they are -/
structure FunD (K : Fr) (x qual : Str) (st : Stmt) (f : Addr) (fd : FuncData) : Prop where
  ex : ∃ (oc : Value) (od : Option Addr) (dV kV doc pm : Value) (an : Option Addr) (cdv ct : Value) (osl : Array (Option Value)),
    K.lookup f = some ⟨oc, od, .func fd, osl⟩ ∧ fd = PySem.W.fnOf x qual (defArgs st) (defBody st) (defScope st) dV kV doc pm an cdv ct ∧ PySem.W.codeIn K cdv qual = true
  kp : PySem.W.keepIn K (.ref f) = true
section
variable {P : Program} {w : World} {K : Fr} {mg : Str → Option Value} {base : Heap}
theorem FunD.ok {x qual : Str} {st : Stmt} {f : Addr} {fd : FuncData} {N ps : List Str} {k : Nat} {sp : Sp} (F : FunD K x qual st f fd) (S : FnScope N ps (defScope st)) (len : ∀ vs H Q E, sp vs H Q E → vs.length = ps.length)
    (hb : ∀ (cdv : Value) (A : Around) (outer : List Env) (s : Shared) (H : Hp) (vs : List V) (Q : VK) (E : XK), Room k (A.deeper (envOfC qual (defScope st) s.heap.objs.size f cdv)) → sp vs H Q E →
      ∃ t, PSs (cxOf CX0 P w K mg base N qual (defScope st) f cdv A outer s H E).nox (defBody st) t ∧ t { nx := fun _ H' => Q .non H', rt := Q } (start N vs) H) : FnOk P w K mg base CX0 (k + 1) f fd ps sp := by
  obtain ⟨oc, od, dV, kV, doc, pm, an, cdv, ct, osl, lk, rfl, hcd⟩ := F.ex
  refine fn_of lk hcd S len fun A outer s H vs Q E hr hsp => ?_
  obtain ⟨t, h, q⟩ := hb cdv A outer s H vs Q E hr hsp
  exact ⟨t, h.nox, q⟩
theorem FunD.bnd {x qual : Str} {st : Stmt} {f : Addr} {fd : FuncData} {ps : List Str} (F : FunD K x qual st f fd)
    (h : ∀ (dV kV doc pm : Value) (an : Option Addr) (cdv ct : Value) (us : List Value), us.length = ps.length → bindArgs (PySem.W.fnOf x qual (defArgs st) (defBody st) (defScope st) dV kV doc pm an cdv ct) ⟨us, []⟩ = pure (ps.zip us)) : Binds K fd ps [] := by
  obtain ⟨oc, od, dV, kV, doc, pm, an, cdv, ct, osl, lk, rfl, hcd⟩ := F.ex
  exact .all (h dV kV doc pm an cdv ct)
theorem fun_mkD {x qual : Str} {st : Stmt} {f : Addr} {oc : Value} {od an : Option Addr} {osl : Array (Option Value)} {dV kV doc pm cdv ct : Value} (l : K.lookup f = some ⟨oc, od, .func (PySem.W.fnOf x qual (defArgs st) (defBody st) (defScope st) dV kV doc pm an cdv ct), osl⟩)
    (c : PySem.W.codeIn K cdv qual = true) (k : PySem.W.keepIn K (.ref f) = true) : FunD K x qual st f (PySem.W.fnOf x qual (defArgs st) (defBody st) (defScope st) dV kV doc pm an cdv ct) := ⟨⟨oc, od, dV, kV, doc, pm, an, cdv, ct, osl, l, rfl, c⟩, k⟩
end
/-! ### a statement whose ways meet again: what holds there is told -/
def tMeet (t u : TS) : TS := fun D σ H => ∃ Mid : L2.St → Hp → Prop, (∀ σ' H', Mid σ' H' → u D σ' H') ∧ t { D with nx := Mid } σ H
theorem pss_meet {X : Cx} {st : Stmt} {rest : List Stmt} {t u : TS} (h1 : PS X st t) (h2 : PSs X rest u) : PSs X (st :: rest) (tMeet t u) := by
  refine ⟨fun pins s σ H D I h => ?_⟩
  obtain ⟨Mid, hm, h⟩ := h
  refine wpAny_execs_cons (thn (h1.run pins s σ H { D with nx := Mid } I h) fun f s1 q => ?_)
  cases f with
  | ret v => exact q
  | brk => exact q
  | cont => exact q
  | next =>
    obtain ⟨σ', H', I', q⟩ := q
    exact h2.run pins s1 σ' H' D I' (hm σ' H' q)
theorem s_meet {t u : TS} {D : Ends} {σ : L2.St} {H : Hp} (Mid : L2.St → Hp → Prop) (m : ∀ σ' H', Mid σ' H' → u D σ' H') (h : t { D with nx := Mid } σ H) : tMeet t u D σ H := ⟨Mid, m, h⟩
theorem s_next {D : Ends} {σ : L2.St} {H : Hp} (h : D.nx σ H) : tNext D σ H := h
theorem ix_tK {X : Cx} (K : Fr) (h : X.K = K := by rfl) : IxR X (rIxT K) := by subst h; exact ix_tup
theorem ix_lK {X : Cx} (K : Fr) (h : X.K = K := by rfl) : IxR X (rIxL K) := by subst h; exact ix_list
theorem op_eqK {X : Cx} (K : Fr) (h : X.K = K) (hu : X.A.units + 64 < cLine) : OpR X (compareOp .Eq) (rEqD K) := by subst h; exact op_eqD hu
theorem op_neK {X : Cx} (K : Fr) (h : X.K = K) (hu : X.A.units + 64 < cLine) : OpR X (compareOp .NotEq) (rNeD K) := by subst h; exact op_neD hu
theorem op_inK {X : Cx} (K : Fr) (h : X.K = K) (hu : X.A.units + 65 < cLine) : OpR X (compareOp .In) (rInT K) := by subst h; exact op_inT hu
/-- a def with defaults, called with every argument -/
theorem bnd_dflt {K : Fr} {fd : FuncData} {ps : List Str} {T : Addr} {o : Obj} {its : Array Value} {n : Nat} (lT : K.lookup T = some o) (oT : o.data = .seq its n)
    (h : ∀ us : List Value, us.length = ps.length → ∃ k : Option (Array Value) → Sem (List (Str × Value)), bindArgs fd ⟨us, []⟩ = seqItems? (.ref T) >>= k ∧ k (some its) = pure (ps.zip us)) : Binds K fd ps [] := fun s us X hl => by
  rw [List.append_nil] at hl ⊢
  obtain ⟨k, e1, e2⟩ := h us hl
  refine BindsTo.of_looks fun M => ?_
  rw [e1]
  exact looks_items X lT oT (.of_pure e2)
end LB
/-! The source of draws of a law: a dict with text keys; what a draw promises. -/
namespace LB
open PySem L2
structure PenS where
  c : Addr
  cells : List Int
  at_ : Int
  dg : Int
  ct : Int
  fo : Int
def PenS.kvs (p : PenS) : List (Key × V) := [(.inr "cells", .ref p.c), (.inr "at", .int p.at_), (.inr "digits", .int p.dg), (.inr "count", .int p.ct), (.inr "fold", .int p.fo)]
theorem kk {a b : Str} (h : (a == b) = false) : decide ((Sum.inr a : Key) = Sum.inr b) = false := decide_eq_false fun e => by
  have e' := Sum.inr.inj e
  subst e'
  simp at h
theorem val_skip {k : Key} {x : Key × V} {r : List (Key × V)} (h : decide (x.1 = k) = false) : valV (x :: r) k = valV r k := by
  unfold valV; rw [List.find?_cons_of_neg (by rw [h]; exact Bool.false_ne_true)]
theorem val_here {k : Key} {v : V} {r : List (Key × V)} : valV ((k, v) :: r) k = some v := by
  unfold valV; rw [List.find?_cons_of_pos (by simp)]; rfl
theorem p_cells (p : PenS) : valV p.kvs (.inr "cells") = some (.ref p.c) := val_here
theorem p_at (p : PenS) : valV p.kvs (.inr "at") = some (.int p.at_) := by
  unfold PenS.kvs; rw [val_skip (kk (by decide +kernel)), val_here]
theorem p_dg (p : PenS) : valV p.kvs (.inr "digits") = some (.int p.dg) := by
  unfold PenS.kvs; rw [val_skip (kk (by decide +kernel)), val_skip (kk (by decide +kernel)), val_here]
theorem p_ct (p : PenS) : valV p.kvs (.inr "count") = some (.int p.ct) := by
  unfold PenS.kvs; rw [val_skip (kk (by decide +kernel)), val_skip (kk (by decide +kernel)), val_skip (kk (by decide +kernel)), val_here]
theorem p_fo (p : PenS) : valV p.kvs (.inr "fold") = some (.int p.fo) := by
  unfold PenS.kvs; rw [val_skip (kk (by decide +kernel)), val_skip (kk (by decide +kernel)), val_skip (kk (by decide +kernel)), val_skip (kk (by decide +kernel)), val_here]
theorem putK_of {kvs : List (Key × V)} {k : Key} {v w : V} (h : valV kvs k = some w) : putK kvs k v = kvs.map (fun kv => if kv.1 = k then (kv.1, v) else kv) := by
  unfold putK
  rw [if_pos]
  unfold valV at h
  cases e : kvs.find? fun kv => decide (kv.1 = k) with
  | none => rw [e] at h; cases h
  | some x => exact List.any_eq_true.mpr ⟨x, List.mem_of_find?_eq_some e, by simpa using List.find?_some e⟩
theorem kn {a b : Str} (h : (a == b) = false) : ¬ (Sum.inr a : Key) = Sum.inr b := of_decide_eq_false (kk h)
theorem u_at (p : PenS) (x : Int) : putK p.kvs (.inr "at") (.int x) = { p with at_ := x }.kvs := by
  rw [putK_of (p_at p)]
  simp only [PenS.kvs, List.map]
  rw [if_neg (kn (by decide +kernel)), if_pos True.intro, if_neg (kn (by decide +kernel)), if_neg (kn (by decide +kernel)), if_neg (kn (by decide +kernel))]
theorem u_dg (p : PenS) (x : Int) : putK p.kvs (.inr "digits") (.int x) = { p with dg := x }.kvs := by
  rw [putK_of (p_dg p)]
  simp only [PenS.kvs, List.map]
  rw [if_neg (kn (by decide +kernel)), if_neg (kn (by decide +kernel)), if_pos True.intro, if_neg (kn (by decide +kernel)), if_neg (kn (by decide +kernel))]
theorem u_ct (p : PenS) (x : Int) : putK p.kvs (.inr "count") (.int x) = { p with ct := x }.kvs := by
  rw [putK_of (p_ct p)]
  simp only [PenS.kvs, List.map]
  rw [if_neg (kn (by decide +kernel)), if_neg (kn (by decide +kernel)), if_neg (kn (by decide +kernel)), if_pos True.intro, if_neg (kn (by decide +kernel))]
theorem u_fo (p : PenS) (x : Int) : putK p.kvs (.inr "fold") (.int x) = { p with fo := x }.kvs := by
  rw [putK_of (p_fo p)]
  simp only [PenS.kvs, List.map]
  rw [if_neg (kn (by decide +kernel)), if_neg (kn (by decide +kernel)), if_neg (kn (by decide +kernel)), if_neg (kn (by decide +kernel)), if_pos True.intro]
/-- the pen p stands at d -/
structure Pn (H : Hp) (d : Addr) (p : PenS) : Prop where
  at_ : H d = some (.dK p.kvs)
  cl : H p.c = some (.lst (p.cells.map V.int))
  ne : p.c ≠ d
theorem Pn.same {H H' : Hp} {d : Addr} {p : PenS} (P : Pn H d p) (s : Same H H') : Pn H' d p := ⟨s _ _ P.at_, s _ _ P.cl, P.ne⟩
/-- some pen stands at d, its cells at c: what all draws keep; n bounds how often it was drawn -/
def PenAt (c : Addr) (H : Hp) (d : Addr) (n : Nat) : Prop := ∃ p, Pn H d p ∧ p.c = c ∧ 0 ≤ p.at_ ∧ 0 ≤ p.ct ∧ p.ct ≤ n ∧ 0 ≤ p.fo ∧ p.fo < 2147483587
section
variable {H H' : Hp} {c d : Addr} {n m : Nat}
theorem PenAt.same (P : PenAt c H d n) (s : Same H H') : PenAt c H' d n := by
  obtain ⟨p, P, h⟩ := P
  exact ⟨p, P.same s, h⟩
theorem PenAt.mono (P : PenAt c H d n) (l : n ≤ m) : PenAt c H d m := by
  obtain ⟨p, P, h0, h1, h2, h3, h4, h5⟩ := P
  exact ⟨p, P, h0, h1, h2, by omega, h4, h5⟩
theorem PenAt.kt (P : PenAt c H d n) (k : Kd d H H') : Kt H H' := by
  obtain ⟨p, P, h⟩ := P
  exact kt_kd k P.at_ (fun i => i)
theorem PenAt.ne {l : Addr} {o : HO} (P : PenAt c H d n) (h : H l = some o) (ho : ∀ kvs, o ≠ .dK kvs) : l ≠ d := by
  obtain ⟨p, P, _⟩ := P
  exact ne_of h P.at_ (ho _)
theorem PenAt.ned (P : PenAt c H d n) {l : Addr} (h : H l = none) : l ≠ d ∧ l ≠ c := by
  obtain ⟨p, P, rfl, _⟩ := P
  exact ⟨fun e => ne_of_none P.at_ h e.symm, fun e => ne_of_none P.cl h e.symm⟩
/-- a write elsewhere -/
theorem PenAt.upd (P : PenAt c H d n) {l : Addr} {o : HO} (h1 : l ≠ d) (h2 : l ≠ c) : PenAt c (upd H l o) d n := by
  obtain ⟨p, P, rfl, h⟩ := P
  exact ⟨p, ⟨by rw [upd_ne (Ne.symm h1)]; exact P.at_, by rw [upd_ne (Ne.symm h2)]; exact P.cl, P.ne⟩, rfl, h⟩
end
section
variable {K : Fr} {σ : L2.St} {H : Hp} {te tv : TE} {d : Addr} {p : PenS} {x : Int} {D : Ends}
theorem ev_pget {key : Str} (e : σ[0]? = some (some (.ref d))) (P : Pn H d p) (hv : valV p.kvs (.inr key) = some (.int x)) : Ev K (tDGet (tVar 0) (tC (.str key))) σ H (.int x) := fun H1 s Q k =>
  ⟨_, e, d, .int x, rfl, .inl ⟨p.kvs, .inr key, .inl (s _ _ P.at_), rfl, hv.symm⟩, k _ H1 (Same.refl H1) (.int x)⟩
theorem s_pput {key : Str} {kvs' : List (Key × V)} (e : σ[0]? = some (some (.ref d))) (P : Pn H d p) (a : Ev K tv σ H (.int x)) (hk : putK p.kvs (.inr key) (.int x) = kvs')
    (h : ∀ H1, Kd d H H1 → H1 d = some (.dK kvs') → H1 p.c = some (.lst (p.cells.map V.int)) → D.nx σ H1) : sDPut (tVar 0) (tC (.str key)) tv D σ H :=
  a H (Same.refl H) _ fun v H1 s rv => by
    cases rv.int_inv
    refine ⟨_, e, d, upd H1 d (.dK kvs'), rfl, ?_, ?_⟩
    · refine .inl ⟨p.kvs, .inr key, s _ _ P.at_, rfl, ?_, by rw [hk]⟩
      exact small1000 (by show 5 ≤ 1000; decide)
    · refine h _ (fun b o hb ne => by rw [upd_ne ne]; exact s _ _ hb) upd_same ?_
      rw [upd_ne P.ne]
      exact s _ _ P.cl
end
section
variable {K : Fr} {σ : L2.St} {H : Hp} {d : Addr} {p : PenS} {D : Ends} {t u : TS} {te tv : TE} {x : Int}
theorem s_pputs {key : Str} {kvs' : List (Key × V)} (e : σ[0]? = some (some (.ref d))) (P : Pn H d p) (a : Ev K tv σ H (.int x)) (hk : putK p.kvs (.inr key) (.int x) = kvs')
    (h : ∀ H1, Kd d H H1 → H1 d = some (.dK kvs') → H1 p.c = some (.lst (p.cells.map V.int)) → u D σ H1) : tSeq (sDPut (tVar 0) (tC (.str key)) tv) u D σ H := s_pput e P a hk h
theorem ev_lencells (e : σ[0]? = some (some (.ref d))) (P : Pn H d p) :
    Ev K (tCB (fun xs H Q => ∃ p ys, xs = [.ref p] ∧ (SqL K H p ys ∨ SqT K H p ys) ∧ Q (.int ys.length) H) (tCons (tDGet (tVar 0) (tC (.str "cells"))) tNil)) σ H (.int p.cells.length) := fun H1 s Q k => by
  refine ⟨_, e, d, .ref p.c, rfl, .inl ⟨p.kvs, .inr "cells", .inl (s _ _ P.at_), rfl, (p_cells p).symm⟩, ?_⟩
  refine ⟨p.c, _, rfl, .inl (SqL.of (s _ _ P.cl)), k _ H1 (Same.refl H1) ?_⟩
  rw [List.length_map]
  exact .int _
theorem ev_cell {j : Nat} (e : σ[0]? = some (some (.ref d))) (P : Pn H d p) (ej : p.at_ = j) (hj : p.cells[j]? = some x) :
    Ev K (tOp (rIxL K) (tDGet (tVar 0) (tC (.str "cells"))) (tDGet (tVar 0) (tC (.str "at")))) σ H (.int x) := fun H1 s Q k => by
  refine ⟨_, e, d, .ref p.c, rfl, .inl ⟨p.kvs, .inr "cells", .inl (s _ _ P.at_), rfl, (p_cells p).symm⟩, ?_⟩
  refine ⟨_, e, d, .int p.at_, rfl, .inl ⟨p.kvs, .inr "at", .inl (s _ _ P.at_), rfl, (p_at p).symm⟩, ?_⟩
  refine ⟨p.c, _, p.at_, .int x, rfl, rfl, SqL.of (s _ _ P.cl), ?_, k _ H1 (Same.refl H1) (.int x)⟩
  rw [ej]
  refine atI_nat ?_
  rw [List.getElem?_map, hj]
  rfl
end
/-- a draw below m -/
def spDraw : Sp := fun vs H Q _ => ∃ (c d : Addr) (n : Nat) (m : Int), vs = [.ref d, .int m] ∧ PenAt c H d n ∧ n < 1000000000 ∧ 0 < m ∧ m < 1073741824 ∧ ∀ (r : Int) (H' : Hp), 0 ≤ r → r < m → Kd d H H' → PenAt c H' d (n + 1) → Q (.int r) H'
/-- an item of a list -/
def spPick : Sp := fun vs H Q _ => ∃ (c d l : Addr) (n : Nat) (xs : List V), vs = [.ref d, .ref l] ∧ PenAt c H d n ∧ n < 1000000000 ∧ H l = some (.lst xs) ∧ 0 < xs.length ∧ xs.length < 1000000 ∧ ∀ (v : V) (H' : Hp), v ∈ xs → Kd d H H' → PenAt c H' d (n + 1) → Q v H'
/-- the pen made -/
def spPen (K : Fr) : Sp := fun vs H Q _ => ∃ (a : Addr) (ns : List Int), vs = [.ref a] ∧ SqL K H a (ns.map V.int) ∧ ∀ (c d : Addr) (H' : Hp), Same H H' → PenAt c H' d 0 → Q (.ref d) H'
section
variable {K : Fr} {E : XK} {σ : L2.St} {H : Hp} {c d : Addr} {n i : Nat} {m : Int} {te tl : TE} {Q : VK} {ds : List PD}
theorem c_draw (e : σ[i]? = some (some (.ref d))) (P : PenAt c H d n) (hn : n < 1000000000) (m0 : 0 < m) (m1 : m < 1073741824) (a : Ev K te σ H (.int m))
    (k : ∀ (r : Int) (H' : Hp), 0 ≤ r → r < m → Kd d H H' → PenAt c H' d (n + 1) → Q (.int r) H') : tCall spDraw [] E (tCons (tVar i) (tCons te tNil)) σ H Q :=
  ⟨_, e, a H (Same.refl H) _ fun v H1 s rv => by
    cases rv.int_inv
    exact ⟨c, d, n, m, rfl, P.same s, hn, m0, m1, fun r H' h1 h2 h3 h4 => k r H' h1 h2 ((kd_same s).trans h3) h4⟩⟩
theorem mem_rep {vs : List V} {ds : List PD} {v : V} (r : RepAll K H vs ds) (h : v ∈ vs) : ∃ x, x ∈ ds ∧ Rep K H v x := by
  obtain ⟨j, hj, e⟩ := List.getElem_of_mem h
  obtain ⟨x, hx, rx⟩ := r.getV (i := j) (v := v) (by simp [hj, e])
  exact ⟨x, List.mem_of_getElem? hx, rx⟩
theorem c_pick (e : σ[i]? = some (some (.ref d))) (P : PenAt c H d n) (hn : n < 1000000000) (a : EvL K tl σ H ds) (h0 : 0 < ds.length) (h1 : ds.length < 1000000)
    (k : ∀ (v : V) (x : PD) (H' : Hp), x ∈ ds → Rep K H' v x → Kd d H H' → PenAt c H' d (n + 1) → Q v H') : tCall spPick [] E (tCons (tVar i) (tCons tl tNil)) σ H Q :=
  ⟨_, e, a H (Same.refl H) _ fun p vs H1 s _ hp rs => by
    refine ⟨c, d, p, n, vs, rfl, P.same s, hn, hp, by rw [rs.len]; exact h0, by rw [rs.len]; exact h1, fun v H' hv h3 h4 => ?_⟩
    obtain ⟨x, hx, rx⟩ := mem_rep rs hv
    exact k v x H' hx (rx.kt ((P.same s).kt h3)) ((kd_same s).trans h3) h4⟩
end
theorem bd_lit {n : Nat} {i : Int} (h : decide (i.natAbs < 2 ^ n) = true) : Bd n i := by unfold Bd; exact of_decide_eq_true h
end LB
/-! Comprehensions of data: [e for x in a tuple], [e for x, y in zip of two tuples], [e for k in range]. -/
namespace LB
open PySem L2
theorem kt_lst {H : Hp} {D : Addr} {a b : List V} (h : H D = some (.lst a)) : Kt H (upd H D (.lst b)) := fun c o e i => by
  have ne : c ≠ D := fun z => by subst z; rw [h] at e; cases e; exact i
  rw [upd_ne ne]; exact e
theorem same_new {H H1 : Hp} {D : Addr} {b : HO} (hD : H D = none) (s : Same H H1) : Same H (upd H1 D b) := fun c o e => by
  rw [upd_ne (ne_of_none e hD)]; exact s c o e
theorem lc_pure {J : It} {n : Nat} {G : Hp → Prop} {Y : Nat → Hp → V → Hp → Prop} {K : Fr} (w : Walk J n G Y) {g : TG} {te : TE} {vs : List Nat} {σ : L2.St} {H1 : Hp} {D : Addr} {Qd : Hp → Prop} (es : List PD) (hn : es.length = n) (hl : n ≤ 1000) (hD : H1 D = none)
    (hG : ∀ H, Same H1 H → G H) (hY : ∀ i x H H', i < n → Y i H x H' → Same H H')
    (ht : ∀ i x H H', i < n → Same H1 H → Same H H' → Y i H x H' → g x (wipe σ vs) H' fun σ2 H2 => wipe σ2 vs = wipe σ vs ∧ H2 = H' ∧ ∃ d, es[i]? = some d ∧ Ev K te σ2 H' d)
    (hg : ∀ (x : V) (σ0 : L2.St) (H : Hp) (Q Q' : L2.St → Hp → Prop), (∀ σ' H', Q σ' H' → Q' σ' H') → g x σ0 H Q → g x σ0 H Q')
    (k : ∀ ws H, Same H1 H → H D = some (.lst ws) → RepAll K H ws es → Qd H) :
    ∃ W : Nat → Nat → Hp → Prop, (∃ m, W 0 m (upd H1 D (.lst []))) ∧ ∀ i m H, W i m H →
      (J.stop i H ∧ Qd H) ∨ (J.go i H ∧ ∃ Nx : Hp → Prop, (∀ H', Nx H' → ∃ m', m' < m ∧ W (i + 1) m' H') ∧ ∀ x H', J.yld i H x H' → g x (wipe σ vs) H' fun σ2 H2 => wipe σ2 vs = wipe σ vs ∧ tYes σ2 H2 fun b H3 =>
        if b = true then te σ2 H3 fun y H4 => ∃ acc, H4 D = some (.lst acc) ∧ acc.length < sizeLine ∧ Nx (upd H4 D (.lst (acc ++ [y]))) else Nx H3) := by
  refine lc_it w (fun i H => Same H1 H ∧ ∃ acc, H D = some (.lst acc) ∧ RepAll K H acc (es.take i)) ⟨same_new hD (Same.refl H1), [], upd_same, .nil⟩ (fun i H _ p => hG H p.1) ?_ ?_
  · rintro i x H H' hi ⟨s1, acc, ha, ra⟩ y
    have s2 := hY i x H H' hi y
    refine hg _ _ _ _ _ ?_ (ht i x H H' hi s1 s2 y)
    rintro σ2 H2 ⟨e1, rfl, d, ed, ev⟩
    refine ⟨e1, ?_⟩
    dsimp only [tYes]
    rw [if_pos rfl]
    refine ev H2 (Same.refl H2) _ fun v H4 s4 rv => ?_
    have hD4 : H4 D = some (.lst acc) := s4 _ _ (s2 _ _ ha)
    refine ⟨acc, hD4, ?_, same_new hD ((s1.trans s2).trans s4), acc ++ [v], upd_same, ?_⟩
    · have := ra.len
      rw [List.length_take] at this
      exact small1000 (by omega)
    · rw [List.take_succ, ed]
      exact (((ra.same s2).same s4).append (.cons rv .nil)).kt (kt_lst hD4)
  · rintro H ⟨s1, acc, ha, ra⟩
    rw [← hn, List.take_length] at ra
    exact k acc H s1 ha ra
section
variable {K : Fr} {σ : L2.St} {H : Hp} {ta tb te : TE} {ds es fs : List PD}
theorem gName_mono {i : Nat} (x : V) (σ0 : L2.St) (H : Hp) (Q Q' : L2.St → Hp → Prop) (m : ∀ σ' H', Q σ' H' → Q' σ' H') (h : gName i x σ0 H Q) : gName i x σ0 H Q' := m _ _ h
theorem gT2_mono {i j : Nat} (x : V) (σ0 : L2.St) (H : Hp) (Q Q' : L2.St → Hp → Prop) (m : ∀ σ' H', Q σ' H' → Q' σ' H') (h : gTup K 2 (gCons (gName i) (gCons (gName j) gNil)) x σ0 H Q) : gTup K 2 (gCons (gName i) (gCons (gName j) gNil)) x σ0 H Q' := by
  obtain ⟨a, xs, e, hs, hl, v, r, e1, w, r2, e2, e3, q⟩ := h
  exact ⟨a, xs, e, hs, hl, v, r, e1, w, r2, e2, e3, m _ _ q⟩
theorem wipe1 {i : Nat} {v : Option V} {σ : L2.St} : wipe ((wipe σ [i]).set i v) [i] = wipe σ [i] := by
  show ((σ.set i none).set i v).set i none = σ.set i none
  rw [List.set_set, List.set_set]
theorem wipe2 {i j : Nat} {v u : Option V} {σ : L2.St} (h : i ≠ j) : wipe (((wipe σ [i, j]).set i v).set j u) [i, j] = wipe σ [i, j] := by
  show (((((σ.set j none).set i none).set i v).set j u).set j none).set i none = (σ.set j none).set i none
  rw [List.set_set, List.set_set, List.set_comm _ _ h, List.set_set, List.set_set]
/-- [e for x in t], t a tuple of data -/
theorem evl_lct {i : Nat} (a : Ev K ta σ H (.tuple ds)) (hn : es.length = ds.length) (hl : ds.length ≤ 1000)
    (h : ∀ (j : Nat) (d : PD) (v : V) (H1 : Hp), ds[j]? = some d → Same H H1 → Rep K H1 v d → ∃ e, es[j]? = some e ∧ Ev K te ((wipe σ [i]).set i (some v)) H1 e) : EvL K (tLc (iTup K ta) (gName i) tYes te [i]) σ H es := fun H1 s Q k =>
  a H1 s _ fun v H2 s2 rv => by
    obtain ⟨p, xs, rfl, hp, r⟩ := rv.tup_inv
    refine ⟨p, rfl, ⟨xs, hp⟩, fun D hD => ?_⟩
    refine lc_pure (K := K) (walk_tup (K := K) (a := p) (xs := xs)) es (by rw [hn, r.len]) (by rw [r.len]; exact hl) hD (fun H s => kt_sqt (kt_same s) hp) (fun i x H H' _ y => by rw [y.1]; exact Same.refl H) ?_ gName_mono (fun ws H3 s3 e3 r3 => k D ws H3 (s2.trans s3) (s2.free hD) e3 r3)
    rintro j x H3 H4 hj s3 s4 ⟨rfl, hx⟩
    obtain ⟨d, ed, rd⟩ := r.getV hx
    obtain ⟨e, ee, ev⟩ := h j d x H4 ed ((s.trans s2).trans s3) (rd.same s3)
    exact ⟨wipe1, rfl, e, ee, ev⟩
/-- zip of two tuples -/
theorem walk_zT {a b : Addr} {xs ys : List V} {n : Nat} (hn : n = min xs.length ys.length) : Walk (RZ.ItzT K a b) n (fun H => SqT K H a xs ∧ SqT K H b ys) (YPair (fun i => xs[i]?) (fun i => ys[i]?)) := by
  subst hn
  constructor
  · intro i H hi q
    have h1 : i < xs.length := by omega
    have h2 : i < ys.length := by omega
    exact ⟨xs, ys, xs[i], ys[i], q.1, q.2, by simp [h1], by simp [h2]⟩
  · intro H q
    refine ⟨xs, ys, q.1, q.2, ?_⟩
    omega
  · rintro i H v H' _ q ⟨T, x, y, e1, e2, e3, e4, e5⟩
    exact ⟨T, x, y, e1, e2, e3, e4 xs q.1, e5 ys q.2⟩
theorem evl_lcz {i j : Nat} (hij : i ≠ j) (a : Ev K ta σ H (.tuple ds)) (b : Ev K tb σ H (.tuple fs)) (hn : es.length = min ds.length fs.length) (hl : ds.length ≤ 1000)
    (h : ∀ (m : Nat) (d f : PD) (v w : V) (H1 : Hp), ds[m]? = some d → fs[m]? = some f → Same H H1 → Rep K H1 v d → Rep K H1 w f → ∃ e, es[m]? = some e ∧ Ev K te (((wipe σ [i, j]).set i (some v)).set j (some w)) H1 e) :
    EvL K (tLc (RZ.iZipA K (tCons ta (tCons tb tNil))) (gTup K 2 (gCons (gName i) (gCons (gName j) gNil))) tYes te [i, j]) σ H es := fun H1 s Q k =>
  a H1 s _ fun v H2 s2 rv => b H2 (s.trans s2) _ fun w H3 s3 rw' => by
    obtain ⟨p, xs, rfl, hp, r⟩ := rv.tup_inv
    obtain ⟨q, ys, rfl, hq, r'⟩ := rw'.tup_inv
    have hp' := kt_sqt (kt_same s3) hp
    have r3 := r.same s3
    refine ⟨p, q, xs, ys, rfl, .inr ⟨hp', hq, fun D hD => ?_⟩⟩
    refine lc_pure (K := K) (walk_zT (K := K) (a := p) (b := q) (xs := xs) (ys := ys) rfl) es (by rw [hn, r.len, r'.len]) (by rw [r.len]; omega) hD (fun H s => ⟨kt_sqt (kt_same s) hp', kt_sqt (kt_same s) hq⟩) ?_ ?_ gT2_mono (fun ws H3' s3' e3 r3 => k D ws H3' ((s2.trans s3).trans s3') ((s2.trans s3).free hD) e3 r3)
    · rintro i x H H' _ ⟨T, _, _, _, hT, rfl, _⟩
      exact same_upd hT
    · rintro m x H4 H5 hm s4 s5 ⟨T, x1, y1, rfl, hT, rfl, hx, hy⟩
      obtain ⟨d, ed, rd⟩ := r3.getV hx
      obtain ⟨f, ef, rf⟩ := r'.getV hy
      obtain ⟨e, ee, ev⟩ := h m d f x1 y1 _ ed ef (((s.trans (s2.trans s3)).trans s4).trans s5) ((rd.same s4).same s5) ((rf.same s4).same s5)
      exact ⟨T, [x1, y1], rfl, SqT.of upd_same, rfl, x1, [y1], rfl, y1, [], rfl, rfl, wipe2 hij, rfl, e, ee, ev⟩
end
end LB
/-! Sheets as data: what the class says of them, and how one stands in the heap. -/
namespace LB
open PySem L2
abbrev C2 := Int × Int
abbrev dC (c : C2) : PD := .tuple [.int c.1, .int c.2]
abbrev dCs (l : List C2) : PD := .tuple (l.map dC)
abbrev dIs (l : List Int) : PD := .tuple (l.map .int)
def dO : Option (List Int) → PD
  | none => .none
  | some l => dIs l
def dOI : Option Int → PD
  | none => .none
  | some i => .int i
def BdC (n : Nat) (c : C2) : Prop := Bd n c.1 ∧ Bd n c.2
structure Sh where
  base : C2
  price : Int
  steps : List C2
  prices : List Int
def cr (a b : C2) : Int := a.1 * b.2 - a.2 * b.1
def exactF (tops : List Int) (b : Int) : Option (List Int) :=
  if (tops.map fun t => (!decide (t.fmod b = 0) || decide (t.fdiv b < 0))).any id = true then none else some (tops.map fun t => t.fdiv b)
def Sh.way (S : Sh) (c : C2) : C2 := (c.1 - S.base.1, c.2 - S.base.2)
def Sh.counts (S : Sh) (c : C2) : Option (List Int) := match S.steps with
  | [] => if S.way c = (0, 0) then some [] else none
  | [f] => if cr f (S.way c) = 0 then exactF [f.1 * (S.way c).1 + f.2 * (S.way c).2] (f.1 * f.1 + f.2 * f.2) else none
  | f :: s :: _ => exactF [cr (S.way c) s, cr f (S.way c)] (cr f s)
def Sh.cellOf (S : Sh) (n : List Int) : C2 :=
  (S.base.1 + ((n.zip S.steps).map fun p => p.1 * p.2.1).sum, S.base.2 + ((n.zip S.steps).map fun p => p.1 * p.2.2).sum)
def Sh.priceOf (S : Sh) (n : List Int) : Int := S.price + ((n.zip S.prices).map fun p => p.1 * p.2).sum
def Sh.priceAt (S : Sh) (c : C2) : Option Int := (S.counts c).map S.priceOf
def areSteps (l : List C2) : Bool := match l with
  | [] => true
  | [a] => !decide (a = (0, 0))
  | [a, b] => !decide (a = (0, 0)) && !decide (b = (0, 0)) && !decide (cr a b = 0)
  | _ => false
/-- the sheets of the laws: two steps at most, sizes told -/
structure Sh.Ok (S : Sh) : Prop where
  st : areSteps S.steps = true
  ln : S.prices.length = S.steps.length
  b0 : BdC 400 S.base
  b1 : Bd 400 S.price
  b2 : ∀ s ∈ S.steps, BdC 400 s
  b3 : ∀ s ∈ S.prices, Bd 400 s
theorem areSteps_len {l : List C2} (h : areSteps l = true) : l.length ≤ 2 := by
  match l, h with
  | [], _ => exact Nat.zero_le _
  | [a], _ => exact (by decide : 1 ≤ 2)
  | [a, b], _ => exact Nat.le_refl _
theorem eqv_dC {a b : C2} : PyData.eqv (dC a) (dC b) = decide (a = b) := by
  obtain ⟨x, y⟩ := a
  obtain ⟨u, v⟩ := b
  by_cases h1 : x = u <;> by_cases h2 : y = v <;> simp [PyData.eqv, PyData.eqvAll, h1, h2]
theorem shaped_dC (a : C2) : SeqAt.shaped (dC a) = true := by
  simp [SeqAt.shaped, PyData.canLay0, PyData.canLayAll0, PyData.depth, PyData.depthAll]
theorem canLay_dCs : ∀ l : List C2, PyData.canLayAll0 (l.map dC) = true ∧ PyData.depthAll (l.map dC) ≤ 1
  | [] => by simp [PyData.canLayAll0, PyData.depthAll]
  | a :: l => by
    obtain ⟨h1, h2⟩ := canLay_dCs l
    simp [PyData.canLayAll0, PyData.depthAll, PyData.canLay0, PyData.depth, h1]
    exact Nat.max_le.mpr ⟨Nat.le_refl _, h2⟩
theorem shaped_dCs (l : List C2) : SeqAt.shaped (dCs l) = true := by
  obtain ⟨h1, h2⟩ := canLay_dCs l
  have h3 : PyData.depth (dCs l) ≤ 64 := by show PyData.depthAll (l.map dC) + 1 ≤ 64; omega
  have h4 : PyData.canLay0 (dCs l) = true := h1
  unfold SeqAt.shaped
  rw [h4, decide_eq_true h3]
  rfl
theorem canLay_dIs : ∀ l : List Int, PyData.canLayAll0 (l.map .int) = true ∧ PyData.depthAll (l.map .int) = 0
  | [] => by simp [PyData.canLayAll0, PyData.depthAll]
  | a :: l => by
    obtain ⟨h1, h2⟩ := canLay_dIs l
    simp [PyData.canLayAll0, PyData.depthAll, PyData.canLay0, PyData.depth, h1, h2]
theorem shaped_dIs (l : List Int) : SeqAt.shaped (dIs l) = true := by
  obtain ⟨h1, h2⟩ := canLay_dIs l
  have h3 : PyData.depth (dIs l) ≤ 64 := by show PyData.depthAll (l.map .int) + 1 ≤ 64; omega
  have h4 : PyData.canLay0 (dIs l) = true := h1
  unfold SeqAt.shaped
  rw [h4, decide_eq_true h3]
  rfl
/-! ### a sheet in the heap -/
def shF (vb vp vs vr : V) : List (Str × V) := putF "prices" vr (putF "steps" vs (putF "price" vp (putF "base" vb [])))
theorem shF_base (vb vp vs vr : V) : (shF vb vp vs vr).lookup ("base" : Str) = some vb := by
  unfold shF
  rw [lookup_putF, if_neg (by decide +kernel), lookup_putF, if_neg (by decide +kernel), lookup_putF, if_neg (by decide +kernel), lookup_putF, if_pos rfl]
theorem shF_price (vb vp vs vr : V) : (shF vb vp vs vr).lookup ("price" : Str) = some vp := by
  unfold shF
  rw [lookup_putF, if_neg (by decide +kernel), lookup_putF, if_neg (by decide +kernel), lookup_putF, if_pos rfl]
theorem shF_steps (vb vp vs vr : V) : (shF vb vp vs vr).lookup ("steps" : Str) = some vs := by
  unfold shF
  rw [lookup_putF, if_neg (by decide +kernel), lookup_putF, if_pos rfl]
theorem shF_prices (vb vp vs vr : V) : (shF vb vp vs vr).lookup ("prices" : Str) = some vr := by
  unfold shF
  rw [lookup_putF, if_pos rfl]
theorem shF_no (vb vp vs vr : V) {m : Str} (h1 : ¬ m = "prices") (h2 : ¬ m = "steps") (h3 : ¬ m = "price") (h4 : ¬ m = "base") : (shF vb vp vs vr).lookup m = none := by
  unfold shF
  rw [lookup_putF, if_neg h1, lookup_putF, if_neg h2, lookup_putF, if_neg h3, lookup_putF, if_neg h4]
  rfl
structure ShAt (K : Fr) (C : Addr) (H : Hp) (p : Addr) (S : Sh) : Prop where
  ex : ∃ dx vb vp vs vr, H p = some (.ins C dx (shF vb vp vs vr)) ∧ Rep K H vb (dC S.base) ∧ Rep K H vp (.int S.price) ∧ Rep K H vs (dCs S.steps) ∧ Rep K H vr (dIs S.prices)
theorem ShAt.kt {K : Fr} {C : Addr} {H H' : Hp} {p : Addr} {S : Sh} (h : ShAt K C H p S) (k : Kt H H') : ShAt K C H' p S := by
  obtain ⟨dx, vb, vp, vs, vr, e, r1, r2, r3, r4⟩ := h.ex
  exact ⟨dx, vb, vp, vs, vr, k _ _ e trivial, r1.kt k, r2.kt k, r3.kt k, r4.kt k⟩
theorem ShAt.same {K : Fr} {C : Addr} {H H' : Hp} {p : Addr} {S : Sh} (h : ShAt K C H p S) (k : Same H H') : ShAt K C H' p S := h.kt (kt_same k)
section
variable {K : Fr} {C p : Addr} {H : Hp} {S : Sh} {σ : L2.St} {i : Nat}
theorem ev_base (e : σ[i]? = some (some (.ref p))) (h : ShAt K C H p S) (c : Cls K C) (n : NoAttr K C "base") : Ev K (tFld K (tVar i) "base") σ H (dC S.base) := by
  obtain ⟨dx, vb, vp, vs, vr, e1, r1, r2, r3, r4⟩ := h.ex
  exact ev_fld e e1 c n (shF_base ..) r1
theorem ev_price (e : σ[i]? = some (some (.ref p))) (h : ShAt K C H p S) (c : Cls K C) (n : NoAttr K C "price") : Ev K (tFld K (tVar i) "price") σ H (.int S.price) := by
  obtain ⟨dx, vb, vp, vs, vr, e1, r1, r2, r3, r4⟩ := h.ex
  exact ev_fld e e1 c n (shF_price ..) r2
theorem ev_steps (e : σ[i]? = some (some (.ref p))) (h : ShAt K C H p S) (c : Cls K C) (n : NoAttr K C "steps") : Ev K (tFld K (tVar i) "steps") σ H (dCs S.steps) := by
  obtain ⟨dx, vb, vp, vs, vr, e1, r1, r2, r3, r4⟩ := h.ex
  exact ev_fld e e1 c n (shF_steps ..) r3
theorem ev_prices (e : σ[i]? = some (some (.ref p))) (h : ShAt K C H p S) (c : Cls K C) (n : NoAttr K C "prices") : Ev K (tFld K (tVar i) "prices") σ H (dIs S.prices) := by
  obtain ⟨dx, vb, vp, vs, vr, e1, r1, r2, r3, r4⟩ := h.ex
  exact ev_fld e e1 c n (shF_prices ..) r4
end
/-! ### promises -/
def spCross (K : Fr) : Sp := spF K fun ds d => ∃ a b : C2, ds = [dC a, dC b] ∧ BdC 3000 a ∧ BdC 3000 b ∧ d = .int (cr a b)
def spAreSteps (K : Fr) : Sp := spF K fun ds d => ∃ l : List C2, ds = [dCs l] ∧ (∀ s ∈ l, BdC 400 s) ∧ d = .bool (areSteps l)
def spExact (K : Fr) : Sp := spF K fun ds d => ∃ (l : List Int) (b : Int), ds = [dIs l, .int b] ∧ l.length ≤ 1000 ∧ b ≠ 0 ∧ Bd 8000 b ∧ d = dO (exactF l b)
/-- a method that asks a sheet of one value, and touches nothing -/
def spSh (K : Fr) (C : Addr) (R : Sh → PD → PD → Prop) : Sp := fun vs H Q _ => ∃ p S v x d, vs = [.ref p, v] ∧ ShAt K C H p S ∧ S.Ok ∧ Rep K H v x ∧ R S x d ∧ ∀ v' H', Same H H' → Rep K H' v' d → Q v' H'
def spCounts (K : Fr) (C : Addr) : Sp := spSh K C fun S x d => ∃ c : C2, x = dC c ∧ BdC 2000 c ∧ d = dO (S.counts c)
def spContains (K : Fr) (C : Addr) : Sp := spSh K C fun S x d => ∃ c : C2, x = dC c ∧ BdC 2000 c ∧ d = .bool (S.counts c).isSome
def spPriceAt (K : Fr) (C : Addr) : Sp := spSh K C fun S x d => ∃ c : C2, x = dC c ∧ BdC 2000 c ∧ d = dOI (S.priceAt c)
def spCellOf (K : Fr) (C : Addr) : Sp := spSh K C fun S x d => ∃ n : List Int, x = dIs n ∧ n.length = S.steps.length ∧ (∀ k ∈ n, Bd 3000 k) ∧ d = dC (S.cellOf n)
def spInit (K : Fr) (C : Addr) : Sp := fun vs H Q _ => ∃ (p dx : Addr) (vb vp vs' vr : V) (S : Sh), vs = [.ref p, vb, vp, vs', vr] ∧ H p = some (.ins C dx []) ∧ S.Ok ∧ Rep K H vb (dC S.base) ∧ Rep K H vp (.int S.price) ∧ Rep K H vs' (dCs S.steps) ∧ Rep K H vr (dIs S.prices) ∧
  ∀ H', ShAt K C H' p S → (∀ b o, H b = some o → b ≠ p → H' b = some o) → Q .non H'
/-- a method of one argument, called -/
theorem ev_meth {K : Fr} {C p : Addr} {m : Str} {R : Sh → PD → PD → Prop} {E : XK} {i : Nat} {ta : TE} {σ : L2.St} {H : Hp} {S : Sh} {x d : PD} (e : σ[i]? = some (some (.ref p))) (h : ShAt K C H p S) (ok : S.Ok)
    (a : Ev K ta σ H x) (r : R S x d) (hm : ¬ m = "prices" ∧ ¬ m = "steps" ∧ ¬ m = "price" ∧ ¬ m = "base") : Ev K (tMeth C m (spSh K C R) [] E (tVar i) (tCons ta tNil)) σ H d := fun H1 s Q k => by
  obtain ⟨dx, vb, vp, vs, vr, e1, r1, r2, r3, r4⟩ := h.ex
  refine ⟨_, e, p, dx, _, rfl, s _ _ e1, shF_no _ _ _ _ hm.1 hm.2.1 hm.2.2.1 hm.2.2.2, ?_⟩
  refine a H1 s _ fun v H2 s2 rv => ?_
  exact ⟨p, S, v, x, d, rfl, h.same (s.trans s2), ok, rv, r, fun v' H' s3 r' => k v' H' (s2.trans s3) r'⟩
/-- c in the sheet that a name holds -/
theorem ev_inSh {K : Fr} {C p : Addr} {R : Sh → PD → PD → Prop} {E : XK} {i : Nat} {ta : TE} {σ : L2.St} {H : Hp} {S : Sh} {x : PD} {b : Bool} (e : σ[i]? = some (some (.ref p))) (h : ShAt K C H p S) (ok : S.Ok)
    (a : Ev K ta σ H x) (r : R S x (.bool b)) : Ev K (tOp (tInOwn C (spSh K C R) E) ta (tVar i)) σ H (.bool b) := fun H1 s Q k => by
  obtain ⟨dx, vb, vp, vs, vr, e1, r1, r2, r3, r4⟩ := h.ex
  refine a H1 s _ fun v H2 s2 rv => ⟨_, e, p, dx, _, rfl, (s.trans s2) _ _ e1, ?_⟩
  exact ⟨p, S, v, x, .bool b, rfl, h.same (s.trans s2), ok, rv, r, fun v' H' s3 r' => ⟨b, r'.bl_inv, by have e' := r'.bl_inv; subst e'; exact k _ H' (s2.trans s3) r'⟩⟩
theorem ev_cross {K : Fr} {E : XK} {ta tb : TE} {σ : L2.St} {H : Hp} {a b : C2} (ha : Ev K ta σ H (dC a)) (hb : Ev K tb σ H (dC b)) (ba : BdC 3000 a) (bb : BdC 3000 b) : Ev K (tCall (spCross K) [] E (tCons ta (tCons tb tNil))) σ H (.int (cr a b)) :=
  ev_call (eva_cons ha (eva_cons hb eva_nil)) ⟨a, b, rfl, ba, bb, rfl⟩
theorem BdC.mono {n m : Nat} {c : C2} (h : BdC n c) (l : n ≤ m) : BdC m c := ⟨h.1.mono l, h.2.mono l⟩
theorem Bd.cr {n m : Nat} {a b : C2} (ha : BdC n a) (hb : BdC m b) : Bd (n + m + 1) (cr a b) := by
  have h := Bd.sub (Bd.mul ha.1 hb.2) (Bd.mul ha.2 hb.1)
  rw [Nat.max_self] at h
  exact h
theorem ev_areSteps {K : Fr} {E : XK} {ta : TE} {σ : L2.St} {H : Hp} {l : List C2} (a : Ev K ta σ H (dCs l)) (h : ∀ s ∈ l, BdC 400 s) : Ev K (tCall (spAreSteps K) [] E (tCons ta tNil)) σ H (.bool (areSteps l)) :=
  ev_call (eva_cons a eva_nil) ⟨l, rfl, h, rfl⟩
theorem ev_exact {K : Fr} {E : XK} {ta tb : TE} {σ : L2.St} {H : Hp} {l : List Int} {b : Int} (a : Ev K ta σ H (dIs l)) (a2 : Ev K tb σ H (.int b)) (hl : l.length ≤ 1000) (b0 : b ≠ 0) (bb : Bd 8000 b) :
    Ev K (tCall (spExact K) [] E (tCons ta (tCons tb tNil))) σ H (dO (exactF l b)) :=
  ev_call (eva_cons a (eva_cons a2 eva_nil)) ⟨l, b, rfl, hl, b0, bb, rfl⟩
theorem sq_pos {a : C2} (h : ¬ a = (0, 0)) : a.1 * a.1 + a.2 * a.2 ≠ 0 := by
  intro e
  have h1 : 0 ≤ a.1 * a.1 := by
    rcases Int.le_total 0 a.1 with q | q
    · exact Int.mul_nonneg q q
    · exact Int.mul_nonneg_of_nonpos_of_nonpos q q
  have h2 : 0 ≤ a.2 * a.2 := by
    rcases Int.le_total 0 a.2 with q | q
    · exact Int.mul_nonneg q q
    · exact Int.mul_nonneg_of_nonpos_of_nonpos q q
  have h3 : a.1 * a.1 = 0 := by omega
  have h4 : a.2 * a.2 = 0 := by omega
  exact h (Prod.ext (by rcases Int.mul_eq_zero.mp h3 with q | q <;> exact q) (by rcases Int.mul_eq_zero.mp h4 with q | q <;> exact q))
/-- sum of products over a zip, in a comprehension -/
theorem evl_zipmap {K : Fr} {i j : Nat} {σ : L2.St} {H : Hp} {ta tb te : TE} {α β : Type} {xs : List α} {ys : List β} (fx : α → PD) (fy : β → PD) (g : α → β → Int) (hij : i ≠ j) (a : Ev K ta σ H (.tuple (xs.map fx))) (b : Ev K tb σ H (.tuple (ys.map fy))) (hl : xs.length ≤ 1000)
    (h : ∀ x ∈ xs, ∀ y ∈ ys, ∀ (v w : V) (H1 : Hp), Same H H1 → Rep K H1 v (fx x) → Rep K H1 w (fy y) → Ev K te (((wipe σ [i, j]).set i (some v)).set j (some w)) H1 (.int (g x y))) :
    EvL K (tLc (RZ.iZipA K (tCons ta (tCons tb tNil))) (gTup K 2 (gCons (gName i) (gCons (gName j) gNil))) tYes te [i, j]) σ H (((xs.zip ys).map fun p => g p.1 p.2).map .int) := by
  refine evl_lcz hij a b (by simp) (by simpa using hl) fun m d f v w H1 hd hf s rv rw' => ?_
  rw [List.getElem?_map] at hd hf
  cases ex : xs[m]? with
  | none => rw [ex] at hd; cases hd
  | some x =>
    cases ey : ys[m]? with
    | none => rw [ey] at hf; cases hf
    | some y =>
      rw [ex] at hd
      rw [ey] at hf
      cases hd
      cases hf
      refine ⟨.int (g x y), ?_, h x (List.mem_of_getElem? ex) y (List.mem_of_getElem? ey) v w H1 s rv rw'⟩
      rw [List.getElem?_map, List.getElem?_map, List.getElem?_zip_eq_some (z := (x, y)) |>.mpr ⟨ex, ey⟩]
      rfl
/-! ### powers of wide ints -/
def CPowW (i j : Int) : Prop := 0 ≤ j ∧ (Builtin.Int.intBits i : Int) * j ≤ 2 ^ 27
theorem op_powW {X : Cx} : OpR X (binaryOp .Pow) (rI CPowW fun i j => .int (i ^ j.toNat)) := opI fun _ _ _ _ _ _ _ hc q => PyProof.Rows.pow_int hc.1 hc.2 q
theorem Bd.sq {n : Nat} {i : Int} (h : Bd n i) (l : n ≤ 100000) : CPowW i 2 := by
  refine ⟨by decide, ?_⟩
  have e := PySem.Flt.log2_lt_of (Nat.succ_pos n) (h.mono (Nat.le_succ n))
  have b : Builtin.Int.intBits i ≤ i.natAbs.log2 + 1 := by
    unfold Builtin.Int.intBits
    split <;> omega
  have l2 : (2 : Int) ^ 27 = 134217728 := by decide
  rw [l2]
  omega
theorem ev_sq {K : Fr} {ta : TE} {σ : L2.St} {H : Hp} {x : Int} {n : Nat} (a : Ev K ta σ H (.int x)) (b : Bd n x) (l : n ≤ 100000) : Ev K (tOp (rI CPowW fun i j => .int (i ^ j.toNat)) ta (tC (.int 2))) σ H (.int (x * x)) := by
  have e : x * x = x ^ (2 : Int).toNat := by
    show x * x = x ^ 2
    rw [Int.pow_succ, Int.pow_succ, Int.pow_zero, Int.one_mul]
  rw [e]
  exact ev_rI (gd := fun i j => .int (i ^ j.toNat)) (fun _ _ _ => .int _) (b.sq l) a ev_int
theorem exactF_bd {l m : List Int} {b : Int} {k : Nat} (h : exactF l b = some m) (hb : ∀ x ∈ l, Bd k x) : m.length = l.length ∧ ∀ x ∈ m, Bd (k + 1) x := by
  unfold exactF at h
  by_cases e : (l.map fun t => (!decide (t.fmod b = 0) || decide (t.fdiv b < 0))).any id = true
  · rw [if_pos e] at h; cases h
  · rw [if_neg e] at h
    cases h
    refine ⟨by simp, fun x hx => ?_⟩
    obtain ⟨t, ht, rfl⟩ := List.mem_map.mp hx
    have b0 := hb t ht
    have q : t.fmod b = 0 ∧ ¬ t.fdiv b < 0 := by
      have q := e
      simp only [List.any_map, List.any_eq_true, not_exists, not_and] at q
      have q2 := q t ht
      simp at q2
      exact ⟨q2.1, by omega⟩
    have e3 : b * t.fdiv b = t := by have := Int.mul_fdiv_add_fmod t b; rw [q.1] at this; omega
    by_cases hb0 : b = 0
    · subst hb0
      rw [Int.fdiv_zero]
      unfold Bd
      exact Nat.pos_of_ne_zero (by simp)
    · refine Bd.mono ?_ (Nat.le_succ k)
      unfold Bd at *
      have : t.natAbs = b.natAbs * (t.fdiv b).natAbs := by rw [← Int.natAbs_mul, e3]
      have h1 : 1 ≤ b.natAbs := by omega
      have h2 : 1 * (t.fdiv b).natAbs ≤ b.natAbs * (t.fdiv b).natAbs := Nat.mul_le_mul_right _ h1
      omega
theorem way_bd {S : Sh} (ok : S.Ok) {c : C2} (bc : BdC 2000 c) : BdC 2001 (S.way c) := ⟨(bc.1.sub ok.b0.1).mono (by decide), (bc.2.sub ok.b0.2).mono (by decide)⟩
theorem counts_bd {S : Sh} (ok : S.Ok) {c : C2} (bc : BdC 2000 c) {n : List Int} (h : S.counts c = some n) : n.length ≤ 2 ∧ ∀ x ∈ n, Bd 2600 x := by
  have bw := way_bd ok bc
  have hb := ok.b2
  unfold Sh.counts at h
  split at h
  · by_cases e : S.way c = (0, 0)
    · rw [if_pos e] at h; cases h; exact ⟨by decide, by simp⟩
    · rw [if_neg e] at h; cases h
  · rename_i f hst
    have bf := hb f (by rw [hst]; simp)
    by_cases e : cr f (S.way c) = 0
    · rw [if_pos e] at h
      obtain ⟨h1, h2⟩ := exactF_bd (k := 2500) h (fun x hx => by
        simp at hx; subst hx
        exact (Bd.add (Bd.mul bf.1 bw.1) (Bd.mul bf.2 bw.2)).mono (by decide))
      exact ⟨by rw [h1]; simp, fun x hx => (h2 x hx).mono (by decide)⟩
    · rw [if_neg e] at h; cases h
  · rename_i f s l hst
    have bf := hb f (by rw [hst]; simp)
    have bs := hb s (by rw [hst]; simp)
    obtain ⟨h1, h2⟩ := exactF_bd (k := 2500) h (fun x hx => by
      simp at hx
      rcases hx with rfl | rfl
      · exact (Bd.cr bw bs).mono (by decide)
      · exact (Bd.cr bf bw).mono (by decide))
    exact ⟨by rw [h1]; simp, fun x hx => (h2 x hx).mono (by decide)⟩
/-! ### the law's own counts -/
abbrev dR (S : Sh) : PD := .tuple [dC S.base, .int S.price, dCs S.steps, dIs S.prices]
def lone (f g : C2) : Option (List Int) :=
  if (!decide (cr g f = 0) || (decide (g.1 * f.1 + g.2 * f.2 < 0) || !decide ((g.1 * f.1 + g.2 * f.2) % (f.1 * f.1 + f.2 * f.2) = 0))) = true then none else some [(g.1 * f.1 + g.2 * f.2) / (f.1 * f.1 + f.2 * f.2)]
def ltwo (size one two : Int) : Option (List Int) :=
  if (decide (one < 0) || (decide (two < 0) || (!decide (one % size = 0) || !decide (two % size = 0)))) = true then none else some [one / size, two / size]
def lcountsF (S : Sh) (c : C2) : Option (List Int) := match S.steps with
  | [] => if S.way c = (0, 0) then some [] else none
  | [f] => lone f (S.way c)
  | f :: s :: _ => if cr f s < 0 then ltwo (-cr f s) (-cr (S.way c) s) (-cr f (S.way c)) else ltwo (cr f s) (cr (S.way c) s) (cr f (S.way c))
theorem exact1 {t b : Int} (hb : 0 < b) : exactF [t] b = if (decide (t < 0) || !decide (t % b = 0)) = true then none else some [t / b] := by
  unfold exactF
  have e1 : t.fmod b = t % b := Int.fmod_eq_emod_of_nonneg t (by omega)
  have e2 : t.fdiv b = t / b := Int.fdiv_eq_ediv_of_nonneg t (by omega)
  have e3 := Int.mul_ediv_add_emod t b
  simp only [List.map, List.any, e1, e2, id, Bool.or_false]
  by_cases h : t % b = 0
  · have h1 : t / b < 0 ↔ t < 0 := by
      rw [h] at e3
      constructor
      · intro q
        have := Int.mul_neg_of_pos_of_neg hb q
        omega
      · intro q
        rcases Int.lt_or_le (t / b) 0 with z | z
        · exact z
        · have := Int.mul_nonneg (Int.le_of_lt hb) z
          omega
    simp [h, h1]
  · simp [h]
theorem exact2 {t u b : Int} (hb : 0 < b) : exactF [t, u] b = if (decide (t < 0) || (decide (u < 0) || (!decide (t % b = 0) || !decide (u % b = 0)))) = true then none else some [t / b, u / b] := by
  have k : ∀ t : Int, (!decide (t.fmod b = 0) || decide (t.fdiv b < 0)) = (decide (t < 0) || !decide (t % b = 0)) := fun t => by
    have e1 : t.fmod b = t % b := Int.fmod_eq_emod_of_nonneg t (by omega)
    have e2 : t.fdiv b = t / b := Int.fdiv_eq_ediv_of_nonneg t (by omega)
    have e3 := Int.mul_ediv_add_emod t b
    rw [e1, e2]
    by_cases h : t % b = 0
    · have h1 : t / b < 0 ↔ t < 0 := by
        rw [h] at e3
        constructor
        · intro q
          have := Int.mul_neg_of_pos_of_neg hb q
          omega
        · intro q
          rcases Int.lt_or_le (t / b) 0 with z | z
          · exact z
          · have := Int.mul_nonneg (Int.le_of_lt hb) z
            omega
      simp [h, h1]
    · simp [h]
  unfold exactF
  simp only [List.map, List.any, id, k, Bool.or_false]
  rw [Int.fdiv_eq_ediv_of_nonneg t (by omega), Int.fdiv_eq_ediv_of_nonneg u (by omega)]
  congr 1
  cases decide (t < 0) <;> cases decide (u < 0) <;> cases decide (t % b = 0) <;> cases decide (u % b = 0) <;> rfl
theorem exactF_neg {l : List Int} {b : Int} : exactF (l.map fun x => -x) (-b) = exactF l b := by
  have e1 : ∀ t : Int, (-t).fmod (-b) = -(t.fmod b) := fun t => by
    rw [Int.neg_fmod_neg]
  have e2 : ∀ t : Int, (-t).fdiv (-b) = t.fdiv b := fun t => Int.neg_fdiv_neg t b
  unfold exactF
  simp only [List.map_map, Function.comp_def, e1, e2, Int.neg_eq_zero]
theorem lcounts_eq {S : Sh} (ok : S.Ok) (c : C2) : lcountsF S c = S.counts c := by
  have st := ok.st
  unfold lcountsF Sh.counts
  split
  · rfl
  · rename_i f hst
    rw [hst] at st
    have f0 : ¬ f = (0, 0) := by
      intro e
      simp [areSteps, e] at st
    have sq := sq_pos f0
    have h1 : 0 ≤ f.1 * f.1 := by
      rcases Int.le_total 0 f.1 with q | q
      · exact Int.mul_nonneg q q
      · exact Int.mul_nonneg_of_nonpos_of_nonpos q q
    have h2 : 0 ≤ f.2 * f.2 := by
      rcases Int.le_total 0 f.2 with q | q
      · exact Int.mul_nonneg q q
      · exact Int.mul_nonneg_of_nonpos_of_nonpos q q
    have e1 : f.1 * (S.way c).1 + f.2 * (S.way c).2 = (S.way c).1 * f.1 + (S.way c).2 * f.2 := by rw [Int.mul_comm f.1, Int.mul_comm f.2]
    have e2 : cr (S.way c) f = - cr f (S.way c) := by
      unfold cr
      rw [Int.mul_comm (S.way c).1, Int.mul_comm (S.way c).2]
      omega
    rw [exact1 (by omega), e1]
    unfold lone
    rw [e2]
    by_cases z : cr f (S.way c) = 0
    · rw [if_pos z]
      simp [z]
    · rw [if_neg z]
      simp [z]
  · rename_i f s l hst
    rw [hst] at st
    have l0 : l = [] := by
      have := areSteps_len st
      cases l with
      | nil => rfl
      | cons a b => simp at this
    subst l0
    have b0 : cr f s ≠ 0 := by
      intro e
      simp [areSteps, e] at st
    by_cases z : cr f s < 0
    · rw [if_pos z]
      have e := exactF_neg (l := [cr (S.way c) s, cr f (S.way c)]) (b := cr f s)
      rw [← e]
      show ltwo _ _ _ = exactF [-cr (S.way c) s, -cr f (S.way c)] (-cr f s)
      rw [exact2 (by omega)]
      rfl
    · rw [if_neg z, exact2 (by omega)]
      rfl
def spExact0 (K : Fr) : Sp := spF K fun ds d => ∃ i : Int, ds = [.int i, .int i] ∧ d = .bool true
def spExact1 (K : Fr) : Sp := spF K fun ds d => ∃ l : List Int, ds = [dIs l, dIs l] ∧ l.length ≤ 1000 ∧ d = .bool true
def spLcounts (K : Fr) : Sp := spF K fun ds d => ∃ (S : Sh) (c : C2), ds = [dR S, dC c] ∧ S.Ok ∧ BdC 2000 c ∧ d = dO (S.counts c)
def spLprice (K : Fr) : Sp := spF K fun ds d => ∃ (S : Sh) (c : C2), ds = [dR S, dC c] ∧ S.Ok ∧ BdC 2000 c ∧ d = dOI (S.priceAt c)
def spSpot (K : Fr) : Sp := spF K fun ds d => ∃ (S : Sh) (n : List Int), ds = [dR S, dIs n, .bool false] ∧ S.Ok ∧ n.length = S.steps.length ∧ (∀ k ∈ n, Bd 300 k) ∧ d = .tuple [dC (S.cellOf n), .int (S.priceOf n)]
theorem sq_pos' {a : C2} (h : ¬ a = (0, 0)) : 0 < a.1 * a.1 + a.2 * a.2 := by
  have h0 := sq_pos h
  have h1 : 0 ≤ a.1 * a.1 := by
    rcases Int.le_total 0 a.1 with q | q
    · exact Int.mul_nonneg q q
    · exact Int.mul_nonneg_of_nonpos_of_nonpos q q
  have h2 : 0 ≤ a.2 * a.2 := by
    rcases Int.le_total 0 a.2 with q | q
    · exact Int.mul_nonneg q q
    · exact Int.mul_nonneg_of_nonpos_of_nonpos q q
  omega
theorem i_zip3 {K : Fr} {σ : L2.St} {H : Hp} {ta : TA} {ds : List PD} {R : It → Hp → Prop} (a : EvA K ta σ H ds)
    (h : ∀ ws H2, Same H H2 → RepAll K H2 ws ds → ∃ a b c xs ys zs, ws = [.ref a, .ref b, .ref c] ∧ SqT K H2 a xs ∧ SqT K H2 b ys ∧ SqT K H2 c zs ∧ R (Itz3 K a b c) H2) : iZip3 K ta σ H R := a H (Same.refl H) _ h
end LB
/-! Draws of numbers, cells, steps. -/
namespace LB
open PySem L2
/-- a comprehension that draws at each turn -/
theorem lc_pen {J : It} {m : Nat} {G0 : Hp → Prop} {Y : Nat → Hp → V → Hp → Prop} {K : Fr} (w : Walk J m G0 Y) {te : TE} {i : Nat} {σ : L2.St} {H1 : Hp} {D : Addr} {Qd : Hp → Prop} {c d : Addr} {n0 k : Nat} (G : PD → Prop)
    (hm : m ≤ 1000) (hD : H1 D = none) (P : PenAt c H1 d n0) (hG : ∀ H, Kd d H1 H → G0 H) (hY : ∀ i H x H', Y i H x H' → H' = H)
    (he : ∀ (v : V) (H : Hp) (n : Nat), PenAt c H d n → n ≤ n0 + m * k → Kd d H1 H → ∀ Q : VK, (∀ y x H', G x → Rep K H' y x → Kd d H H' → PenAt c H' d (n + k) → Q y H') → te ((wipe σ [i]).set i (some v)) H Q)
    (kf : ∀ ws xs H, xs.length = m → (∀ x ∈ xs, G x) → Kd d H1 H → PenAt c H d (n0 + m * k) → H D = some (.lst ws) → RepAll K H ws xs → Qd H) :
    ∃ W : Nat → Nat → Hp → Prop, (∃ m, W 0 m (upd H1 D (.lst []))) ∧ ∀ i' m H, W i' m H →
      (J.stop i' H ∧ Qd H) ∨ (J.go i' H ∧ ∃ Nx : Hp → Prop, (∀ H', Nx H' → ∃ m', m' < m ∧ W (i' + 1) m' H') ∧ ∀ x H', J.yld i' H x H' → gName i x (wipe σ [i]) H' fun σ2 H2 => wipe σ2 [i] = wipe σ [i] ∧ tYes σ2 H2 fun b H3 =>
        if b = true then te σ2 H3 fun y H4 => ∃ acc, H4 D = some (.lst acc) ∧ acc.length < sizeLine ∧ Nx (upd H4 D (.lst (acc ++ [y]))) else Nx H3) := by
  obtain ⟨nd, nc⟩ := P.ned hD
  have kn : ∀ {H : Hp} {o : HO}, Kd d H1 H → Kd d H1 (upd H D o) := fun {H o} s b u e ne => by
    rw [upd_ne (ne_of_none e hD)]; exact s b u e ne
  refine lc_it w (fun j H => Kd d H1 H ∧ PenAt c H d (n0 + j * k) ∧ ∃ acc xs, H D = some (.lst acc) ∧ xs.length = j ∧ (∀ x ∈ xs, G x) ∧ RepAll K H acc xs) ?_ (fun j H _ p => hG H p.1) ?_ ?_
  · exact ⟨kn (Kd.refl H1), by rw [Nat.zero_mul]; exact P.upd nd nc, [], [], upd_same, rfl, by simp, .nil⟩
  · rintro j x H H' hj ⟨s1, Pj, acc, xs, ha, hx, hg, ra⟩ y
    have e := hY j H x H' y
    subst e
    refine ⟨wipe1, ?_⟩
    dsimp only [tYes]
    rw [if_pos rfl]
    refine he x H' _ Pj ?_ s1 _ fun y x H4 gx ry s4 P4 => ?_
    · exact Nat.add_le_add_left (Nat.mul_le_mul_right k (by omega)) n0
    have hD4 : H4 D = some (.lst acc) := s4 _ _ ha nd
    refine ⟨acc, hD4, ?_, kn (s1.trans s4), ?_, acc ++ [y], xs ++ [x], upd_same, by simp [hx], ?_, ?_⟩
    · have := ra.len
      exact small1000 (by omega)
    · have e : n0 + (j + 1) * k = n0 + j * k + k := by rw [Nat.add_mul, Nat.one_mul, Nat.add_assoc]
      rw [e]
      exact P4.upd nd nc
    · intro z hz
      rcases List.mem_append.mp hz with q | q
      · exact hg z q
      · simp at q; subst q; exact gx
    · exact ((ra.kt (Pj.kt s4)).append (.cons ry .nil)).kt (kt_lst hD4)
  · rintro H ⟨s1, Pj, acc, xs, ha, hx, hg, ra⟩
    exact kf acc xs H hx hg s1 Pj ha ra
/-! ### promises of draws -/
def spWide : Sp := fun vs H Q _ => ∃ (c d : Addr) (n : Nat), vs = [.ref d] ∧ PenAt c H d n ∧ n < 900000000 ∧ ∀ (x : Int) (H' : Hp), Bd 210 x → Kd d H H' → PenAt c H' d (n + 12) → Q (.int x) H'
def spNear (K : Fr) : Sp := fun vs H Q _ => ∃ (c d : Addr) (n : Nat) (m : Int), vs = [.ref d, .int m] ∧ PenAt c H d n ∧ n < 900000000 ∧ 0 < m ∧ m < 1000 ∧ ∀ (v : V) (x : C2) (H' : Hp), BdC 20 x → Rep K H' v (dC x) → Kd d H H' → PenAt c H' d (n + 2) → Q v H'
def spSteps (K : Fr) : Sp := fun vs H Q _ => ∃ (c d : Addr) (n j : Nat) (m : Int), vs = [.ref d, .int j, .int m] ∧ j ≤ 2 ∧ PenAt c H d n ∧ n < 800000000 ∧ 0 < m ∧ m < 1000 ∧
  ∀ (v : V) (l : List C2) (H' : Hp), l.length = j → areSteps l = true → (∀ s ∈ l, BdC 210 s) → Rep K H' v (dCs l) → Kd d H H' → PenAt c H' d (n + 60) → Q v H'
def spGreat (K : Fr) : Sp := fun vs H Q _ => ∃ (c d : Addr) (n j : Nat), vs = [.ref d, .int j] ∧ j ≤ 2 ∧ PenAt c H d n ∧ n < 700000000 ∧
  ∀ (v : V) (l : List C2) (H' : Hp), l.length = j → areSteps l = true → (∀ s ∈ l, BdC 210 s) → Rep K H' v (dCs l) → Kd d H H' → PenAt c H' d (n + 100) → Q v H'
def spCount : Sp := fun vs H Q _ => ∃ (c d : Addr) (n : Nat), vs = [.ref d] ∧ PenAt c H d n ∧ n < 800000000 ∧ ∀ (x : Int) (H' : Hp), 0 ≤ x → Bd 210 x → Kd d H H' → PenAt c H' d (n + 13) → Q (.int x) H'
def spOther (K : Fr) : Sp := fun vs H Q _ => ∃ (c d : Addr) (n : Nat) (S : Sh) (x : C2) (v w : V), vs = [.ref d, v, w] ∧ PenAt c H d n ∧ n < 700000000 ∧ S.Ok ∧ Rep K H v (dR S) ∧ Rep K H w (dC x) ∧ BdC 900 x ∧
  ∀ (u : V) (y : C2) (H' : Hp), BdC 1000 y → Rep K H' u (dC y) → Kd d H H' → PenAt c H' d (n + 100) → Q u H'
def spMade (K : Fr) (C : Addr) : Sp := fun vs H Q _ => ∃ (S : Sh) (v : V), vs = [v] ∧ S.Ok ∧ Rep K H v (dR S) ∧ ∀ (p : Addr) (H' : Hp), ShAt K C H' p S → Same H H' → Q (.ref p) H'
def spAsked (K : Fr) (C : Addr) : Sp := fun vs H Q _ => ∃ (S : Sh) (x : C2) (p : Addr) (v w : V), vs = [.ref p, v, w] ∧ S.Ok ∧ ShAt K C H p S ∧ Rep K H v (dR S) ∧ Rep K H w (dC x) ∧ BdC 1000 x ∧ ∀ (H' : Hp), Same H H' → Q (.bl true) H'
def spLaw (K : Fr) : Sp := fun vs H Q _ => ∃ (a : Addr) (ns : List Int), vs = [.ref a] ∧ SqL K H a (ns.map V.int) ∧ ns.length ≤ 63 ∧ ∀ H', Q (.bl true) H'
section
variable {K : Fr} {E : XK} {σ : L2.St} {H : Hp} {c d : Addr} {n i : Nat} {Q : VK}
theorem c_wide (e : σ[i]? = some (some (.ref d))) (P : PenAt c H d n) (hn : n < 900000000) (k : ∀ (x : Int) (H' : Hp), Bd 210 x → Kd d H H' → PenAt c H' d (n + 12) → Q (.int x) H') : tCall spWide [] E (tCons (tVar i) tNil) σ H Q :=
  ⟨_, e, c, d, n, rfl, P, hn, k⟩
theorem c_count (e : σ[i]? = some (some (.ref d))) (P : PenAt c H d n) (hn : n < 800000000) (k : ∀ (x : Int) (H' : Hp), 0 ≤ x → Bd 210 x → Kd d H H' → PenAt c H' d (n + 13) → Q (.int x) H') : tCall spCount [] E (tCons (tVar i) tNil) σ H Q :=
  ⟨_, e, c, d, n, rfl, P, hn, k⟩
theorem c_near {te : TE} {m : Int} (e : σ[i]? = some (some (.ref d))) (P : PenAt c H d n) (hn : n < 900000000) (m0 : 0 < m) (m1 : m < 1000) (a : Ev K te σ H (.int m))
    (k : ∀ (v : V) (x : C2) (H' : Hp), BdC 20 x → Rep K H' v (dC x) → Kd d H H' → PenAt c H' d (n + 2) → Q v H') : tCall (spNear K) [] E (tCons (tVar i) (tCons te tNil)) σ H Q :=
  ⟨_, e, a H (Same.refl H) _ fun v H1 s rv => by
    cases rv.int_inv
    exact ⟨c, d, n, m, rfl, P.same s, hn, m0, m1, fun v x H' h1 h2 h3 h4 => k v x H' h1 h2 ((kd_same s).trans h3) h4⟩⟩
end
/-- numbers by their six digits -/
theorem six_step {x r : Int} {j : Nat} (h0 : 0 ≤ x) (h1 : x < 10 ^ (6 * j)) (r0 : 0 ≤ r) (r1 : r < 1000000) : 0 ≤ x * 1000000 + r ∧ x * 1000000 + r < 10 ^ (6 * (j + 1)) := by
  have e : (10 : Int) ^ (6 * (j + 1)) = 10 ^ (6 * j) * 1000000 := by
    rw [Nat.mul_add, Int.pow_add]
    rfl
  rw [e]
  omega
theorem six_bd {x : Int} {j : Nat} (h0 : 0 ≤ x) (h1 : x < 10 ^ (6 * j)) (hj : j ≤ 10) : Bd 210 x := by
  have e : (10 : Int) ^ (6 * j) ≤ 10 ^ 60 := by
    have q : (10 : Nat) ^ (6 * j) ≤ 10 ^ 60 := Nat.pow_le_pow_right (by decide) (by omega)
    exact_mod_cast q
  have e2 : (10 : Int) ^ 60 < 2 ^ 210 := by decide
  refine Bd.of_range (lo := 0) (hi := 10 ^ 60) h0 (by omega) (by decide) (Int.le_of_lt e2)
/-- [e for x in l], l a list that a name holds -/
theorem evl_lcl {K : Fr} {σ : L2.St} {H : Hp} {te : TE} {i0 i : Nat} {l : Addr} {vs : List V} {ds es : List PD} (e : σ[i0]? = some (some (.ref l))) (hl : H l = some (.lst vs)) (rs : RepAll K H vs ds) (hn : es.length = ds.length) (h1 : ds.length ≤ 1000)
    (h : ∀ (j : Nat) (d : PD) (v : V) (H1 : Hp), ds[j]? = some d → Same H H1 → Rep K H1 v d → ∃ e, es[j]? = some e ∧ Ev K te ((wipe σ [i]).set i (some v)) H1 e) : EvL K (tLc (iList K (tVar i0)) (gName i) tYes te [i]) σ H es := fun H1 s Q k => by
  refine ⟨_, e, l, rfl, ⟨vs, SqL.of (s _ _ hl)⟩, fun D hD => ?_⟩
  refine lc_pure (K := K) (walk_list (K := K) (a := l) (xs := vs)) es (by rw [hn, rs.len]) (by rw [rs.len]; exact h1) hD (fun H2 s2 => SqL.of (s2 _ _ (s _ _ hl))) (fun i x H H' _ y => by rw [y.1]; exact Same.refl H) ?_ gName_mono (fun ws H3 s3 e3 r3 => k D ws H3 s3 hD e3 r3)
  rintro j x H3 H4 hj s3 s4 ⟨rfl, hx⟩
  obtain ⟨d, ed, rd⟩ := rs.getV hx
  obtain ⟨e, ee, ev⟩ := h j d x H4 ed (s.trans s3) ((rd.same s).same s3)
  exact ⟨wipe1, rfl, e, ee, ev⟩
/-- an item of a list that a name holds -/
theorem ev_ixL {K : Fr} {σ : L2.St} {H : Hp} {i0 : Nat} {i : Int} {l : Addr} {vs : List V} {ds : List PD} {d : PD} (e : σ[i0]? = some (some (.ref l))) (hl : H l = some (.lst vs)) (rs : RepAll K H vs ds) (he : atI ds i = some d) : Ev K (tOp (rIxL K) (tVar i0) (tC (.int i))) σ H d := fun H1 s Q k => by
  obtain ⟨z, hz, rz⟩ := rs.at he
  exact ⟨_, e, l, vs, i, z, rfl, rfl, SqL.of (s _ _ hl), hz, k z H1 (Same.refl H1) (rz.same s)⟩
theorem cell_of_list {cells : List C2} {j : Nat} {d : PD} (h : (cells.map dC)[j]? = some d) : ∃ q, cells[j]? = some q ∧ d = dC q := by
  rw [List.getElem?_map] at h
  cases e : cells[j]? with
  | none => rw [e] at h; cases h
  | some q => rw [e] at h; exact ⟨q, rfl, (Option.some.inj h).symm⟩
theorem cells_of {xs : List PD} {P : C2 → Prop} : (∀ x ∈ xs, ∃ q, x = dC q ∧ P q) → ∃ cells : List C2, xs = cells.map dC ∧ ∀ q ∈ cells, P q := by
  induction xs with
  | nil => exact fun _ => ⟨[], rfl, by simp⟩
  | cons x xs ih =>
    intro h
    obtain ⟨q, e, hq⟩ := h x (by simp)
    obtain ⟨cells, e2, h2⟩ := ih fun y hy => h y (by simp [hy])
    exact ⟨q :: cells, by rw [e, e2]; rfl, by simp; exact ⟨hq, fun a b hab => h2 (a, b) hab⟩⟩
def fixC (z : C2) (q : C2) : C2 := if q = (0, 0) then z else q
theorem fixC_ne {z q : C2} (hz : ¬ z = (0, 0)) : ¬ fixC z q = (0, 0) := by
  unfold fixC
  by_cases h : q = (0, 0)
  · rw [if_pos h]; exact hz
  · rw [if_neg h]; exact h
theorem fixC_bd {z q : C2} {n : Nat} (hz : BdC n z) (hq : BdC n q) : BdC n (fixC z q) := by
  unfold fixC
  by_cases h : q = (0, 0)
  · rw [if_pos h]; exact hz
  · rw [if_neg h]; exact hq
def quarter (a : C2) : C2 := (-a.2, a.1)
theorem quarter_ok {a : C2} (h : ¬ a = (0, 0)) : areSteps [a, quarter a] = true := by
  have e : cr a (quarter a) = a.1 * a.1 + a.2 * a.2 := by
    show a.1 * a.1 - a.2 * (-a.2) = _
    rw [Int.mul_neg]
    omega
  have h2 := sq_pos h
  have h3 : ¬ quarter a = (0, 0) := by
    intro z
    have z1 := congrArg Prod.fst z
    have z2 := congrArg Prod.snd z
    simp [quarter] at z1 z2
    exact h (Prod.ext z2 z1)
  rw [← e] at h2
  simp [areSteps, h, h2, h3]
theorem s_setL {K : Fr} {σ : L2.St} {H : Hp} {ta : TE} {ds : List PD} {i : Nat} {u : TS} {D : Ends} (a : EvL K ta σ H ds) (h : ∀ p vs H1, Same H H1 → H p = none → H1 p = some (.lst vs) → RepAll K H1 vs ds → u D (σ.set i (some (.ref p))) H1) : tSeq (tAsg ta (gName i)) u D σ H := a H (Same.refl H) _ h
def rListOf (K : Fr) : List V → Hp → VK → Prop := fun xs H Q => ∃ p ys, xs = [.ref p] ∧ (SqL K H p ys ∨ SqT K H p ys) ∧ ∀ l, H l = none → Q (.ref l) (upd H l (.lst ys))
theorem evl_listT {K : Fr} {σ : L2.St} {H : Hp} {ta : TE} {ds : List PD} (a : Ev K ta σ H (.tuple ds)) : EvL K (tCB (rListOf K) (tCons ta tNil)) σ H ds := fun H1 s Q k =>
  a H1 s _ fun v H2 s2 rv => by
    obtain ⟨p, xs, rfl, hp, r⟩ := rv.tup_inv
    refine ⟨p, xs, rfl, .inr hp, fun l hl => ?_⟩
    exact k l xs _ (s2.trans (same_upd hl)) (s2.free hl) upd_same (r.same (same_upd hl))
theorem eqv_nil {l : List C2} : PyData.eqv (dCs l) (.tuple []) = l.isEmpty := by
  cases l <;> rfl
/-! two promises of one def -/
section
variable {P : Program} {w : World} {K : Fr} {mg : Str → Option Value} {base : Heap} {CX : CXT} {k j : Nat} {f : Addr} {fd : FuncData} {ps : List Str} {sp sp2 : Sp}
theorem FnOk.or (F : FnOk P w K mg base CX k f fd ps sp) (F2 : FnOk P w K mg base CX k f fd ps sp2) : FnOk P w K mg base CX k f fd ps (fun vs H Q E => sp vs H Q E ∨ sp2 vs H Q E) :=
  ⟨fun vs H Q E h => h.elim (F.len vs H Q E) (F2.len vs H Q E), fun A outer s H args us vs Q E hr e0 hb r h => h.elim (F.run A outer s H args us vs Q E hr e0 hb r) (F2.run A outer s H args us vs Q E hr e0 hb r)⟩
end
def spExactB (K : Fr) : Sp := fun vs H Q E => spExact0 K vs H Q E ∨ spExact1 K vs H Q E
theorem ev_exI {K : Fr} {E : XK} {ta tb : TE} {σ : L2.St} {H : Hp} {i : Int} (a : Ev K ta σ H (.int i)) (b : Ev K tb σ H (.int i)) : Ev K (tCall (spExactB K) [] E (tCons ta (tCons tb tNil))) σ H (.bool true) := fun H1 s Q k =>
  a H1 s _ fun v H2 s2 rv => b H2 (s.trans s2) _ fun u H3 s3 ru => .inl ⟨[.int i, .int i], .bool true, .cons (rv.same s3) (.cons ru .nil), ⟨i, rfl, rfl⟩, fun v' H' s4 r' => k v' H' ((s2.trans s3).trans s4) r'⟩
theorem ev_exL {K : Fr} {E : XK} {ta tb : TE} {σ : L2.St} {H : Hp} {l : List Int} (hl : l.length ≤ 1000) (a : Ev K ta σ H (dIs l)) (b : Ev K tb σ H (dIs l)) : Ev K (tCall (spExactB K) [] E (tCons ta (tCons tb tNil))) σ H (.bool true) := fun H1 s Q k =>
  a H1 s _ fun v H2 s2 rv => b H2 (s.trans s2) _ fun u H3 s3 ru => .inr ⟨[dIs l, dIs l], .bool true, .cons (rv.same s3) (.cons ru .nil), ⟨l, rfl, hl, rfl⟩, fun v' H' s4 r' => k v' H' ((s2.trans s3).trans s4) r'⟩
theorem ev_exC {K : Fr} {E : XK} {ta tb : TE} {σ : L2.St} {H : Hp} {c : C2} (a : Ev K ta σ H (dC c)) (b : Ev K tb σ H (dC c)) : Ev K (tCall (spExactB K) [] E (tCons ta (tCons tb tNil))) σ H (.bool true) := ev_exL (l := [c.1, c.2]) (Nat.le_of_ble_eq_true rfl) a b
/-! ### counts and cells fit -/
theorem exact_mul {a b s : Int} (hs : s ≠ 0) (ha : 0 ≤ a) (hb : 0 ≤ b) : exactF [a * s, b * s] s = some [a, b] := by
  unfold exactF
  simp [Int.mul_fmod_left, Int.mul_fdiv_cancel _ hs]
  omega
theorem exact_mul1 {a s : Int} (hs : s ≠ 0) (ha : 0 ≤ a) : exactF [a * s] s = some [a] := by
  unfold exactF
  simp [Int.mul_fmod_left, Int.mul_fdiv_cancel _ hs]
  omega
theorem counts_cellOf {S : Sh} (ok : S.Ok) {n : List Int} (ln : n.length = S.steps.length) (h0 : ∀ k ∈ n, 0 ≤ k) : S.counts (S.cellOf n) = some n := by
  have st := ok.st
  unfold Sh.counts
  split
  · rename_i hst
    rw [hst] at ln
    have e : n = [] := List.length_eq_zero_iff.mp ln
    subst e
    rw [if_pos]
    simp [Sh.way, Sh.cellOf, hst]
  · rename_i f hst
    rw [hst] at ln st
    obtain ⟨a, rfl⟩ := List.length_eq_one_iff.mp ln
    have ha := h0 a (by simp)
    have f0 : ¬ f = (0, 0) := by
      intro e
      simp [areSteps, e] at st
    have ew : S.way (S.cellOf [a]) = (a * f.1, a * f.2) := by
      simp [Sh.way, Sh.cellOf, hst]
      omega
    rw [ew]
    have e1 : cr f (a * f.1, a * f.2) = 0 := by
      unfold cr
      simp only
      grind
    have e2 : f.1 * (a * f.1) + f.2 * (a * f.2) = a * (f.1 * f.1 + f.2 * f.2) := by grind
    rw [if_pos e1]
    simp only
    rw [e2]
    exact exact_mul1 (sq_pos f0) ha
  · rename_i f s l hst
    rw [hst] at ln st
    have l0 : l = [] := by
      have := areSteps_len st
      cases l with
      | nil => rfl
      | cons a b => simp at this
    subst l0
    obtain ⟨a, b, rfl⟩ : ∃ a b, n = [a, b] := by
      match n, ln with
      | [a, b], _ => exact ⟨a, b, rfl⟩
    have ha := h0 a (by simp)
    have hb := h0 b (by simp)
    have b0 : cr f s ≠ 0 := by
      intro e
      simp [areSteps, e] at st
    have ew : S.way (S.cellOf [a, b]) = (a * f.1 + b * s.1, a * f.2 + b * s.2) := by
      simp [Sh.way, Sh.cellOf, hst]
      omega
    rw [ew]
    have e1 : cr (a * f.1 + b * s.1, a * f.2 + b * s.2) s = a * cr f s := by
      unfold cr
      simp only
      grind
    have e2 : cr f (a * f.1 + b * s.1, a * f.2 + b * s.2) = b * cr f s := by
      unfold cr
      simp only
      grind
    rw [e1, e2]
    exact exact_mul b0 ha hb
theorem exact_inv {l m : List Int} {b : Int} (h : exactF l b = some m) : l = m.map (fun k => b * k) := by
  unfold exactF at h
  by_cases e : (l.map fun t => (!decide (t.fmod b = 0) || decide (t.fdiv b < 0))).any id = true
  · rw [if_pos e] at h; cases h
  · rw [if_neg e] at h
    cases h
    have q : ∀ t ∈ l, b * t.fdiv b = t := by
      intro t ht
      simp only [List.any_map, List.any_eq_true, not_exists, not_and] at e
      have q2 := e t ht
      simp at q2
      have := Int.mul_fdiv_add_fmod t b
      omega
    rw [List.map_map]
    have e2 : l.map ((fun k => b * k) ∘ fun t => t.fdiv b) = l.map id := List.map_congr_left (fun t ht => q t ht)
    rw [e2, List.map_id]
theorem cellOf_counts {S : Sh} (ok : S.Ok) {c : C2} {n : List Int} (h : S.counts c = some n) : S.cellOf n = c ∧ n.length = S.steps.length := by
  have st := ok.st
  have hw : ∀ x y : Int, S.way c = (x, y) → c = (S.base.1 + x, S.base.2 + y) := by
    intro x y e
    have e1 := congrArg Prod.fst e
    have e2 := congrArg Prod.snd e
    simp [Sh.way] at e1 e2
    exact Prod.ext (by simp; omega) (by simp; omega)
  unfold Sh.counts at h
  split at h
  · rename_i hst
    by_cases e : S.way c = (0, 0)
    · rw [if_pos e] at h
      cases h
      rw [hw 0 0 e]
      simp [Sh.cellOf, hst]
    · rw [if_neg e] at h; cases h
  · rename_i f hst
    rw [hst] at st
    have f0 : ¬ f = (0, 0) := by
      intro e
      simp [areSteps, e] at st
    have z0 := sq_pos f0
    by_cases e : cr f (S.way c) = 0
    · rw [if_pos e] at h
      have q := exact_inv h
      match n, q with
      | [k], q =>
        simp at q
        generalize hW : S.way c = W at *
        obtain ⟨x, y⟩ := W
        obtain ⟨f1, f2⟩ := f
        simp [cr] at e q z0
        have e1 : (f1 * f1 + f2 * f2) * x = (f1 * f1 + f2 * f2) * (k * f1) := by grind
        have e2 : (f1 * f1 + f2 * f2) * y = (f1 * f1 + f2 * f2) * (k * f2) := by grind
        have e3 := Int.eq_of_mul_eq_mul_left z0 e1
        have e4 := Int.eq_of_mul_eq_mul_left z0 e2
        rw [hw x y rfl]
        simp [Sh.cellOf, hst, e3, e4]
      | [], q => simp at q
      | a :: b :: r, q => simp at q
    · rw [if_neg e] at h; cases h
  · rename_i f s l hst
    rw [hst] at st
    have l0 : l = [] := by
      have := areSteps_len st
      cases l with
      | nil => rfl
      | cons a b => simp at this
    subst l0
    have b0 : cr f s ≠ 0 := by
      intro e
      simp [areSteps, e] at st
    have q := exact_inv h
    match n, q with
    | [a, b], q =>
      simp at q
      obtain ⟨q1, q2⟩ := q
      generalize hW : S.way c = W at *
      obtain ⟨x, y⟩ := W
      obtain ⟨f1, f2⟩ := f
      obtain ⟨s1, s2⟩ := s
      simp [cr] at q1 q2 b0
      have e1 : (f1 * s2 - f2 * s1) * x = (f1 * s2 - f2 * s1) * (a * f1 + b * s1) := by grind
      have e2 : (f1 * s2 - f2 * s1) * y = (f1 * s2 - f2 * s1) * (a * f2 + b * s2) := by grind
      have e3 := Int.eq_of_mul_eq_mul_left b0 e1
      have e4 := Int.eq_of_mul_eq_mul_left b0 e2
      rw [hw x y rfl]
      simp [Sh.cellOf, hst, e3, e4]
    | [], q => simp at q
    | [a], q => simp at q
    | a :: b :: d :: r, q => simp at q
theorem ints_of {xs : List PD} {P : Int → Prop} : (∀ x ∈ xs, ∃ q, x = .int q ∧ P q) → ∃ l : List Int, xs = l.map .int ∧ ∀ q ∈ l, P q := by
  induction xs with
  | nil => exact fun _ => ⟨[], rfl, by simp⟩
  | cons x xs ih =>
    intro h
    obtain ⟨q, e, hq⟩ := h x (by simp)
    obtain ⟨l, e2, h2⟩ := ih fun y hy => h y (by simp [hy])
    exact ⟨q :: l, by rw [e, e2]; rfl, by simp; exact ⟨hq, h2⟩⟩
theorem cellOf_bd {S : Sh} (ok : S.Ok) {n : List Int} (ln : n.length = S.steps.length) (bn : ∀ k ∈ n, Bd 300 k) : BdC 900 (S.cellOf n) := by
  have ll := areSteps_len ok.st
  have b2 := ok.b2
  have b0 := ok.b0
  generalize hs : S.steps = st at *
  match st, n, ln, ll, bn, b2 with
  | [], [], _, _, _, _ =>
    simp [Sh.cellOf, hs]
    exact b0.mono (by decide)
  | [f], [a], _, _, bn, b2 =>
    have ba := bn a (by simp)
    have bf := b2 f (by simp)
    simp [Sh.cellOf, hs]
    exact ⟨(b0.1.add (ba.mul bf.1)).mono (by decide), (b0.2.add (ba.mul bf.2)).mono (by decide)⟩
  | [f, g], [a, b], _, _, bn, b2 =>
    have ba := bn a (by simp)
    have bb := bn b (by simp)
    have bf := b2 f (by simp)
    have bg := b2 g (by simp)
    simp [Sh.cellOf, hs]
    exact ⟨(b0.1.add ((ba.mul bf.1).add (bb.mul bg.1))).mono (by decide), (b0.2.add ((ba.mul bf.2).add (bb.mul bg.2))).mono (by decide)⟩
  | a :: b :: c :: r, _, _, ll, _, _ => simp at ll
/-! for k in range(n) -/
theorem s_range_end {K : Fr} {σ : L2.St} {H : Hp} {te : TE} {g : TG} {tb : TS} {D : Ends} {m : Nat} (a : Ev K te σ H (.int (m : Int))) (hm : m < 1000000) (Pv : Nat → L2.St → Hp → Prop) (h0 : ∀ H1, Same H H1 → Pv 0 σ H1)
    (hs : ∀ i σ H, i < m → Pv i σ H → g (.int (i : Int)) σ H fun σ2 H2 => tb { D with nx := Pv (i + 1), ct := Pv (i + 1), bk := D.nx } σ2 H2) (hd : ∀ σ H, Pv m σ H → D.nx σ H) : tFor (iRng1 (tCons te tNil)) g tb D σ H :=
  a H (Same.refl H) _ fun v H1 s rv => by
    cases rv.int_inv
    refine ⟨(m : Int), rfl, by omega, by omega, ?_⟩
    have e : (m : Int).toNat = m := by omega
    rw [e]
    refine for_range (n := m) Pv (h0 H1 s) (fun i σ H hi p => ?_) hd
    rw [Int.zero_add]
    exact hs i σ H hi p
theorem s_range {K : Fr} {σ : L2.St} {H : Hp} {te : TE} {g : TG} {tb u : TS} {D : Ends} {m : Nat} (a : Ev K te σ H (.int (m : Int))) (hm : m < 1000000) (Pv : Nat → L2.St → Hp → Prop) (h0 : ∀ H1, Same H H1 → Pv 0 σ H1)
    (hs : ∀ i σ H, i < m → Pv i σ H → g (.int (i : Int)) σ H fun σ2 H2 => tb { D with nx := Pv (i + 1), ct := Pv (i + 1), bk := u D } σ2 H2) (hd : ∀ σ H, Pv m σ H → u D σ H) : tSeq (tFor (iRng1 (tCons te tNil)) g tb) u D σ H :=
  s_range_end (D := { D with nx := u D }) a hm Pv h0 hs hd
end LB
/-! Exceptions as values: C(..) of an own class, its fields read, isinstance of it. -/
namespace LB
open PySem PySem.Spec PyProof.Rows L2
/-- what the class at C says, so that its objects are made, read and asked -/
structure ExK (K : Fr) (C : Addr) : Prop where
  ox : OexC K C
  hg : PySem.W.findIn K (.ref C) "__getattribute__" = some (some (.builtin "BaseException.__getattribute__"))
  hk : PySem.W.findIn K (.ref C) "__getattr__" = some none
  hd : PySem.W.hasDictIn K C = true
  ha : PySem.W.findIn K (.ref C) "__class__" = some (some (.builtin "object.__class__"))
  hn : PySem.W.specialIn K (.builtin "object.__class__") "__get__" = some (some (.builtin "getset_descriptor.__get__"))
  ht : PySem.W.takesIn K (.builtin "object.__class__") = some true
  hm : PySem.W.mroIn K C (.type "object") = some true
/-- C(e, ..), with the class's own __init__ -/
def tExV (C : Addr) (sp : Sp) (ta : TA) : TE := fun σ H Q => ta σ H fun vs H1 => vs.length ≤ 1000 ∧ ∀ a, H1 a = none →
  sp (.ref a :: vs) (upd H1 a (exo a C none)) (fun v H2 => v = .non ∧ Q (.ref a) H2) E0
theorem pe_exV {X : Cx} {x : Str} {C fI : Addr} {k : Nat} {fd : FuncData} {ps : List Str} {sp : Sp} {e : Expr} {es : List Expr} {ta : TA} {p pos : Pos} (T : ExK X.K C) (iC : PySem.W.findIn X.K (.ref C) "__init__" = some (some (.ref fI))) (tI : PySem.W.typeIn X.K (.ref fI) = some (.type "function"))
    (FO : FnOk X.prog X.w X.K X.mg X.base CX0 k fI fd ps sp) (hr : Room (k + 1) X.A) (hb : Binds X.K fd ps []) (hg : Gl X x) (hm : X.mg x = some (.ref C)) (ha : PA X (e :: es) ta) (hdb : (x == ("__debug__" : Str)) = false := by decide)
    (he : starEach (e :: es) X.env = (false, eval e X.env) :: starEach es X.env := by rfl) (hpl : (backTo pos (starEach es X.env)).any (·.1) = false := by rfl) : PE X (.Call (.Name x p) (e :: es) [] pos) (tExV C sp ta) := by
  refine ⟨fun pins s σ H Q I h => ?_⟩
  obtain ⟨nm, q, N, bs, bm, sn, sub, ab, col, dd, k0, k1, k2, k3, k5, hC, hbm⟩ := T.ox.cls
  refine wpAny_Call_Name_kw (ld_glob I hg hm ?_ hdb)
  refine PySem.W.callWith_K (h₀ := X.base) I.ok.mod.kin T.ox.kC (thn (ha.run pos pins s σ H _ I h) fun us s1 hh => ?_) he hpl
  obtain ⟨vs, H1, I1, r1, hz, q1⟩ := hh
  refine ⟨I1.kIn, ?_⟩
  show wpAny _ _ (call (.ref C) us) _ _ _
  have hn : H1 (s1.heap.objs.size + 1) = none := I1.hok.fresh (Nat.le_succ _)
  have hq := q1 _ hn
  generalize hh1 : (s1.heap.push (PySem.W.kdv_tup us)).push (PySem.HandSPX.excO C s1.heap.objs.size) = h1
  have kk : ∀ b o, s1.heap.get? b = some o → h1.get? b = some o := fun b o e => by
    subst hh1
    exact Heap.get?_push_of_some _ (Heap.get?_push_of_some _ e)
  have hget : h1.get? (s1.heap.objs.size + 1) = some (PySem.HandSPX.excO C s1.heap.objs.size) := by
    subst hh1
    heap_get
  have I2 : Inv X pins σ (upd H1 (s1.heap.objs.size + 1) (exo (s1.heap.objs.size + 1) C none)) { s1 with heap := h1 } := I1.laid (t' := s1.toks) (h' := h1) kk (Nat.le_succ _) (exo_ok hget)
  have r2 : Vals (V.ref (s1.heap.objs.size + 1) :: vs) (Value.ref (s1.heap.objs.size + 1) :: us) := .cons rfl r1
  have hl : (Value.ref (s1.heap.objs.size + 1) :: us).length = ps.length := by
    rw [← r2.length]
    exact FO.len _ _ _ _ hq
  have hus : us.length ≤ sizeLine := by
    rw [← Paired.length r1, sizeLine_eq]
    omega
  have bt := hb { s1 with heap := h1 } (Value.ref (s1.heap.objs.size + 1) :: us) I2.kIn (by rw [List.append_nil]; exact hl)
  rw [List.append_nil] at bt
  subst hh1
  refine wpAny_call (PySem.HandSPX.call_own PySem.F.excBase_ValueError (fun Y => PySem.HandSPX.refsVE_contains Y bm hbm) (I1.kIn _ _ hC) (PySem.W.looks_findIn I1.kIn iC) (fun self => PySem.W.bind_fn I1.kIn self tI) hus
    (codeAny_mono (FO.run _ X.stack _ _ _ _ _ _ E0 (hr.make C us []) (I2.env0.make C us []) bt r2 hq) fun r s' hq' => ?_))
  cases r with
  | error er => exact False.elim hq'
  | ok fl =>
    cases fl with
    | ret u =>
      obtain ⟨v, H', I3, rv, ev, q3⟩ := I2.after hq'
      subst ev
      exact ⟨rv, V.ref (s1.heap.objs.size + 1), H', I3, rfl, q3⟩
    | next => exact False.elim hq'
    | brk => exact False.elim hq'
    | cont => exact False.elim hq'
/-- a field read -/
def tExF (K : Fr) (te : TE) (f : Str) : TE := fun σ H Q => te σ H fun x H1 => ∃ (a C d : Addr) (fs : List (Str × V)) (v : V), x = .ref a ∧ ExK K C ∧ PySem.W.findIn K (.ref C) f = some none ∧ H1 a = some (exo a C (some d)) ∧ H1 d = some (exd d fs) ∧ fs.lookup f = some v ∧ Q v H1
theorem pe_exF {X : Cx} {e : Expr} {f : Str} {te : TE} {pos : Pos} (he : PE X e te) (hb : attributeBase e f X.env (eval e X.env) = eval e X.env := by rfl) : PE X (.Attribute e f pos) (tExF X.K te f) := by
  refine ⟨fun pins s σ H Q I h => attr_of hb (thn (he.run pins s σ H _ I h) fun u s1 hh => ?_)⟩
  obtain ⟨x, H1, I1, rx, a, C, d, fs, v, ex, T, nf, ea, ed, l, q⟩ := hh
  subst ex
  obtain rfl : u = Value.ref a := rx
  obtain ⟨t1, hoe⟩ := exo_at I1.hok ea
  obtain ⟨mA, hns, rel⟩ := exd_at I1.hok ed
  obtain ⟨od, ho, hl⟩ := lookIn_ns hns
  obtain ⟨u, hu, ru⟩ := RelO.some_of (v := v) (o := mA f) (by rw [← l]; exact rel f)
  have J : PySem.W.InstAt s1.heap a _ C (some od) := ⟨hoe, rfl, rfl, ho⟩
  exact PySem.HandSPX.exc_get I1.kIn J T.hg T.hk T.ox.exC (PySem.W.findObj_own T.hd nf rfl (by rw [hl, hu])) (handed_of ru) ⟨v, H1, I1.tok _, ru, q⟩
/-- C(), no __init__ of its own -/
theorem pe_exN {X : Cx} {C : Addr} {bmB : List Value} {B newId initId : String} {x : Str} {p pos : Pos} (F0 : ExcBaseFacts B newId initId bmB) (q : PySem.W.excIn X.K C bmB newId = true) (gC : X.mg x = some (.ref C)) (kC : PySem.W.keepIn X.K (.ref C) = true) (hg : Gl X x) (hdb : (x == ("__debug__" : Str)) = false := by decide) :
    PE X (.Call (.Name x p) [] [] pos) (fun σ H Q => ∀ a, H a = none → Q (.ref a) (upd H a (ExO (.ref C) a))) := by
  refine ⟨fun pins s σ H Q I h => ?_⟩
  refine wpAny_Call_Name_kw (ld_glob I hg gC ?_ hdb)
  refine PySem.W.callWith_K0 I.kIn kC ?_
  show wpAny _ _ (call (.ref C) []) _ _ _
  obtain ⟨bm, N, nm, qn, bs, hdct, sn, sub, ab, col, dd, k0, k1, k2, k3, k5, mN, hC, hN, hni, T⟩ := exc_obj I.kIn q
  refine wpAny_call_exc_subT F0 T hC hN hni (fun h' a hm => ?_) (by show 0 ≤ sizeLine; omega)
  have hn : H a = none := I.hok.gone hm.new
  obtain ⟨t, ht, _, _⟩ := hm.there
  exact ⟨.ref a, upd H a (ExO (.ref C) a), I.laidN hm.keeps hm.new hn (exO_ok ht ⟨rfl, rfl⟩ rfl rfl rfl (show 4 < 6 by decide)), rfl, h a hn⟩
/-- a new exception of the class D stands at a -/
def ExAt (H : Hp) (a D : Addr) : Prop := H a = some (ExO (.ref D) a) ∨ H a = some (exo a D none) ∨ ∃ d fs, H a = some (exo a D (some d)) ∧ H d = some (exd d fs)
theorem exAt_inst {X : Cx} {pins : List (Addr × Obj)} {σ : L2.St} {H : Hp} {s : Shared} {a D : Addr} (I : L2.Inv X pins σ H s) (x : ExAt H a D) : ∃ ox od, PySem.W.InstAt s.heap a ox D od := by
  rcases x with e | e | ⟨d, fs, e, ed⟩
  · obtain ⟨⟨oe, vs, ho, hz, hd, _⟩, _, _⟩ := I.hok a _ e
    exact ⟨oe, none, ho, hz.1, by unfold PySem.W.notCls; rw [hd] <;> rfl, by rw [hz.2]; exact True.intro⟩
  · obtain ⟨t1, ho⟩ := exo_at I.hok e
    exact ⟨_, none, ho, rfl, rfl, True.intro⟩
  · obtain ⟨t1, ho⟩ := exo_at I.hok e
    obtain ⟨mA, hns, _⟩ := exd_at I.hok ed
    obtain ⟨od, hod, _⟩ := lookIn_ns hns
    exact ⟨_, some od, ho, rfl, rfl, hod⟩
/-- isinstance(e, c) of such a one -/
def rIsX (K : Fr) : List V → Hp → VK → Prop := fun xs H Q => ∃ (a D : Addr) (c : V) (cv : Value) (b : Bool), xs = [.ref a, c] ∧ ExK K D ∧ ExAt H a D ∧ (∀ u, RelV c u → u = cv) ∧ PySem.W.kitOne K (.ref D) cv = some b ∧ Q (.bl b) H
theorem call_isX {X : Cx} : CallR X (.builtin "isinstance") (rIsX X.K) := by
  intro pins s σ H xs us Q I r h
  obtain ⟨a, D, c, cv, b, rfl, T, x, hcv, e, q⟩ := h
  cases r with
  | cons rx rr =>
    cases rr with
    | cons rt rr =>
      cases rr
      cases rx
      have ec := hcv _ rt
      subst ec
      obtain ⟨ox, od, J⟩ := exAt_inst I x
      have hcl : (PySem.W.clsIn X.K D).isSome = true := by
        obtain ⟨cd, hc, _⟩ := PySem.W.any_some T.hd
        rw [hc]
        rfl
      exact PySem.W.kia_one (PySem.W.kitx_exc hcl T.hg T.hk T.ox.exC T.ha T.hn T.ht T.hm) I.kIn J e (fun z => nomatch z) fun tk => ⟨.bl b, H, I.kept (t' := tk) fun _ _ z => z, rfl, q⟩
/-! ### what the classes of the errors say -/
section
variable {K : Fr} {C J D N : Addr} {nm q : Str} {bs : List Value} {sn : List Str} {sub : List Value} {ab : Bool} {col : Option Bool} {dd : Option Addr} {m0 m1 m2 m3 m5 : Option Value}
def veL (J : Addr) : List Value := [.ref J, .type "ValueError", .type "Exception", .type "BaseException", .type "object"]
/-- an error right below J -/
def ExL (K : Fr) (J C : Addr) : Prop := ∃ nm q N bs sn sub ab col dd m0 m1 m2 m3 m5, K.lookup C = some (excClassObj nm q C N bs (veL J) true sn sub ab col dd m0 m1 m2 m3 m5 "ValueError.__new__")
theorem exl_of (x : K.lookup C = some (excClassObj nm q C N bs [.ref J, .type "ValueError", .type "Exception", .type "BaseException", .type "object"] true sn sub ab col dd m0 m1 m2 m3 m5 "ValueError.__new__")) : ExL K J C := ⟨_, _, _, _, _, _, _, _, _, _, _, _, _, _, x⟩
theorem exl_cls (x : ExL K J C) : ∃ cd, PySem.W.clsIn K C = some cd ∧ cd.mro = .ref C :: veL J ∧ cd.hasDict = true := by
  obtain ⟨_, _, _, _, _, _, _, _, _, _, _, _, _, _, x⟩ := x
  unfold PySem.W.clsIn
  rw [x]
  exact ⟨_, rfl, rfl, rfl⟩
theorem exl_ty (x : ExL K J C) : PySem.W.typeIn K (.ref C) = some (.type "type") := by
  obtain ⟨_, _, _, _, _, _, _, _, _, _, _, _, _, _, x⟩ := x
  show (K.lookup C).map (·.cls) = _
  rw [x]
  rfl
theorem exl_mro (x : ExL K J C) (b : Value) : PySem.W.mroIn K C b = some ((.ref C :: veL J).contains b) := by
  obtain ⟨cd, h, hm, _⟩ := exl_cls x
  unfold PySem.W.mroIn
  rw [h]
  show (if cd.mro.isEmpty then none else some (cd.mro.contains b)) = _
  rw [hm]
  rfl
theorem exl_has (x : ExL K J C) {T : String} (h : (veL 0).contains (.type T) = true) : PySem.W.mroIn K C (.type T) = some true := by
  rw [exl_mro x]
  have e : ((Value.ref C :: veL J).contains (.type T)) = (veL 0).contains (.type T) := rfl
  rw [e, h]
theorem exk_of (x : K.lookup C = some (excClassObj nm q C N bs [.ref J, .type "ValueError", .type "Exception", .type "BaseException", .type "object"] true sn sub ab col dd m0 m1 m2 m3 m5 "ValueError.__new__"))
    (sa : PySem.W.findIn K (.ref C) "__setattr__" = some (some (.builtin "object.__setattr__"))) (ga : PySem.W.findIn K (.ref C) "__getattribute__" = some (some (.builtin "BaseException.__getattribute__"))) (gg : PySem.W.findIn K (.ref C) "__getattr__" = some none)
    (cl : PySem.W.findIn K (.ref C) "__class__" = some (some (.builtin "object.__class__"))) (kp : PySem.W.keepIn K (.ref C) = true) (sg : PySem.W.specialIn K (.builtin "object.__class__") "__get__" = some (some (.builtin "getset_descriptor.__get__"))) (tk : PySem.W.takesIn K (.builtin "object.__class__") = some true) : ExK K C where
  ox := ⟨⟨nm, q, N, bs, _, sn, sub, ab, col, dd, m0, m1, m2, m3, m5, x, (by decide +kernel : PySem.HandSPX.refsVE [.type "ValueError", .type "Exception", .type "BaseException", .type "object"] = true)⟩, sa, exl_has (exl_of x) (by decide +kernel), exl_ty (exl_of x), kp⟩
  hg := ga
  hk := gg
  hd := by
    obtain ⟨cd, h, _, hh⟩ := exl_cls (exl_of x)
    unfold PySem.W.hasDictIn
    rw [h]
    exact hh
  ha := cl
  hn := sg
  ht := tk
  hm := exl_has (exl_of x) (by decide +kernel)
theorem kit_ref (x : ExL K J C) (hD : PySem.W.isClsIn K D = true) (tD : PySem.W.typeIn K (.ref D) = some (.type "type")) : PySem.W.kitOne K (.ref C) (.ref D) = some (decide (D = C ∨ D = J)) := by
  unfold PySem.W.kitOne
  by_cases e : D = C
  · subst e
    rw [if_pos (by simp)]
    simp
  · rw [if_neg (by simp; exact fun z => e z.symm)]
    show (if ((PySem.W.clsIn K D).isSome && PySem.W.typeIn K (.ref D) == some (.type "type")) = true then PySem.W.mroIn K C (.ref D) else none) = _
    have hD' : (PySem.W.clsIn K D).isSome = true := hD
    rw [if_pos (by rw [hD', tD]; decide +kernel), exl_mro x]
    refine congrArg some ?_
    by_cases f : D = J
    · subst f
      simp [veL]
    · simp [veL, e, f]
theorem kit_ve (x : ExL K J C) : PySem.W.kitOne K (.ref C) (.type "ValueError") = some true := by
  unfold PySem.W.kitOne
  rw [if_neg (by simp)]
  show (if PySem.W.kitMeta "ValueError" = true then PySem.W.mroIn K C (.type "ValueError") else none) = _
  rw [if_pos (by decide +kernel)]
  exact exl_has x (by decide +kernel)
theorem exl_nil : ∀ C ∈ ([] : List Addr), ExL K J C := fun _ h => nomatch h
theorem exl_cons {cs : List Addr} (x : ExL K J C) (h : ∀ D ∈ cs, ExL K J D) : ∀ D ∈ C :: cs, ExL K J D := fun D m => by
  rcases List.mem_cons.mp m with rfl | m
  · exact x
  · exact h D m
theorem kits_of {cs : List Addr} (h : ∀ C ∈ cs, ExL K J C) (hJ : PySem.W.isClsIn K J = true) (tJ : PySem.W.typeIn K (.ref J) = some (.type "type")) (nd : (J :: cs).Nodup) (i : Nat) (C : Addr) (e : cs[i]? = some C) :
    PySem.W.kitOne K (.ref C) (.ref J) = some true ∧ PySem.W.kitOne K (.ref C) (.type "ValueError") = some true ∧ ∀ (j : Nat) (D : Addr), cs[j]? = some D → PySem.W.kitOne K (.ref C) (.ref D) = some (decide (j = i)) := by
  have x := h C (List.mem_of_getElem? e)
  refine ⟨by rw [kit_ref x hJ tJ]; simp, kit_ve x, fun j D f => ?_⟩
  have y := h D (List.mem_of_getElem? f)
  rw [kit_ref x (by obtain ⟨cd, h, _⟩ := exl_cls y; unfold PySem.W.isClsIn; rw [h]; rfl) (exl_ty y)]
  refine congrArg some (decide_eq_decide.mpr ⟨fun z => ?_, fun z => ?_⟩)
  · have nd' := List.nodup_cons.mp nd
    rcases z with z | z
    · subst z
      have l1 := (List.getElem?_eq_some_iff.mp e).1
      exact (List.getElem?_inj (List.getElem?_eq_some_iff.mp f).1 nd'.2).mp (by rw [e, f])
    · subst z
      exact absurd (List.mem_of_getElem? f) nd'.1
  · subst z
    exact .inl (Option.some.inj (f.symm.trans e))
end
end LB
namespace LW
open PySem L2 LB
local macro_rules | `(tactic| walk_at "hp") => `(tactic| first
  | (with_reducible assumption) | (with_reducible exact Rep.int _) | (with_reducible exact Rep.bl _) | (with_reducible exact Rep.non) | (with_reducible exact Rep.str _)
  | ((with_reducible refine' Rep.same ?kk ?hh); (case kk => with_reducible assumption); (case hh => walk_at "hp"))
  | ((with_reducible refine' Rep.kt ?kk ?hh); (case kk => with_reducible assumption); (case hh => walk_at "hp")))
local macro_rules | `(tactic| walk_at "bd") => `(tactic| first
  | (with_reducible assumption)
  | exact bd_lit (n := 64) (by decide)
  | (with_reducible refine' Bd.mul ?_ ?_) <;> walk_at "bd"
  | (with_reducible refine' Bd.add ?_ ?_) <;> walk_at "bd"
  | (with_reducible refine' Bd.sub ?_ ?_) <;> walk_at "bd"
  | (with_reducible refine' Bd.neg ?_) <;> walk_at "bd")
local macro_rules | `(tactic| walk_at "ev") => `(tactic| first
  | (with_reducible exact ev_int) | (with_reducible exact ev_bl) | (with_reducible exact ev_non) | (with_reducible exact ev_str)
  | ((with_reducible refine' ev_var ?e ?hh); (case e => rfl); (case hh => walk_at "hp"))
  | (with_reducible refine' ev_add ?_ ?_) <;> walk_at "ev"
  | (with_reducible refine' ev_sub ?_ ?_) <;> walk_at "ev"
  | ((with_reducible refine' ev_mul ?m1 ?m2 ?m3); (case m1 => walk_at "ev"); (case m2 => walk_at "ev"); (case m3 => (refine' Bd.mulW ?b1 ?b2 ?b3; (case b1 => walk_at "bd"); (case b2 => walk_at "bd"); (case b3 => decide))))
  | ((with_reducible refine' ev_ix ?m1 ?m2); (case m1 => walk_at "ev"); (case m2 => rfl))
  | ((with_reducible refine' ev_tup ?m1 ?m2); (case m1 => walk_at "eva"); (case m2 => exact Nat.le_of_ble_eq_true rfl))
  | (with_reducible refine' ev_neg ?_) <;> walk_at "ev"
  | (with_reducible refine' ev_lt ?_ ?_) <;> walk_at "ev"
  | (with_reducible refine' ev_le ?_ ?_) <;> walk_at "ev"
  | (with_reducible refine' ev_gt ?_ ?_) <;> walk_at "ev"
  | (with_reducible refine' ev_ge ?_ ?_) <;> walk_at "ev"
  | (with_reducible refine' ev_eqI ?_ ?_) <;> walk_at "ev"
  | (with_reducible refine' ev_neI ?_ ?_) <;> walk_at "ev"
  | (with_reducible refine' ev_intI ?_) <;> walk_at "eva"
  | (with_reducible refine' ev_lenT ?_) <;> walk_at "eva"
  | walk_at "evx")
local macro_rules | `(tactic| walk_at "eva") => `(tactic| first
  | (with_reducible exact eva_nil)
  | ((with_reducible refine' eva_cons ?v1 ?v2); (case v1 => walk_at "ev"); (case v2 => walk_at "eva")))
local macro_rules | `(tactic| walk_at "evx") => `(tactic| first
  | ((with_reducible refine' ev_pget ?a ?b ?c); (case a => rfl); (case b => with_reducible assumption); (case c => first | (with_reducible exact p_at _) | (with_reducible exact p_dg _) | (with_reducible exact p_ct _) | (with_reducible exact p_fo _))))
local macro_rules | `(tactic| walk_at "sh") => `(tactic| first
  | (with_reducible assumption)
  | ((with_reducible refine' ShAt.same ?hh ?kk); (case kk => with_reducible assumption); (case hh => walk_at "sh"))
  | ((with_reducible refine' ShAt.kt ?hh ?kk); (case kk => with_reducible assumption); (case hh => walk_at "sh")))
local macro_rules | `(tactic| walk_at "evx") => `(tactic| first
  | ((with_reducible refine' ev_base ?e ?h ?c ?n); (case e => rfl); (case h => walk_at "sh"); (case c => with_reducible assumption); (case n => with_reducible assumption))
  | ((with_reducible refine' ev_price ?e ?h ?c ?n); (case e => rfl); (case h => walk_at "sh"); (case c => with_reducible assumption); (case n => with_reducible assumption))
  | ((with_reducible refine' ev_steps ?e ?h ?c ?n); (case e => rfl); (case h => walk_at "sh"); (case c => with_reducible assumption); (case n => with_reducible assumption))
  | ((with_reducible refine' ev_prices ?e ?h ?c ?n); (case e => rfl); (case h => walk_at "sh"); (case c => with_reducible assumption); (case n => with_reducible assumption)))
def top (i : Nat) : Stmt := PySem.Challenge.pw_alljourneys_k00_errors.main.body.getD i (.Pass ⟨0, 0, 0, 0⟩)
def excM : List Value := [.type "ValueError", .type "Exception", .type "BaseException", .type "object"]
abbrev s_iBadText : Stmt := inClass (top 2) 0
abbrev N_iBadText : List Str := ["self", "line", "column"]
theorem sc_iBadText : FnScope N_iBadText ["self", "line", "column"] (defScope s_iBadText) := ⟨rfl, rfl, rfl, by decide +kernel, rfl, by decide +kernel, by decide +kernel⟩
abbrev s_iBadName : Stmt := inClass (top 3) 0
abbrev N_iBadName : List Str := ["self", "name"]
theorem sc_iBadName : FnScope N_iBadName ["self", "name"] (defScope s_iBadName) := ⟨rfl, rfl, rfl, by decide +kernel, rfl, by decide +kernel, by decide +kernel⟩
abbrev s_iBadNumber : Stmt := inClass (top 4) 0
abbrev N_iBadNumber : List Str := ["self", "what", "number"]
theorem sc_iBadNumber : FnScope N_iBadNumber ["self", "what", "number"] (defScope s_iBadNumber) := ⟨rfl, rfl, rfl, by decide +kernel, rfl, by decide +kernel, by decide +kernel⟩
abbrev s_iBadPlace : Stmt := inClass (top 5) 0
abbrev N_iBadPlace : List Str := ["self", "what"]
theorem sc_iBadPlace : FnScope N_iBadPlace ["self", "what"] (defScope s_iBadPlace) := ⟨rfl, rfl, rfl, by decide +kernel, rfl, by decide +kernel, by decide +kernel⟩
abbrev s_iBadSheet : Stmt := inClass (top 6) 0
abbrev N_iBadSheet : List Str := ["self", "what"]
theorem sc_iBadSheet : FnScope N_iBadSheet ["self", "what"] (defScope s_iBadSheet) := ⟨rfl, rfl, rfl, by decide +kernel, rfl, by decide +kernel, by decide +kernel⟩
abbrev s_iBadJourney : Stmt := inClass (top 7) 0
abbrev N_iBadJourney : List Str := ["self", "index"]
theorem sc_iBadJourney : FnScope N_iBadJourney ["self", "index"] (defScope s_iBadJourney) := ⟨rfl, rfl, rfl, by decide +kernel, rfl, by decide +kernel, by decide +kernel⟩
abbrev s_iNoSpot : Stmt := inClass (top 8) 0
abbrev N_iNoSpot : List Str := ["self", "name"]
theorem sc_iNoSpot : FnScope N_iNoSpot ["self", "name"] (defScope s_iNoSpot) := ⟨rfl, rfl, rfl, by decide +kernel, rfl, by decide +kernel, by decide +kernel⟩
abbrev s_iNoRoad : Stmt := inClass (top 9) 0
abbrev N_iNoRoad : List Str := ["self", "name"]
theorem sc_iNoRoad : FnScope N_iNoRoad ["self", "name"] (defScope s_iNoRoad) := ⟨rfl, rfl, rfl, by decide +kernel, rfl, by decide +kernel, by decide +kernel⟩
abbrev s_iNoMap : Stmt := inClass (top 10) 0
abbrev N_iNoMap : List Str := ["self", "name"]
theorem sc_iNoMap : FnScope N_iNoMap ["self", "name"] (defScope s_iNoMap) := ⟨rfl, rfl, rfl, by decide +kernel, rfl, by decide +kernel, by decide +kernel⟩
abbrev s_iTakenName : Stmt := inClass (top 11) 0
abbrev N_iTakenName : List Str := ["self", "name"]
theorem sc_iTakenName : FnScope N_iTakenName ["self", "name"] (defScope s_iTakenName) := ⟨rfl, rfl, rfl, by decide +kernel, rfl, by decide +kernel, by decide +kernel⟩
abbrev s_iTooMany : Stmt := inClass (top 12) 0
abbrev N_iTooMany : List Str := ["self", "what", "many", "limit"]
theorem sc_iTooMany : FnScope N_iTooMany ["self", "what", "many", "limit"] (defScope s_iTooMany) := ⟨rfl, rfl, rfl, by decide +kernel, rfl, by decide +kernel, by decide +kernel⟩
abbrev s_iTooLarge : Stmt := inClass (top 13) 0
abbrev N_iTooLarge : List Str := ["self", "what", "number", "limit"]
theorem sc_iTooLarge : FnScope N_iTooLarge ["self", "what", "number", "limit"] (defScope s_iTooLarge) := ⟨rfl, rfl, rfl, by decide +kernel, rfl, by decide +kernel, by decide +kernel⟩
abbrev s_iUnlike : Stmt := inClass (top 15) 0
abbrev N_iUnlike : List Str := ["self", "what"]
theorem sc_iUnlike : FnScope N_iUnlike ["self", "what"] (defScope s_iUnlike) := ⟨rfl, rfl, rfl, by decide +kernel, rfl, by decide +kernel, by decide +kernel⟩
abbrev s_iBadPromise : Stmt := inClass (top 16) 0
abbrev N_iBadPromise : List Str := ["self", "promise"]
theorem sc_iBadPromise : FnScope N_iBadPromise ["self", "promise"] (defScope s_iBadPromise) := ⟨rfl, rfl, rfl, by decide +kernel, rfl, by decide +kernel, by decide +kernel⟩
abbrev s_iNotKept : Stmt := inClass (top 17) 0
abbrev N_iNotKept : List Str := ["self", "promise"]
theorem sc_iNotKept : FnScope N_iNotKept ["self", "promise"] (defScope s_iNotKept) := ⟨rfl, rfl, rfl, by decide +kernel, rfl, by decide +kernel, by decide +kernel⟩
abbrev s_iBroken : Stmt := inClass (top 18) 0
abbrev N_iBroken : List Str := ["self", "promise", "place"]
theorem sc_iBroken : FnScope N_iBroken ["self", "promise", "place"] (defScope s_iBroken) := ⟨rfl, rfl, rfl, by decide +kernel, rfl, by decide +kernel, by decide +kernel⟩
abbrev s_pen : Stmt := top 22
abbrev N_pen : List Str := ["_law_script", "_law_fold", "_law_cell"]
theorem sc_pen : FnScope N_pen ["_law_script"] (defScope s_pen) := ⟨rfl, rfl, rfl, by decide +kernel, rfl, by decide +kernel, by decide +kernel⟩
abbrev s_draw : Stmt := top 23
abbrev N_draw : List Str := ["_law_pen_here", "_law_many", "_law_cell", "_law_digit", "_law_mixed"]
theorem sc_draw : FnScope N_draw ["_law_pen_here", "_law_many"] (defScope s_draw) := ⟨rfl, rfl, rfl, by decide +kernel, rfl, by decide +kernel, by decide +kernel⟩
abbrev s_pick : Stmt := top 24
abbrev N_pick : List Str := ["_law_pen_here", "_law_some"]
theorem sc_pick : FnScope N_pick ["_law_pen_here", "_law_some"] (defScope s_pick) := ⟨rfl, rfl, rfl, by decide +kernel, rfl, by decide +kernel, by decide +kernel⟩
abbrev s_far : Stmt := top 25
abbrev N_far : List Str := ["_law_pen_here", "_law_sign", "_law_many", "_law_far_here", "_law_lap"]
theorem sc_far : FnScope N_far ["_law_pen_here"] (defScope s_far) := ⟨rfl, rfl, rfl, by decide +kernel, rfl, by decide +kernel, by decide +kernel⟩
abbrev s_kinds : Stmt := top 26
abbrev N_kinds : List Str := ["_law_e", "_law_first"]
theorem sc_kinds : FnScope N_kinds ["_law_e"] (defScope s_kinds) := ⟨rfl, rfl, rfl, by decide +kernel, rfl, by decide +kernel, by decide +kernel⟩
abbrev s_made : Stmt := top 27
abbrev N_made : List Str := ["_law_a", "_law_b", "_law_c", "_law_first"]
theorem sc_made : FnScope N_made ["_law_a", "_law_b", "_law_c"] (defScope s_made) := ⟨rfl, rfl, rfl, by decide +kernel, rfl, by decide +kernel, by decide +kernel⟩
abbrev s_fields : Stmt := top 28
abbrev N_fields : List Str := ["_law_row", "_law_first"]
theorem sc_fields : FnScope N_fields ["_law_row"] (defScope s_fields) := ⟨rfl, rfl, rfl, by decide +kernel, rfl, by decide +kernel, by decide +kernel⟩
abbrev s_value : Stmt := top 29
abbrev N_value : List Str := ["_law_pen_here", "_law_far_here"]
theorem sc_value : FnScope N_value ["_law_pen_here"] (defScope s_value) := ⟨rfl, rfl, rfl, by decide +kernel, rfl, by decide +kernel, by decide +kernel⟩
abbrev s_law : Stmt := top 30
abbrev N_law : List Str := ["_law_script", "_law_pen_here", "_law_given", "_law_row", "_law_k", "_law_e", "_law_told", "_law_sizes", "_law_fields_here", "_law_many", "_law_j", "_law_one", "_law_two"]
theorem sc_law : FnScope N_law ["_law_script"] (defScope s_law) := ⟨rfl, rfl, rfl, by decide +kernel, rfl, by decide +kernel, by decide +kernel⟩
structure Df (K : Fr) (mg : Str → Option Value) (x : Str) (st : Stmt) (ps : List Str) (f : Addr) (fd : FuncData) : Prop where
  F : FunD K x x st f fd
  m : mg x = some (.ref f)
  b : Binds K fd ps []
structure Dm (K : Fr) (C : Addr) (x q : Str) (st : Stmt) (ps : List Str) (f : Addr) (fd : FuncData) : Prop where
  F : FunD K x q st f fd
  m : Meth K C x f
/-- what the top has written -/
structure Txt (K : Fr) (mg : Str → Option Value) where
  a_pen : Addr
  f_pen : FuncData
  d_pen : Df K mg "_law_pen" s_pen ["_law_script"] a_pen f_pen
  a_draw : Addr
  f_draw : FuncData
  d_draw : Df K mg "_law_draw" s_draw ["_law_pen_here", "_law_many"] a_draw f_draw
  a_pick : Addr
  f_pick : FuncData
  d_pick : Df K mg "_law_pick" s_pick ["_law_pen_here", "_law_some"] a_pick f_pick
  a_far : Addr
  f_far : FuncData
  d_far : Df K mg "_law_far" s_far ["_law_pen_here"] a_far f_far
  a_kinds : Addr
  f_kinds : FuncData
  d_kinds : Df K mg "_law_kinds" s_kinds ["_law_e"] a_kinds f_kinds
  a_made : Addr
  f_made : FuncData
  d_made : Df K mg "_law_made" s_made ["_law_a", "_law_b", "_law_c"] a_made f_made
  a_fields : Addr
  f_fields : FuncData
  d_fields : Df K mg "_law_fields" s_fields ["_law_row"] a_fields f_fields
  a_value : Addr
  f_value : FuncData
  d_value : Df K mg "_law_value" s_value ["_law_pen_here"] a_value f_value
  a_law : Addr
  f_law : FuncData
  d_law : Df K mg "law" s_law ["_law_script"] a_law f_law
  C_JourneyError : Addr
  g_JourneyError : mg "JourneyError" = some (.ref C_JourneyError)
  C_BadText : Addr
  e_BadText : ExK K C_BadText
  g_BadText : mg "BadText" = some (.ref C_BadText)
  n_BadText_line : PySem.W.findIn K (.ref C_BadText) "line" = some none
  n_BadText_column : PySem.W.findIn K (.ref C_BadText) "column" = some none
  C_BadName : Addr
  e_BadName : ExK K C_BadName
  g_BadName : mg "BadName" = some (.ref C_BadName)
  n_BadName_name : PySem.W.findIn K (.ref C_BadName) "name" = some none
  C_BadNumber : Addr
  e_BadNumber : ExK K C_BadNumber
  g_BadNumber : mg "BadNumber" = some (.ref C_BadNumber)
  n_BadNumber_what : PySem.W.findIn K (.ref C_BadNumber) "what" = some none
  n_BadNumber_number : PySem.W.findIn K (.ref C_BadNumber) "number" = some none
  C_BadPlace : Addr
  e_BadPlace : ExK K C_BadPlace
  g_BadPlace : mg "BadPlace" = some (.ref C_BadPlace)
  n_BadPlace_what : PySem.W.findIn K (.ref C_BadPlace) "what" = some none
  C_BadSheet : Addr
  e_BadSheet : ExK K C_BadSheet
  g_BadSheet : mg "BadSheet" = some (.ref C_BadSheet)
  n_BadSheet_what : PySem.W.findIn K (.ref C_BadSheet) "what" = some none
  C_BadJourney : Addr
  e_BadJourney : ExK K C_BadJourney
  g_BadJourney : mg "BadJourney" = some (.ref C_BadJourney)
  n_BadJourney_index : PySem.W.findIn K (.ref C_BadJourney) "index" = some none
  C_NoSpot : Addr
  e_NoSpot : ExK K C_NoSpot
  g_NoSpot : mg "NoSpot" = some (.ref C_NoSpot)
  n_NoSpot_name : PySem.W.findIn K (.ref C_NoSpot) "name" = some none
  C_NoRoad : Addr
  e_NoRoad : ExK K C_NoRoad
  g_NoRoad : mg "NoRoad" = some (.ref C_NoRoad)
  n_NoRoad_name : PySem.W.findIn K (.ref C_NoRoad) "name" = some none
  C_NoMap : Addr
  e_NoMap : ExK K C_NoMap
  g_NoMap : mg "NoMap" = some (.ref C_NoMap)
  n_NoMap_name : PySem.W.findIn K (.ref C_NoMap) "name" = some none
  C_TakenName : Addr
  e_TakenName : ExK K C_TakenName
  g_TakenName : mg "TakenName" = some (.ref C_TakenName)
  n_TakenName_name : PySem.W.findIn K (.ref C_TakenName) "name" = some none
  C_TooMany : Addr
  e_TooMany : ExK K C_TooMany
  g_TooMany : mg "TooMany" = some (.ref C_TooMany)
  n_TooMany_what : PySem.W.findIn K (.ref C_TooMany) "what" = some none
  n_TooMany_many : PySem.W.findIn K (.ref C_TooMany) "many" = some none
  n_TooMany_limit : PySem.W.findIn K (.ref C_TooMany) "limit" = some none
  C_TooLarge : Addr
  e_TooLarge : ExK K C_TooLarge
  g_TooLarge : mg "TooLarge" = some (.ref C_TooLarge)
  n_TooLarge_what : PySem.W.findIn K (.ref C_TooLarge) "what" = some none
  n_TooLarge_number : PySem.W.findIn K (.ref C_TooLarge) "number" = some none
  n_TooLarge_limit : PySem.W.findIn K (.ref C_TooLarge) "limit" = some none
  C_NotAround : Addr
  e_NotAround : ExK K C_NotAround
  g_NotAround : mg "NotAround" = some (.ref C_NotAround)
  x_NotAround : PySem.W.excIn K C_NotAround excM "ValueError.__new__" = true
  C_Unlike : Addr
  e_Unlike : ExK K C_Unlike
  g_Unlike : mg "Unlike" = some (.ref C_Unlike)
  n_Unlike_what : PySem.W.findIn K (.ref C_Unlike) "what" = some none
  C_BadPromise : Addr
  e_BadPromise : ExK K C_BadPromise
  g_BadPromise : mg "BadPromise" = some (.ref C_BadPromise)
  n_BadPromise_promise : PySem.W.findIn K (.ref C_BadPromise) "promise" = some none
  C_NotKept : Addr
  e_NotKept : ExK K C_NotKept
  g_NotKept : mg "NotKept" = some (.ref C_NotKept)
  n_NotKept_promise : PySem.W.findIn K (.ref C_NotKept) "promise" = some none
  C_Broken : Addr
  e_Broken : ExK K C_Broken
  g_Broken : mg "Broken" = some (.ref C_Broken)
  n_Broken_promise : PySem.W.findIn K (.ref C_Broken) "promise" = some none
  n_Broken_place : PySem.W.findIn K (.ref C_Broken) "place" = some none
  C_NothingToUndo : Addr
  e_NothingToUndo : ExK K C_NothingToUndo
  g_NothingToUndo : mg "NothingToUndo" = some (.ref C_NothingToUndo)
  x_NothingToUndo : PySem.W.excIn K C_NothingToUndo excM "ValueError.__new__" = true
  C_NothingToRedo : Addr
  e_NothingToRedo : ExK K C_NothingToRedo
  g_NothingToRedo : mg "NothingToRedo" = some (.ref C_NothingToRedo)
  x_NothingToRedo : PySem.W.excIn K C_NothingToRedo excM "ValueError.__new__" = true
  kits : ∀ (i : Nat) (C : Addr), [C_BadText, C_BadName, C_BadNumber, C_BadPlace, C_BadSheet, C_BadJourney, C_NoSpot, C_NoRoad, C_NoMap, C_TakenName, C_TooMany, C_TooLarge, C_NotAround, C_Unlike, C_BadPromise, C_NotKept, C_Broken, C_NothingToUndo, C_NothingToRedo][i]? = some C → PySem.W.kitOne K (.ref C) (.ref C_JourneyError) = some true ∧ PySem.W.kitOne K (.ref C) (.type "ValueError") = some true ∧ ∀ (j : Nat) (D : Addr), [C_BadText, C_BadName, C_BadNumber, C_BadPlace, C_BadSheet, C_BadJourney, C_NoSpot, C_NoRoad, C_NoMap, C_TakenName, C_TooMany, C_TooLarge, C_NotAround, C_Unlike, C_BadPromise, C_NotKept, C_Broken, C_NothingToUndo, C_NothingToRedo][j]? = some D → PySem.W.kitOne K (.ref C) (.ref D) = some (decide (j = i))
  a_iBadText : Addr
  f_iBadText : FuncData
  d_iBadText : Dm K C_BadText "__init__" "BadText.__init__" s_iBadText ["self", "line", "column"] a_iBadText f_iBadText
  b_iBadText : Binds K f_iBadText ["self", "line", "column"] []
  a_iBadName : Addr
  f_iBadName : FuncData
  d_iBadName : Dm K C_BadName "__init__" "BadName.__init__" s_iBadName ["self", "name"] a_iBadName f_iBadName
  b_iBadName : Binds K f_iBadName ["self", "name"] []
  a_iBadNumber : Addr
  f_iBadNumber : FuncData
  d_iBadNumber : Dm K C_BadNumber "__init__" "BadNumber.__init__" s_iBadNumber ["self", "what", "number"] a_iBadNumber f_iBadNumber
  b_iBadNumber : Binds K f_iBadNumber ["self", "what", "number"] []
  a_iBadPlace : Addr
  f_iBadPlace : FuncData
  d_iBadPlace : Dm K C_BadPlace "__init__" "BadPlace.__init__" s_iBadPlace ["self", "what"] a_iBadPlace f_iBadPlace
  b_iBadPlace : Binds K f_iBadPlace ["self", "what"] []
  a_iBadSheet : Addr
  f_iBadSheet : FuncData
  d_iBadSheet : Dm K C_BadSheet "__init__" "BadSheet.__init__" s_iBadSheet ["self", "what"] a_iBadSheet f_iBadSheet
  b_iBadSheet : Binds K f_iBadSheet ["self", "what"] []
  a_iBadJourney : Addr
  f_iBadJourney : FuncData
  d_iBadJourney : Dm K C_BadJourney "__init__" "BadJourney.__init__" s_iBadJourney ["self", "index"] a_iBadJourney f_iBadJourney
  b_iBadJourney : Binds K f_iBadJourney ["self", "index"] []
  a_iNoSpot : Addr
  f_iNoSpot : FuncData
  d_iNoSpot : Dm K C_NoSpot "__init__" "NoSpot.__init__" s_iNoSpot ["self", "name"] a_iNoSpot f_iNoSpot
  b_iNoSpot : Binds K f_iNoSpot ["self", "name"] []
  a_iNoRoad : Addr
  f_iNoRoad : FuncData
  d_iNoRoad : Dm K C_NoRoad "__init__" "NoRoad.__init__" s_iNoRoad ["self", "name"] a_iNoRoad f_iNoRoad
  b_iNoRoad : Binds K f_iNoRoad ["self", "name"] []
  a_iNoMap : Addr
  f_iNoMap : FuncData
  d_iNoMap : Dm K C_NoMap "__init__" "NoMap.__init__" s_iNoMap ["self", "name"] a_iNoMap f_iNoMap
  b_iNoMap : Binds K f_iNoMap ["self", "name"] []
  a_iTakenName : Addr
  f_iTakenName : FuncData
  d_iTakenName : Dm K C_TakenName "__init__" "TakenName.__init__" s_iTakenName ["self", "name"] a_iTakenName f_iTakenName
  b_iTakenName : Binds K f_iTakenName ["self", "name"] []
  a_iTooMany : Addr
  f_iTooMany : FuncData
  d_iTooMany : Dm K C_TooMany "__init__" "TooMany.__init__" s_iTooMany ["self", "what", "many", "limit"] a_iTooMany f_iTooMany
  b_iTooMany : Binds K f_iTooMany ["self", "what", "many", "limit"] []
  a_iTooLarge : Addr
  f_iTooLarge : FuncData
  d_iTooLarge : Dm K C_TooLarge "__init__" "TooLarge.__init__" s_iTooLarge ["self", "what", "number", "limit"] a_iTooLarge f_iTooLarge
  b_iTooLarge : Binds K f_iTooLarge ["self", "what", "number", "limit"] []
  a_iUnlike : Addr
  f_iUnlike : FuncData
  d_iUnlike : Dm K C_Unlike "__init__" "Unlike.__init__" s_iUnlike ["self", "what"] a_iUnlike f_iUnlike
  b_iUnlike : Binds K f_iUnlike ["self", "what"] []
  a_iBadPromise : Addr
  f_iBadPromise : FuncData
  d_iBadPromise : Dm K C_BadPromise "__init__" "BadPromise.__init__" s_iBadPromise ["self", "promise"] a_iBadPromise f_iBadPromise
  b_iBadPromise : Binds K f_iBadPromise ["self", "promise"] []
  a_iNotKept : Addr
  f_iNotKept : FuncData
  d_iNotKept : Dm K C_NotKept "__init__" "NotKept.__init__" s_iNotKept ["self", "promise"] a_iNotKept f_iNotKept
  b_iNotKept : Binds K f_iNotKept ["self", "promise"] []
  a_iBroken : Addr
  f_iBroken : FuncData
  d_iBroken : Dm K C_Broken "__init__" "Broken.__init__" s_iBroken ["self", "promise", "place"] a_iBroken f_iBroken
  b_iBroken : Binds K f_iBroken ["self", "promise", "place"] []
  z_len : mg "len" = none
  z_int : mg "int" = none
  z_list : mg "list" = none
  z_range : mg "range" = none
  z_zip : mg "zip" = none
  z_enumerate : mg "enumerate" = none
  z_isinstance : mg "isinstance" = none
  z_bool : mg "bool" = none
  z_abs : mg "abs" = none
  z_str : mg "str" = none
  z_ValueError : mg "ValueError" = none
section
variable {P : Program} {w : World} {K : Fr} {mg : Str → Option Value} {base : Heap}
theorem len1 {α : Type} {xs : List α} {n : Nat} (h : xs.length = n) (hn : n = 1 := by rfl) : ∃ x, xs = [x] := by
  subst hn
  match xs, h with
  | [x], _ => exact ⟨x, rfl⟩
theorem len2 {α : Type} {xs : List α} {n : Nat} (h : xs.length = n) (hn : n = 2 := by rfl) : ∃ x y, xs = [x, y] := by
  subst hn
  match xs, h with
  | [x, y], _ => exact ⟨x, y, rfl⟩
theorem len3 {α : Type} {xs : List α} {n : Nat} (h : xs.length = n) (hn : n = 3 := by rfl) : ∃ x y z, xs = [x, y, z] := by
  subst hn
  match xs, h with
  | [x, y, z], _ => exact ⟨x, y, z, rfl⟩
/-! ### the errors are made -/
def spI (C : Addr) (fs : List Str) : Sp := fun vs H Q _ => ∃ (a : Addr) (xs : List V), vs = .ref a :: xs ∧ xs.length = fs.length ∧ H a = some (exo a C none) ∧ ∀ (d : Addr) (H' : Hp), H d = none → H' a = some (exo a C (some d)) → H' d = some (exd d (fs.zip xs).reverse) → (∀ b o, H b = some o → b ≠ a → H' b = some o) → Q .non H'
theorem ok_iBadText (T : Txt K mg) : FnOk P w K mg base CX0 1 T.a_iBadText T.f_iBadText ["self", "line", "column"] (spI T.C_BadText ["line", "column"]) := by
  refine T.d_iBadText.F.ok sc_iBadText (fun vs H Q E h => ?_) (fun cdv A outer s H vs Q E hr h => ?_)
  · obtain ⟨a, xs, rfl, hl, _⟩ := h
    simpa using hl
  · obtain ⟨a, xs, rfl, hl, ea, k⟩ := h
    obtain ⟨x, y, rfl⟩ := len2 hl
    refine ⟨_, (pss_cons (ps_ost (pv 0) (pv 1))
    (pss_one (ps_ost (pv 0) (pv 2)))), ?_⟩
    try dsimp only [cxOf]
    rw [show L2.start N_iBadText [V.ref a, x, y] = [some (.ref a), some x, some y] from rfl]
    refine ⟨_, rfl, _, rfl, a, T.C_BadText, rfl, T.e_BadText.ox, T.n_BadText_line, .inl ⟨ea, fun d hd hne => ?_⟩⟩
    refine ⟨_, rfl, _, rfl, a, T.C_BadText, rfl, T.e_BadText.ox, T.n_BadText_column, .inr ⟨d, _, upd_same, (by rw [upd_ne hne, upd_same]), Nat.le_of_ble_eq_true rfl, ?_⟩⟩
    exact k d _ hd (by rw [upd_ne hne.symm, upd_same]) (by rw [upd_same]; rfl) fun b o e nb => by
      have nd : b ≠ d := fun z => by rw [z, hd] at e; cases e
      rw [upd_ne nd, upd_ne nb, upd_ne nd]; exact e
theorem ok_iBadName (T : Txt K mg) : FnOk P w K mg base CX0 1 T.a_iBadName T.f_iBadName ["self", "name"] (spI T.C_BadName ["name"]) := by
  refine T.d_iBadName.F.ok sc_iBadName (fun vs H Q E h => ?_) (fun cdv A outer s H vs Q E hr h => ?_)
  · obtain ⟨a, xs, rfl, hl, _⟩ := h
    simpa using hl
  · obtain ⟨a, xs, rfl, hl, ea, k⟩ := h
    obtain ⟨x, rfl⟩ := len1 hl
    refine ⟨_, (pss_one (ps_ost (pv 0) (pv 1))), ?_⟩
    try dsimp only [cxOf]
    rw [show L2.start N_iBadName [V.ref a, x] = [some (.ref a), some x] from rfl]
    refine ⟨_, rfl, _, rfl, a, T.C_BadName, rfl, T.e_BadName.ox, T.n_BadName_name, .inl ⟨ea, fun d hd hne => ?_⟩⟩
    exact k d _ hd upd_same (by rw [upd_ne hne, upd_same]; rfl) fun b o e nb => by rw [upd_ne nb, upd_ne (fun z => by rw [z, hd] at e; cases e)]; exact e
theorem ok_iBadNumber (T : Txt K mg) : FnOk P w K mg base CX0 1 T.a_iBadNumber T.f_iBadNumber ["self", "what", "number"] (spI T.C_BadNumber ["what", "number"]) := by
  refine T.d_iBadNumber.F.ok sc_iBadNumber (fun vs H Q E h => ?_) (fun cdv A outer s H vs Q E hr h => ?_)
  · obtain ⟨a, xs, rfl, hl, _⟩ := h
    simpa using hl
  · obtain ⟨a, xs, rfl, hl, ea, k⟩ := h
    obtain ⟨x, y, rfl⟩ := len2 hl
    refine ⟨_, (pss_cons (ps_ost (pv 0) (pv 1))
    (pss_one (ps_ost (pv 0) (pv 2)))), ?_⟩
    try dsimp only [cxOf]
    rw [show L2.start N_iBadNumber [V.ref a, x, y] = [some (.ref a), some x, some y] from rfl]
    refine ⟨_, rfl, _, rfl, a, T.C_BadNumber, rfl, T.e_BadNumber.ox, T.n_BadNumber_what, .inl ⟨ea, fun d hd hne => ?_⟩⟩
    refine ⟨_, rfl, _, rfl, a, T.C_BadNumber, rfl, T.e_BadNumber.ox, T.n_BadNumber_number, .inr ⟨d, _, upd_same, (by rw [upd_ne hne, upd_same]), Nat.le_of_ble_eq_true rfl, ?_⟩⟩
    exact k d _ hd (by rw [upd_ne hne.symm, upd_same]) (by rw [upd_same]; rfl) fun b o e nb => by
      have nd : b ≠ d := fun z => by rw [z, hd] at e; cases e
      rw [upd_ne nd, upd_ne nb, upd_ne nd]; exact e
theorem ok_iBadPlace (T : Txt K mg) : FnOk P w K mg base CX0 1 T.a_iBadPlace T.f_iBadPlace ["self", "what"] (spI T.C_BadPlace ["what"]) := by
  refine T.d_iBadPlace.F.ok sc_iBadPlace (fun vs H Q E h => ?_) (fun cdv A outer s H vs Q E hr h => ?_)
  · obtain ⟨a, xs, rfl, hl, _⟩ := h
    simpa using hl
  · obtain ⟨a, xs, rfl, hl, ea, k⟩ := h
    obtain ⟨x, rfl⟩ := len1 hl
    refine ⟨_, (pss_one (ps_ost (pv 0) (pv 1))), ?_⟩
    try dsimp only [cxOf]
    rw [show L2.start N_iBadPlace [V.ref a, x] = [some (.ref a), some x] from rfl]
    refine ⟨_, rfl, _, rfl, a, T.C_BadPlace, rfl, T.e_BadPlace.ox, T.n_BadPlace_what, .inl ⟨ea, fun d hd hne => ?_⟩⟩
    exact k d _ hd upd_same (by rw [upd_ne hne, upd_same]; rfl) fun b o e nb => by rw [upd_ne nb, upd_ne (fun z => by rw [z, hd] at e; cases e)]; exact e
theorem ok_iBadSheet (T : Txt K mg) : FnOk P w K mg base CX0 1 T.a_iBadSheet T.f_iBadSheet ["self", "what"] (spI T.C_BadSheet ["what"]) := by
  refine T.d_iBadSheet.F.ok sc_iBadSheet (fun vs H Q E h => ?_) (fun cdv A outer s H vs Q E hr h => ?_)
  · obtain ⟨a, xs, rfl, hl, _⟩ := h
    simpa using hl
  · obtain ⟨a, xs, rfl, hl, ea, k⟩ := h
    obtain ⟨x, rfl⟩ := len1 hl
    refine ⟨_, (pss_one (ps_ost (pv 0) (pv 1))), ?_⟩
    try dsimp only [cxOf]
    rw [show L2.start N_iBadSheet [V.ref a, x] = [some (.ref a), some x] from rfl]
    refine ⟨_, rfl, _, rfl, a, T.C_BadSheet, rfl, T.e_BadSheet.ox, T.n_BadSheet_what, .inl ⟨ea, fun d hd hne => ?_⟩⟩
    exact k d _ hd upd_same (by rw [upd_ne hne, upd_same]; rfl) fun b o e nb => by rw [upd_ne nb, upd_ne (fun z => by rw [z, hd] at e; cases e)]; exact e
theorem ok_iBadJourney (T : Txt K mg) : FnOk P w K mg base CX0 1 T.a_iBadJourney T.f_iBadJourney ["self", "index"] (spI T.C_BadJourney ["index"]) := by
  refine T.d_iBadJourney.F.ok sc_iBadJourney (fun vs H Q E h => ?_) (fun cdv A outer s H vs Q E hr h => ?_)
  · obtain ⟨a, xs, rfl, hl, _⟩ := h
    simpa using hl
  · obtain ⟨a, xs, rfl, hl, ea, k⟩ := h
    obtain ⟨x, rfl⟩ := len1 hl
    refine ⟨_, (pss_one (ps_ost (pv 0) (pv 1))), ?_⟩
    try dsimp only [cxOf]
    rw [show L2.start N_iBadJourney [V.ref a, x] = [some (.ref a), some x] from rfl]
    refine ⟨_, rfl, _, rfl, a, T.C_BadJourney, rfl, T.e_BadJourney.ox, T.n_BadJourney_index, .inl ⟨ea, fun d hd hne => ?_⟩⟩
    exact k d _ hd upd_same (by rw [upd_ne hne, upd_same]; rfl) fun b o e nb => by rw [upd_ne nb, upd_ne (fun z => by rw [z, hd] at e; cases e)]; exact e
theorem ok_iNoSpot (T : Txt K mg) : FnOk P w K mg base CX0 1 T.a_iNoSpot T.f_iNoSpot ["self", "name"] (spI T.C_NoSpot ["name"]) := by
  refine T.d_iNoSpot.F.ok sc_iNoSpot (fun vs H Q E h => ?_) (fun cdv A outer s H vs Q E hr h => ?_)
  · obtain ⟨a, xs, rfl, hl, _⟩ := h
    simpa using hl
  · obtain ⟨a, xs, rfl, hl, ea, k⟩ := h
    obtain ⟨x, rfl⟩ := len1 hl
    refine ⟨_, (pss_one (ps_ost (pv 0) (pv 1))), ?_⟩
    try dsimp only [cxOf]
    rw [show L2.start N_iNoSpot [V.ref a, x] = [some (.ref a), some x] from rfl]
    refine ⟨_, rfl, _, rfl, a, T.C_NoSpot, rfl, T.e_NoSpot.ox, T.n_NoSpot_name, .inl ⟨ea, fun d hd hne => ?_⟩⟩
    exact k d _ hd upd_same (by rw [upd_ne hne, upd_same]; rfl) fun b o e nb => by rw [upd_ne nb, upd_ne (fun z => by rw [z, hd] at e; cases e)]; exact e
theorem ok_iNoRoad (T : Txt K mg) : FnOk P w K mg base CX0 1 T.a_iNoRoad T.f_iNoRoad ["self", "name"] (spI T.C_NoRoad ["name"]) := by
  refine T.d_iNoRoad.F.ok sc_iNoRoad (fun vs H Q E h => ?_) (fun cdv A outer s H vs Q E hr h => ?_)
  · obtain ⟨a, xs, rfl, hl, _⟩ := h
    simpa using hl
  · obtain ⟨a, xs, rfl, hl, ea, k⟩ := h
    obtain ⟨x, rfl⟩ := len1 hl
    refine ⟨_, (pss_one (ps_ost (pv 0) (pv 1))), ?_⟩
    try dsimp only [cxOf]
    rw [show L2.start N_iNoRoad [V.ref a, x] = [some (.ref a), some x] from rfl]
    refine ⟨_, rfl, _, rfl, a, T.C_NoRoad, rfl, T.e_NoRoad.ox, T.n_NoRoad_name, .inl ⟨ea, fun d hd hne => ?_⟩⟩
    exact k d _ hd upd_same (by rw [upd_ne hne, upd_same]; rfl) fun b o e nb => by rw [upd_ne nb, upd_ne (fun z => by rw [z, hd] at e; cases e)]; exact e
theorem ok_iNoMap (T : Txt K mg) : FnOk P w K mg base CX0 1 T.a_iNoMap T.f_iNoMap ["self", "name"] (spI T.C_NoMap ["name"]) := by
  refine T.d_iNoMap.F.ok sc_iNoMap (fun vs H Q E h => ?_) (fun cdv A outer s H vs Q E hr h => ?_)
  · obtain ⟨a, xs, rfl, hl, _⟩ := h
    simpa using hl
  · obtain ⟨a, xs, rfl, hl, ea, k⟩ := h
    obtain ⟨x, rfl⟩ := len1 hl
    refine ⟨_, (pss_one (ps_ost (pv 0) (pv 1))), ?_⟩
    try dsimp only [cxOf]
    rw [show L2.start N_iNoMap [V.ref a, x] = [some (.ref a), some x] from rfl]
    refine ⟨_, rfl, _, rfl, a, T.C_NoMap, rfl, T.e_NoMap.ox, T.n_NoMap_name, .inl ⟨ea, fun d hd hne => ?_⟩⟩
    exact k d _ hd upd_same (by rw [upd_ne hne, upd_same]; rfl) fun b o e nb => by rw [upd_ne nb, upd_ne (fun z => by rw [z, hd] at e; cases e)]; exact e
theorem ok_iTakenName (T : Txt K mg) : FnOk P w K mg base CX0 1 T.a_iTakenName T.f_iTakenName ["self", "name"] (spI T.C_TakenName ["name"]) := by
  refine T.d_iTakenName.F.ok sc_iTakenName (fun vs H Q E h => ?_) (fun cdv A outer s H vs Q E hr h => ?_)
  · obtain ⟨a, xs, rfl, hl, _⟩ := h
    simpa using hl
  · obtain ⟨a, xs, rfl, hl, ea, k⟩ := h
    obtain ⟨x, rfl⟩ := len1 hl
    refine ⟨_, (pss_one (ps_ost (pv 0) (pv 1))), ?_⟩
    try dsimp only [cxOf]
    rw [show L2.start N_iTakenName [V.ref a, x] = [some (.ref a), some x] from rfl]
    refine ⟨_, rfl, _, rfl, a, T.C_TakenName, rfl, T.e_TakenName.ox, T.n_TakenName_name, .inl ⟨ea, fun d hd hne => ?_⟩⟩
    exact k d _ hd upd_same (by rw [upd_ne hne, upd_same]; rfl) fun b o e nb => by rw [upd_ne nb, upd_ne (fun z => by rw [z, hd] at e; cases e)]; exact e
theorem ok_iTooMany (T : Txt K mg) : FnOk P w K mg base CX0 1 T.a_iTooMany T.f_iTooMany ["self", "what", "many", "limit"] (spI T.C_TooMany ["what", "many", "limit"]) := by
  refine T.d_iTooMany.F.ok sc_iTooMany (fun vs H Q E h => ?_) (fun cdv A outer s H vs Q E hr h => ?_)
  · obtain ⟨a, xs, rfl, hl, _⟩ := h
    simpa using hl
  · obtain ⟨a, xs, rfl, hl, ea, k⟩ := h
    obtain ⟨x, y, z, rfl⟩ := len3 hl
    refine ⟨_, (pss_cons (ps_ost (pv 0) (pv 1))
    (pss_cons (ps_ost (pv 0) (pv 2))
    (pss_one (ps_ost (pv 0) (pv 3))))), ?_⟩
    try dsimp only [cxOf]
    rw [show L2.start N_iTooMany [V.ref a, x, y, z] = [some (.ref a), some x, some y, some z] from rfl]
    refine ⟨_, rfl, _, rfl, a, T.C_TooMany, rfl, T.e_TooMany.ox, T.n_TooMany_what, .inl ⟨ea, fun d hd hne => ?_⟩⟩
    refine ⟨_, rfl, _, rfl, a, T.C_TooMany, rfl, T.e_TooMany.ox, T.n_TooMany_many, .inr ⟨d, _, upd_same, (by rw [upd_ne hne, upd_same]), Nat.le_of_ble_eq_true rfl, ?_⟩⟩
    refine ⟨_, rfl, _, rfl, a, T.C_TooMany, rfl, T.e_TooMany.ox, T.n_TooMany_limit, .inr ⟨d, _, by rw [upd_ne hne.symm, upd_same], upd_same, Nat.le_of_ble_eq_true rfl, ?_⟩⟩
    exact k d _ hd (by rw [upd_ne hne.symm, upd_ne hne.symm, upd_same]) (by rw [upd_same]; rfl) fun b o e nb => by
      have nd : b ≠ d := fun z => by rw [z, hd] at e; cases e
      rw [upd_ne nd, upd_ne nd, upd_ne nb, upd_ne nd]; exact e
theorem ok_iTooLarge (T : Txt K mg) : FnOk P w K mg base CX0 1 T.a_iTooLarge T.f_iTooLarge ["self", "what", "number", "limit"] (spI T.C_TooLarge ["what", "number", "limit"]) := by
  refine T.d_iTooLarge.F.ok sc_iTooLarge (fun vs H Q E h => ?_) (fun cdv A outer s H vs Q E hr h => ?_)
  · obtain ⟨a, xs, rfl, hl, _⟩ := h
    simpa using hl
  · obtain ⟨a, xs, rfl, hl, ea, k⟩ := h
    obtain ⟨x, y, z, rfl⟩ := len3 hl
    refine ⟨_, (pss_cons (ps_ost (pv 0) (pv 1))
    (pss_cons (ps_ost (pv 0) (pv 2))
    (pss_one (ps_ost (pv 0) (pv 3))))), ?_⟩
    try dsimp only [cxOf]
    rw [show L2.start N_iTooLarge [V.ref a, x, y, z] = [some (.ref a), some x, some y, some z] from rfl]
    refine ⟨_, rfl, _, rfl, a, T.C_TooLarge, rfl, T.e_TooLarge.ox, T.n_TooLarge_what, .inl ⟨ea, fun d hd hne => ?_⟩⟩
    refine ⟨_, rfl, _, rfl, a, T.C_TooLarge, rfl, T.e_TooLarge.ox, T.n_TooLarge_number, .inr ⟨d, _, upd_same, (by rw [upd_ne hne, upd_same]), Nat.le_of_ble_eq_true rfl, ?_⟩⟩
    refine ⟨_, rfl, _, rfl, a, T.C_TooLarge, rfl, T.e_TooLarge.ox, T.n_TooLarge_limit, .inr ⟨d, _, by rw [upd_ne hne.symm, upd_same], upd_same, Nat.le_of_ble_eq_true rfl, ?_⟩⟩
    exact k d _ hd (by rw [upd_ne hne.symm, upd_ne hne.symm, upd_same]) (by rw [upd_same]; rfl) fun b o e nb => by
      have nd : b ≠ d := fun z => by rw [z, hd] at e; cases e
      rw [upd_ne nd, upd_ne nd, upd_ne nb, upd_ne nd]; exact e
theorem ok_iUnlike (T : Txt K mg) : FnOk P w K mg base CX0 1 T.a_iUnlike T.f_iUnlike ["self", "what"] (spI T.C_Unlike ["what"]) := by
  refine T.d_iUnlike.F.ok sc_iUnlike (fun vs H Q E h => ?_) (fun cdv A outer s H vs Q E hr h => ?_)
  · obtain ⟨a, xs, rfl, hl, _⟩ := h
    simpa using hl
  · obtain ⟨a, xs, rfl, hl, ea, k⟩ := h
    obtain ⟨x, rfl⟩ := len1 hl
    refine ⟨_, (pss_one (ps_ost (pv 0) (pv 1))), ?_⟩
    try dsimp only [cxOf]
    rw [show L2.start N_iUnlike [V.ref a, x] = [some (.ref a), some x] from rfl]
    refine ⟨_, rfl, _, rfl, a, T.C_Unlike, rfl, T.e_Unlike.ox, T.n_Unlike_what, .inl ⟨ea, fun d hd hne => ?_⟩⟩
    exact k d _ hd upd_same (by rw [upd_ne hne, upd_same]; rfl) fun b o e nb => by rw [upd_ne nb, upd_ne (fun z => by rw [z, hd] at e; cases e)]; exact e
theorem ok_iBadPromise (T : Txt K mg) : FnOk P w K mg base CX0 1 T.a_iBadPromise T.f_iBadPromise ["self", "promise"] (spI T.C_BadPromise ["promise"]) := by
  refine T.d_iBadPromise.F.ok sc_iBadPromise (fun vs H Q E h => ?_) (fun cdv A outer s H vs Q E hr h => ?_)
  · obtain ⟨a, xs, rfl, hl, _⟩ := h
    simpa using hl
  · obtain ⟨a, xs, rfl, hl, ea, k⟩ := h
    obtain ⟨x, rfl⟩ := len1 hl
    refine ⟨_, (pss_one (ps_ost (pv 0) (pv 1))), ?_⟩
    try dsimp only [cxOf]
    rw [show L2.start N_iBadPromise [V.ref a, x] = [some (.ref a), some x] from rfl]
    refine ⟨_, rfl, _, rfl, a, T.C_BadPromise, rfl, T.e_BadPromise.ox, T.n_BadPromise_promise, .inl ⟨ea, fun d hd hne => ?_⟩⟩
    exact k d _ hd upd_same (by rw [upd_ne hne, upd_same]; rfl) fun b o e nb => by rw [upd_ne nb, upd_ne (fun z => by rw [z, hd] at e; cases e)]; exact e
theorem ok_iNotKept (T : Txt K mg) : FnOk P w K mg base CX0 1 T.a_iNotKept T.f_iNotKept ["self", "promise"] (spI T.C_NotKept ["promise"]) := by
  refine T.d_iNotKept.F.ok sc_iNotKept (fun vs H Q E h => ?_) (fun cdv A outer s H vs Q E hr h => ?_)
  · obtain ⟨a, xs, rfl, hl, _⟩ := h
    simpa using hl
  · obtain ⟨a, xs, rfl, hl, ea, k⟩ := h
    obtain ⟨x, rfl⟩ := len1 hl
    refine ⟨_, (pss_one (ps_ost (pv 0) (pv 1))), ?_⟩
    try dsimp only [cxOf]
    rw [show L2.start N_iNotKept [V.ref a, x] = [some (.ref a), some x] from rfl]
    refine ⟨_, rfl, _, rfl, a, T.C_NotKept, rfl, T.e_NotKept.ox, T.n_NotKept_promise, .inl ⟨ea, fun d hd hne => ?_⟩⟩
    exact k d _ hd upd_same (by rw [upd_ne hne, upd_same]; rfl) fun b o e nb => by rw [upd_ne nb, upd_ne (fun z => by rw [z, hd] at e; cases e)]; exact e
theorem ok_iBroken (T : Txt K mg) : FnOk P w K mg base CX0 1 T.a_iBroken T.f_iBroken ["self", "promise", "place"] (spI T.C_Broken ["promise", "place"]) := by
  refine T.d_iBroken.F.ok sc_iBroken (fun vs H Q E h => ?_) (fun cdv A outer s H vs Q E hr h => ?_)
  · obtain ⟨a, xs, rfl, hl, _⟩ := h
    simpa using hl
  · obtain ⟨a, xs, rfl, hl, ea, k⟩ := h
    obtain ⟨x, y, rfl⟩ := len2 hl
    refine ⟨_, (pss_cons (ps_ost (pv 0) (pv 1))
    (pss_one (ps_ost (pv 0) (pv 2)))), ?_⟩
    try dsimp only [cxOf]
    rw [show L2.start N_iBroken [V.ref a, x, y] = [some (.ref a), some x, some y] from rfl]
    refine ⟨_, rfl, _, rfl, a, T.C_Broken, rfl, T.e_Broken.ox, T.n_Broken_promise, .inl ⟨ea, fun d hd hne => ?_⟩⟩
    refine ⟨_, rfl, _, rfl, a, T.C_Broken, rfl, T.e_Broken.ox, T.n_Broken_place, .inr ⟨d, _, upd_same, (by rw [upd_ne hne, upd_same]), Nat.le_of_ble_eq_true rfl, ?_⟩⟩
    exact k d _ hd (by rw [upd_ne hne.symm, upd_same]) (by rw [upd_same]; rfl) fun b o e nb => by
      have nd : b ≠ d := fun z => by rw [z, hd] at e; cases e
      rw [upd_ne nd, upd_ne nb, upd_ne nd]; exact e
end
end LW
namespace LW
open PySem L2 LB
local macro_rules | `(tactic| walk_at "hp") => `(tactic| first
  | (with_reducible assumption) | (with_reducible exact Rep.int _) | (with_reducible exact Rep.bl _) | (with_reducible exact Rep.non) | (with_reducible exact Rep.str _)
  | ((with_reducible refine' Rep.same ?kk ?hh); (case kk => with_reducible assumption); (case hh => walk_at "hp"))
  | ((with_reducible refine' Rep.kt ?kk ?hh); (case kk => with_reducible assumption); (case hh => walk_at "hp")))
local macro_rules | `(tactic| walk_at "bd") => `(tactic| first
  | (with_reducible assumption)
  | exact bd_lit (n := 64) (by decide)
  | (with_reducible refine' Bd.mul ?_ ?_) <;> walk_at "bd"
  | (with_reducible refine' Bd.add ?_ ?_) <;> walk_at "bd"
  | (with_reducible refine' Bd.sub ?_ ?_) <;> walk_at "bd"
  | (with_reducible refine' Bd.neg ?_) <;> walk_at "bd")
local macro_rules | `(tactic| walk_at "ev") => `(tactic| first
  | (with_reducible exact ev_int) | (with_reducible exact ev_bl) | (with_reducible exact ev_non) | (with_reducible exact ev_str)
  | ((with_reducible refine' ev_var ?e ?hh); (case e => rfl); (case hh => walk_at "hp"))
  | (with_reducible refine' ev_add ?_ ?_) <;> walk_at "ev"
  | (with_reducible refine' ev_sub ?_ ?_) <;> walk_at "ev"
  | ((with_reducible refine' ev_mul ?m1 ?m2 ?m3); (case m1 => walk_at "ev"); (case m2 => walk_at "ev"); (case m3 => (refine' Bd.mulW ?b1 ?b2 ?b3; (case b1 => walk_at "bd"); (case b2 => walk_at "bd"); (case b3 => decide))))
  | ((with_reducible refine' ev_ix ?m1 ?m2); (case m1 => walk_at "ev"); (case m2 => rfl))
  | ((with_reducible refine' ev_tup ?m1 ?m2); (case m1 => walk_at "eva"); (case m2 => exact Nat.le_of_ble_eq_true rfl))
  | (with_reducible refine' ev_neg ?_) <;> walk_at "ev"
  | (with_reducible refine' ev_lt ?_ ?_) <;> walk_at "ev"
  | (with_reducible refine' ev_le ?_ ?_) <;> walk_at "ev"
  | (with_reducible refine' ev_gt ?_ ?_) <;> walk_at "ev"
  | (with_reducible refine' ev_ge ?_ ?_) <;> walk_at "ev"
  | (with_reducible refine' ev_eqI ?_ ?_) <;> walk_at "ev"
  | (with_reducible refine' ev_neI ?_ ?_) <;> walk_at "ev"
  | (with_reducible refine' ev_intI ?_) <;> walk_at "eva"
  | (with_reducible refine' ev_lenT ?_) <;> walk_at "eva"
  | walk_at "evx")
local macro_rules | `(tactic| walk_at "eva") => `(tactic| first
  | (with_reducible exact eva_nil)
  | ((with_reducible refine' eva_cons ?v1 ?v2); (case v1 => walk_at "ev"); (case v2 => walk_at "eva")))
local macro_rules | `(tactic| walk_at "evx") => `(tactic| first
  | ((with_reducible refine' ev_pget ?a ?b ?c); (case a => rfl); (case b => with_reducible assumption); (case c => first | (with_reducible exact p_at _) | (with_reducible exact p_dg _) | (with_reducible exact p_ct _) | (with_reducible exact p_fo _))))
local macro_rules | `(tactic| walk_at "sh") => `(tactic| first
  | (with_reducible assumption)
  | ((with_reducible refine' ShAt.same ?hh ?kk); (case kk => with_reducible assumption); (case hh => walk_at "sh"))
  | ((with_reducible refine' ShAt.kt ?hh ?kk); (case kk => with_reducible assumption); (case hh => walk_at "sh")))
local macro_rules | `(tactic| walk_at "evx") => `(tactic| first
  | ((with_reducible refine' ev_base ?e ?h ?c ?n); (case e => rfl); (case h => walk_at "sh"); (case c => with_reducible assumption); (case n => with_reducible assumption))
  | ((with_reducible refine' ev_price ?e ?h ?c ?n); (case e => rfl); (case h => walk_at "sh"); (case c => with_reducible assumption); (case n => with_reducible assumption))
  | ((with_reducible refine' ev_steps ?e ?h ?c ?n); (case e => rfl); (case h => walk_at "sh"); (case c => with_reducible assumption); (case n => with_reducible assumption))
  | ((with_reducible refine' ev_prices ?e ?h ?c ?n); (case e => rfl); (case h => walk_at "sh"); (case c => with_reducible assumption); (case n => with_reducible assumption)))
section
variable {P : Program} {w : World} {K : Fr} {mg : Str → Option Value} {base : Heap}
/-! ### draws -/
set_option maxHeartbeats 2000000 in
theorem ok_draw (T : Txt K mg) : FnOk P w K mg base CX0 1 T.a_draw T.f_draw ["_law_pen_here", "_law_many"] spDraw := by
  refine T.d_draw.F.ok sc_draw (fun vs H Q E h => ?_) (fun cdv A outer s H vs Q E hr h => ?_)
  · obtain ⟨c, d, n, m, rfl, _⟩ := h
    rfl
  · obtain ⟨c, d, n, m, rfl, ⟨p, P0, hcc, a0, c0, c1, f0, f1⟩, hn, hm, hm2, k⟩ := h
    have hu := hu_of hr
    refine ⟨_, (pss_cons (ps_dput hu (pv 0) pe_str (pe_op op_add (pe_dget hu (pv 0) pe_str (fun _ _ => rfl)) pe_int) rfl)
    (pss_meet (ps_if (PW.pt (pw_and (pt_cmpR op_eq (pe_dget hu (pv 0) pe_str (fun _ _ => rfl)) pe_int (nomark _)) (pw_and1 (pt_cmpR op_lt (pe_dget hu (pv 0) pe_str (fun _ _ => rfl)) (pe_callB call_len_seq (by rfl) T.z_len (by decide +kernel) (pa_cons (pe_dget hu (pv 0) pe_str (fun _ _ => rfl)) pa_nil)) (nomark _))))) (pss_cons (ps_set (i := 2) sc_draw.nd rfl (Or.inl rfl) (pe_ix (ix_lK K) (pe_dget hu (pv 0) pe_str (fun _ _ => rfl)) (pe_dget hu (pv 0) pe_str (fun _ _ => rfl)) (fun _ _ => rfl)))
    (pss_cons (ps_dput hu (pv 0) pe_str (pe_op op_add (pe_dget hu (pv 0) pe_str (fun _ _ => rfl)) pe_int) rfl)
    (pss_one (ps_if (pt_cmpR op_ge (pv 2) (pe_op op_pow pe_int pe_int) (nomark _)) (pss_one (ps_dput hu (pv 0) pe_str (pe_op op_sub (pv 2) (pe_op op_pow pe_int pe_int)) rfl)) (pss_one (ps_dput hu (pv 0) pe_str (pe_op op_mod (pe_callTy call_int1 (by rfl) T.z_int (by decide +kernel) (pa_cons (pe_op op_add (pe_op op_mulW (pe_dget hu (pv 0) pe_str (fun _ _ => rfl)) pe_int) (pv 2)) pa_nil)) pe_int) rfl)))))) pss_nil)
    (pss_cons (ps_if (pt_cmpR op_gt (pe_dget hu (pv 0) pe_str (fun _ _ => rfl)) pe_int (nomark _)) (pss_cons (ps_set (i := 3) sc_draw.nd rfl (Or.inl rfl) (pe_op op_mod (pe_callTy call_int1 (by rfl) T.z_int (by decide +kernel) (pa_cons (pe_dget hu (pv 0) pe_str (fun _ _ => rfl)) pa_nil)) (pv 1)))
    (pss_cons (ps_dput hu (pv 0) pe_str (pe_op op_fdivW (pe_dget hu (pv 0) pe_str (fun _ _ => rfl)) (pv 1)) rfl)
    (pss_one (ps_ret (pv 3))))) pss_nil)
    (pss_cons (ps_set (i := 4) sc_draw.nd rfl (Or.inl rfl) (pe_op op_add (pe_op op_add (pe_dget hu (pv 0) pe_str (fun _ _ => rfl)) (pe_op op_mulW (pe_dget hu (pv 0) pe_str (fun _ _ => rfl)) pe_int)) pe_int))
    (pss_one (ps_ret (pe_op op_mod (pe_op op_fdivW (pe_callTy call_int1 (by rfl) T.z_int (by decide +kernel) (pa_cons (pe_op op_mod (pe_op op_pow (pv 4) pe_int) pe_int) pa_nil)) pe_int) (pv 1)))))))), ?_⟩
    try dsimp only [cxOf]
    rw [show L2.start N_draw [V.ref d, V.int m] = [some (.ref d), some (.int m), none, none, none] from rfl]
    have em : ∀ H, Rep K H (.int m) (.int m) := fun _ => .int m
    -- the count
    with_reducible refine s_pputs (K := K) (x := p.ct + 1) ?e P0 ?v (u_ct p _) fun H1 k1 e1 l1 => ?_
    case e => rfl
    case v => walk_at "ev"
    have P1 : Pn H1 d { p with ct := p.ct + 1 } := ⟨e1, l1, P0.ne⟩
    generalize hp1 : { p with ct := p.ct + 1 } = p1 at P1
    have q1 : p1.at_ = p.at_ ∧ p1.ct = p.ct + 1 ∧ p1.fo = p.fo ∧ p1.c = c := by subst hp1; exact ⟨rfl, rfl, rfl, hcc⟩
    -- a cell is taken, or not
    with_reducible refine s_meet (fun σ' H' => ∃ p2 v2, σ' = [some (.ref d), some (.int m), v2, none, none] ∧ Kd d H H' ∧ Pn H' d p2 ∧ p2.c = c ∧ 0 ≤ p2.at_ ∧ p2.ct = p.ct + 1 ∧ 0 ≤ p2.fo ∧ p2.fo < 2147483587) ?rest ?_
    case rest =>
      rintro σ' H2 ⟨p2, v2, rfl, k2, P2, bc, b0, b1, b2, b3⟩
      with_reducible refine s_ifr (c := decide (0 < p2.dg)) (evb_test (K := K) ?t) (fun ht H3 s3 => ?_) (fun hf H3 s3 => ?_)
      case t => walk_at "ev"
      · have P3 := P2.same s3
        with_reducible refine s_set (K := K) (d := .int (p2.dg % m)) ?t fun v H4 s4 r4 => ?_
        case t =>
          with_reducible refine ev_mod (ev_intI (eva_cons ?_ eva_nil)) ?_ hm
          all_goals walk_at "ev"
        have P4 := P3.same s4
        have e4 := r4.int_inv
        subst e4
        with_reducible refine s_pputs (K := K) (x := p2.dg / m) ?e P4 ?t (u_dg p2 _) fun H5 k5 e5 l5 => ?_
        case e => rfl
        case t =>
          with_reducible refine ev_fdiv ?_ ?_ ?_
          · walk_at "ev"
          · walk_at "ev"
          · exact Bd.divW (n := 30) (Bd.of_range (lo := 0) (hi := 1073741824) (by omega) hm2 (by decide) (by decide)) hm (by decide)
        have P5 : Pn H5 d { p2 with dg := p2.dg / m } := ⟨e5, l5, P2.ne⟩
        with_reducible refine s_ret (K := K) (d := .int (p2.dg % m)) ?t fun v H6 s6 r6 => ?_
        case t => walk_at "ev"
        have e6 := r6.int_inv
        subst e6
        refine k _ H6 (Int.emod_nonneg _ (by omega)) (Int.emod_lt_of_pos _ hm) (((k2.trans (kd_same (s3.trans s4))).trans k5).trans (kd_same s6)) ⟨_, P5.same s6, bc, b0, ?_, ?_, b2, b3⟩
        · show 0 ≤ p2.ct
          omega
        · show p2.ct ≤ _
          omega
      · have P3 := P2.same s3
        have hb1 : Bd 40 p2.ct := Bd.of_range (lo := 0) (hi := 1000000001) (by omega) (by omega) (by decide) (by decide)
        have hb2 : p2.ct * 7907 ≤ 1000000001 * 7907 := by omega
        with_reducible refine s_set (K := K) (d := .int (p2.fo + p2.ct * 7907 + 37)) ?t fun v H4 s4 r4 => ?_
        case t => walk_at "ev"
        have hx : (p2.fo + p2.ct * 7907 + 37).natAbs < 2 ^ 64 := by omega
        have e4 := r4.int_inv
        subst e4
        with_reducible refine s_ret (K := K) (d := .int ((p2.fo + p2.ct * 7907 + 37) ^ 17 % 2305843009213693951 / 128 % m)) ?_ fun v H5 s5 r5 => ?_
        · refine ev_mod (ev_fdiv (ev_intI (eva_cons (ev_mod (ev_pow (y := 17) ?_ ?_ ⟨by decide, by decide, hx⟩ rfl) ?_ (by decide)) eva_nil)) ?_ ⟨by decide, by decide⟩) ?_ hm <;> walk_at "ev"
        · have e5 := r5.int_inv
          subst e5
          refine k _ H5 (Int.emod_nonneg _ (by omega)) (Int.emod_lt_of_pos _ hm) (k2.trans (kd_same (s3.trans (s4.trans s5)))) ⟨p2, (P3.same s4).same s5, bc, b0, by omega, ?_, b2, b3⟩
          omega
    · obtain ⟨qa, qc, qf, qcc⟩ := q1
      obtain ⟨g, hg⟩ : ∃ g : Int, (10 : Int) ^ (18 : Int).toNat = g := ⟨_, rfl⟩
      have eg : ∀ H σ, Ev K (tOp (rI CPow fun i j => .int (i ^ j.toNat)) (tC (.int 10)) (tC (.int 18))) σ H (.int g) := fun _ _ => ev_pow ev_int ev_int ⟨by decide, by decide, by decide⟩ hg
      with_reducible refine s_if (c := decide (p1.dg = 0) && decide (p1.at_ < p1.cells.length)) (evb_and (evb_test (K := K) ?t1) fun _ => evb_test (K := K) (ev_lt ?t2 (ev_lencells ?t3 P1))) (fun ht H2 s2 => ?_) (fun hf H2 s2 => s_next ?_)
      case t1 => walk_at "ev"
      case t2 => walk_at "ev"
      case t3 => rfl
      · have P2 := P1.same s2
        have ht2 : p1.at_ < p1.cells.length := by
          have := (Bool.and_eq_true_iff.mp ht).2
          exact of_decide_eq_true this
        have ej : p1.at_ = (p1.at_.toNat : Nat) := by omega
        have hj : p1.at_.toNat < p1.cells.length := by omega
        with_reducible refine s_set (K := K) (d := .int p1.cells[p1.at_.toNat]) (ev_cell ?t P2 ej ?t4) fun v H3 s3 r3 => ?_
        case t => rfl
        case t4 => simp [hj]
        generalize p1.cells[p1.at_.toNat] = x at r3
        have P3 := P2.same s3
        have e3 := r3.int_inv
        subst e3
        with_reducible refine s_pputs (K := K) (x := p1.at_ + 1) ?e P3 ?t (u_at p1 _) fun H4 k4 e4 l4 => ?_
        case e => rfl
        case t => walk_at "ev"
        have P4 : Pn H4 d { p1 with at_ := p1.at_ + 1 } := ⟨e4, l4, P1.ne⟩
        have k04 : Kd d H H4 := (k1.trans (kd_same (s2.trans s3))).trans k4
        have ex : ∀ H, Rep K H (.int x) (.int x) := fun _ => .int x
        with_reducible refine s_if (c := decide (g ≤ x)) (evb_test (K := K) (ev_ge ?t (eg _ _))) (fun _ H5 s5 => ?_) (fun _ H5 s5 => ?_)
        case t => walk_at "ev"
        · have P5 := P4.same s5
          with_reducible refine s_pput (K := K) (x := x - g) ?e P5 (ev_sub ?t (eg _ _)) (u_dg _ _) fun H6 k6 e6 l6 => ?_
          case e => rfl
          case t => walk_at "ev"
          refine ⟨_, _, rfl, (k04.trans (kd_same s5)).trans k6, ⟨e6, l6, P1.ne⟩, qcc, ?_, ?_, ?_, ?_⟩
          · show 0 ≤ p1.at_ + 1
            omega
          · exact qc
          · show 0 ≤ p1.fo
            omega
          · show p1.fo < _
            omega
        · have P5 := P4.same s5
          have hb1 : Bd 40 p1.fo := Bd.of_range (lo := 0) (hi := 2147483587) (by omega) (by omega) (by decide) (by decide)
          with_reducible refine s_pput (K := K) (x := (p1.fo * 69069 + x) % 2147483587) ?e P5 ?t (u_fo _ _) fun H6 k6 e6 l6 => ?_
          case e => rfl
          case t =>
            refine ev_mod (ev_intI (eva_cons (ev_add (ev_mul ?_ ?_ (Bd.mulW hb1 (bd_lit (n := 64) (by decide)) (by decide))) ?_) eva_nil)) ?_ (by decide) <;> walk_at "ev"
          refine ⟨_, _, rfl, (k04.trans (kd_same s5)).trans k6, ⟨e6, l6, P1.ne⟩, qcc, ?_, ?_, ?_, ?_⟩
          · show 0 ≤ p1.at_ + 1
            omega
          · exact qc
          · exact Int.emod_nonneg _ (by decide)
          · exact Int.emod_lt_of_pos _ (by decide)
      · refine ⟨p1, none, rfl, k1.trans (kd_same s2), P1.same s2, qcc, by omega, by omega, by omega, by omega⟩
theorem ok_pick (T : Txt K mg) : FnOk P w K mg base CX0 2 T.a_pick T.f_pick ["_law_pen_here", "_law_some"] spPick := by
  refine T.d_pick.F.ok sc_pick (fun vs H Q E h => ?_) (fun cdv A outer s H vs Q E hr h => ?_)
  · obtain ⟨c, d, l, n, xs, rfl, _⟩ := h
    rfl
  · obtain ⟨c, d, l, n, xs, rfl, P0, hn, hl, h0, h1, k⟩ := h
    have hu := hu_of hr
    refine ⟨_, (pss_one (ps_ret (pe_ix (ix_lK K) (pv 1) (pe_call (ok_draw T) (hr.mono (by decide)) rfl T.d_draw.m T.d_draw.F.kp T.d_draw.b .nil pass0 (pa_cons (pv 0) (pa_cons (pe_callB call_len_seq (by rfl) T.z_len (by decide +kernel) (pa_cons (pv 1) pa_nil)) pa_nil))) (fun _ _ => rfl)))), ?_⟩
    refine ⟨_, rfl, _, rfl, _, rfl, l, xs, rfl, .inl (SqL.of hl), ?_⟩
    refine ⟨c, d, n, xs.length, rfl, P0, hn, by omega, by omega, fun r H' r0 r1 kd P' => ?_⟩
    obtain ⟨j, rfl⟩ : ∃ j : Nat, r = j := ⟨r.toNat, by omega⟩
    have hj : j < xs.length := by omega
    exact ⟨l, xs, j, xs[j], rfl, rfl, SqL.of (kd l _ hl (P0.ne hl (fun _ e => nomatch e))), atI_nat (by simp [hj]), k _ H' (List.getElem_mem hj) kd P'⟩
theorem ok_pen (T : Txt K mg) : FnOk P w K mg base CX0 1 T.a_pen T.f_pen ["_law_script"] (spPen K) := by
  refine T.d_pen.F.ok sc_pen (fun vs H Q E h => ?_) (fun cdv A outer s H vs Q E hr h => ?_)
  · obtain ⟨a, ns, rfl, _⟩ := h
    rfl
  · obtain ⟨a, ns, rfl, hS, k⟩ := h
    have hu := hu_of hr
    refine ⟨_, (pss_cons (ps_set (i := 1) sc_pen.nd rfl (Or.inl rfl) pe_int)
    (pss_cons (ps_for PassesOwn.never rfl (pi_list (pv 0)) (pg_name (i := 2) sc_pen.nd rfl (Or.inl rfl))
    (pss_one (ps_set (i := 1) sc_pen.nd rfl (Or.inl rfl) (pe_op op_mod (pe_callTy call_int1 (by rfl) T.z_int (by decide +kernel) (pa_cons (pe_op op_add (pe_op op_mulW (pv 1) pe_int) (pv 2)) pa_nil)) pe_int))))
    (pss_one (ps_ret (pe_disp (pps_cons pe_str (pe_callTy call_list_of (by rfl) T.z_list (by decide +kernel) (pa_cons (pv 0) pa_nil)) (pps_cons pe_str pe_int (pps_cons pe_str pe_int (pps_cons pe_str pe_int (pps_cons pe_str (pv 1) pps_nil))))) rfl rfl (by simp) (by decide)))))), ?_⟩
    -- the fold
    refine ⟨_, rfl, a, rfl, ⟨_, hS⟩, for_list (K := K) (a := a) (xs := ns.map V.int) (fun i σ H2 => ∃ (f : Int) (v : Option V), σ = [some (.ref a), some (.int f), v] ∧ Same H H2 ∧ 0 ≤ f ∧ f < 1000000007)
      ⟨0, none, rfl, Same.refl H, by decide, by decide⟩ (fun i σ H2 _ ⟨_, _, _, s2, _⟩ => s2.seq hS) ?_ ?_⟩
    · rintro i y σ H2 hi ⟨f, v, rfl, s2, f0, f1⟩
      obtain ⟨z, rfl⟩ : ∃ z, y = V.int z := by
        rw [List.getElem?_map] at hi
        cases e : ns[i]? with
        | none => rw [e] at hi; cases hi
        | some z => rw [e] at hi; exact ⟨z, (Option.some.inj hi).symm⟩
      have hb1 : Bd 40 f := Bd.of_range (lo := 0) (hi := 1000000007) (by omega) (by omega) (by decide) (by decide)
      refine ⟨_, rfl, _, _, rfl, rfl, Bd.mulW hb1 (bd_lit (n := 64) (by decide)) (by decide), _, rfl, _, _, rfl, rfl, .inl ⟨_, rfl, _, _, rfl, rfl, (by show (0 : Int) < 1000000007; decide), ?_⟩⟩
      exact ⟨_, _, rfl, s2, Int.emod_nonneg _ (by decide), Int.emod_lt_of_pos _ (by decide)⟩
    · rintro σ H2 ⟨f, v, rfl, s2, f0, f1⟩
      -- the dict
      intro d hd
      have sd := same_upd (o := HO.dK []) hd
      refine ⟨_, rfl, a, _, rfl, .inl (sd.seq (s2.seq hS)), fun l hl => ?_⟩
      have sl := same_upd (o := HO.lst (ns.map V.int)) hl
      have ne : l ≠ d := by
        intro e
        subst e
        rw [upd_same] at hl
        cases hl
      refine ⟨_, rfl, sl _ _ upd_same, PenS.kvs ⟨l, ns, 0, 0, 0, f⟩, rfl, by show 5 ≤ 15; decide, ?_⟩
      refine k l d _ ?_ ⟨⟨l, ns, 0, 0, 0, f⟩, ⟨?_, ?_, ne⟩, rfl, Int.le_refl _, Int.le_refl _, Int.le_refl _, f0, (show f < 2147483587 by omega)⟩
      · intro b o hb
        have e := s2 b o hb
        rw [upd_ne (ne_of_none e hd)]
        exact sl _ _ (sd _ _ e)
      · rw [upd_same]
        rfl
      · rw [upd_ne ne, upd_same]
/-! ### any value -/
theorem tcons_i {ta : TE} {tr : TA} {σ : L2.St} {H : Hp} {Q : List V → Hp → Prop} (h : ta σ H fun v H1 => tr σ H1 fun vs H2 => Q (v :: vs) H2) : tCons ta tr σ H Q := h
theorem top_i {r : R2} {ta tb : TE} {σ : L2.St} {H : Hp} {Q : VK} (h : ta σ H fun x H1 => tb σ H1 fun y H2 => r x y H2 Q) : tOp r ta tb σ H Q := h
theorem tset_i {i : Nat} {ta : TE} {u : TS} {D : Ends} {σ : L2.St} {H : Hp} (h : ta σ H fun v H1 => u D (σ.set i (some v)) H1) : tSeq (tAsg ta (gName i)) u D σ H := h
theorem tpar3_i {i j l : Nat} {ta : TA} {u : TS} {D : Ends} {σ : L2.St} {H : Hp} (h : ta σ H fun vs H1 => ∃ x v w, vs = [x, v, w] ∧ u D (((σ.set i (some x)).set j (some v)).set l (some w)) H1) : tSeq (tPar3 i j l ta) u D σ H := h
def spFar : Sp := fun vs H Q _ => ∃ (c d : Addr) (n : Nat), vs = [.ref d] ∧ PenAt c H d n ∧ n < 900000000 ∧ ∀ (x : Int) (H' : Hp), Bd 212 x → Kd d H H' → PenAt c H' d (n + 12) → Q (.int x) H'
theorem ok_far (T : Txt K mg) : FnOk P w K mg base CX0 3 T.a_far T.f_far ["_law_pen_here"] spFar := by
  refine T.d_far.F.ok sc_far (fun vs H Q E h => ?_) (fun cdv A outer s H vs Q E hr h => ?_)
  · obtain ⟨c, d, n, rfl, _⟩ := h
    rfl
  · obtain ⟨c, d, n, rfl, P0, hn, k⟩ := h
    refine ⟨_, (pss_cons (ps_par3 (i := 1) (j := 2) (l := 3) rfl sc_far.nd rfl rfl rfl (by decide) (by decide) (by decide) rfl rfl rfl (pa_cons (pe_op op_sub pe_int (pe_op op_mulW pe_int (pe_call (ok_draw T) (hr.mono (by decide)) rfl T.d_draw.m T.d_draw.F.kp T.d_draw.b .nil pass0 (pa_cons (pv 0) (pa_cons pe_int pa_nil))))) (pa_cons (pe_call (ok_pick T) (hr.mono (by decide)) rfl T.d_pick.m T.d_pick.F.kp T.d_pick.b .nil pass0 (pa_cons (pv 0) (pa_cons (pe_lst (pa_cons pe_int (pa_cons pe_int (pa_cons pe_int (pa_cons pe_int (pa_cons pe_int pa_nil)))))) pa_nil))) (pa_cons (pe_call (ok_draw T) (hr.mono (by decide)) rfl T.d_draw.m T.d_draw.F.kp T.d_draw.b .nil pass0 (pa_cons (pv 0) (pa_cons pe_int pa_nil))) pa_nil))) rfl)
    (pss_cons (ps_for PassesOwn.never rfl (pi_range1 rfl T.z_range (pa_cons (pv 2) pa_nil)) (pg_name (i := 4) sc_far.nd rfl (Or.inl rfl))
    (pss_one (ps_set (i := 3) sc_far.nd rfl (Or.inl rfl) (pe_op op_add (pe_op op_mulW (pv 3) (pe_op op_pow pe_int pe_int)) (pe_call (ok_draw T) (hr.mono (by decide)) rfl T.d_draw.m T.d_draw.F.kp T.d_draw.b .nil pass0 (pa_cons (pv 0) (pa_cons (pe_op op_pow pe_int pe_int) pa_nil)))))))
    (pss_one (ps_ret (pe_op op_mulW (pv 1) (pv 3)))))), ?_⟩
    try dsimp only [cxOf, List.map]
    rw [show L2.start N_far [V.ref d] = [some (V.ref d), none, none, none, none] from rfl]
    have eg : ∀ H σ, Ev K (tOp (rI CPow fun i j => .int (i ^ j.toNat)) (tC (.int 10)) (tC (.int 6))) σ H (.int 1000000) := fun _ _ => ev_pow ev_int ev_int ⟨by decide, by decide, by decide⟩ rfl
    refine tpar3_i (tcons_i (top_i ?_))
    refine top_i ?_
    refine c_draw (K := K) (m := 2) rfl P0 (by omega) (by decide) (by decide) ev_int fun r H1 r0 r1 k1 P1 => ?_
    refine ⟨_, _, rfl, rfl, Bd.mulW (n := 64) (m := 64) (bd_lit (by decide)) (Bd.of_range (lo := -1) (hi := 2) (by omega) (by omega) (by decide) (by decide)) (by decide), _, _, rfl, rfl, ?_⟩
    refine tcons_i ?_
    refine c_pick (K := K) (ds := [.int 0, .int 0, .int 1, .int 3, .int 9]) rfl P1 (by omega) ?_ (by decide) (by decide) fun v x H2 hx rx k2 P2 => ?_
    · refine evl_lst ?_ (Nat.le_of_ble_eq_true rfl)
      walk_at "eva"
    obtain ⟨j, hj9, rfl⟩ : ∃ j : Nat, j ≤ 9 ∧ v = .int j := by
      simp at hx
      rcases hx with rfl | rfl | rfl | rfl
      · exact ⟨0, by decide, rx.int_inv⟩
      · exact ⟨1, by decide, rx.int_inv⟩
      · exact ⟨3, by decide, rx.int_inv⟩
      · exact ⟨9, by decide, rx.int_inv⟩
    refine tcons_i ?_
    refine c_draw (K := K) (m := 40) rfl P2 (by omega) (by decide) (by decide) ev_int fun x H3 x0 x1 k3 P3 => ?_
    refine ⟨_, _, _, rfl, ?_⟩
    have bs : Bd 2 (1 - 2 * r) := Bd.of_range (lo := -2) (hi := 2) (by omega) (by omega) (by decide) (by decide)
    show tSeq _ _ _ [some (V.ref d), some (V.int (1 - 2 * r)), some (V.int j), some (V.int x), none] _
    generalize 1 - 2 * r = sg at bs ⊢
    refine ⟨_, rfl, _, rfl, by omega, by omega, for_range (n := (j : Int).toNat) (fun i σ H2 => ∃ (x : Int) (o : Option V), σ = [some (V.ref d), some (V.int sg), some (V.int j), some (V.int x), o] ∧ Kd d H H2 ∧ PenAt c H2 d (n + 3 + i) ∧ 0 ≤ x ∧ x < 10 ^ (6 * (i + 1))) ?_ ?_ ?_⟩
    · exact ⟨x, none, rfl, (k1.trans k2).trans k3, P3, x0, Int.lt_trans x1 (by decide)⟩
    · rintro i σ H2 hi ⟨x, o, rfl, k2, P2, x0, x1⟩
      have hi' : i < j := by omega
      have bx := six_bd x0 x1 (by omega)
      refine (ev_mul (K := K) (H := H2) (x := x) (y := 1000000) (ev_var rfl (.int x)) (eg _ _) (Bd.mulW bx (bd_lit (n := 64) (by decide)) (by decide))) H2 (Same.refl H2) _ fun v H3 s3 r3 => ?_
      cases r3.int_inv
      refine c_draw (K := K) (m := 1000000) rfl (P2.same s3) (by omega) (by decide) (by decide) (eg _ _) fun r H4 r0 r1 k4 P4 => ?_
      refine ⟨_, _, rfl, rfl, ?_⟩
      obtain ⟨y0, y1⟩ := six_step x0 x1 r0 r1
      exact ⟨x * 1000000 + r, _, rfl, (k2.trans (kd_same s3)).trans k4, P4, y0, y1⟩
    · rintro σ H2 ⟨x, o, rfl, k2, P2, x0, x1⟩
      have bx := six_bd x0 x1 (by omega)
      have P5 : PenAt c H2 d (n + 12) := P2.mono (by omega)
      refine ⟨_, rfl, _, rfl, _, _, rfl, rfl, Bd.mulW bs bx (by decide), k _ H2 (bs.mul bx) k2 P5⟩
end
end LW
namespace LW
open PySem L2 LB
local macro_rules | `(tactic| walk_at "hp") => `(tactic| first
  | (with_reducible assumption) | (with_reducible exact Rep.int _) | (with_reducible exact Rep.bl _) | (with_reducible exact Rep.non) | (with_reducible exact Rep.str _)
  | ((with_reducible refine' Rep.same ?kk ?hh); (case kk => with_reducible assumption); (case hh => walk_at "hp"))
  | ((with_reducible refine' Rep.kt ?kk ?hh); (case kk => with_reducible assumption); (case hh => walk_at "hp")))
local macro_rules | `(tactic| walk_at "bd") => `(tactic| first
  | (with_reducible assumption)
  | exact bd_lit (n := 64) (by decide)
  | (with_reducible refine' Bd.mul ?_ ?_) <;> walk_at "bd"
  | (with_reducible refine' Bd.add ?_ ?_) <;> walk_at "bd"
  | (with_reducible refine' Bd.sub ?_ ?_) <;> walk_at "bd"
  | (with_reducible refine' Bd.neg ?_) <;> walk_at "bd")
local macro_rules | `(tactic| walk_at "ev") => `(tactic| first
  | (with_reducible exact ev_int) | (with_reducible exact ev_bl) | (with_reducible exact ev_non) | (with_reducible exact ev_str)
  | ((with_reducible refine' ev_var ?e ?hh); (case e => rfl); (case hh => walk_at "hp"))
  | (with_reducible refine' ev_add ?_ ?_) <;> walk_at "ev"
  | (with_reducible refine' ev_sub ?_ ?_) <;> walk_at "ev"
  | ((with_reducible refine' ev_mul ?m1 ?m2 ?m3); (case m1 => walk_at "ev"); (case m2 => walk_at "ev"); (case m3 => (refine' Bd.mulW ?b1 ?b2 ?b3; (case b1 => walk_at "bd"); (case b2 => walk_at "bd"); (case b3 => decide))))
  | ((with_reducible refine' ev_ix ?m1 ?m2); (case m1 => walk_at "ev"); (case m2 => rfl))
  | ((with_reducible refine' ev_tup ?m1 ?m2); (case m1 => walk_at "eva"); (case m2 => exact Nat.le_of_ble_eq_true rfl))
  | (with_reducible refine' ev_neg ?_) <;> walk_at "ev"
  | (with_reducible refine' ev_lt ?_ ?_) <;> walk_at "ev"
  | (with_reducible refine' ev_le ?_ ?_) <;> walk_at "ev"
  | (with_reducible refine' ev_gt ?_ ?_) <;> walk_at "ev"
  | (with_reducible refine' ev_ge ?_ ?_) <;> walk_at "ev"
  | (with_reducible refine' ev_eqI ?_ ?_) <;> walk_at "ev"
  | (with_reducible refine' ev_neI ?_ ?_) <;> walk_at "ev"
  | (with_reducible refine' ev_intI ?_) <;> walk_at "eva"
  | (with_reducible refine' ev_lenT ?_) <;> walk_at "eva"
  | walk_at "evx")
local macro_rules | `(tactic| walk_at "eva") => `(tactic| first
  | (with_reducible exact eva_nil)
  | ((with_reducible refine' eva_cons ?v1 ?v2); (case v1 => walk_at "ev"); (case v2 => walk_at "eva")))
local macro_rules | `(tactic| walk_at "evx") => `(tactic| first
  | ((with_reducible refine' ev_pget ?a ?b ?c); (case a => rfl); (case b => with_reducible assumption); (case c => first | (with_reducible exact p_at _) | (with_reducible exact p_dg _) | (with_reducible exact p_ct _) | (with_reducible exact p_fo _))))
local macro_rules | `(tactic| walk_at "sh") => `(tactic| first
  | (with_reducible assumption)
  | ((with_reducible refine' ShAt.same ?hh ?kk); (case kk => with_reducible assumption); (case hh => walk_at "sh"))
  | ((with_reducible refine' ShAt.kt ?hh ?kk); (case kk => with_reducible assumption); (case hh => walk_at "sh")))
local macro_rules | `(tactic| walk_at "evx") => `(tactic| first
  | ((with_reducible refine' ev_base ?e ?h ?c ?n); (case e => rfl); (case h => walk_at "sh"); (case c => with_reducible assumption); (case n => with_reducible assumption))
  | ((with_reducible refine' ev_price ?e ?h ?c ?n); (case e => rfl); (case h => walk_at "sh"); (case c => with_reducible assumption); (case n => with_reducible assumption))
  | ((with_reducible refine' ev_steps ?e ?h ?c ?n); (case e => rfl); (case h => walk_at "sh"); (case c => with_reducible assumption); (case n => with_reducible assumption))
  | ((with_reducible refine' ev_prices ?e ?h ?c ?n); (case e => rfl); (case h => walk_at "sh"); (case c => with_reducible assumption); (case n => with_reducible assumption)))
section
variable {P : Program} {w : World} {K : Fr} {mg : Str → Option Value} {base : Heap}
/-! ### values -/
theorem of_none {d : Addr} {H H' : Hp} (k : Kd d H H') {l : Addr} (h : H' l = none) (hd : l ≠ d) : H l = none := by
  cases e : H l with
  | none => rfl
  | some o => rw [k l o e hd] at h; cases h
theorem c_wide' {E : XK} {σ : L2.St} {H : Hp} {c d : Addr} {n i : Nat} {Q : VK} (e : σ[i]? = some (some (.ref d))) (P : PenAt c H d n) (hn : n < 900000000) (k : ∀ (x : Int) (H' : Hp), Bd 212 x → Kd d H H' → PenAt c H' d (n + 12) → Q (.int x) H') : tCall spFar [] E (tCons (tVar i) tNil) σ H Q :=
  ⟨_, e, c, d, n, rfl, P, hn, k⟩
/-- what a value is drawn as -/
inductive Kv : PD → Prop
  | int (x : Int) : Kv (.int x)
  | str (z : Str) : Kv (.str z)
  | non : Kv .none
  | bl : Kv (.bool true)
  | tup (x : Int) (z : Str) : Kv (.tuple [.int x, .str z])
  | lst (x : Int) : Kv (.list [.int x])
  | far (z : Str) (x y : Int) : Kv (.tuple [.str z, .tuple [.int x, .int y]])
def Gv (K : Fr) (N : Addr → Prop) (H : Hp) (v : V) (d : PD) : Prop := Kv d ∧ (Rep K H v d ∨ ∃ l x, v = .ref l ∧ H l = some (.lst [.int x]) ∧ d = .list [.int x] ∧ N l)
theorem Gv.same {K : Fr} {H H' : Hp} {v : V} {d : PD} {N : Addr → Prop} (g : Gv K N H v d) (s : Same H H') : Gv K N H' v d := by
  obtain ⟨k, r | ⟨l, x, rfl, h, rfl, hN⟩⟩ := g
  · exact ⟨k, .inl (r.same s)⟩
  · exact ⟨k, .inr ⟨l, x, rfl, s _ _ h, rfl, hN⟩⟩
theorem Gv.pen {K : Fr} {H H' : Hp} {v : V} {d : PD} {c p : Addr} {n : Nat} {N : Addr → Prop} (g : Gv K N H v d) (P : PenAt c H p n) (s : Kd p H H') : Gv K N H' v d := by
  obtain ⟨k, r | ⟨l, x, rfl, h, rfl, hN⟩⟩ := g
  · exact ⟨k, .inl (r.kt (P.kt s))⟩
  · exact ⟨k, .inr ⟨l, x, rfl, s _ _ h (P.ne h fun _ e => nomatch e), rfl, hN⟩⟩
theorem Gv.dp {K : Fr} {H : Hp} {v : V} {d : PD} {N : Addr → Prop} (g : Gv K N H v d) : Dp K H v d := by
  obtain ⟨k, r | ⟨l, x, rfl, h, rfl, hN⟩⟩ := g
  · exact r.dp
  · exact .lst (SqL.of h) (.cons (.int x) .nil)
theorem Gv.ty {K : Fr} {H : Hp} {v : V} {d : PD} {N : Addr → Prop} (g : Gv K N H v d) : TyX K H v (.type (pyT d)) := by
  obtain ⟨k, r | ⟨l, x, rfl, h, rfl, hN⟩⟩ := g
  · exact r.ty
  · exact .base (.lst h)
theorem Kv.isB {d : PD} (k : Kv d) : kitB (pyT d) "bool" = some (decide (pyT d = "bool")) := by
  cases k
  · exact (by decide +kernel : kitB "int" "bool" = some (decide ("int" = "bool")))
  · exact (by decide +kernel : kitB "str" "bool" = some (decide ("str" = "bool")))
  · exact (by decide +kernel : kitB "NoneType" "bool" = some (decide ("NoneType" = "bool")))
  · exact (by decide +kernel : kitB "bool" "bool" = some (decide ("bool" = "bool")))
  · exact (by decide +kernel : kitB "tuple" "bool" = some (decide ("tuple" = "bool")))
  · exact (by decide +kernel : kitB "list" "bool" = some (decide ("list" = "bool")))
  · exact (by decide +kernel : kitB "tuple" "bool" = some (decide ("tuple" = "bool")))
theorem Kv.plain {d : PD} (k : Kv d) : PyData.plain d = true := by cases k <;> simp [PyData.plain, PyData.plainAll]
theorem Kv.deep {d : PD} (k : Kv d) : d.depth ≤ 3 := by cases k <;> simp [PyData.depth, PyData.depthAll]
/-- lists of such values -/
theorem kvs_plain : ∀ {ds : List PD}, (∀ d ∈ ds, Kv d) → PyData.plainAll ds = true
  | [], _ => rfl
  | d :: ds, h => by rw [PyData.plainAll, (h d List.mem_cons_self).plain, kvs_plain fun e m => h e (List.mem_cons_of_mem _ m)]; rfl
theorem kvs_deep : ∀ {ds : List PD}, (∀ d ∈ ds, Kv d) → PyData.depthAll ds ≤ 3
  | [], _ => Nat.zero_le _
  | d :: ds, h => by rw [PyData.depthAll]; exact Nat.max_le.mpr ⟨(h d List.mem_cons_self).deep, kvs_deep fun e m => h e (List.mem_cons_of_mem _ m)⟩
/-- x != y, two data without dicts -/
def rNeP (K : Fr) : R2 := fun x y H Q => ∃ d e, Dp K H x d ∧ Dp K H y e ∧ PyData.plain d = true ∧ PyData.plain e = true ∧ d.depth ≤ 60 ∧ Q (.bl (!PyData.eqv d e)) H
theorem op_neP {X : Cx} (hu : X.A.units + 64 < cLine) : OpR X (compareOp .NotEq) (rNeP X.K) := by
  intro pins s σ H x y v u Q I rx ry h
  obtain ⟨d, e, hd, he, sd, se, hp, q⟩ := h
  obtain ⟨as, r1⟩ := Dp.reads I d x v hd rx
  obtain ⟨bs, r2⟩ := Dp.reads I e y u he ry
  exact SeqAt.ne_plain r1 r2 sd se (by have := Nat.min_le_left d.depth e.depth; omega) ⟨.bl _, H, I, rfl, q⟩
def EvG (K : Fr) (N : Addr → Prop) (te : TE) (σ : L2.St) (H : Hp) : Prop := ∀ H1, Same H H1 → ∀ Q : VK, (∀ v d H2, Same H1 H2 → Gv K N H2 v d → Q v H2) → te σ H1 Q
def EvGA (K : Fr) (N : Addr → Prop) (ta : TA) (σ : L2.St) (H : Hp) (n : Nat) : Prop := ∀ H1, Same H H1 → ∀ Q : List V → Hp → Prop, (∀ vs H2, Same H1 H2 → vs.length = n → (∀ v ∈ vs, ∃ d, Gv K N H2 v d) → Q vs H2) → ta σ H1 Q
section
variable {σ : L2.St} {H : Hp} {N : Addr → Prop}
theorem evg_of {te : TE} {d : PD} (a : Ev K te σ H d) (k : Kv d) : EvG K N te σ H := fun H1 s Q h => a H1 s _ fun v H2 s2 r => h v d H2 s2 ⟨k, .inl r⟩
theorem evg_lst {te : TE} {x : Int} (a : Ev K te σ H (.int x)) (hN : ∀ l, H l = none → N l) : EvG K N (tLst (tCons te tNil)) σ H := fun H1 s Q h => a H1 s _ fun v H2 s2 r => by
  cases r.int_inv
  refine ⟨by show 1 ≤ sizeLine; decide, fun p hp => h _ (.list [.int x]) _ (s2.trans (same_upd hp)) ⟨.lst x, .inr ⟨p, x, rfl, upd_same, rfl, hN p ((s.trans s2).free hp)⟩⟩⟩
theorem evga_nil : EvGA K N tNil σ H 0 := fun H1 s Q h => h [] H1 (Same.refl H1) rfl fun v m => nomatch m
theorem evga_cons {te : TE} {ta : TA} {n : Nat} (a : EvG K N te σ H) (b : EvGA K N ta σ H n) : EvGA K N (tCons te ta) σ H (n + 1) := fun H1 s Q h => a H1 s _ fun v d H2 s2 g => b H2 (s.trans s2) _ fun vs H3 s3 l hv =>
  h (v :: vs) H3 (s2.trans s3) (congrArg (· + 1) l) fun u m => by
    rcases List.mem_cons.mp m with rfl | m
    · exact ⟨d, g.same s3⟩
    · exact hv u m
theorem ev_strI {ta : TA} {x : Int} (a : EvA K ta σ H [.int x]) (hx : x.natAbs < 1000) : Ev K (tCB (fun xs H Q => ∃ i, xs = [.int i] ∧ i.natAbs.log2 < 1920 ∧ Q (.str (toString i)) H) ta) σ H (.str (toString x)) := fun H1 s Q k =>
  a H1 s _ fun vs H2 s2 r => by
    obtain ⟨v, rfl, rv⟩ := r.inv1
    cases rv.int_inv
    refine ⟨x, rfl, ?_, k _ H2 s2 (.str _)⟩
    have : x.natAbs.log2 ≤ x.natAbs := by
      have := Nat.log2_le_self x.natAbs
      exact this
    omega
theorem ev_addS {tb : TE} {y z : Str} (b : Ev K tb σ H (.str z)) (h : y.length + z.length ≤ sizeLine) : Ev K (tOp (fun x y H Q => ∃ i j, x = .str i ∧ y = .str j ∧ i.length + j.length ≤ sizeLine ∧ Q (.str (i ++ j)) H) (tC (.str y)) tb) σ H (.str (y ++ z)) := fun H1 s Q k =>
  b H1 s _ fun v H2 s2 r => by
    cases r.str_inv
    exact ⟨y, z, rfl, rfl, h, k _ H2 s2 (.str _)⟩
theorem c_pickG {E : XK} {c d : Addr} {n m i : Nat} {ta : TA} {Q : VK} (e : σ[i]? = some (some (.ref d))) (P : PenAt c H d n) (hn : n < 1000000000) (a : EvGA K N ta σ H m) (h0 : 0 < m) (h1 : m < 1000)
    (k : ∀ (v : V) (x : PD) (H' : Hp), Gv K N H' v x → Kd d H H' → PenAt c H' d (n + 1) → Q v H') : tCall spPick [] E (tCons (tVar i) (tCons (tLst ta) tNil)) σ H Q :=
  ⟨_, e, a H (Same.refl H) _ fun vs H1 s hl hv => by
    refine ⟨by rw [hl, sizeLine_eq]; omega, fun p hp => ?_⟩
    have s' := s.trans (same_upd (o := HO.lst vs) hp)
    refine ⟨c, d, p, n, vs, rfl, P.same s', hn, upd_same, by omega, by omega, fun v H' m k2 P2 => ?_⟩
    obtain ⟨x, g⟩ := hv v m
    exact k v x H' ((g.same (same_upd hp)).pen (P.same s') k2) ((kd_same s').trans k2) P2⟩
end
/-! ### one of them drawn -/
def spValue (K : Fr) : Sp := fun vs H Q _ => ∃ (c d : Addr) (n : Nat), vs = [.ref d] ∧ PenAt c H d n ∧ n < 800000000 ∧ ∀ (v : V) (x : PD) (H' : Hp), Gv K (fun l => H l = none) H' v x → Kd d H H' → PenAt c H' d (n + 20) → Q v H'
theorem ok_value (T : Txt K mg) : FnOk P w K mg base CX0 4 T.a_value T.f_value ["_law_pen_here"] (spValue K) := by
  refine T.d_value.F.ok sc_value (fun vs H Q E h => ?_) (fun cdv A outer s H vs Q E hr h => ?_)
  · obtain ⟨c, d, n, rfl, _⟩ := h
    rfl
  · obtain ⟨c, d, n, rfl, P0, hn, k⟩ := h
    refine ⟨_, (pss_cons (ps_set (i := 1) sc_value.nd rfl (Or.inl rfl) (pe_call (ok_far T) (hr.mono (by decide)) rfl T.d_far.m T.d_far.F.kp T.d_far.b .nil pass0 (pa_cons (pv 0) pa_nil)))
    (pss_one (ps_ret (pe_call (ok_pick T) (hr.mono (by decide)) rfl T.d_pick.m T.d_pick.F.kp T.d_pick.b .nil pass0 (pa_cons (pv 0) (pa_cons (pe_lst (pa_cons (pv 1) (pa_cons (pe_op op_add_str pe_str (pe_callTy call_str_int (by rfl) T.z_str (by decide +kernel) (pa_cons (pe_op op_mod (pe_callB call_abs (by rfl) T.z_abs (by decide +kernel) (pa_cons (pv 1) pa_nil)) pe_int) pa_nil))) (pa_cons pe_non (pa_cons (pe_tup (pa_cons (pv 1) (pa_cons pe_str pa_nil))) (pa_cons (pe_lst (pa_cons (pv 1) pa_nil)) (pa_cons pe_bl (pa_cons pe_str (pa_cons (pe_tup (pa_cons pe_str (pa_cons (pe_tup (pa_cons pe_int (pa_cons pe_int pa_nil))) pa_nil))) pa_nil))))))))) pa_nil)))))), ?_⟩
    try dsimp only [cxOf, List.map]
    rw [show L2.start N_value [V.ref d] = [some (V.ref d), none] from rfl]
    refine tset_i (c_wide' rfl P0 (by omega) fun x H1 bx k1 P1 => ?_)
    show tRet _ _ [some (V.ref d), some (V.int x)] H1
    have P1' := P1
    have ex : ∀ H, Rep K H (.int x) (.int x) := fun _ => .int x
    have hz : ((if x < 0 then -x else x) % 1000).natAbs < 1000 := by omega
    refine c_pickG (K := K) (N := fun l => H l = none) rfl P1 (by omega) (m := 8) ?_ (by decide) (by decide) fun v y H2 g k2 P2 => k v y H2 g (k1.trans k2) (P2.mono (by omega))
    refine evga_cons ?a1 (evga_cons ?a2 (evga_cons ?a3 (evga_cons ?a4 (evga_cons ?a5 (evga_cons ?a6 (evga_cons ?a7 (evga_cons ?a8 evga_nil)))))))
    case a1 => exact evg_of (d := .int x) (by walk_at "ev") (.int _)
    case a3 => exact evg_of ev_non .non
    case a4 => exact evg_of (d := .tuple [.int x, .str _]) (by walk_at "ev") (.tup _ _)
    case a5 => exact evg_lst (x := x) (by walk_at "ev") fun l hl => of_none k1 hl (P1.ned hl).1
    case a6 => exact evg_of ev_bl .bl
    case a7 => exact evg_of ev_str (.str _)
    case a8 => exact evg_of (d := .tuple [.str _, .tuple [.int _, .int _]]) (by walk_at "ev") (.far _ _ _)
    case a2 =>
      have e1 : Ev K (tCB (fun xs H Q => ∃ i, xs = [.int i] ∧ Q (.int (if i < 0 then -i else i)) H) (tCons (tVar 1) tNil)) [some (V.ref d), some (V.int x)] H1 (.int (if x < 0 then -x else x)) := by
        with_reducible refine ev_abs ?_
        walk_at "eva"
      generalize hy : (if x < 0 then -x else x) = y at hz e1
      have e2 : Ev K (tCB (fun xs H Q => ∃ i, xs = [.int i] ∧ i.natAbs.log2 < 1920 ∧ Q (.str (toString i)) H) (tCons (tOp (rI (fun _ j => 0 < j) fun i j => .int (i % j)) (tCB (fun xs H Q => ∃ i, xs = [.int i] ∧ Q (.int (if i < 0 then -i else i)) H) (tCons (tVar 1) tNil)) (tC (.int 1000))) tNil)) [some (V.ref d), some (V.int x)] H1 (.str (toString (y % 1000))) := by
        with_reducible refine ev_strI (eva_cons (ev_mod e1 ev_int ?_) eva_nil) hz
        decide
      have hl : (toString (y % 1000)).length ≤ 4 := int_text_length_le10 (k := 3) (by decide) hz
      refine evg_of (ev_addS e2 ?_) (.str _)
      show (Str.ofString "x").length + (Str.ofString (toString (y % 1000))).length ≤ sizeLine
      rw [ofString_length, ofString_length, sizeLine_eq]
      have : "x".length = 1 := rfl
      omega
theorem op_nePK {X : Cx} (K : Fr) (h : X.K = K) (hu : X.A.units + 64 < cLine) : OpR X (compareOp .NotEq) (rNeP K) := by subst h; exact op_neP hu
end
end LW
namespace LW
open PySem L2 LB
local macro_rules | `(tactic| walk_at "hp") => `(tactic| first
  | (with_reducible assumption) | (with_reducible exact Rep.int _) | (with_reducible exact Rep.bl _) | (with_reducible exact Rep.non) | (with_reducible exact Rep.str _)
  | ((with_reducible refine' Rep.same ?kk ?hh); (case kk => with_reducible assumption); (case hh => walk_at "hp"))
  | ((with_reducible refine' Rep.kt ?kk ?hh); (case kk => with_reducible assumption); (case hh => walk_at "hp")))
local macro_rules | `(tactic| walk_at "bd") => `(tactic| first
  | (with_reducible assumption)
  | exact bd_lit (n := 64) (by decide)
  | (with_reducible refine' Bd.mul ?_ ?_) <;> walk_at "bd"
  | (with_reducible refine' Bd.add ?_ ?_) <;> walk_at "bd"
  | (with_reducible refine' Bd.sub ?_ ?_) <;> walk_at "bd"
  | (with_reducible refine' Bd.neg ?_) <;> walk_at "bd")
local macro_rules | `(tactic| walk_at "ev") => `(tactic| first
  | (with_reducible exact ev_int) | (with_reducible exact ev_bl) | (with_reducible exact ev_non) | (with_reducible exact ev_str)
  | ((with_reducible refine' ev_var ?e ?hh); (case e => rfl); (case hh => walk_at "hp"))
  | (with_reducible refine' ev_add ?_ ?_) <;> walk_at "ev"
  | (with_reducible refine' ev_sub ?_ ?_) <;> walk_at "ev"
  | ((with_reducible refine' ev_mul ?m1 ?m2 ?m3); (case m1 => walk_at "ev"); (case m2 => walk_at "ev"); (case m3 => (refine' Bd.mulW ?b1 ?b2 ?b3; (case b1 => walk_at "bd"); (case b2 => walk_at "bd"); (case b3 => decide))))
  | ((with_reducible refine' ev_ix ?m1 ?m2); (case m1 => walk_at "ev"); (case m2 => rfl))
  | ((with_reducible refine' ev_tup ?m1 ?m2); (case m1 => walk_at "eva"); (case m2 => exact Nat.le_of_ble_eq_true rfl))
  | (with_reducible refine' ev_neg ?_) <;> walk_at "ev"
  | (with_reducible refine' ev_lt ?_ ?_) <;> walk_at "ev"
  | (with_reducible refine' ev_le ?_ ?_) <;> walk_at "ev"
  | (with_reducible refine' ev_gt ?_ ?_) <;> walk_at "ev"
  | (with_reducible refine' ev_ge ?_ ?_) <;> walk_at "ev"
  | (with_reducible refine' ev_eqI ?_ ?_) <;> walk_at "ev"
  | (with_reducible refine' ev_neI ?_ ?_) <;> walk_at "ev"
  | (with_reducible refine' ev_intI ?_) <;> walk_at "eva"
  | (with_reducible refine' ev_lenT ?_) <;> walk_at "eva"
  | walk_at "evx")
local macro_rules | `(tactic| walk_at "eva") => `(tactic| first
  | (with_reducible exact eva_nil)
  | ((with_reducible refine' eva_cons ?v1 ?v2); (case v1 => walk_at "ev"); (case v2 => walk_at "eva")))
local macro_rules | `(tactic| walk_at "evx") => `(tactic| first
  | ((with_reducible refine' ev_pget ?a ?b ?c); (case a => rfl); (case b => with_reducible assumption); (case c => first | (with_reducible exact p_at _) | (with_reducible exact p_dg _) | (with_reducible exact p_ct _) | (with_reducible exact p_fo _))))
local macro_rules | `(tactic| walk_at "sh") => `(tactic| first
  | (with_reducible assumption)
  | ((with_reducible refine' ShAt.same ?hh ?kk); (case kk => with_reducible assumption); (case hh => walk_at "sh"))
  | ((with_reducible refine' ShAt.kt ?hh ?kk); (case kk => with_reducible assumption); (case hh => walk_at "sh")))
local macro_rules | `(tactic| walk_at "evx") => `(tactic| first
  | ((with_reducible refine' ev_base ?e ?h ?c ?n); (case e => rfl); (case h => walk_at "sh"); (case c => with_reducible assumption); (case n => with_reducible assumption))
  | ((with_reducible refine' ev_price ?e ?h ?c ?n); (case e => rfl); (case h => walk_at "sh"); (case c => with_reducible assumption); (case n => with_reducible assumption))
  | ((with_reducible refine' ev_steps ?e ?h ?c ?n); (case e => rfl); (case h => walk_at "sh"); (case c => with_reducible assumption); (case n => with_reducible assumption))
  | ((with_reducible refine' ev_prices ?e ?h ?c ?n); (case e => rfl); (case h => walk_at "sh"); (case c => with_reducible assumption); (case n => with_reducible assumption)))
section
variable {P : Program} {w : World} {K : Fr} {mg : Str → Option Value} {base : Heap}
/-! ### the kinds -/
theorem exAt_same {H H' : Hp} {a D : Addr} (x : ExAt H a D) (s : Same H H') : ExAt H' a D := by
  rcases x with e | e | ⟨d, fs, e, ed⟩
  · exact .inl (s _ _ e)
  · exact .inr (.inl (s _ _ e))
  · exact .inr (.inr ⟨d, fs, s _ _ e, s _ _ ed⟩)
theorem ev_isX {K : Fr} {σ : L2.St} {H : Hp} {i : Nat} {a D C : Addr} {b : Bool} (e : σ[i]? = some (some (.ref a))) (T : ExK K D) (x : ExAt H a D) (h : PySem.W.kitOne K (.ref D) (.ref C) = some b) :
    Ev K (tCB (rIsX K) (tCons (tVar i) (tCons (tC (.ref C)) tNil))) σ H (.bool b) := fun H1 s Q k =>
  ⟨_, e, a, D, .ref C, .ref C, b, rfl, T, exAt_same x s, fun u r => r, h, k _ H1 (Same.refl H1) (.bl b)⟩
theorem evl_cat {K : Fr} {σ : L2.St} {H : Hp} {i : Nat} {l : Addr} {vs : List V} {ds es : List PD} {tb : TE} (e : σ[i]? = some (some (.ref l))) (hl : H l = some (.lst vs)) (rs : RepAll K H vs ds) (b : EvL K tb σ H es) (hn : ds.length + es.length ≤ 1000) : EvL K (tOp rCat (tVar i) tb) σ H (ds ++ es) := fun H1 s Q k =>
  ⟨_, e, b H1 s _ fun p ws H2 s2 np hp r2 => ⟨l, p, vs, ws, rfl, rfl, s2 _ _ (s _ _ hl), hp, by rw [rs.len, r2.len, sizeLine_eq]; omega, fun q hq =>
    k q (vs ++ ws) _ (s2.trans (same_upd hq)) (s2.free hq) upd_same (((rs.same s).same (s2.trans (same_upd hq))).append (r2.same (same_upd hq)))⟩⟩
theorem s_retL {σ : L2.St} {H : Hp} {D : Ends} {i : Nat} {v : V} (e : σ[i]? = some (some v)) (h : D.rt v H) : tRet (tVar i) D σ H := ⟨v, e, h⟩
def cs (T : Txt K mg) : List Addr := [T.C_BadText, T.C_BadName, T.C_BadNumber, T.C_BadPlace, T.C_BadSheet, T.C_BadJourney, T.C_NoSpot, T.C_NoRoad, T.C_NoMap, T.C_TakenName, T.C_TooMany, T.C_TooLarge, T.C_NotAround, T.C_Unlike, T.C_BadPromise, T.C_NotKept, T.C_Broken, T.C_NothingToUndo, T.C_NothingToRedo]
def dKinds (i : Nat) : List PD := (List.range 19).map fun j => .bool (decide (j = i))
def spKinds (T : Txt K mg) : Sp := fun vs H Q _ => ∃ (a D : Addr) (i : Nat), vs = [.ref a] ∧ (cs T)[i]? = some D ∧ ExK K D ∧ ExAt H a D ∧ ∀ (p : Addr) (ws : List V) (H' : Hp), Same H H' → H' p = some (.lst ws) → RepAll K H' ws (dKinds i) → Q (.ref p) H'
theorem ok_kinds (T : Txt K mg) : FnOk P w K mg base CX0 1 T.a_kinds T.f_kinds ["_law_e"] (spKinds T) := by
  refine T.d_kinds.F.ok sc_kinds (fun vs H Q E h => ?_) (fun cdv A outer s H vs Q E hr h => ?_)
  · obtain ⟨a, D, i, rfl, _⟩ := h
    rfl
  · obtain ⟨a, D, i, rfl, hi, TE, hx, k⟩ := h
    refine ⟨_, (pss_cons (ps_set (i := 1) sc_kinds.nd rfl (Or.inl rfl) (pe_lst (pa_cons (pe_callB call_isX (by rfl) T.z_isinstance (by decide +kernel) (pa_cons (pv 0) (pa_cons (pe_glob (v := .ref T.C_BadText) (u := .ref T.C_BadText) rfl T.g_BadText rfl) pa_nil))) (pa_cons (pe_callB call_isX (by rfl) T.z_isinstance (by decide +kernel) (pa_cons (pv 0) (pa_cons (pe_glob (v := .ref T.C_BadName) (u := .ref T.C_BadName) rfl T.g_BadName rfl) pa_nil))) (pa_cons (pe_callB call_isX (by rfl) T.z_isinstance (by decide +kernel) (pa_cons (pv 0) (pa_cons (pe_glob (v := .ref T.C_BadNumber) (u := .ref T.C_BadNumber) rfl T.g_BadNumber rfl) pa_nil))) pa_nil)))))
    (pss_cons (ps_set (i := 1) sc_kinds.nd rfl (Or.inl rfl) (pe_op op_cat (pv 1) (pe_lst (pa_cons (pe_callB call_isX (by rfl) T.z_isinstance (by decide +kernel) (pa_cons (pv 0) (pa_cons (pe_glob (v := .ref T.C_BadPlace) (u := .ref T.C_BadPlace) rfl T.g_BadPlace rfl) pa_nil))) (pa_cons (pe_callB call_isX (by rfl) T.z_isinstance (by decide +kernel) (pa_cons (pv 0) (pa_cons (pe_glob (v := .ref T.C_BadSheet) (u := .ref T.C_BadSheet) rfl T.g_BadSheet rfl) pa_nil))) (pa_cons (pe_callB call_isX (by rfl) T.z_isinstance (by decide +kernel) (pa_cons (pv 0) (pa_cons (pe_glob (v := .ref T.C_BadJourney) (u := .ref T.C_BadJourney) rfl T.g_BadJourney rfl) pa_nil))) pa_nil))))))
    (pss_cons (ps_set (i := 1) sc_kinds.nd rfl (Or.inl rfl) (pe_op op_cat (pv 1) (pe_lst (pa_cons (pe_callB call_isX (by rfl) T.z_isinstance (by decide +kernel) (pa_cons (pv 0) (pa_cons (pe_glob (v := .ref T.C_NoSpot) (u := .ref T.C_NoSpot) rfl T.g_NoSpot rfl) pa_nil))) (pa_cons (pe_callB call_isX (by rfl) T.z_isinstance (by decide +kernel) (pa_cons (pv 0) (pa_cons (pe_glob (v := .ref T.C_NoRoad) (u := .ref T.C_NoRoad) rfl T.g_NoRoad rfl) pa_nil))) (pa_cons (pe_callB call_isX (by rfl) T.z_isinstance (by decide +kernel) (pa_cons (pv 0) (pa_cons (pe_glob (v := .ref T.C_NoMap) (u := .ref T.C_NoMap) rfl T.g_NoMap rfl) pa_nil))) pa_nil))))))
    (pss_cons (ps_set (i := 1) sc_kinds.nd rfl (Or.inl rfl) (pe_op op_cat (pv 1) (pe_lst (pa_cons (pe_callB call_isX (by rfl) T.z_isinstance (by decide +kernel) (pa_cons (pv 0) (pa_cons (pe_glob (v := .ref T.C_TakenName) (u := .ref T.C_TakenName) rfl T.g_TakenName rfl) pa_nil))) (pa_cons (pe_callB call_isX (by rfl) T.z_isinstance (by decide +kernel) (pa_cons (pv 0) (pa_cons (pe_glob (v := .ref T.C_TooMany) (u := .ref T.C_TooMany) rfl T.g_TooMany rfl) pa_nil))) (pa_cons (pe_callB call_isX (by rfl) T.z_isinstance (by decide +kernel) (pa_cons (pv 0) (pa_cons (pe_glob (v := .ref T.C_TooLarge) (u := .ref T.C_TooLarge) rfl T.g_TooLarge rfl) pa_nil))) pa_nil))))))
    (pss_cons (ps_set (i := 1) sc_kinds.nd rfl (Or.inl rfl) (pe_op op_cat (pv 1) (pe_lst (pa_cons (pe_callB call_isX (by rfl) T.z_isinstance (by decide +kernel) (pa_cons (pv 0) (pa_cons (pe_glob (v := .ref T.C_NotAround) (u := .ref T.C_NotAround) rfl T.g_NotAround rfl) pa_nil))) (pa_cons (pe_callB call_isX (by rfl) T.z_isinstance (by decide +kernel) (pa_cons (pv 0) (pa_cons (pe_glob (v := .ref T.C_Unlike) (u := .ref T.C_Unlike) rfl T.g_Unlike rfl) pa_nil))) (pa_cons (pe_callB call_isX (by rfl) T.z_isinstance (by decide +kernel) (pa_cons (pv 0) (pa_cons (pe_glob (v := .ref T.C_BadPromise) (u := .ref T.C_BadPromise) rfl T.g_BadPromise rfl) pa_nil))) pa_nil))))))
    (pss_cons (ps_set (i := 1) sc_kinds.nd rfl (Or.inl rfl) (pe_op op_cat (pv 1) (pe_lst (pa_cons (pe_callB call_isX (by rfl) T.z_isinstance (by decide +kernel) (pa_cons (pv 0) (pa_cons (pe_glob (v := .ref T.C_NotKept) (u := .ref T.C_NotKept) rfl T.g_NotKept rfl) pa_nil))) (pa_cons (pe_callB call_isX (by rfl) T.z_isinstance (by decide +kernel) (pa_cons (pv 0) (pa_cons (pe_glob (v := .ref T.C_Broken) (u := .ref T.C_Broken) rfl T.g_Broken rfl) pa_nil))) (pa_cons (pe_callB call_isX (by rfl) T.z_isinstance (by decide +kernel) (pa_cons (pv 0) (pa_cons (pe_glob (v := .ref T.C_NothingToUndo) (u := .ref T.C_NothingToUndo) rfl T.g_NothingToUndo rfl) pa_nil))) pa_nil))))))
    (pss_cons (ps_set (i := 1) sc_kinds.nd rfl (Or.inl rfl) (pe_op op_cat (pv 1) (pe_lst (pa_cons (pe_callB call_isX (by rfl) T.z_isinstance (by decide +kernel) (pa_cons (pv 0) (pa_cons (pe_glob (v := .ref T.C_NothingToRedo) (u := .ref T.C_NothingToRedo) rfl T.g_NothingToRedo rfl) pa_nil))) pa_nil))))
    (pss_one (ps_ret (pv 1)))))))))), ?_⟩
    try dsimp only [cxOf, List.map]
    rw [show L2.start N_kinds [V.ref a] = [some (V.ref a), none] from rfl]
    have kk := (T.kits i D hi).2.2
    have s0 := Same.refl H
    have a0 : EvL K _ [some (V.ref a), none] H [.bool (decide (0 = i)), .bool (decide (1 = i)), .bool (decide (2 = i))] := evl_lst (eva_cons (ev_isX (i := 0) (a := a) rfl TE (exAt_same hx s0) (kk 0 _ rfl)) (eva_cons (ev_isX (i := 0) (a := a) rfl TE (exAt_same hx s0) (kk 1 _ rfl)) (eva_cons (ev_isX (i := 0) (a := a) rfl TE (exAt_same hx s0) (kk 2 _ rfl)) eva_nil))) (Nat.le_of_ble_eq_true rfl)
    refine s_setL a0 fun p1 w1 H1 s1 _ h1 r1 => ?_
    replace s0 := s0.trans s1
    show tSeq _ _ _ [some (V.ref a), some (V.ref p1)] _
    have a1 : EvL K _ [some (V.ref a), some (V.ref p1)] H1 _ := evl_cat (i := 1) (es := [.bool (decide (3 = i)), .bool (decide (4 = i)), .bool (decide (5 = i))]) rfl h1 r1 (evl_lst (eva_cons (ev_isX (i := 0) (a := a) rfl TE (exAt_same hx s0) (kk 3 _ rfl)) (eva_cons (ev_isX (i := 0) (a := a) rfl TE (exAt_same hx s0) (kk 4 _ rfl)) (eva_cons (ev_isX (i := 0) (a := a) rfl TE (exAt_same hx s0) (kk 5 _ rfl)) eva_nil))) (Nat.le_of_ble_eq_true rfl)) (Nat.le_of_ble_eq_true rfl)
    refine s_setL a1 fun p2 w2 H2 s2 _ h2 r2 => ?_
    replace s0 := s0.trans s2
    show tSeq _ _ _ [some (V.ref a), some (V.ref p2)] _
    have a2 : EvL K _ [some (V.ref a), some (V.ref p2)] H2 _ := evl_cat (i := 1) (es := [.bool (decide (6 = i)), .bool (decide (7 = i)), .bool (decide (8 = i))]) rfl h2 r2 (evl_lst (eva_cons (ev_isX (i := 0) (a := a) rfl TE (exAt_same hx s0) (kk 6 _ rfl)) (eva_cons (ev_isX (i := 0) (a := a) rfl TE (exAt_same hx s0) (kk 7 _ rfl)) (eva_cons (ev_isX (i := 0) (a := a) rfl TE (exAt_same hx s0) (kk 8 _ rfl)) eva_nil))) (Nat.le_of_ble_eq_true rfl)) (Nat.le_of_ble_eq_true rfl)
    refine s_setL a2 fun p3 w3 H3 s3 _ h3 r3 => ?_
    replace s0 := s0.trans s3
    show tSeq _ _ _ [some (V.ref a), some (V.ref p3)] _
    have a3 : EvL K _ [some (V.ref a), some (V.ref p3)] H3 _ := evl_cat (i := 1) (es := [.bool (decide (9 = i)), .bool (decide (10 = i)), .bool (decide (11 = i))]) rfl h3 r3 (evl_lst (eva_cons (ev_isX (i := 0) (a := a) rfl TE (exAt_same hx s0) (kk 9 _ rfl)) (eva_cons (ev_isX (i := 0) (a := a) rfl TE (exAt_same hx s0) (kk 10 _ rfl)) (eva_cons (ev_isX (i := 0) (a := a) rfl TE (exAt_same hx s0) (kk 11 _ rfl)) eva_nil))) (Nat.le_of_ble_eq_true rfl)) (Nat.le_of_ble_eq_true rfl)
    refine s_setL a3 fun p4 w4 H4 s4 _ h4 r4 => ?_
    replace s0 := s0.trans s4
    show tSeq _ _ _ [some (V.ref a), some (V.ref p4)] _
    have a4 : EvL K _ [some (V.ref a), some (V.ref p4)] H4 _ := evl_cat (i := 1) (es := [.bool (decide (12 = i)), .bool (decide (13 = i)), .bool (decide (14 = i))]) rfl h4 r4 (evl_lst (eva_cons (ev_isX (i := 0) (a := a) rfl TE (exAt_same hx s0) (kk 12 _ rfl)) (eva_cons (ev_isX (i := 0) (a := a) rfl TE (exAt_same hx s0) (kk 13 _ rfl)) (eva_cons (ev_isX (i := 0) (a := a) rfl TE (exAt_same hx s0) (kk 14 _ rfl)) eva_nil))) (Nat.le_of_ble_eq_true rfl)) (Nat.le_of_ble_eq_true rfl)
    refine s_setL a4 fun p5 w5 H5 s5 _ h5 r5 => ?_
    replace s0 := s0.trans s5
    show tSeq _ _ _ [some (V.ref a), some (V.ref p5)] _
    have a5 : EvL K _ [some (V.ref a), some (V.ref p5)] H5 _ := evl_cat (i := 1) (es := [.bool (decide (15 = i)), .bool (decide (16 = i)), .bool (decide (17 = i))]) rfl h5 r5 (evl_lst (eva_cons (ev_isX (i := 0) (a := a) rfl TE (exAt_same hx s0) (kk 15 _ rfl)) (eva_cons (ev_isX (i := 0) (a := a) rfl TE (exAt_same hx s0) (kk 16 _ rfl)) (eva_cons (ev_isX (i := 0) (a := a) rfl TE (exAt_same hx s0) (kk 17 _ rfl)) eva_nil))) (Nat.le_of_ble_eq_true rfl)) (Nat.le_of_ble_eq_true rfl)
    refine s_setL a5 fun p6 w6 H6 s6 _ h6 r6 => ?_
    replace s0 := s0.trans s6
    show tSeq _ _ _ [some (V.ref a), some (V.ref p6)] _
    have a6 : EvL K _ [some (V.ref a), some (V.ref p6)] H6 _ := evl_cat (i := 1) (es := [.bool (decide (18 = i))]) rfl h6 r6 (evl_lst (eva_cons (ev_isX (i := 0) (a := a) rfl TE (exAt_same hx s0) (kk 18 _ rfl)) eva_nil) (Nat.le_of_ble_eq_true rfl)) (Nat.le_of_ble_eq_true rfl)
    refine s_setL a6 fun p7 w7 H7 s7 _ h7 r7 => ?_
    replace s0 := s0.trans s7
    show tRet _ _ [some (V.ref a), some (V.ref p7)] _
    exact s_retL rfl (k _ _ _ s0 h7 r7)
end
end LW
namespace LW
open PySem L2 LB
local macro_rules | `(tactic| walk_at "hp") => `(tactic| first
  | (with_reducible assumption) | (with_reducible exact Rep.int _) | (with_reducible exact Rep.bl _) | (with_reducible exact Rep.non) | (with_reducible exact Rep.str _)
  | ((with_reducible refine' Rep.same ?kk ?hh); (case kk => with_reducible assumption); (case hh => walk_at "hp"))
  | ((with_reducible refine' Rep.kt ?kk ?hh); (case kk => with_reducible assumption); (case hh => walk_at "hp")))
local macro_rules | `(tactic| walk_at "bd") => `(tactic| first
  | (with_reducible assumption)
  | exact bd_lit (n := 64) (by decide)
  | (with_reducible refine' Bd.mul ?_ ?_) <;> walk_at "bd"
  | (with_reducible refine' Bd.add ?_ ?_) <;> walk_at "bd"
  | (with_reducible refine' Bd.sub ?_ ?_) <;> walk_at "bd"
  | (with_reducible refine' Bd.neg ?_) <;> walk_at "bd")
local macro_rules | `(tactic| walk_at "ev") => `(tactic| first
  | (with_reducible exact ev_int) | (with_reducible exact ev_bl) | (with_reducible exact ev_non) | (with_reducible exact ev_str)
  | ((with_reducible refine' ev_var ?e ?hh); (case e => rfl); (case hh => walk_at "hp"))
  | (with_reducible refine' ev_add ?_ ?_) <;> walk_at "ev"
  | (with_reducible refine' ev_sub ?_ ?_) <;> walk_at "ev"
  | ((with_reducible refine' ev_mul ?m1 ?m2 ?m3); (case m1 => walk_at "ev"); (case m2 => walk_at "ev"); (case m3 => (refine' Bd.mulW ?b1 ?b2 ?b3; (case b1 => walk_at "bd"); (case b2 => walk_at "bd"); (case b3 => decide))))
  | ((with_reducible refine' ev_ix ?m1 ?m2); (case m1 => walk_at "ev"); (case m2 => rfl))
  | ((with_reducible refine' ev_tup ?m1 ?m2); (case m1 => walk_at "eva"); (case m2 => exact Nat.le_of_ble_eq_true rfl))
  | (with_reducible refine' ev_neg ?_) <;> walk_at "ev"
  | (with_reducible refine' ev_lt ?_ ?_) <;> walk_at "ev"
  | (with_reducible refine' ev_le ?_ ?_) <;> walk_at "ev"
  | (with_reducible refine' ev_gt ?_ ?_) <;> walk_at "ev"
  | (with_reducible refine' ev_ge ?_ ?_) <;> walk_at "ev"
  | (with_reducible refine' ev_eqI ?_ ?_) <;> walk_at "ev"
  | (with_reducible refine' ev_neI ?_ ?_) <;> walk_at "ev"
  | (with_reducible refine' ev_intI ?_) <;> walk_at "eva"
  | (with_reducible refine' ev_lenT ?_) <;> walk_at "eva"
  | walk_at "evx")
local macro_rules | `(tactic| walk_at "eva") => `(tactic| first
  | (with_reducible exact eva_nil)
  | ((with_reducible refine' eva_cons ?v1 ?v2); (case v1 => walk_at "ev"); (case v2 => walk_at "eva")))
local macro_rules | `(tactic| walk_at "evx") => `(tactic| first
  | ((with_reducible refine' ev_pget ?a ?b ?c); (case a => rfl); (case b => with_reducible assumption); (case c => first | (with_reducible exact p_at _) | (with_reducible exact p_dg _) | (with_reducible exact p_ct _) | (with_reducible exact p_fo _))))
local macro_rules | `(tactic| walk_at "sh") => `(tactic| first
  | (with_reducible assumption)
  | ((with_reducible refine' ShAt.same ?hh ?kk); (case kk => with_reducible assumption); (case hh => walk_at "sh"))
  | ((with_reducible refine' ShAt.kt ?hh ?kk); (case kk => with_reducible assumption); (case hh => walk_at "sh")))
local macro_rules | `(tactic| walk_at "evx") => `(tactic| first
  | ((with_reducible refine' ev_base ?e ?h ?c ?n); (case e => rfl); (case h => walk_at "sh"); (case c => with_reducible assumption); (case n => with_reducible assumption))
  | ((with_reducible refine' ev_price ?e ?h ?c ?n); (case e => rfl); (case h => walk_at "sh"); (case c => with_reducible assumption); (case n => with_reducible assumption))
  | ((with_reducible refine' ev_steps ?e ?h ?c ?n); (case e => rfl); (case h => walk_at "sh"); (case c => with_reducible assumption); (case n => with_reducible assumption))
  | ((with_reducible refine' ev_prices ?e ?h ?c ?n); (case e => rfl); (case h => walk_at "sh"); (case c => with_reducible assumption); (case n => with_reducible assumption)))
section
variable {P : Program} {w : World} {K : Fr} {mg : Str → Option Value} {base : Heap}
/-! ### one error of each class -/
def ObjAt (H : Hp) (a : Addr) (p : Addr × List (Str × V)) : Prop := (p.2 = [] ∧ H a = some (ExO (.ref p.1) a)) ∨ ∃ d, H a = some (exo a p.1 (some d)) ∧ H d = some (exd d p.2)
theorem ObjAt.same {H H' : Hp} {a : Addr} {p : Addr × List (Str × V)} (x : ObjAt H a p) (s : Same H H') : ObjAt H' a p := by
  rcases x with ⟨e, x⟩ | ⟨d, x, y⟩
  · exact .inl ⟨e, s _ _ x⟩
  · exact .inr ⟨d, s _ _ x, s _ _ y⟩
theorem ObjAt.at {H : Hp} {a : Addr} {p : Addr × List (Str × V)} (x : ObjAt H a p) : ExAt H a p.1 := by
  rcases x with ⟨e, x⟩ | ⟨d, x, y⟩
  · exact .inl x
  · exact .inr (.inr ⟨d, _, x, y⟩)
def RowV (H : Hp) (v : V) (p : Addr × List (Str × V)) : Prop := ∃ a, v = .ref a ∧ ObjAt H a p
def RowAll (H : Hp) (vs : List V) (ps : List (Addr × List (Str × V))) : Prop := vs.length = ps.length ∧ ∀ (j : Nat) (v : V) (p : Addr × List (Str × V)), vs[j]? = some v → ps[j]? = some p → RowV H v p
theorem RowAll.same {H H' : Hp} {vs : List V} {ps : List (Addr × List (Str × V))} (r : RowAll H vs ps) (s : Same H H') : RowAll H' vs ps := ⟨r.1, fun j v p e1 e2 => by
  obtain ⟨a, e, x⟩ := r.2 j v p e1 e2
  exact ⟨a, e, x.same s⟩⟩
theorem RowAll.append {H : Hp} {vs ws : List V} {ps qs : List (Addr × List (Str × V))} (a : RowAll H vs ps) (b : RowAll H ws qs) : RowAll H (vs ++ ws) (ps ++ qs) := ⟨by rw [List.length_append, List.length_append, a.1, b.1], fun j v p e1 e2 => by
  by_cases h : j < vs.length
  · rw [List.getElem?_append_left h] at e1
    rw [List.getElem?_append_left (by rw [← a.1]; exact h)] at e2
    exact a.2 j v p e1 e2
  · rw [List.getElem?_append_right (by omega)] at e1
    rw [List.getElem?_append_right (by rw [← a.1]; omega), ← a.1] at e2
    exact b.2 _ v p e1 e2⟩
theorem RowAll.cons {H : Hp} {v : V} {vs : List V} {p : Addr × List (Str × V)} {ps : List (Addr × List (Str × V))} (a : RowV H v p) (b : RowAll H vs ps) : RowAll H (v :: vs) (p :: ps) := ⟨congrArg (· + 1) b.1, fun j u q e1 e2 => by
  cases j with
  | zero => cases e1; cases e2; exact a
  | succ j => exact b.2 j u q e1 e2⟩
theorem RowAll.nil {H : Hp} : RowAll H [] [] := ⟨rfl, fun j v p e => nomatch e⟩
def EvX (te : TE) (σ : L2.St) (H : Hp) (p : Addr × List (Str × V)) : Prop := ∀ H1, Same H H1 → ∀ Q : VK, (∀ v H2, Same H1 H2 → RowV H2 v p → Q v H2) → te σ H1 Q
def EvXA (ta : TA) (σ : L2.St) (H : Hp) (ps : List (Addr × List (Str × V))) : Prop := ∀ H1, Same H H1 → ∀ Q : List V → Hp → Prop, (∀ vs H2, Same H1 H2 → RowAll H2 vs ps → Q vs H2) → ta σ H1 Q
def EvXL (te : TE) (σ : L2.St) (H : Hp) (ps : List (Addr × List (Str × V))) : Prop := ∀ H1, Same H H1 → ∀ Q : VK, (∀ l vs H2, Same H1 H2 → H2 l = some (.lst vs) → RowAll H2 vs ps → Q (.ref l) H2) → te σ H1 Q
theorem evxa_nil {σ : L2.St} {H : Hp} : EvXA tNil σ H [] := fun H1 _ Q k => k [] H1 (Same.refl H1) .nil
theorem evxa_cons {σ : L2.St} {H : Hp} {te : TE} {ta : TA} {p : Addr × List (Str × V)} {ps : List (Addr × List (Str × V))} (a : EvX te σ H p) (b : EvXA ta σ H ps) : EvXA (tCons te ta) σ H (p :: ps) := fun H1 s Q k =>
  a H1 s _ fun v H2 s2 r => b H2 (s.trans s2) _ fun vs H3 s3 rs => k (v :: vs) H3 (s2.trans s3) (.cons (by obtain ⟨a, e, x⟩ := r; exact ⟨a, e, x.same s3⟩) rs)
theorem evxl_lst {σ : L2.St} {H : Hp} {ta : TA} {ps : List (Addr × List (Str × V))} (a : EvXA ta σ H ps) (hl : ps.length ≤ 1000 := by exact Nat.le_of_ble_eq_true rfl) : EvXL (tLst ta) σ H ps := fun H1 s Q k =>
  a H1 s _ fun vs H2 s2 r => ⟨by rw [r.1, sizeLine_eq]; omega, fun p hp => k p vs _ (s2.trans (same_upd hp)) upd_same (r.same (same_upd hp))⟩
theorem evxl_cat {σ : L2.St} {H : Hp} {i : Nat} {l : Addr} {vs : List V} {ps qs : List (Addr × List (Str × V))} {tb : TE} (e : σ[i]? = some (some (.ref l))) (hl : H l = some (.lst vs)) (rs : RowAll H vs ps) (b : EvXL tb σ H qs) (hn : ps.length + qs.length ≤ 1000 := by exact Nat.le_of_ble_eq_true rfl) : EvXL (tOp rCat (tVar i) tb) σ H (ps ++ qs) := fun H1 s Q k =>
  ⟨_, e, b H1 s _ fun p ws H2 s2 hp r2 => ⟨l, p, vs, ws, rfl, rfl, s2 _ _ (s _ _ hl), hp, by rw [rs.1, r2.1, sizeLine_eq]; omega, fun q hq =>
    k q (vs ++ ws) _ (s2.trans (same_upd hq)) upd_same (((rs.same s).same (s2.trans (same_upd hq))).append (r2.same (same_upd hq)))⟩⟩
theorem s_setX {σ : L2.St} {H : Hp} {ta : TE} {ps : List (Addr × List (Str × V))} {i : Nat} {u : TS} {D : Ends} (a : EvXL ta σ H ps) (h : ∀ p vs H1, Same H H1 → H1 p = some (.lst vs) → RowAll H1 vs ps → u D (σ.set i (some (.ref p))) H1) : tSeq (tAsg ta (gName i)) u D σ H := a H (Same.refl H) _ h
/-- C(..) with an own __init__ -/
theorem evx_make {σ : L2.St} {H : Hp} {C : Addr} {fs : List Str} {ta : TA} {vs : List V} (hv : ∀ H1 (Q : List V → Hp → Prop), Q vs H1 → ta σ H1 Q) (hl : vs.length = fs.length) (h0 : vs.length ≤ 1000) (hf : (fs.zip vs).reverse ≠ []) : EvX (tExV C (spI C fs) ta) σ H (C, (fs.zip vs).reverse) := fun H1 s Q k =>
  hv H1 _ ⟨h0, fun a ha => ⟨a, vs, rfl, hl, upd_same, fun d H' hd e1 e2 fr => ⟨rfl, k (.ref a) H' (fun b o e => fr b o (by
    have nb : b ≠ a := fun z => by rw [z, ha] at e; cases e
    rw [upd_ne nb]; exact e) (fun z => by rw [z, ha] at e; cases e)) ⟨a, rfl, .inr ⟨d, e1, e2⟩⟩⟩⟩⟩
theorem evx_new {σ : L2.St} {H : Hp} {C : Addr} : EvX (fun σ H Q => ∀ a, H a = none → Q (.ref a) (upd H a (ExO (.ref C) a))) σ H (C, []) := fun H1 s Q k a ha => k (.ref a) _ (same_upd ha) ⟨a, rfl, .inl ⟨rfl, upd_same⟩⟩
/-- all of them, in order -/
def mkAll (T : Txt K mg) (va vb vc : V) : List (Addr × List (Str × V)) := [(T.C_BadText, [("column", vb), ("line", va)]), (T.C_BadName, [("name", va)]), (T.C_BadNumber, [("number", vb), ("what", va)]), (T.C_BadPlace, [("what", va)]), (T.C_BadSheet, [("what", va)]), (T.C_BadJourney, [("index", va)]), (T.C_NoSpot, [("name", va)]), (T.C_NoRoad, [("name", va)]), (T.C_NoMap, [("name", va)]), (T.C_TakenName, [("name", va)]), (T.C_TooMany, [("limit", vc), ("many", vb), ("what", va)]), (T.C_TooLarge, [("limit", vc), ("number", vb), ("what", va)]), (T.C_NotAround, []), (T.C_Unlike, [("what", va)]), (T.C_BadPromise, [("promise", va)]), (T.C_NotKept, [("promise", va)]), (T.C_Broken, [("place", vb), ("promise", va)]), (T.C_NothingToUndo, []), (T.C_NothingToRedo, [])]
def spMade (T : Txt K mg) : Sp := fun vs H Q _ => ∃ va vb vc : V, vs = [va, vb, vc] ∧ ∀ (p : Addr) (ws : List V) (H' : Hp), Same H H' → H' p = some (.lst ws) → RowAll H' ws (mkAll T va vb vc) → Q (.ref p) H'
theorem ok_made (T : Txt K mg) : FnOk P w K mg base CX0 3 T.a_made T.f_made ["_law_a", "_law_b", "_law_c"] (spMade T) := by
  refine T.d_made.F.ok sc_made (fun vs H Q E h => ?_) (fun cdv A outer s H vs Q E hr h => ?_)
  · obtain ⟨va, vb, vc, rfl, _⟩ := h
    rfl
  · obtain ⟨va, vb, vc, rfl, k⟩ := h
    refine ⟨_, (pss_cons (ps_set (i := 3) sc_made.nd rfl (Or.inl rfl) (pe_lst (pa_cons (pe_exV T.e_BadText T.d_iBadText.m.at_ (beq_iff_eq.mp T.d_iBadText.m.fn) (ok_iBadText T) (hr.mono (by decide)) T.b_iBadText rfl T.g_BadText (pa_cons (pv 0) (pa_cons (pv 1) pa_nil))) (pa_cons (pe_exV T.e_BadName T.d_iBadName.m.at_ (beq_iff_eq.mp T.d_iBadName.m.fn) (ok_iBadName T) (hr.mono (by decide)) T.b_iBadName rfl T.g_BadName (pa_cons (pv 0) pa_nil)) (pa_cons (pe_exV T.e_BadNumber T.d_iBadNumber.m.at_ (beq_iff_eq.mp T.d_iBadNumber.m.fn) (ok_iBadNumber T) (hr.mono (by decide)) T.b_iBadNumber rfl T.g_BadNumber (pa_cons (pv 0) (pa_cons (pv 1) pa_nil))) (pa_cons (pe_exV T.e_BadPlace T.d_iBadPlace.m.at_ (beq_iff_eq.mp T.d_iBadPlace.m.fn) (ok_iBadPlace T) (hr.mono (by decide)) T.b_iBadPlace rfl T.g_BadPlace (pa_cons (pv 0) pa_nil)) pa_nil))))))
    (pss_cons (ps_set (i := 3) sc_made.nd rfl (Or.inl rfl) (pe_op op_cat (pv 3) (pe_lst (pa_cons (pe_exV T.e_BadSheet T.d_iBadSheet.m.at_ (beq_iff_eq.mp T.d_iBadSheet.m.fn) (ok_iBadSheet T) (hr.mono (by decide)) T.b_iBadSheet rfl T.g_BadSheet (pa_cons (pv 0) pa_nil)) (pa_cons (pe_exV T.e_BadJourney T.d_iBadJourney.m.at_ (beq_iff_eq.mp T.d_iBadJourney.m.fn) (ok_iBadJourney T) (hr.mono (by decide)) T.b_iBadJourney rfl T.g_BadJourney (pa_cons (pv 0) pa_nil)) (pa_cons (pe_exV T.e_NoSpot T.d_iNoSpot.m.at_ (beq_iff_eq.mp T.d_iNoSpot.m.fn) (ok_iNoSpot T) (hr.mono (by decide)) T.b_iNoSpot rfl T.g_NoSpot (pa_cons (pv 0) pa_nil)) (pa_cons (pe_exV T.e_NoRoad T.d_iNoRoad.m.at_ (beq_iff_eq.mp T.d_iNoRoad.m.fn) (ok_iNoRoad T) (hr.mono (by decide)) T.b_iNoRoad rfl T.g_NoRoad (pa_cons (pv 0) pa_nil)) pa_nil)))))))
    (pss_cons (ps_set (i := 3) sc_made.nd rfl (Or.inl rfl) (pe_op op_cat (pv 3) (pe_lst (pa_cons (pe_exV T.e_NoMap T.d_iNoMap.m.at_ (beq_iff_eq.mp T.d_iNoMap.m.fn) (ok_iNoMap T) (hr.mono (by decide)) T.b_iNoMap rfl T.g_NoMap (pa_cons (pv 0) pa_nil)) (pa_cons (pe_exV T.e_TakenName T.d_iTakenName.m.at_ (beq_iff_eq.mp T.d_iTakenName.m.fn) (ok_iTakenName T) (hr.mono (by decide)) T.b_iTakenName rfl T.g_TakenName (pa_cons (pv 0) pa_nil)) (pa_cons (pe_exV T.e_TooMany T.d_iTooMany.m.at_ (beq_iff_eq.mp T.d_iTooMany.m.fn) (ok_iTooMany T) (hr.mono (by decide)) T.b_iTooMany rfl T.g_TooMany (pa_cons (pv 0) (pa_cons (pv 1) (pa_cons (pv 2) pa_nil)))) (pa_cons (pe_exV T.e_TooLarge T.d_iTooLarge.m.at_ (beq_iff_eq.mp T.d_iTooLarge.m.fn) (ok_iTooLarge T) (hr.mono (by decide)) T.b_iTooLarge rfl T.g_TooLarge (pa_cons (pv 0) (pa_cons (pv 1) (pa_cons (pv 2) pa_nil)))) pa_nil)))))))
    (pss_cons (ps_set (i := 3) sc_made.nd rfl (Or.inl rfl) (pe_op op_cat (pv 3) (pe_lst (pa_cons (pe_exN PySem.F.excBase_ValueError T.x_NotAround T.g_NotAround T.e_NotAround.ox.kC rfl) (pa_cons (pe_exV T.e_Unlike T.d_iUnlike.m.at_ (beq_iff_eq.mp T.d_iUnlike.m.fn) (ok_iUnlike T) (hr.mono (by decide)) T.b_iUnlike rfl T.g_Unlike (pa_cons (pv 0) pa_nil)) (pa_cons (pe_exV T.e_BadPromise T.d_iBadPromise.m.at_ (beq_iff_eq.mp T.d_iBadPromise.m.fn) (ok_iBadPromise T) (hr.mono (by decide)) T.b_iBadPromise rfl T.g_BadPromise (pa_cons (pv 0) pa_nil)) (pa_cons (pe_exV T.e_NotKept T.d_iNotKept.m.at_ (beq_iff_eq.mp T.d_iNotKept.m.fn) (ok_iNotKept T) (hr.mono (by decide)) T.b_iNotKept rfl T.g_NotKept (pa_cons (pv 0) pa_nil)) pa_nil)))))))
    (pss_cons (ps_set (i := 3) sc_made.nd rfl (Or.inl rfl) (pe_op op_cat (pv 3) (pe_lst (pa_cons (pe_exV T.e_Broken T.d_iBroken.m.at_ (beq_iff_eq.mp T.d_iBroken.m.fn) (ok_iBroken T) (hr.mono (by decide)) T.b_iBroken rfl T.g_Broken (pa_cons (pv 0) (pa_cons (pv 1) pa_nil))) (pa_cons (pe_exN PySem.F.excBase_ValueError T.x_NothingToUndo T.g_NothingToUndo T.e_NothingToUndo.ox.kC rfl) (pa_cons (pe_exN PySem.F.excBase_ValueError T.x_NothingToRedo T.g_NothingToRedo T.e_NothingToRedo.ox.kC rfl) pa_nil))))))
    (pss_one (ps_ret (pv 3)))))))), ?_⟩
    try dsimp only [cxOf, List.map]
    rw [show L2.start N_made [va, vb, vc] = [some va, some vb, some vc, none] from rfl]
    have s0 := Same.refl H
    have a0 : EvXL _ [some va, some vb, some vc, none] H [(T.C_BadText, [("column", vb), ("line", va)]), (T.C_BadName, [("name", va)]), (T.C_BadNumber, [("number", vb), ("what", va)]), (T.C_BadPlace, [("what", va)])] := evxl_lst (evxa_cons (evx_make (ta := (tCons (tVar 0) (tCons (tVar 1) tNil))) (vs := [va, vb]) (fs := ["line", "column"]) (fun H1 Q q => ⟨_, rfl, _, rfl, q⟩) rfl (Nat.le_of_ble_eq_true rfl) (List.cons_ne_nil _ _)) (evxa_cons (evx_make (ta := (tCons (tVar 0) tNil)) (vs := [va]) (fs := ["name"]) (fun H1 Q q => ⟨_, rfl, q⟩) rfl (Nat.le_of_ble_eq_true rfl) (List.cons_ne_nil _ _)) (evxa_cons (evx_make (ta := (tCons (tVar 0) (tCons (tVar 1) tNil))) (vs := [va, vb]) (fs := ["what", "number"]) (fun H1 Q q => ⟨_, rfl, _, rfl, q⟩) rfl (Nat.le_of_ble_eq_true rfl) (List.cons_ne_nil _ _)) (evxa_cons (evx_make (ta := (tCons (tVar 0) tNil)) (vs := [va]) (fs := ["what"]) (fun H1 Q q => ⟨_, rfl, q⟩) rfl (Nat.le_of_ble_eq_true rfl) (List.cons_ne_nil _ _)) evxa_nil))))
    refine s_setX a0 fun p1 w1 H1 s1 h1 r1 => ?_
    replace s0 := s0.trans s1
    show tSeq _ _ _ [some va, some vb, some vc, some (.ref p1)] _
    have a1 : EvXL _ [some va, some vb, some vc, some (.ref p1)] H1 _ := evxl_cat (i := 3) (qs := [(T.C_BadSheet, [("what", va)]), (T.C_BadJourney, [("index", va)]), (T.C_NoSpot, [("name", va)]), (T.C_NoRoad, [("name", va)])]) rfl h1 r1 (evxl_lst (evxa_cons (evx_make (ta := (tCons (tVar 0) tNil)) (vs := [va]) (fs := ["what"]) (fun H1 Q q => ⟨_, rfl, q⟩) rfl (Nat.le_of_ble_eq_true rfl) (List.cons_ne_nil _ _)) (evxa_cons (evx_make (ta := (tCons (tVar 0) tNil)) (vs := [va]) (fs := ["index"]) (fun H1 Q q => ⟨_, rfl, q⟩) rfl (Nat.le_of_ble_eq_true rfl) (List.cons_ne_nil _ _)) (evxa_cons (evx_make (ta := (tCons (tVar 0) tNil)) (vs := [va]) (fs := ["name"]) (fun H1 Q q => ⟨_, rfl, q⟩) rfl (Nat.le_of_ble_eq_true rfl) (List.cons_ne_nil _ _)) (evxa_cons (evx_make (ta := (tCons (tVar 0) tNil)) (vs := [va]) (fs := ["name"]) (fun H1 Q q => ⟨_, rfl, q⟩) rfl (Nat.le_of_ble_eq_true rfl) (List.cons_ne_nil _ _)) evxa_nil)))))
    refine s_setX a1 fun p2 w2 H2 s2 h2 r2 => ?_
    replace s0 := s0.trans s2
    show tSeq _ _ _ [some va, some vb, some vc, some (.ref p2)] _
    have a2 : EvXL _ [some va, some vb, some vc, some (.ref p2)] H2 _ := evxl_cat (i := 3) (qs := [(T.C_NoMap, [("name", va)]), (T.C_TakenName, [("name", va)]), (T.C_TooMany, [("limit", vc), ("many", vb), ("what", va)]), (T.C_TooLarge, [("limit", vc), ("number", vb), ("what", va)])]) rfl h2 r2 (evxl_lst (evxa_cons (evx_make (ta := (tCons (tVar 0) tNil)) (vs := [va]) (fs := ["name"]) (fun H1 Q q => ⟨_, rfl, q⟩) rfl (Nat.le_of_ble_eq_true rfl) (List.cons_ne_nil _ _)) (evxa_cons (evx_make (ta := (tCons (tVar 0) tNil)) (vs := [va]) (fs := ["name"]) (fun H1 Q q => ⟨_, rfl, q⟩) rfl (Nat.le_of_ble_eq_true rfl) (List.cons_ne_nil _ _)) (evxa_cons (evx_make (ta := (tCons (tVar 0) (tCons (tVar 1) (tCons (tVar 2) tNil)))) (vs := [va, vb, vc]) (fs := ["what", "many", "limit"]) (fun H1 Q q => ⟨_, rfl, _, rfl, _, rfl, q⟩) rfl (Nat.le_of_ble_eq_true rfl) (List.cons_ne_nil _ _)) (evxa_cons (evx_make (ta := (tCons (tVar 0) (tCons (tVar 1) (tCons (tVar 2) tNil)))) (vs := [va, vb, vc]) (fs := ["what", "number", "limit"]) (fun H1 Q q => ⟨_, rfl, _, rfl, _, rfl, q⟩) rfl (Nat.le_of_ble_eq_true rfl) (List.cons_ne_nil _ _)) evxa_nil)))))
    refine s_setX a2 fun p3 w3 H3 s3 h3 r3 => ?_
    replace s0 := s0.trans s3
    show tSeq _ _ _ [some va, some vb, some vc, some (.ref p3)] _
    have a3 : EvXL _ [some va, some vb, some vc, some (.ref p3)] H3 _ := evxl_cat (i := 3) (qs := [(T.C_NotAround, []), (T.C_Unlike, [("what", va)]), (T.C_BadPromise, [("promise", va)]), (T.C_NotKept, [("promise", va)])]) rfl h3 r3 (evxl_lst (evxa_cons evx_new (evxa_cons (evx_make (ta := (tCons (tVar 0) tNil)) (vs := [va]) (fs := ["what"]) (fun H1 Q q => ⟨_, rfl, q⟩) rfl (Nat.le_of_ble_eq_true rfl) (List.cons_ne_nil _ _)) (evxa_cons (evx_make (ta := (tCons (tVar 0) tNil)) (vs := [va]) (fs := ["promise"]) (fun H1 Q q => ⟨_, rfl, q⟩) rfl (Nat.le_of_ble_eq_true rfl) (List.cons_ne_nil _ _)) (evxa_cons (evx_make (ta := (tCons (tVar 0) tNil)) (vs := [va]) (fs := ["promise"]) (fun H1 Q q => ⟨_, rfl, q⟩) rfl (Nat.le_of_ble_eq_true rfl) (List.cons_ne_nil _ _)) evxa_nil)))))
    refine s_setX a3 fun p4 w4 H4 s4 h4 r4 => ?_
    replace s0 := s0.trans s4
    show tSeq _ _ _ [some va, some vb, some vc, some (.ref p4)] _
    have a4 : EvXL _ [some va, some vb, some vc, some (.ref p4)] H4 _ := evxl_cat (i := 3) (qs := [(T.C_Broken, [("place", vb), ("promise", va)]), (T.C_NothingToUndo, []), (T.C_NothingToRedo, [])]) rfl h4 r4 (evxl_lst (evxa_cons (evx_make (ta := (tCons (tVar 0) (tCons (tVar 1) tNil))) (vs := [va, vb]) (fs := ["promise", "place"]) (fun H1 Q q => ⟨_, rfl, _, rfl, q⟩) rfl (Nat.le_of_ble_eq_true rfl) (List.cons_ne_nil _ _)) (evxa_cons evx_new (evxa_cons evx_new evxa_nil))))
    refine s_setX a4 fun p5 w5 H5 s5 h5 r5 => ?_
    replace s0 := s0.trans s5
    show tRet _ _ [some va, some vb, some vc, some (.ref p5)] _
    exact s_retL rfl (k _ _ _ s0 h5 r5)
end
end LW
namespace LW
open PySem L2 LB
local macro_rules | `(tactic| walk_at "hp") => `(tactic| first
  | (with_reducible assumption) | (with_reducible exact Rep.int _) | (with_reducible exact Rep.bl _) | (with_reducible exact Rep.non) | (with_reducible exact Rep.str _)
  | ((with_reducible refine' Rep.same ?kk ?hh); (case kk => with_reducible assumption); (case hh => walk_at "hp"))
  | ((with_reducible refine' Rep.kt ?kk ?hh); (case kk => with_reducible assumption); (case hh => walk_at "hp")))
local macro_rules | `(tactic| walk_at "bd") => `(tactic| first
  | (with_reducible assumption)
  | exact bd_lit (n := 64) (by decide)
  | (with_reducible refine' Bd.mul ?_ ?_) <;> walk_at "bd"
  | (with_reducible refine' Bd.add ?_ ?_) <;> walk_at "bd"
  | (with_reducible refine' Bd.sub ?_ ?_) <;> walk_at "bd"
  | (with_reducible refine' Bd.neg ?_) <;> walk_at "bd")
local macro_rules | `(tactic| walk_at "ev") => `(tactic| first
  | (with_reducible exact ev_int) | (with_reducible exact ev_bl) | (with_reducible exact ev_non) | (with_reducible exact ev_str)
  | ((with_reducible refine' ev_var ?e ?hh); (case e => rfl); (case hh => walk_at "hp"))
  | (with_reducible refine' ev_add ?_ ?_) <;> walk_at "ev"
  | (with_reducible refine' ev_sub ?_ ?_) <;> walk_at "ev"
  | ((with_reducible refine' ev_mul ?m1 ?m2 ?m3); (case m1 => walk_at "ev"); (case m2 => walk_at "ev"); (case m3 => (refine' Bd.mulW ?b1 ?b2 ?b3; (case b1 => walk_at "bd"); (case b2 => walk_at "bd"); (case b3 => decide))))
  | ((with_reducible refine' ev_ix ?m1 ?m2); (case m1 => walk_at "ev"); (case m2 => rfl))
  | ((with_reducible refine' ev_tup ?m1 ?m2); (case m1 => walk_at "eva"); (case m2 => exact Nat.le_of_ble_eq_true rfl))
  | (with_reducible refine' ev_neg ?_) <;> walk_at "ev"
  | (with_reducible refine' ev_lt ?_ ?_) <;> walk_at "ev"
  | (with_reducible refine' ev_le ?_ ?_) <;> walk_at "ev"
  | (with_reducible refine' ev_gt ?_ ?_) <;> walk_at "ev"
  | (with_reducible refine' ev_ge ?_ ?_) <;> walk_at "ev"
  | (with_reducible refine' ev_eqI ?_ ?_) <;> walk_at "ev"
  | (with_reducible refine' ev_neI ?_ ?_) <;> walk_at "ev"
  | (with_reducible refine' ev_intI ?_) <;> walk_at "eva"
  | (with_reducible refine' ev_lenT ?_) <;> walk_at "eva"
  | walk_at "evx")
local macro_rules | `(tactic| walk_at "eva") => `(tactic| first
  | (with_reducible exact eva_nil)
  | ((with_reducible refine' eva_cons ?v1 ?v2); (case v1 => walk_at "ev"); (case v2 => walk_at "eva")))
local macro_rules | `(tactic| walk_at "evx") => `(tactic| first
  | ((with_reducible refine' ev_pget ?a ?b ?c); (case a => rfl); (case b => with_reducible assumption); (case c => first | (with_reducible exact p_at _) | (with_reducible exact p_dg _) | (with_reducible exact p_ct _) | (with_reducible exact p_fo _))))
local macro_rules | `(tactic| walk_at "sh") => `(tactic| first
  | (with_reducible assumption)
  | ((with_reducible refine' ShAt.same ?hh ?kk); (case kk => with_reducible assumption); (case hh => walk_at "sh"))
  | ((with_reducible refine' ShAt.kt ?hh ?kk); (case kk => with_reducible assumption); (case hh => walk_at "sh")))
local macro_rules | `(tactic| walk_at "evx") => `(tactic| first
  | ((with_reducible refine' ev_base ?e ?h ?c ?n); (case e => rfl); (case h => walk_at "sh"); (case c => with_reducible assumption); (case n => with_reducible assumption))
  | ((with_reducible refine' ev_price ?e ?h ?c ?n); (case e => rfl); (case h => walk_at "sh"); (case c => with_reducible assumption); (case n => with_reducible assumption))
  | ((with_reducible refine' ev_steps ?e ?h ?c ?n); (case e => rfl); (case h => walk_at "sh"); (case c => with_reducible assumption); (case n => with_reducible assumption))
  | ((with_reducible refine' ev_prices ?e ?h ?c ?n); (case e => rfl); (case h => walk_at "sh"); (case c => with_reducible assumption); (case n => with_reducible assumption)))
section
variable {P : Program} {w : World} {K : Fr} {mg : Str → Option Value} {base : Heap}
/-! ### the fields -/
def FldV (H : Hp) (v : V) (fs : List V) : Prop := ∃ a, v = .ref a ∧ H a = some (.lst fs)
def FldAll (H : Hp) (vs : List V) (ps : List (List V)) : Prop := vs.length = ps.length ∧ ∀ (j : Nat) (v : V) (p : List V), vs[j]? = some v → ps[j]? = some p → FldV H v p
theorem FldAll.same {H H' : Hp} {vs : List V} {ps : List (List V)} (r : FldAll H vs ps) (s : Same H H') : FldAll H' vs ps := ⟨r.1, fun j v p e1 e2 => by
  obtain ⟨a, e, x⟩ := r.2 j v p e1 e2
  exact ⟨a, e, s _ _ x⟩⟩
theorem FldAll.append {H : Hp} {vs ws : List V} {ps qs : List (List V)} (a : FldAll H vs ps) (b : FldAll H ws qs) : FldAll H (vs ++ ws) (ps ++ qs) := ⟨by rw [List.length_append, List.length_append, a.1, b.1], fun j v p e1 e2 => by
  by_cases h : j < vs.length
  · rw [List.getElem?_append_left h] at e1
    rw [List.getElem?_append_left (by rw [← a.1]; exact h)] at e2
    exact a.2 j v p e1 e2
  · rw [List.getElem?_append_right (by omega)] at e1
    rw [List.getElem?_append_right (by rw [← a.1]; omega), ← a.1] at e2
    exact b.2 _ v p e1 e2⟩
theorem FldAll.cons {H : Hp} {v : V} {vs : List V} {p : List V} {ps : List (List V)} (a : FldV H v p) (b : FldAll H vs ps) : FldAll H (v :: vs) (p :: ps) := ⟨congrArg (· + 1) b.1, fun j u q e1 e2 => by
  cases j with
  | zero => cases e1; cases e2; exact a
  | succ j => exact b.2 j u q e1 e2⟩
theorem FldAll.nil {H : Hp} : FldAll H [] [] := ⟨rfl, fun j v p e => nomatch e⟩
def EvF (te : TE) (σ : L2.St) (H : Hp) (p : List V) : Prop := ∀ H1, Same H H1 → ∀ Q : VK, (∀ v H2, Same H1 H2 → FldV H2 v p → Q v H2) → te σ H1 Q
def EvFA (ta : TA) (σ : L2.St) (H : Hp) (ps : List (List V)) : Prop := ∀ H1, Same H H1 → ∀ Q : List V → Hp → Prop, (∀ vs H2, Same H1 H2 → FldAll H2 vs ps → Q vs H2) → ta σ H1 Q
def EvFL (te : TE) (σ : L2.St) (H : Hp) (ps : List (List V)) : Prop := ∀ H1, Same H H1 → ∀ Q : VK, (∀ l vs H2, Same H1 H2 → H2 l = some (.lst vs) → FldAll H2 vs ps → Q (.ref l) H2) → te σ H1 Q
theorem evfa_nil {σ : L2.St} {H : Hp} : EvFA tNil σ H [] := fun H1 _ Q k => k [] H1 (Same.refl H1) .nil
theorem evfa_cons {σ : L2.St} {H : Hp} {te : TE} {ta : TA} {p : List V} {ps : List (List V)} (a : EvF te σ H p) (b : EvFA ta σ H ps) : EvFA (tCons te ta) σ H (p :: ps) := fun H1 s Q k =>
  a H1 s _ fun v H2 s2 r => b H2 (s.trans s2) _ fun vs H3 s3 rs => k (v :: vs) H3 (s2.trans s3) (.cons (by obtain ⟨a, e, x⟩ := r; exact ⟨a, e, s3 _ _ x⟩) rs)
theorem evfl_lst {σ : L2.St} {H : Hp} {ta : TA} {ps : List (List V)} (a : EvFA ta σ H ps) (hl : ps.length ≤ 1000 := by exact Nat.le_of_ble_eq_true rfl) : EvFL (tLst ta) σ H ps := fun H1 s Q k =>
  a H1 s _ fun vs H2 s2 r => ⟨by rw [r.1, sizeLine_eq]; omega, fun p hp => k p vs _ (s2.trans (same_upd hp)) upd_same (r.same (same_upd hp))⟩
theorem evfl_cat {σ : L2.St} {H : Hp} {i : Nat} {l : Addr} {vs : List V} {ps qs : List (List V)} {tb : TE} (e : σ[i]? = some (some (.ref l))) (hl : H l = some (.lst vs)) (rs : FldAll H vs ps) (b : EvFL tb σ H qs) (hn : ps.length + qs.length ≤ 1000 := by exact Nat.le_of_ble_eq_true rfl) : EvFL (tOp rCat (tVar i) tb) σ H (ps ++ qs) := fun H1 s Q k =>
  ⟨_, e, b H1 s _ fun p ws H2 s2 hp r2 => ⟨l, p, vs, ws, rfl, rfl, s2 _ _ (s _ _ hl), hp, by rw [rs.1, r2.1, sizeLine_eq]; omega, fun q hq =>
    k q (vs ++ ws) _ (s2.trans (same_upd hq)) upd_same (((rs.same s).same (s2.trans (same_upd hq))).append (r2.same (same_upd hq)))⟩⟩
theorem s_setF {σ : L2.St} {H : Hp} {ta : TE} {ps : List (List V)} {i : Nat} {u : TS} {D : Ends} (a : EvFL ta σ H ps) (h : ∀ p vs H1, Same H H1 → H1 p = some (.lst vs) → FldAll H1 vs ps → u D (σ.set i (some (.ref p))) H1) : tSeq (tAsg ta (gName i)) u D σ H := a H (Same.refl H) _ h
def EvC (te : TE) (σ : L2.St) (H : Hp) (v : V) : Prop := ∀ H1, Same H H1 → ∀ Q : VK, Q v H1 → te σ H1 Q
def EvCA (ta : TA) (σ : L2.St) (H : Hp) (vs : List V) : Prop := ∀ H1, Same H H1 → ∀ Q : List V → Hp → Prop, Q vs H1 → ta σ H1 Q
theorem evca_nil {σ : L2.St} {H : Hp} : EvCA tNil σ H [] := fun H1 _ Q k => k
theorem evca_cons {σ : L2.St} {H : Hp} {te : TE} {ta : TA} {v : V} {vs : List V} (a : EvC te σ H v) (b : EvCA ta σ H vs) : EvCA (tCons te ta) σ H (v :: vs) := fun H1 s Q k => a H1 s _ (b H1 s _ k)
theorem evf_one {σ : L2.St} {H : Hp} {ta : TA} {vs : List V} (a : EvCA ta σ H vs) (hl : vs.length ≤ 1000 := by exact Nat.le_of_ble_eq_true rfl) : EvF (tLst ta) σ H vs := fun H1 s Q k => a H1 s _ ⟨by rw [sizeLine_eq]; omega, fun p hp => k _ _ (same_upd hp) ⟨p, rfl, upd_same⟩⟩
theorem evc_fld {σ : L2.St} {H : Hp} {i k : Nat} {l C : Addr} {ws : List V} {ps : List (Addr × List (Str × V))} {fs : List (Str × V)} {f : Str} {v : V} (e : σ[i]? = some (some (.ref l))) (hl : H l = some (.lst ws)) (r : RowAll H ws ps) (hk : ps[k]? = some (C, fs)) (T : ExK K C) (nf : PySem.W.findIn K (.ref C) f = some none) (lk : fs.lookup f = some v) :
    EvC (tExF K (tOp (rIxL K) (tVar i) (tC (.int (k : Int)))) f) σ H v := fun H1 s Q q => by
  have hk' : k < ws.length := by
    rw [r.1]
    exact (List.getElem?_eq_some_iff.mp hk).1
  have hw : ws[k]? = some ws[k] := by simp [hk']
  obtain ⟨a, ea, x⟩ := r.2 k _ _ hw hk
  refine ⟨_, e, l, ws, k, ws[k], rfl, rfl, SqL.of (s _ _ hl), atI_nat hw, ?_⟩
  rcases x with ⟨z, _⟩ | ⟨d, x, y⟩
  · rw [show fs = [] from z] at lk
    cases lk
  · exact ⟨a, C, d, fs, v, ea, T, nf, s _ _ x, s _ _ y, lk, q⟩
def fldAll (va vb vc : V) : List (List V) := [[va, vb], [va], [va, vb], [va], [va], [va], [va], [va], [va], [va], [va, vb, vc], [va, vb, vc], [], [va], [va], [va], [va, vb], [], []]
def spFields (T : Txt K mg) : Sp := fun vs H Q _ => ∃ (l : Addr) (ws : List V) (va vb vc : V), vs = [.ref l] ∧ H l = some (.lst ws) ∧ RowAll H ws (mkAll T va vb vc) ∧ ∀ (p : Addr) (rs : List V) (H' : Hp), Same H H' → H' p = some (.lst rs) → FldAll H' rs (fldAll va vb vc) → Q (.ref p) H'
theorem ok_fields (T : Txt K mg) : FnOk P w K mg base CX0 1 T.a_fields T.f_fields ["_law_row"] (spFields T) := by
  refine T.d_fields.F.ok sc_fields (fun vs H Q E h => ?_) (fun cdv A outer s H vs Q E hr h => ?_)
  · obtain ⟨l, ws, va, vb, vc, rfl, _⟩ := h
    rfl
  · obtain ⟨l, ws, va, vb, vc, rfl, hl, hr0, k⟩ := h
    refine ⟨_, (pss_cons (ps_set (i := 1) sc_fields.nd rfl (Or.inl rfl) (pe_lst (pa_cons (pe_lst (pa_cons (pe_exF (pe_ix (ix_lK K) (pv 0) pe_int (fun _ _ => rfl))) (pa_cons (pe_exF (pe_ix (ix_lK K) (pv 0) pe_int (fun _ _ => rfl))) pa_nil))) (pa_cons (pe_lst (pa_cons (pe_exF (pe_ix (ix_lK K) (pv 0) pe_int (fun _ _ => rfl))) pa_nil)) (pa_cons (pe_lst (pa_cons (pe_exF (pe_ix (ix_lK K) (pv 0) pe_int (fun _ _ => rfl))) (pa_cons (pe_exF (pe_ix (ix_lK K) (pv 0) pe_int (fun _ _ => rfl))) pa_nil))) (pa_cons (pe_lst (pa_cons (pe_exF (pe_ix (ix_lK K) (pv 0) pe_int (fun _ _ => rfl))) pa_nil)) (pa_cons (pe_lst (pa_cons (pe_exF (pe_ix (ix_lK K) (pv 0) pe_int (fun _ _ => rfl))) pa_nil)) pa_nil)))))))
    (pss_cons (ps_set (i := 1) sc_fields.nd rfl (Or.inl rfl) (pe_op op_cat (pv 1) (pe_lst (pa_cons (pe_lst (pa_cons (pe_exF (pe_ix (ix_lK K) (pv 0) pe_int (fun _ _ => rfl))) pa_nil)) (pa_cons (pe_lst (pa_cons (pe_exF (pe_ix (ix_lK K) (pv 0) pe_int (fun _ _ => rfl))) pa_nil)) (pa_cons (pe_lst (pa_cons (pe_exF (pe_ix (ix_lK K) (pv 0) pe_int (fun _ _ => rfl))) pa_nil)) (pa_cons (pe_lst (pa_cons (pe_exF (pe_ix (ix_lK K) (pv 0) pe_int (fun _ _ => rfl))) pa_nil)) (pa_cons (pe_lst (pa_cons (pe_exF (pe_ix (ix_lK K) (pv 0) pe_int (fun _ _ => rfl))) pa_nil)) pa_nil))))))))
    (pss_cons (ps_set (i := 1) sc_fields.nd rfl (Or.inl rfl) (pe_op op_cat (pv 1) (pe_lst (pa_cons (pe_lst (pa_cons (pe_exF (pe_ix (ix_lK K) (pv 0) pe_int (fun _ _ => rfl))) (pa_cons (pe_exF (pe_ix (ix_lK K) (pv 0) pe_int (fun _ _ => rfl))) (pa_cons (pe_exF (pe_ix (ix_lK K) (pv 0) pe_int (fun _ _ => rfl))) pa_nil)))) (pa_cons (pe_lst (pa_cons (pe_exF (pe_ix (ix_lK K) (pv 0) pe_int (fun _ _ => rfl))) (pa_cons (pe_exF (pe_ix (ix_lK K) (pv 0) pe_int (fun _ _ => rfl))) (pa_cons (pe_exF (pe_ix (ix_lK K) (pv 0) pe_int (fun _ _ => rfl))) pa_nil)))) pa_nil)))))
    (pss_one (ps_ret (pe_op op_cat (pv 1) (pe_lst (pa_cons (pe_lst pa_nil) (pa_cons (pe_lst (pa_cons (pe_exF (pe_ix (ix_lK K) (pv 0) pe_int (fun _ _ => rfl))) pa_nil)) (pa_cons (pe_lst (pa_cons (pe_exF (pe_ix (ix_lK K) (pv 0) pe_int (fun _ _ => rfl))) pa_nil)) (pa_cons (pe_lst (pa_cons (pe_exF (pe_ix (ix_lK K) (pv 0) pe_int (fun _ _ => rfl))) pa_nil)) (pa_cons (pe_lst (pa_cons (pe_exF (pe_ix (ix_lK K) (pv 0) pe_int (fun _ _ => rfl))) (pa_cons (pe_exF (pe_ix (ix_lK K) (pv 0) pe_int (fun _ _ => rfl))) pa_nil))) (pa_cons (pe_lst pa_nil) (pa_cons (pe_lst pa_nil) pa_nil)))))))))))))), ?_⟩
    try dsimp only [cxOf, List.map]
    rw [show L2.start N_fields [V.ref l] = [some (V.ref l), none] from rfl]
    have s0 := Same.refl H
    have a0 : EvFL _ [some (.ref l), none] H [[va, vb], [va], [va, vb], [va], [va]] := evfl_lst (evfa_cons (evf_one (evca_cons (evc_fld (i := 0) (k := 0) (l := l) (ws := ws) (ps := mkAll T va vb vc) (v := va) rfl (s0 _ _ hl) (hr0.same s0) rfl T.e_BadText T.n_BadText_line rfl) (evca_cons (evc_fld (i := 0) (k := 0) (l := l) (ws := ws) (ps := mkAll T va vb vc) (v := vb) rfl (s0 _ _ hl) (hr0.same s0) rfl T.e_BadText T.n_BadText_column rfl) evca_nil))) (evfa_cons (evf_one (evca_cons (evc_fld (i := 0) (k := 1) (l := l) (ws := ws) (ps := mkAll T va vb vc) (v := va) rfl (s0 _ _ hl) (hr0.same s0) rfl T.e_BadName T.n_BadName_name rfl) evca_nil)) (evfa_cons (evf_one (evca_cons (evc_fld (i := 0) (k := 2) (l := l) (ws := ws) (ps := mkAll T va vb vc) (v := va) rfl (s0 _ _ hl) (hr0.same s0) rfl T.e_BadNumber T.n_BadNumber_what rfl) (evca_cons (evc_fld (i := 0) (k := 2) (l := l) (ws := ws) (ps := mkAll T va vb vc) (v := vb) rfl (s0 _ _ hl) (hr0.same s0) rfl T.e_BadNumber T.n_BadNumber_number rfl) evca_nil))) (evfa_cons (evf_one (evca_cons (evc_fld (i := 0) (k := 3) (l := l) (ws := ws) (ps := mkAll T va vb vc) (v := va) rfl (s0 _ _ hl) (hr0.same s0) rfl T.e_BadPlace T.n_BadPlace_what rfl) evca_nil)) (evfa_cons (evf_one (evca_cons (evc_fld (i := 0) (k := 4) (l := l) (ws := ws) (ps := mkAll T va vb vc) (v := va) rfl (s0 _ _ hl) (hr0.same s0) rfl T.e_BadSheet T.n_BadSheet_what rfl) evca_nil)) evfa_nil)))))
    refine s_setF a0 fun p1 w1 H1 s1 h1 r1 => ?_
    replace s0 := s0.trans s1
    show tSeq _ _ _ [some (.ref l), some (.ref p1)] _
    have a1 : EvFL _ [some (.ref l), some (.ref p1)] H1 _ := evfl_cat (i := 1) (qs := [[va], [va], [va], [va], [va]]) rfl h1 r1 (evfl_lst (evfa_cons (evf_one (evca_cons (evc_fld (i := 0) (k := 5) (l := l) (ws := ws) (ps := mkAll T va vb vc) (v := va) rfl (s0 _ _ hl) (hr0.same s0) rfl T.e_BadJourney T.n_BadJourney_index rfl) evca_nil)) (evfa_cons (evf_one (evca_cons (evc_fld (i := 0) (k := 6) (l := l) (ws := ws) (ps := mkAll T va vb vc) (v := va) rfl (s0 _ _ hl) (hr0.same s0) rfl T.e_NoSpot T.n_NoSpot_name rfl) evca_nil)) (evfa_cons (evf_one (evca_cons (evc_fld (i := 0) (k := 7) (l := l) (ws := ws) (ps := mkAll T va vb vc) (v := va) rfl (s0 _ _ hl) (hr0.same s0) rfl T.e_NoRoad T.n_NoRoad_name rfl) evca_nil)) (evfa_cons (evf_one (evca_cons (evc_fld (i := 0) (k := 8) (l := l) (ws := ws) (ps := mkAll T va vb vc) (v := va) rfl (s0 _ _ hl) (hr0.same s0) rfl T.e_NoMap T.n_NoMap_name rfl) evca_nil)) (evfa_cons (evf_one (evca_cons (evc_fld (i := 0) (k := 9) (l := l) (ws := ws) (ps := mkAll T va vb vc) (v := va) rfl (s0 _ _ hl) (hr0.same s0) rfl T.e_TakenName T.n_TakenName_name rfl) evca_nil)) evfa_nil))))))
    refine s_setF a1 fun p2 w2 H2 s2 h2 r2 => ?_
    replace s0 := s0.trans s2
    show tSeq _ _ _ [some (.ref l), some (.ref p2)] _
    have a2 : EvFL _ [some (.ref l), some (.ref p2)] H2 _ := evfl_cat (i := 1) (qs := [[va, vb, vc], [va, vb, vc]]) rfl h2 r2 (evfl_lst (evfa_cons (evf_one (evca_cons (evc_fld (i := 0) (k := 10) (l := l) (ws := ws) (ps := mkAll T va vb vc) (v := va) rfl (s0 _ _ hl) (hr0.same s0) rfl T.e_TooMany T.n_TooMany_what rfl) (evca_cons (evc_fld (i := 0) (k := 10) (l := l) (ws := ws) (ps := mkAll T va vb vc) (v := vb) rfl (s0 _ _ hl) (hr0.same s0) rfl T.e_TooMany T.n_TooMany_many rfl) (evca_cons (evc_fld (i := 0) (k := 10) (l := l) (ws := ws) (ps := mkAll T va vb vc) (v := vc) rfl (s0 _ _ hl) (hr0.same s0) rfl T.e_TooMany T.n_TooMany_limit rfl) evca_nil)))) (evfa_cons (evf_one (evca_cons (evc_fld (i := 0) (k := 11) (l := l) (ws := ws) (ps := mkAll T va vb vc) (v := va) rfl (s0 _ _ hl) (hr0.same s0) rfl T.e_TooLarge T.n_TooLarge_what rfl) (evca_cons (evc_fld (i := 0) (k := 11) (l := l) (ws := ws) (ps := mkAll T va vb vc) (v := vb) rfl (s0 _ _ hl) (hr0.same s0) rfl T.e_TooLarge T.n_TooLarge_number rfl) (evca_cons (evc_fld (i := 0) (k := 11) (l := l) (ws := ws) (ps := mkAll T va vb vc) (v := vc) rfl (s0 _ _ hl) (hr0.same s0) rfl T.e_TooLarge T.n_TooLarge_limit rfl) evca_nil)))) evfa_nil)))
    refine s_setF a2 fun p3 w3 H3 s3 h3 r3 => ?_
    replace s0 := s0.trans s3
    show tRet _ _ [some (.ref l), some (.ref p3)] _
    have a3 : EvFL _ [some (.ref l), some (.ref p3)] H3 _ := evfl_cat (i := 1) (qs := [[], [va], [va], [va], [va, vb], [], []]) rfl h3 r3 (evfl_lst (evfa_cons (evf_one evca_nil) (evfa_cons (evf_one (evca_cons (evc_fld (i := 0) (k := 13) (l := l) (ws := ws) (ps := mkAll T va vb vc) (v := va) rfl (s0 _ _ hl) (hr0.same s0) rfl T.e_Unlike T.n_Unlike_what rfl) evca_nil)) (evfa_cons (evf_one (evca_cons (evc_fld (i := 0) (k := 14) (l := l) (ws := ws) (ps := mkAll T va vb vc) (v := va) rfl (s0 _ _ hl) (hr0.same s0) rfl T.e_BadPromise T.n_BadPromise_promise rfl) evca_nil)) (evfa_cons (evf_one (evca_cons (evc_fld (i := 0) (k := 15) (l := l) (ws := ws) (ps := mkAll T va vb vc) (v := va) rfl (s0 _ _ hl) (hr0.same s0) rfl T.e_NotKept T.n_NotKept_promise rfl) evca_nil)) (evfa_cons (evf_one (evca_cons (evc_fld (i := 0) (k := 16) (l := l) (ws := ws) (ps := mkAll T va vb vc) (v := va) rfl (s0 _ _ hl) (hr0.same s0) rfl T.e_Broken T.n_Broken_promise rfl) (evca_cons (evc_fld (i := 0) (k := 16) (l := l) (ws := ws) (ps := mkAll T va vb vc) (v := vb) rfl (s0 _ _ hl) (hr0.same s0) rfl T.e_Broken T.n_Broken_place rfl) evca_nil))) (evfa_cons (evf_one evca_nil) (evfa_cons (evf_one evca_nil) evfa_nil))))))))
    exact a3 _ (Same.refl _) _ fun p rs H' s' hp rr => k p rs H' (s0.trans s') hp rr
end
end LW
namespace LW
open PySem L2 LB
local macro_rules | `(tactic| walk_at "hp") => `(tactic| first
  | (with_reducible assumption) | (with_reducible exact Rep.int _) | (with_reducible exact Rep.bl _) | (with_reducible exact Rep.non) | (with_reducible exact Rep.str _)
  | ((with_reducible refine' Rep.same ?kk ?hh); (case kk => with_reducible assumption); (case hh => walk_at "hp"))
  | ((with_reducible refine' Rep.kt ?kk ?hh); (case kk => with_reducible assumption); (case hh => walk_at "hp")))
local macro_rules | `(tactic| walk_at "bd") => `(tactic| first
  | (with_reducible assumption)
  | exact bd_lit (n := 64) (by decide)
  | (with_reducible refine' Bd.mul ?_ ?_) <;> walk_at "bd"
  | (with_reducible refine' Bd.add ?_ ?_) <;> walk_at "bd"
  | (with_reducible refine' Bd.sub ?_ ?_) <;> walk_at "bd"
  | (with_reducible refine' Bd.neg ?_) <;> walk_at "bd")
local macro_rules | `(tactic| walk_at "ev") => `(tactic| first
  | (with_reducible exact ev_int) | (with_reducible exact ev_bl) | (with_reducible exact ev_non) | (with_reducible exact ev_str)
  | ((with_reducible refine' ev_var ?e ?hh); (case e => rfl); (case hh => walk_at "hp"))
  | (with_reducible refine' ev_add ?_ ?_) <;> walk_at "ev"
  | (with_reducible refine' ev_sub ?_ ?_) <;> walk_at "ev"
  | ((with_reducible refine' ev_mul ?m1 ?m2 ?m3); (case m1 => walk_at "ev"); (case m2 => walk_at "ev"); (case m3 => (refine' Bd.mulW ?b1 ?b2 ?b3; (case b1 => walk_at "bd"); (case b2 => walk_at "bd"); (case b3 => decide))))
  | ((with_reducible refine' ev_ix ?m1 ?m2); (case m1 => walk_at "ev"); (case m2 => rfl))
  | ((with_reducible refine' ev_tup ?m1 ?m2); (case m1 => walk_at "eva"); (case m2 => exact Nat.le_of_ble_eq_true rfl))
  | (with_reducible refine' ev_neg ?_) <;> walk_at "ev"
  | (with_reducible refine' ev_lt ?_ ?_) <;> walk_at "ev"
  | (with_reducible refine' ev_le ?_ ?_) <;> walk_at "ev"
  | (with_reducible refine' ev_gt ?_ ?_) <;> walk_at "ev"
  | (with_reducible refine' ev_ge ?_ ?_) <;> walk_at "ev"
  | (with_reducible refine' ev_eqI ?_ ?_) <;> walk_at "ev"
  | (with_reducible refine' ev_neI ?_ ?_) <;> walk_at "ev"
  | (with_reducible refine' ev_intI ?_) <;> walk_at "eva"
  | (with_reducible refine' ev_lenT ?_) <;> walk_at "eva"
  | walk_at "evx")
local macro_rules | `(tactic| walk_at "eva") => `(tactic| first
  | (with_reducible exact eva_nil)
  | ((with_reducible refine' eva_cons ?v1 ?v2); (case v1 => walk_at "ev"); (case v2 => walk_at "eva")))
local macro_rules | `(tactic| walk_at "evx") => `(tactic| first
  | ((with_reducible refine' ev_pget ?a ?b ?c); (case a => rfl); (case b => with_reducible assumption); (case c => first | (with_reducible exact p_at _) | (with_reducible exact p_dg _) | (with_reducible exact p_ct _) | (with_reducible exact p_fo _))))
local macro_rules | `(tactic| walk_at "sh") => `(tactic| first
  | (with_reducible assumption)
  | ((with_reducible refine' ShAt.same ?hh ?kk); (case kk => with_reducible assumption); (case hh => walk_at "sh"))
  | ((with_reducible refine' ShAt.kt ?hh ?kk); (case kk => with_reducible assumption); (case hh => walk_at "sh")))
local macro_rules | `(tactic| walk_at "evx") => `(tactic| first
  | ((with_reducible refine' ev_base ?e ?h ?c ?n); (case e => rfl); (case h => walk_at "sh"); (case c => with_reducible assumption); (case n => with_reducible assumption))
  | ((with_reducible refine' ev_price ?e ?h ?c ?n); (case e => rfl); (case h => walk_at "sh"); (case c => with_reducible assumption); (case n => with_reducible assumption))
  | ((with_reducible refine' ev_steps ?e ?h ?c ?n); (case e => rfl); (case h => walk_at "sh"); (case c => with_reducible assumption); (case n => with_reducible assumption))
  | ((with_reducible refine' ev_prices ?e ?h ?c ?n); (case e => rfl); (case h => walk_at "sh"); (case c => with_reducible assumption); (case n => with_reducible assumption)))
section
variable {P : Program} {w : World} {K : Fr} {mg : Str → Option Value} {base : Heap}
/-! ### the law -/
theorem call_isiK {X : Cx} (K : Fr) (h : X.K = K) : CallR X (.builtin "isinstance") (rIsi K) := by subst h; exact call_isi
theorem for_enum {K : Fr} {a : Addr} {xs : List V} {g : TG} {tb : TS} {D : Ends} {σ : L2.St} {H : Hp} (Pv : Nat → L2.St → Hp → Prop) (h0 : Pv 0 σ H) (hq : ∀ i σ H, i ≤ xs.length → Pv i σ H → SqL K H a xs)
    (hs : ∀ i x T σ H, xs[i]? = some x → Pv i σ H → H T = none → g (.ref T) σ (upd H T (.tup [.int (i : Nat), x])) fun σ2 H2 => tb { D with nx := Pv (i + 1), ct := Pv (i + 1), bk := D.nx } σ2 H2)
    (hd : ∀ σ H, Pv xs.length σ H → D.nx σ H) :
    ∃ W : Nat → Nat → L2.St → Hp → Prop, (∃ m, W 0 m σ H) ∧ ∀ i m σ H, W i m σ H →
      ((Ite K a).stop i H ∧ D.nx σ H) ∨ ((Ite K a).go i H ∧ ∃ N : L2.St → Hp → Prop, (∀ σ' H', N σ' H' → ∃ m', m' < m ∧ W (i + 1) m' σ' H') ∧ ∀ x H', (Ite K a).yld i H x H' → g x σ H' fun σ2 H2 => tb { D with nx := N, ct := N, bk := D.nx } σ2 H2) := by
  refine ⟨fun i m σ H => m = xs.length - i ∧ i ≤ xs.length ∧ Pv i σ H, ⟨xs.length, rfl, Nat.zero_le _, h0⟩, ?_⟩
  rintro i m σ H ⟨rfl, hi, p⟩
  have q := hq i σ H hi p
  rcases Nat.lt_or_ge i xs.length with lt | ge
  · refine .inr ⟨⟨xs, xs[i], q, by simp [lt]⟩, Pv (i + 1), fun σ' H' p' => ⟨_, ?_, rfl, lt, p'⟩, ?_⟩
    · omega
    · rintro v H' ⟨T, x, rfl, hT, rfl, ex⟩
      exact hs i x T σ H (ex xs q) p hT
  · have e : i = xs.length := Nat.le_antisymm hi ge
    subst e
    exact .inl ⟨⟨xs, q, Nat.le_refl _⟩, hd σ H p⟩
/-- values drawn into a list -/
theorem lc_penG {J : It} {m : Nat} {G0 : Hp → Prop} {Y : Nat → Hp → V → Hp → Prop} {K : Fr} (w : Walk J m G0 Y) {te : TE} {i : Nat} {σ : L2.St} {H1 : Hp} {D : Addr} {Qd : Hp → Prop} {c d : Addr} {n0 k : Nat}
    (hm : m ≤ 1000) (hD : H1 D = none) (P : PenAt c H1 d n0) (hG : ∀ H, Kd d H1 H → G0 H) (hY : ∀ i H x H', Y i H x H' → H' = H)
    (he : ∀ (v : V) (H : Hp) (n : Nat), PenAt c H d n → n ≤ n0 + m * k → Kd d H1 H → ∀ Q : VK, (∀ y x H', Gv K (fun l => H l = none) H' y x → Kd d H H' → PenAt c H' d (n + k) → Q y H') → te ((wipe σ [i]).set i (some v)) H Q)
    (kf : ∀ (ws : List V) H, ws.length = m → Kd d H1 H → PenAt c H d (n0 + m * k) → H D = some (.lst ws) → (∀ y ∈ ws, ∃ x, Gv K (· ≠ D) H y x) → Qd H) :
    ∃ W : Nat → Nat → Hp → Prop, (∃ m, W 0 m (upd H1 D (.lst []))) ∧ ∀ i' m H, W i' m H →
      (J.stop i' H ∧ Qd H) ∨ (J.go i' H ∧ ∃ Nx : Hp → Prop, (∀ H', Nx H' → ∃ m', m' < m ∧ W (i' + 1) m' H') ∧ ∀ x H', J.yld i' H x H' → gName i x (wipe σ [i]) H' fun σ2 H2 => wipe σ2 [i] = wipe σ [i] ∧ tYes σ2 H2 fun b H3 =>
        if b = true then te σ2 H3 fun y H4 => ∃ acc, H4 D = some (.lst acc) ∧ acc.length < sizeLine ∧ Nx (upd H4 D (.lst (acc ++ [y]))) else Nx H3) := by
  obtain ⟨nd, nc⟩ := P.ned hD
  have kn : ∀ {H : Hp} {o : HO}, Kd d H1 H → Kd d H1 (upd H D o) := fun {H o} s b u e ne => by
    rw [upd_ne (ne_of_none e hD)]; exact s b u e ne
  have gn : ∀ {H : Hp} {y : V} {x : PD} {a b : List V}, H D = some (.lst a) → Gv K (· ≠ D) H y x → Gv K (· ≠ D) (upd H D (.lst b)) y x := fun {H y x a b} e g => by
    obtain ⟨kx, r | ⟨l, z, rfl, h, rfl, hN⟩⟩ := g
    · exact ⟨kx, .inl (r.kt (kt_lst e))⟩
    · exact ⟨kx, .inr ⟨l, z, rfl, by rw [upd_ne hN]; exact h, rfl, hN⟩⟩
  refine lc_it w (fun j H => Kd d H1 H ∧ PenAt c H d (n0 + j * k) ∧ ∃ acc, H D = some (.lst acc) ∧ acc.length = j ∧ ∀ y ∈ acc, ∃ x, Gv K (· ≠ D) H y x) ?_ (fun j H _ p => hG H p.1) ?_ ?_
  · exact ⟨kn (Kd.refl H1), by rw [Nat.zero_mul]; exact P.upd nd nc, [], upd_same, rfl, by simp⟩
  · rintro j x H H' hj ⟨s1, Pj, acc, ha, hx, ra⟩ y
    have e := hY j H x H' y
    subst e
    refine ⟨wipe1, ?_⟩
    dsimp only [tYes]
    rw [if_pos rfl]
    refine he x H' _ Pj ?_ s1 _ fun y x H4 gx s4 P4 => ?_
    · exact Nat.add_le_add_left (Nat.mul_le_mul_right k (by omega)) n0
    have hD4 : H4 D = some (.lst acc) := s4 _ _ ha nd
    refine ⟨acc, hD4, ?_, kn (s1.trans s4), ?_, acc ++ [y], upd_same, by simp [hx], ?_⟩
    · exact small1000 (by omega)
    · have e : n0 + (j + 1) * k = n0 + j * k + k := by rw [Nat.add_mul, Nat.one_mul, Nat.add_assoc]
      rw [e]
      exact P4.upd nd nc
    · intro z hz
      rcases List.mem_append.mp hz with q | q
      · obtain ⟨u, g⟩ := ra z q
        exact ⟨u, gn hD4 (g.pen Pj s4)⟩
      · simp at q
        subst q
        refine ⟨x, gn hD4 ?_⟩
        obtain ⟨kx, r | ⟨l, v, e1, h, e2, hN⟩⟩ := gx
        · exact ⟨kx, .inl r⟩
        · exact ⟨kx, .inr ⟨l, v, e1, h, e2, fun z => by rw [z, ha] at hN; cases hN⟩⟩
  · rintro H ⟨s1, Pj, acc, ha, hx, ra⟩
    exact kf acc H hx s1 Pj ha ra
/-! a list that need not be new -/
def EvM (K : Fr) (te : TE) (σ : L2.St) (H : Hp) (ds : List PD) : Prop := ∀ H1, Same H H1 → ∀ Q : VK, (∀ p vs H2, Same H1 H2 → H2 p = some (.lst vs) → RepAll K H2 vs ds → Q (.ref p) H2) → te σ H1 Q
theorem evb_neM {K : Fr} {σ : L2.St} {H : Hp} {ta tb : TE} {ds es : List PD} (a : EvM K ta σ H ds) (b : EvM K tb σ H es) (p1 : PyData.plain (.list ds) = true) (p2 : PyData.plain (.list es) = true) (dd : (PyData.list ds).depth ≤ 60) : EvB (tTest (tOp (rNeP K) ta tb)) σ H (!PyData.eqv (.list ds) (.list es)) := fun H1 s Q k =>
  a H1 s _ fun p vs H2 s2 hp rs => b H2 (s.trans s2) _ fun q ws H3 s3 hq rs' => ⟨.list ds, .list es, .lst (SqL.of (s3 _ _ hp)) (rs.same s3).dp, .lst (SqL.of hq) rs'.dp, p1, p2, dd, _, rfl, k H3 (s2.trans s3)⟩
/-- [e for j in range(n)] -/
theorem evm_rng {K : Fr} {σ : L2.St} {H : Hp} {i n : Nat} {ta : TA} {te : TE} {es : List PD} (a : EvA K ta σ H [.int n]) (hn : es.length = n) (hl : n ≤ 1000)
    (h : ∀ (j : Nat) (H1 : Hp), j < n → Same H H1 → ∃ e, es[j]? = some e ∧ Ev K te ((wipe σ [i]).set i (some (.int (0 + (j : Int))))) H1 e) : EvM K (tLc (iRng1 ta) (gName i) tYes te [i]) σ H es := fun H1 s Q k =>
  a H1 s _ fun vs H2 s2 rs => by
    obtain ⟨v, rfl, rv⟩ := rs.inv1
    cases rv.int_inv
    refine ⟨n, rfl, by omega, by omega, fun D hD => ?_⟩
    rw [Int.toNat_natCast]
    refine lc_pure (K := K) (walk_range (lo := 0) (n := n)) es hn hl hD (fun H s => trivial) (fun i x H H' _ y => by rw [y.1]; exact Same.refl H) ?_ gName_mono (fun ws H3 s3 e3 r3 => k D ws H3 (s2.trans s3) e3 r3)
    rintro j x H3 H4 hj s3 s4 ⟨rfl, rfl⟩
    obtain ⟨e, ee, ev⟩ := h j H4 hj ((s.trans s2).trans s3)
    exact ⟨wipe1, rfl, e, ee, ev⟩
theorem ev_isXT {K : Fr} {σ : L2.St} {H : Hp} {i : Nat} {a D : Addr} {C : String} {b : Bool} (e : σ[i]? = some (some (.ref a))) (T : ExK K D) (x : ExAt H a D) (h : PySem.W.kitOne K (.ref D) (.type C) = some b) :
    Ev K (tCB (rIsX K) (tCons (tVar i) (tCons (tC (.ty C)) tNil))) σ H (.bool b) := fun H1 s Q k =>
  ⟨_, e, a, D, .ty C, .type C, b, rfl, T, exAt_same x s, fun u r => r, h, k _ H1 (Same.refl H1) (.bl b)⟩
theorem mk_cs (T : Txt K mg) (va vb vc : V) : (mkAll T va vb vc).map Prod.fst = cs T := rfl
/-- len of a list -/
theorem ev_lenL {K : Fr} {σ : L2.St} {H : Hp} {i : Nat} {l : Addr} {vs : List V} (e : σ[i]? = some (some (.ref l))) (hl : H l = some (.lst vs)) : Ev K (tCB (fun xs H Q => ∃ p ys, xs = [.ref p] ∧ (SqL K H p ys ∨ SqT K H p ys) ∧ Q (.int ys.length) H) (tCons (tVar i) tNil)) σ H (.int vs.length) := fun H1 s Q k =>
  ⟨_, e, l, vs, rfl, .inl (SqL.of (s _ _ hl)), k _ H1 (Same.refl H1) (.int _)⟩
/-- data of the values -/
theorem dpa {K : Fr} {H : Hp} {N : Addr → Prop} : ∀ {vs : List V} {ds : List PD}, vs.length = ds.length → (∀ (j : Nat) (v : V) (d : PD), vs[j]? = some v → ds[j]? = some d → Gv K N H v d) → DpAll K H vs ds
  | [], [], _, _ => .nil
  | v :: vs, d :: ds, l, h => .cons (h 0 v d rfl rfl).dp (dpa (by simpa using l) fun j => h (j + 1))
theorem plainAll_map {α : Type} (f : α → PD) (h : ∀ x, (f x).plain = true) : ∀ l : List α, PyData.plainAll (l.map f) = true
  | [] => rfl
  | x :: l => by rw [List.map, PyData.plainAll, h x, plainAll_map f h l]; rfl
theorem depthAll_map {α : Type} {n : Nat} (f : α → PD) (h : ∀ x, (f x).depth ≤ n) : ∀ l : List α, PyData.depthAll (l.map f) ≤ n
  | [] => Nat.zero_le _
  | x :: l => by rw [List.map, PyData.depthAll]; exact Nat.max_le.mpr ⟨h x, depthAll_map f h l⟩
theorem dKinds_plain (i : Nat) : PyData.plain (.list (dKinds i)) = true := by rw [PyData.plain]; exact plainAll_map _ (fun _ => rfl) _
theorem dKinds_depth (i : Nat) : (PyData.list (dKinds i)).depth ≤ 60 := by
  have := depthAll_map (n := 0) (fun j => PyData.bool (decide (j = i))) (fun _ => Nat.le_refl _) (List.range 19)
  rw [PyData.depth]
  unfold dKinds
  omega
def sizes : List Int := ([2, 1, 2, 1, 1, 1, 1, 1, 1, 1, 3, 3, 0, 1, 1, 1, 2, 0, 0] : List Int)
theorem fld_size (va vb vc : V) (i : Nat) (h : i < 19) : ∃ m : Nat, m ≤ 3 ∧ (fldAll va vb vc)[i]? = some ([va, vb, vc].take m) ∧ sizes[i]? = some (m : Int) := by
  match i, h with
  | 0, _ => exact ⟨2, by decide, rfl, rfl⟩
  | 1, _ => exact ⟨1, by decide, rfl, rfl⟩
  | 2, _ => exact ⟨2, by decide, rfl, rfl⟩
  | 3, _ => exact ⟨1, by decide, rfl, rfl⟩
  | 4, _ => exact ⟨1, by decide, rfl, rfl⟩
  | 5, _ => exact ⟨1, by decide, rfl, rfl⟩
  | 6, _ => exact ⟨1, by decide, rfl, rfl⟩
  | 7, _ => exact ⟨1, by decide, rfl, rfl⟩
  | 8, _ => exact ⟨1, by decide, rfl, rfl⟩
  | 9, _ => exact ⟨1, by decide, rfl, rfl⟩
  | 10, _ => exact ⟨3, by decide, rfl, rfl⟩
  | 11, _ => exact ⟨3, by decide, rfl, rfl⟩
  | 12, _ => exact ⟨0, by decide, rfl, rfl⟩
  | 13, _ => exact ⟨1, by decide, rfl, rfl⟩
  | 14, _ => exact ⟨1, by decide, rfl, rfl⟩
  | 15, _ => exact ⟨1, by decide, rfl, rfl⟩
  | 16, _ => exact ⟨2, by decide, rfl, rfl⟩
  | 17, _ => exact ⟨0, by decide, rfl, rfl⟩
  | 18, _ => exact ⟨0, by decide, rfl, rfl⟩
  | j + 19, h => exact absurd h (by omega)
theorem cut3 (va vb vc : V) {m : Nat} (h : m ≤ 3) : cutV [va, vb, vc] none (some (m : Int)) = [va, vb, vc].take m := by
  match m, h with
  | 0, _ => rfl
  | 1, _ => rfl
  | 2, _ => rfl
  | 3, _ => rfl
theorem iteF' {b : Bool} {p q : Prop} (h : b = false) (x : q) : if b = true then p else q := by subst h; exact iteF x
/-- nothing of two lists is unlike -/
theorem evm_unlike {K : Fr} {σ : L2.St} {H : Hp} {i j l1 l2 : Nat} {p q : Addr} {xs ys : List V} (hij : l1 ≠ l2) (h1 : l1 < σ.length) (h2 : l2 < σ.length) (e1 : σ[i]? = some (some (.ref p))) (e2 : σ[j]? = some (some (.ref q))) (hp : H p = some (.lst xs)) (hq : H q = some (.lst ys))
    (h : ∀ (m : Nat) (x y : V) (H1 : Hp), xs[m]? = some x → ys[m]? = some y → Same H H1 → x = y ∧ ∃ t b, TyX K H1 x (.type t) ∧ kitB t "bool" = some b) :
    EvM K (tLc (RZ.iZipA K (tCons (tVar i) (tCons (tVar j) tNil))) (gTup K 2 (gCons (gName l1) (gCons (gName l2) gNil))) (tTest (tOp rNe (tCB (rIsi K) (tCons (tVar l1) (tCons (tC (.ty "bool")) tNil))) (tCB (rIsi K) (tCons (tVar l2) (tCons (tC (.ty "bool")) tNil))))) (tC (.int 1)) [l1, l2]) σ H [] := fun H1 s Q k => by
  refine ⟨_, e1, _, e2, p, q, xs, ys, rfl, .inl ⟨SqL.of (s _ _ hp), SqL.of (s _ _ hq), fun D hD => ?_⟩⟩
  refine lc_it (walk_zip rfl) (fun _ H => Same H1 H ∧ H D = some (.lst [])) ⟨same_new hD (Same.refl H1), upd_same⟩ (fun m H3 _ ⟨s3, _⟩ => ⟨SqL.of (s3 _ _ (s _ _ hp)), SqL.of (s3 _ _ (s _ _ hq))⟩) ?_ (fun H3 ⟨s3, h3⟩ => k D [] H3 s3 h3 .nil)
  rintro m x H3 H4 hm ⟨s3, h3⟩ ⟨T, x1, y1, rfl, hT, rfl, hx, hy⟩
  refine ⟨T, [x1, y1], rfl, SqT.of upd_same, rfl, x1, [y1], rfl, y1, [], rfl, rfl, wipe2 hij, ?_⟩
  obtain ⟨rfl, t, b, ty, kb⟩ := h m x1 y1 _ hx hy ((s.trans s3).trans (same_upd (o := .tup [x1, y1]) hT))
  have g1 : (((wipe σ [l1, l2]).set l1 (some x1)).set l2 (some x1))[l1]? = some (some x1) := by
    rw [List.getElem?_set_ne (Ne.symm hij), List.getElem?_set_self]
    show l1 < ((σ.set l2 none).set l1 none).length
    simpa using h1
  have g2 : (((wipe σ [l1, l2]).set l1 (some x1)).set l2 (some x1))[l2]? = some (some x1) := by
    rw [List.getElem?_set_self]
    show l2 < (((σ.set l2 none).set l1 none).set l1 (some x1)).length
    simpa using h2
  refine ⟨_, g1, x1, .ty "bool", _, _, b, rfl, .ty "bool", ty, kit_ty kb, ?_⟩
  refine ⟨_, g2, x1, .ty "bool", _, _, b, rfl, .ty "bool", ty, kit_ty kb, ?_⟩
  refine ⟨rfl, _, rfl, iteF' (by simp) ?_⟩
  refine ⟨s3.trans (same_upd hT), ?_⟩
  rw [upd_ne (ne_of_none h3 hT)]
  exact h3
theorem ok_lawX (T : Txt K mg) (TA : ∀ (i : Nat) (D : Addr), (cs T)[i]? = some D → ExK K D) : FnOk P w K mg base CX0 10 T.a_law T.f_law ["_law_script"] (spLaw K) := by
  refine T.d_law.F.ok sc_law (fun vs H Q E h => ?_) (fun cdv A outer s H vs Q E hr h => ?_)
  · obtain ⟨a, ns, rfl, _⟩ := h
    rfl
  · obtain ⟨a, ns, rfl, hS, hlen, k⟩ := h
    have hu := hu_of hr
    have hu64 : (A.deeper (PyProof.Rows.envOfC "law" (defScope s_law) s.heap.objs.size T.a_law cdv)).units + 64 < cLine := by
      have := hr.un
      omega
    refine ⟨_, (pss_cons (ps_set (i := 1) sc_law.nd rfl (Or.inr rfl) (pe_call (ok_pen T) (hr.mono (by decide)) rfl T.d_pen.m T.d_pen.F.kp T.d_pen.b .nil pass0 (pa_cons (pv 0) pa_nil)))
    (pss_cons (ps_setLc (i := 2) (own := [("_law_k", 4)]) (g := gName 4) rfl sc_law.nd rfl rfl (sw_true rfl rfl rfl (by decide +kernel)) (pi_range1 rfl T.z_range (pa_cons pe_int pa_nil)) (blkOk_by (N := N_law) (sc := defScope s_law) (by decide +kernel)) (fun _ _ _ _ _ => (pg_name (i := 4) sc_law.nd rfl (Or.inl rfl))) (fun _ _ _ _ _ => pts_nil) (fun _ _ _ _ _ => (pe_call (ok_value T) (hr.mono (by decide)) rfl T.d_value.m T.d_value.F.kp T.d_value.b .nil pass0 (pa_cons (pv 1) pa_nil))))
    (pss_cons (ps_set (i := 3) sc_law.nd rfl (Or.inl rfl) (pe_call (ok_made T) (hr.mono (by decide)) rfl T.d_made.m T.d_made.F.kp T.d_made.b .nil pass0 (pa_cons (pe_ix (ix_lK K) (pv 2) pe_int (fun _ _ => rfl)) (pa_cons (pe_ix (ix_lK K) (pv 2) pe_int (fun _ _ => rfl)) (pa_cons (pe_ix (ix_lK K) (pv 2) pe_int (fun _ _ => rfl)) pa_nil)))))
    (pss_cons (ps_for PassesOwn.never rfl (pi_enum rfl T.z_enumerate (pa_cons (pv 3) pa_nil)) (pg_tup rfl (pgs_cons (pg_name (i := 4) sc_law.nd rfl (Or.inr rfl)) (pgs_cons (pg_name (i := 5) sc_law.nd rfl (Or.inl rfl)) pgs_nil)))
    (pss_cons (ps_if (PW.pt (pw_or (pt_not (pt_val (pe_callB call_isX (by rfl) T.z_isinstance (by decide +kernel) (pa_cons (pv 5) (pa_cons (pe_glob (v := .ref T.C_JourneyError) (u := .ref T.C_JourneyError) rfl T.g_JourneyError rfl) pa_nil))))) (pw_or1 (pt_not (pt_val (pe_callB call_isX (by rfl) T.z_isinstance (by decide +kernel) (pa_cons (pv 5) (pa_cons (pe_bltn (v := .ty "ValueError") (u := .type "ValueError") rfl T.z_ValueError (by decide +kernel) rfl) pa_nil)))))))) (pss_one (ps_ret pe_bl)) pss_nil)
    (pss_one (ps_if (pt_cmpR (op_nePK K rfl hu64) (pe_call (ok_kinds T) (hr.mono (by decide)) rfl T.d_kinds.m T.d_kinds.F.kp T.d_kinds.b .nil pass0 (pa_cons (pv 5) pa_nil)) (pe_lc (own := [("_law_j", 10)]) (g := gName 10) rfl sc_law.nd (pi_range1 rfl T.z_range (pa_cons (pe_callB call_len_seq (by rfl) T.z_len (by decide +kernel) (pa_cons (pv 3) pa_nil)) pa_nil)) (blkOk_by (N := N_law) (sc := defScope s_law) (by decide +kernel)) (fun _ _ _ _ _ => (pg_name (i := 10) sc_law.nd rfl (Or.inl rfl))) (fun _ _ _ _ _ => pts_nil) (fun _ _ _ _ _ => (pe_cmpR op_eq (pv 10) (pv 4) (nomark _)))) (nomark _)) (pss_one (ps_ret pe_bl)) pss_nil))))
    (pss_cons (ps_set (i := 6) sc_law.nd rfl (Or.inl rfl) (pe_call (ok_fields T) (hr.mono (by decide)) rfl T.d_fields.m T.d_fields.F.kp T.d_fields.b .nil pass0 (pa_cons (pv 3) pa_nil)))
    (pss_cons (ps_set (i := 7) sc_law.nd rfl (Or.inl rfl) (pe_lst (pa_cons pe_int (pa_cons pe_int (pa_cons pe_int (pa_cons pe_int (pa_cons pe_int (pa_cons pe_int (pa_cons pe_int (pa_cons pe_int (pa_cons pe_int (pa_cons pe_int (pa_cons pe_int (pa_cons pe_int (pa_cons pe_int (pa_cons pe_int (pa_cons pe_int (pa_cons pe_int (pa_cons pe_int (pa_cons pe_int (pa_cons pe_int pa_nil)))))))))))))))))))))
    (pss_cons (ps_for PassesOwn.never rfl (RZ.pi_zipA rfl T.z_zip (pa_cons (pv 6) (pa_cons (pv 7) pa_nil))) (pg_tup rfl (pgs_cons (pg_name (i := 8) sc_law.nd rfl (Or.inl rfl)) (pgs_cons (pg_name (i := 9) sc_law.nd rfl (Or.inl rfl)) pgs_nil)))
    (pss_cons (ps_if (PW.pt (pw_or (pt_cmpR op_ne (pe_callB call_len_seq (by rfl) T.z_len (by decide +kernel) (pa_cons (pv 8) pa_nil)) (pv 9) (nomark _)) (pw_or1 (pt_cmpR (op_nePK K rfl hu64) (pv 8) (pe_slice sl_list (pv 2) po_none (po_some (pv 9))) (nomark _))))) (pss_one (ps_ret pe_bl)) pss_nil)
    (pss_one (ps_if (pt_cmpR (op_nePK K rfl hu64) (pe_lc (own := [("_law_one", 11), ("_law_two", 12)]) (g := gTup _ 2 (gCons (gName 11) (gCons (gName 12) gNil))) rfl sc_law.nd (RZ.pi_zipA rfl T.z_zip (pa_cons (pv 8) (pa_cons (pv 2) pa_nil))) (blkOk_by (N := N_law) (sc := defScope s_law) (by decide +kernel)) (fun _ _ _ _ _ => (pg_tup rfl (pgs_cons (pg_name (i := 11) sc_law.nd rfl (Or.inl rfl)) (pgs_cons (pg_name (i := 12) sc_law.nd rfl (Or.inl rfl)) pgs_nil)))) (fun _ _ _ _ _ => (pts_one (pt_cmpR op_ne (pe_callB (call_isiK K rfl) (by rfl) T.z_isinstance (by decide +kernel) (pa_cons (pv 11) (pa_cons (pe_bltn (v := .ty "bool") (u := .type "bool") rfl T.z_bool (by decide +kernel) rfl) pa_nil))) (pe_callB (call_isiK K rfl) (by rfl) T.z_isinstance (by decide +kernel) (pa_cons (pv 12) (pa_cons (pe_bltn (v := .ty "bool") (u := .type "bool") rfl T.z_bool (by decide +kernel) rfl) pa_nil))) (nomark _)))) (fun _ _ _ _ _ => pe_int)) (pe_lst pa_nil) (nomark _)) (pss_one (ps_ret pe_bl)) pss_nil))))
    (pss_one (ps_ret pe_bl))))))))), ?_⟩
    try dsimp only [cxOf, List.map]
    rw [show L2.start N_law [V.ref a] = [some (V.ref a), none, none, none, none, none, none, none, none, none, none, none, none] from rfl]
    -- the pen
    refine ⟨_, rfl, a, ns, rfl, hS, fun c d H1 s1 P1 => ?_⟩
    try dsimp only [gName]
    rw [show ([some (V.ref a), none, none, none, none, none, none, none, none, none, none, none, none] : L2.St).set 1 (some (V.ref d)) = [some (V.ref a), some (V.ref d), none, none, none, none, none, none, none, none, none, none, none] from rfl]
    -- the values
    refine ⟨3, rfl, by decide, by decide, fun D hD => ?_⟩
    refine lc_penG (K := K) (m := 3) (walk_range (lo := 0) (n := 3)) (c := c) (d := d) (n0 := 0) (k := 20) (by decide) hD P1 (fun H kd => trivial) (fun i H x H' y => y.1) ?_ ?_
    · intro v H4 n4 P4 hn4 k4 Q4 kk
      refine ⟨_, rfl, c, d, n4, rfl, P4, by omega, fun v x H' g kd P' => kk v x H' g kd P'⟩
    intro ws H2 lw k2 P2 hD2 gv
    obtain ⟨va, vb, vc, rfl⟩ := len3 lw
    obtain ⟨da, ga⟩ := gv va (by simp)
    obtain ⟨db, gb⟩ := gv vb (by simp)
    obtain ⟨dc, gc⟩ := gv vc (by simp)
    try dsimp only [gName]
    show tSeq _ _ _ [some (V.ref a), some (V.ref d), some (V.ref D), none, none, none, none, none, none, none, none, none, none] H2
    -- one of each
    refine ⟨_, rfl, D, [va, vb, vc], 0, va, rfl, rfl, SqL.of hD2, rfl, ?_⟩
    refine ⟨_, rfl, D, [va, vb, vc], 1, vb, rfl, rfl, SqL.of hD2, rfl, ?_⟩
    refine ⟨_, rfl, D, [va, vb, vc], 2, vc, rfl, rfl, SqL.of hD2, rfl, ?_⟩
    refine ⟨va, vb, vc, rfl, fun p ws H3 s3 hp3 hr3 => ?_⟩
    try dsimp only [gName]
    show tSeq _ _ _ [some (V.ref a), some (V.ref d), some (V.ref D), some (V.ref p), none, none, none, none, none, none, none, none, none] H3
    have lw3 : ws.length = 19 := hr3.1
    refine ⟨_, rfl, p, ws, rfl, SqL.of hp3, for_enum (K := K) (a := p) (xs := ws) (fun i σ H => ∃ o4 o5, σ = [some (V.ref a), some (V.ref d), some (V.ref D), some (V.ref p), o4, o5, none, none, none, none, none, none, none] ∧ Same H3 H) ?_ ?_ ?_ ?_⟩
    · exact ⟨none, none, rfl, Same.refl H3⟩
    · rintro i σ H hi ⟨o4, o5, rfl, s⟩
      exact SqL.of (s _ _ hp3)
    · rintro i x T1 σ H hx ⟨o4, o5, rfl, s⟩ hT
      refine ⟨T1, [.int i, x], rfl, SqT.of upd_same, rfl, .int i, [x], rfl, x, [], rfl, rfl, ?_⟩
      have s4 : Same H3 (upd H T1 (.tup [.int (i : Nat), x])) := s.trans (same_upd hT)
      generalize upd H T1 (.tup [.int (i : Nat), x]) = H4 at s4
      have hi : i < 19 := by
        have := (List.getElem?_eq_some_iff.mp hx).1
        omega
      obtain ⟨q, hq⟩ : ∃ q, (mkAll T va vb vc)[i]? = some q := ⟨_, List.getElem?_eq_getElem (by exact hi)⟩
      have hcs : (cs T)[i]? = some q.1 := by
        rw [← mk_cs T va vb vc, List.getElem?_map, hq]
        rfl
      obtain ⟨e, rfl, hob⟩ := hr3.2 i x q hx hq
      have TE := TA i q.1 hcs
      obtain ⟨kj, kv, kk⟩ := T.kits i q.1 hcs
      have hx4 : ExAt H4 e q.1 := (hob.same s4).at
      show tSeq _ _ _ [some (V.ref a), some (V.ref d), some (V.ref D), some (V.ref p), some (V.int i), some (V.ref e), none, none, none, none, none, none, none] H4
      refine s_ifr (c := (!true || !true)) (evb_or (evb_not (evb_test (ev_isX (i := 5) rfl TE hx4 kj))) fun _ => evb_not (evb_test (ev_isXT (i := 5) rfl TE hx4 kv))) (fun h => absurd h (by decide)) fun _ H5 s5 => ?_
      have hx5 : ExAt H5 e q.1 := exAt_same hx4 s5
      have hp5 := (s4.trans s5) _ _ hp3
      have b1 : EvM K (tCall (spKinds T) [] E0 (tCons (tVar 5) tNil)) [some (V.ref a), some (V.ref d), some (V.ref D), some (V.ref p), some (V.int i), some (V.ref e), none, none, none, none, none, none, none] H5 (dKinds i) := fun H6 s6 Q q' =>
        ⟨_, rfl, e, q.1, i, rfl, hcs, TE, exAt_same hx5 s6, fun p' ws' H7 s7 hp7 hr7 => q' p' ws' H7 s7 hp7 hr7⟩
      refine s_if (c := !PyData.eqv (.list (dKinds i)) (.list (dKinds i))) (evb_neM b1 (evm_rng (i := 10) (n := 19) (eva_cons ?len eva_nil) rfl (by decide) ?turn) ?p1 ?p1 ?dp) ?bad fun _ H6 s6 => ⟨_, _, rfl, (s4.trans s5).trans s6⟩
      case len => rw [show ((19 : Nat) : Int) = (ws.length : Int) by rw [lw3]]; exact ev_lenL (i := 3) rfl hp5
      case p1 => exact dKinds_plain i
      case dp => exact dKinds_depth i
      case bad => exact fun h => absurd h (by rw [SeqAt.eqv_refl_plain _ (dKinds_plain i)]; decide)
      case turn =>
        intro j H6 hj s6
        refine ⟨.bool (decide (j = i)), ?_, ?_⟩
        · unfold dKinds
          rw [List.getElem?_map, List.getElem?_range hj]
          rfl
        · have ev := ev_eqI (K := K) (H := H6) (x := 0 + (j : Int)) (y := (i : Int)) (ev_var (i := 10) (σ := (wipe [some (V.ref a), some (V.ref d), some (V.ref D), some (V.ref p), some (V.int i), some (V.ref e), none, none, none, none, none, none, none] [10]).set 10 (some (.int (0 + (j : Int))))) rfl (.int _)) (ev_var (i := 4) rfl (.int _))
          rw [show decide ((0 + (j : Int)) = (i : Int)) = decide (j = i) from decide_eq_decide.mpr (by omega)] at ev
          exact ev
    rintro σ H ⟨o4, o5, rfl, s4⟩
    refine ⟨_, rfl, p, ws, va, vb, vc, rfl, s4 _ _ hp3, hr3.same s4, fun p6 rs H6 s6 hp6 fr6 => ?_⟩
    try dsimp only [gName]
    show tSeq _ _ _ [some (V.ref a), some (V.ref d), some (V.ref D), some (V.ref p), o4, o5, some (V.ref p6), none, none, none, none, none, none] H6
    refine s_setL (K := K) (ds := sizes.map PyData.int) (evl_lst (by show EvA K _ _ _ [.int 2, .int 1, .int 2, .int 1, .int 1, .int 1, .int 1, .int 1, .int 1, .int 1, .int 3, .int 3, .int 0, .int 1, .int 1, .int 1, .int 2, .int 0, .int 0]; walk_at "eva") (Nat.le_of_ble_eq_true rfl)) fun p7 w7 H7 s7 _ hp7 r7 => ?_
    show tSeq _ _ _ [some (V.ref a), some (V.ref d), some (V.ref D), some (V.ref p), o4, o5, some (V.ref p6), some (V.ref p7), none, none, none, none, none] H7
    have e7 : w7 = sizes.map V.int := r7.ints
    have l6 : rs.length = 19 := fr6.1
    have s27 : Same H2 H7 := ((s3.trans s4).trans s6).trans s7
    refine ⟨_, rfl, _, rfl, p6, p7, rs, w7, rfl, .inl ⟨SqL.of (s7 _ _ hp6), SqL.of hp7, RZ.for_zipL (xs := rs) (ys := w7) (by rw [l6, e7]; rfl) (fun i σ H => ∃ o8 o9, σ = [some (V.ref a), some (V.ref d), some (V.ref D), some (V.ref p), o4, o5, some (V.ref p6), some (V.ref p7), o8, o9, none, none, none] ∧ Same H7 H) ?_ ?_ ?_ ?_⟩⟩
    · exact ⟨none, none, rfl, Same.refl H7⟩
    · rintro i σ H ⟨o8, o9, rfl, s⟩
      exact ⟨SqL.of (s _ _ (s7 _ _ hp6)), SqL.of (s _ _ hp7)⟩
    · rintro i x y T1 σ H hx hy ⟨o8, o9, rfl, s⟩ hT
      refine ⟨T1, [x, y], rfl, SqT.of upd_same, rfl, x, [y], rfl, y, [], rfl, rfl, ?_⟩
      have s8 : Same H7 (upd H T1 (.tup [x, y])) := s.trans (same_upd hT)
      generalize upd H T1 (.tup [x, y]) = H8 at s8
      have hi : i < 19 := by
        have := (List.getElem?_eq_some_iff.mp hx).1
        omega
      obtain ⟨m, hm, hf, hz⟩ := fld_size va vb vc i hi
      have ey : y = .int (m : Int) := by
        rw [e7, List.getElem?_map, hz] at hy
        exact (Option.some.inj hy).symm
      subst ey
      obtain ⟨f, rfl, hf8⟩ := fr6.2 i x _ hx hf
      have hf8 := (s7.trans s8) _ _ hf8
      have hD8 := (s27.trans s8) _ _ hD2
      have g8 : ∀ H9, Same H8 H9 → ∀ (j : Nat) (v : V) (e : PD), ([va, vb, vc].take m)[j]? = some v → ([da, db, dc].take m)[j]? = some e → Gv K (· ≠ D) H9 v e := fun H9 s9 j v e h1 h2 => by
        rw [List.getElem?_take] at h1 h2
        by_cases hj : j < m
        · rw [if_pos hj] at h1 h2
          have s29 := (s27.trans s8).trans s9
          match j with
          | 0 => cases h1; cases h2; exact ga.same s29
          | 1 => cases h1; cases h2; exact gb.same s29
          | 2 => cases h1; cases h2; exact gc.same s29
          | j + 3 => cases h1
        · rw [if_neg hj] at h1
          cases h1
      have hks : ∀ e ∈ [da, db, dc].take m, Kv e := fun e he => by
        have := List.mem_of_mem_take he
        simp at this
        rcases this with rfl | rfl | rfl
        · exact ga.1
        · exact gb.1
        · exact gc.1
      have hpl : PyData.plain (.list ([da, db, dc].take m)) = true := by rw [PyData.plain]; exact kvs_plain hks
      have hdp : (PyData.list ([da, db, dc].take m)).depth ≤ 60 := by
        have := kvs_deep hks
        rw [PyData.depth]
        omega
      have hle : ([va, vb, vc].take m).length = ([da, db, dc].take m).length := by rw [List.length_take, List.length_take]; rfl
      have hlm : ([va, vb, vc].take m).length = m := by rw [List.length_take]; exact Nat.min_eq_left hm
      show tSeq _ _ _ [some (V.ref a), some (V.ref d), some (V.ref D), some (V.ref p), o4, o5, some (V.ref p6), some (V.ref p7), some (V.ref f), some (V.int m), none, none, none] H8
      refine s_ifr (c := (!decide (((([va, vb, vc].take m).length : Nat) : Int) = (m : Int))) || !PyData.eqv (.list ([da, db, dc].take m)) (.list ([da, db, dc].take m))) (evb_or (evb_test (ev_neI (K := K) (ev_lenL (i := 8) rfl hf8) (ev_var (i := 9) rfl (.int _)))) fun _ => ?cut) (fun h => absurd h (by rw [hlm, SeqAt.eqv_refl_plain _ hpl]; simp)) fun _ H9 s9 => ?_
      case cut =>
        intro H9 s9 Q kQ
        refine ⟨_, rfl, _, rfl, ?_⟩
        refine ⟨_, rfl, m, rfl, D, [va, vb, vc], rfl, SqL.of (s9 _ _ hD8), fun pc hpc => ?_⟩
        rw [cut3 va vb vc hm]
        refine ⟨.list ([da, db, dc].take m), .list ([da, db, dc].take m), .lst (SqL.of (same_upd hpc _ _ (s9 _ _ hf8))) (dpa hle (g8 _ (s9.trans (same_upd hpc)))), .lst (SqL.of upd_same) (dpa hle (g8 _ (s9.trans (same_upd hpc)))), hpl, hpl, hdp, _, rfl, kQ _ (same_upd hpc)⟩
      refine s_if (c := !PyData.eqv (.list []) (.list [])) (evb_neM (K := K) (evm_unlike (i := 8) (j := 2) (l1 := 11) (l2 := 12) (by decide) (Nat.le_of_ble_eq_true rfl) (Nat.le_of_ble_eq_true rfl) rfl rfl (s9 _ _ hf8) (s9 _ _ hD8) ?un) (fun H1 s Q k => evl_lst eva_nil (Nat.zero_le _) H1 s Q fun p vs H2 s2 _ hp r => k p vs H2 s2 hp r) rfl rfl (by decide)) (fun h => absurd h (by decide)) fun _ H10 s10 => ⟨_, _, rfl, (s8.trans s9).trans s10⟩
      case un =>
        intro j u v H10 hu hv s10
        have hj : j < m := by
          have := (List.getElem?_eq_some_iff.mp hu).1
          omega
        have e2 : j < ([da, db, dc].take m).length := by rw [← hle]; omega
        have g := g8 H10 (s9.trans s10) j u _ hu (List.getElem?_eq_getElem e2)
        rw [List.getElem?_take, if_pos hj, hv] at hu
        cases hu
        exact ⟨rfl, _, _, g.ty, g.1.isB⟩
    rintro σ H ⟨o8, o9, rfl, s⟩
    exact k H
theorem exk_all (T : Txt K mg) (i : Nat) (D : Addr) (h : (cs T)[i]? = some D) : ExK K D := by
  match i, h with
  | 0, h => cases h; exact T.e_BadText
  | 1, h => cases h; exact T.e_BadName
  | 2, h => cases h; exact T.e_BadNumber
  | 3, h => cases h; exact T.e_BadPlace
  | 4, h => cases h; exact T.e_BadSheet
  | 5, h => cases h; exact T.e_BadJourney
  | 6, h => cases h; exact T.e_NoSpot
  | 7, h => cases h; exact T.e_NoRoad
  | 8, h => cases h; exact T.e_NoMap
  | 9, h => cases h; exact T.e_TakenName
  | 10, h => cases h; exact T.e_TooMany
  | 11, h => cases h; exact T.e_TooLarge
  | 12, h => cases h; exact T.e_NotAround
  | 13, h => cases h; exact T.e_Unlike
  | 14, h => cases h; exact T.e_BadPromise
  | 15, h => cases h; exact T.e_NotKept
  | 16, h => cases h; exact T.e_Broken
  | 17, h => cases h; exact T.e_NothingToUndo
  | 18, h => cases h; exact T.e_NothingToRedo
  | j + 19, h => cases h
theorem ok_law (T : Txt K mg) : FnOk P w K mg base CX0 10 T.a_law T.f_law ["_law_script"] (spLaw K) := ok_lawX T (exk_all T)
end
end LW
namespace LW
open PySem PySem.Spec PyProof.Rows L2 LB
section
theorem all_mk {l : PySem.W.OpenLaw} {w : World} {K : Fr} {h : Heap} {mg : Str → Option Value} {fa : Addr} (X : K.In h) (G : h.Ns mainGlobals mg) (hfa : mg "law" = some (.ref fa))
    {a_pen : Addr} {od_pen an_pen : Option Addr} {sl_pen : Array (Option Value)} {oc_pen kV_pen dc_pen pm_pen cd_pen ct_pen : Value}
    {a_draw : Addr} {od_draw an_draw : Option Addr} {sl_draw : Array (Option Value)} {oc_draw kV_draw dc_draw pm_draw cd_draw ct_draw : Value}
    {a_pick : Addr} {od_pick an_pick : Option Addr} {sl_pick : Array (Option Value)} {oc_pick kV_pick dc_pick pm_pick cd_pick ct_pick : Value}
    {a_far : Addr} {od_far an_far : Option Addr} {sl_far : Array (Option Value)} {oc_far kV_far dc_far pm_far cd_far ct_far : Value}
    {a_kinds : Addr} {od_kinds an_kinds : Option Addr} {sl_kinds : Array (Option Value)} {oc_kinds kV_kinds dc_kinds pm_kinds cd_kinds ct_kinds : Value}
    {a_made : Addr} {od_made an_made : Option Addr} {sl_made : Array (Option Value)} {oc_made kV_made dc_made pm_made cd_made ct_made : Value}
    {a_fields : Addr} {od_fields an_fields : Option Addr} {sl_fields : Array (Option Value)} {oc_fields kV_fields dc_fields pm_fields cd_fields ct_fields : Value}
    {a_value : Addr} {od_value an_value : Option Addr} {sl_value : Array (Option Value)} {oc_value kV_value dc_value pm_value cd_value ct_value : Value}
    {a_law : Addr} {od_law an_law : Option Addr} {sl_law : Array (Option Value)} {oc_law kV_law dc_law pm_law cd_law ct_law : Value}
    {C_JourneyError : Addr}
    {C_BadText N_BadText : Addr} {nm_BadText q_BadText : Str} {bs_BadText : List Value} {sn_BadText : List Str} {sub_BadText : List Value} {ab_BadText : Bool} {col_BadText : Option Bool} {dd_BadText : Option Addr} {m0_BadText m1_BadText m2_BadText m3_BadText m5_BadText : Option Value}
    {C_BadName N_BadName : Addr} {nm_BadName q_BadName : Str} {bs_BadName : List Value} {sn_BadName : List Str} {sub_BadName : List Value} {ab_BadName : Bool} {col_BadName : Option Bool} {dd_BadName : Option Addr} {m0_BadName m1_BadName m2_BadName m3_BadName m5_BadName : Option Value}
    {C_BadNumber N_BadNumber : Addr} {nm_BadNumber q_BadNumber : Str} {bs_BadNumber : List Value} {sn_BadNumber : List Str} {sub_BadNumber : List Value} {ab_BadNumber : Bool} {col_BadNumber : Option Bool} {dd_BadNumber : Option Addr} {m0_BadNumber m1_BadNumber m2_BadNumber m3_BadNumber m5_BadNumber : Option Value}
    {C_BadPlace N_BadPlace : Addr} {nm_BadPlace q_BadPlace : Str} {bs_BadPlace : List Value} {sn_BadPlace : List Str} {sub_BadPlace : List Value} {ab_BadPlace : Bool} {col_BadPlace : Option Bool} {dd_BadPlace : Option Addr} {m0_BadPlace m1_BadPlace m2_BadPlace m3_BadPlace m5_BadPlace : Option Value}
    {C_BadSheet N_BadSheet : Addr} {nm_BadSheet q_BadSheet : Str} {bs_BadSheet : List Value} {sn_BadSheet : List Str} {sub_BadSheet : List Value} {ab_BadSheet : Bool} {col_BadSheet : Option Bool} {dd_BadSheet : Option Addr} {m0_BadSheet m1_BadSheet m2_BadSheet m3_BadSheet m5_BadSheet : Option Value}
    {C_BadJourney N_BadJourney : Addr} {nm_BadJourney q_BadJourney : Str} {bs_BadJourney : List Value} {sn_BadJourney : List Str} {sub_BadJourney : List Value} {ab_BadJourney : Bool} {col_BadJourney : Option Bool} {dd_BadJourney : Option Addr} {m0_BadJourney m1_BadJourney m2_BadJourney m3_BadJourney m5_BadJourney : Option Value}
    {C_NoSpot N_NoSpot : Addr} {nm_NoSpot q_NoSpot : Str} {bs_NoSpot : List Value} {sn_NoSpot : List Str} {sub_NoSpot : List Value} {ab_NoSpot : Bool} {col_NoSpot : Option Bool} {dd_NoSpot : Option Addr} {m0_NoSpot m1_NoSpot m2_NoSpot m3_NoSpot m5_NoSpot : Option Value}
    {C_NoRoad N_NoRoad : Addr} {nm_NoRoad q_NoRoad : Str} {bs_NoRoad : List Value} {sn_NoRoad : List Str} {sub_NoRoad : List Value} {ab_NoRoad : Bool} {col_NoRoad : Option Bool} {dd_NoRoad : Option Addr} {m0_NoRoad m1_NoRoad m2_NoRoad m3_NoRoad m5_NoRoad : Option Value}
    {C_NoMap N_NoMap : Addr} {nm_NoMap q_NoMap : Str} {bs_NoMap : List Value} {sn_NoMap : List Str} {sub_NoMap : List Value} {ab_NoMap : Bool} {col_NoMap : Option Bool} {dd_NoMap : Option Addr} {m0_NoMap m1_NoMap m2_NoMap m3_NoMap m5_NoMap : Option Value}
    {C_TakenName N_TakenName : Addr} {nm_TakenName q_TakenName : Str} {bs_TakenName : List Value} {sn_TakenName : List Str} {sub_TakenName : List Value} {ab_TakenName : Bool} {col_TakenName : Option Bool} {dd_TakenName : Option Addr} {m0_TakenName m1_TakenName m2_TakenName m3_TakenName m5_TakenName : Option Value}
    {C_TooMany N_TooMany : Addr} {nm_TooMany q_TooMany : Str} {bs_TooMany : List Value} {sn_TooMany : List Str} {sub_TooMany : List Value} {ab_TooMany : Bool} {col_TooMany : Option Bool} {dd_TooMany : Option Addr} {m0_TooMany m1_TooMany m2_TooMany m3_TooMany m5_TooMany : Option Value}
    {C_TooLarge N_TooLarge : Addr} {nm_TooLarge q_TooLarge : Str} {bs_TooLarge : List Value} {sn_TooLarge : List Str} {sub_TooLarge : List Value} {ab_TooLarge : Bool} {col_TooLarge : Option Bool} {dd_TooLarge : Option Addr} {m0_TooLarge m1_TooLarge m2_TooLarge m3_TooLarge m5_TooLarge : Option Value}
    {C_NotAround N_NotAround : Addr} {nm_NotAround q_NotAround : Str} {bs_NotAround : List Value} {sn_NotAround : List Str} {sub_NotAround : List Value} {ab_NotAround : Bool} {col_NotAround : Option Bool} {dd_NotAround : Option Addr} {m0_NotAround m1_NotAround m2_NotAround m3_NotAround m5_NotAround : Option Value}
    {C_Unlike N_Unlike : Addr} {nm_Unlike q_Unlike : Str} {bs_Unlike : List Value} {sn_Unlike : List Str} {sub_Unlike : List Value} {ab_Unlike : Bool} {col_Unlike : Option Bool} {dd_Unlike : Option Addr} {m0_Unlike m1_Unlike m2_Unlike m3_Unlike m5_Unlike : Option Value}
    {C_BadPromise N_BadPromise : Addr} {nm_BadPromise q_BadPromise : Str} {bs_BadPromise : List Value} {sn_BadPromise : List Str} {sub_BadPromise : List Value} {ab_BadPromise : Bool} {col_BadPromise : Option Bool} {dd_BadPromise : Option Addr} {m0_BadPromise m1_BadPromise m2_BadPromise m3_BadPromise m5_BadPromise : Option Value}
    {C_NotKept N_NotKept : Addr} {nm_NotKept q_NotKept : Str} {bs_NotKept : List Value} {sn_NotKept : List Str} {sub_NotKept : List Value} {ab_NotKept : Bool} {col_NotKept : Option Bool} {dd_NotKept : Option Addr} {m0_NotKept m1_NotKept m2_NotKept m3_NotKept m5_NotKept : Option Value}
    {C_Broken N_Broken : Addr} {nm_Broken q_Broken : Str} {bs_Broken : List Value} {sn_Broken : List Str} {sub_Broken : List Value} {ab_Broken : Bool} {col_Broken : Option Bool} {dd_Broken : Option Addr} {m0_Broken m1_Broken m2_Broken m3_Broken m5_Broken : Option Value}
    {C_NothingToUndo N_NothingToUndo : Addr} {nm_NothingToUndo q_NothingToUndo : Str} {bs_NothingToUndo : List Value} {sn_NothingToUndo : List Str} {sub_NothingToUndo : List Value} {ab_NothingToUndo : Bool} {col_NothingToUndo : Option Bool} {dd_NothingToUndo : Option Addr} {m0_NothingToUndo m1_NothingToUndo m2_NothingToUndo m3_NothingToUndo m5_NothingToUndo : Option Value}
    {C_NothingToRedo N_NothingToRedo : Addr} {nm_NothingToRedo q_NothingToRedo : Str} {bs_NothingToRedo : List Value} {sn_NothingToRedo : List Str} {sub_NothingToRedo : List Value} {ab_NothingToRedo : Bool} {col_NothingToRedo : Option Bool} {dd_NothingToRedo : Option Addr} {m0_NothingToRedo m1_NothingToRedo m2_NothingToRedo m3_NothingToRedo m5_NothingToRedo : Option Value}
    {a_iBadText : Addr} {od_iBadText an_iBadText : Option Addr} {sl_iBadText : Array (Option Value)} {oc_iBadText kV_iBadText dc_iBadText pm_iBadText cd_iBadText ct_iBadText : Value}
    {a_iBadName : Addr} {od_iBadName an_iBadName : Option Addr} {sl_iBadName : Array (Option Value)} {oc_iBadName kV_iBadName dc_iBadName pm_iBadName cd_iBadName ct_iBadName : Value}
    {a_iBadNumber : Addr} {od_iBadNumber an_iBadNumber : Option Addr} {sl_iBadNumber : Array (Option Value)} {oc_iBadNumber kV_iBadNumber dc_iBadNumber pm_iBadNumber cd_iBadNumber ct_iBadNumber : Value}
    {a_iBadPlace : Addr} {od_iBadPlace an_iBadPlace : Option Addr} {sl_iBadPlace : Array (Option Value)} {oc_iBadPlace kV_iBadPlace dc_iBadPlace pm_iBadPlace cd_iBadPlace ct_iBadPlace : Value}
    {a_iBadSheet : Addr} {od_iBadSheet an_iBadSheet : Option Addr} {sl_iBadSheet : Array (Option Value)} {oc_iBadSheet kV_iBadSheet dc_iBadSheet pm_iBadSheet cd_iBadSheet ct_iBadSheet : Value}
    {a_iBadJourney : Addr} {od_iBadJourney an_iBadJourney : Option Addr} {sl_iBadJourney : Array (Option Value)} {oc_iBadJourney kV_iBadJourney dc_iBadJourney pm_iBadJourney cd_iBadJourney ct_iBadJourney : Value}
    {a_iNoSpot : Addr} {od_iNoSpot an_iNoSpot : Option Addr} {sl_iNoSpot : Array (Option Value)} {oc_iNoSpot kV_iNoSpot dc_iNoSpot pm_iNoSpot cd_iNoSpot ct_iNoSpot : Value}
    {a_iNoRoad : Addr} {od_iNoRoad an_iNoRoad : Option Addr} {sl_iNoRoad : Array (Option Value)} {oc_iNoRoad kV_iNoRoad dc_iNoRoad pm_iNoRoad cd_iNoRoad ct_iNoRoad : Value}
    {a_iNoMap : Addr} {od_iNoMap an_iNoMap : Option Addr} {sl_iNoMap : Array (Option Value)} {oc_iNoMap kV_iNoMap dc_iNoMap pm_iNoMap cd_iNoMap ct_iNoMap : Value}
    {a_iTakenName : Addr} {od_iTakenName an_iTakenName : Option Addr} {sl_iTakenName : Array (Option Value)} {oc_iTakenName kV_iTakenName dc_iTakenName pm_iTakenName cd_iTakenName ct_iTakenName : Value}
    {a_iTooMany : Addr} {od_iTooMany an_iTooMany : Option Addr} {sl_iTooMany : Array (Option Value)} {oc_iTooMany kV_iTooMany dc_iTooMany pm_iTooMany cd_iTooMany ct_iTooMany : Value}
    {a_iTooLarge : Addr} {od_iTooLarge an_iTooLarge : Option Addr} {sl_iTooLarge : Array (Option Value)} {oc_iTooLarge kV_iTooLarge dc_iTooLarge pm_iTooLarge cd_iTooLarge ct_iTooLarge : Value}
    {a_iUnlike : Addr} {od_iUnlike an_iUnlike : Option Addr} {sl_iUnlike : Array (Option Value)} {oc_iUnlike kV_iUnlike dc_iUnlike pm_iUnlike cd_iUnlike ct_iUnlike : Value}
    {a_iBadPromise : Addr} {od_iBadPromise an_iBadPromise : Option Addr} {sl_iBadPromise : Array (Option Value)} {oc_iBadPromise kV_iBadPromise dc_iBadPromise pm_iBadPromise cd_iBadPromise ct_iBadPromise : Value}
    {a_iNotKept : Addr} {od_iNotKept an_iNotKept : Option Addr} {sl_iNotKept : Array (Option Value)} {oc_iNotKept kV_iNotKept dc_iNotKept pm_iNotKept cd_iNotKept ct_iNotKept : Value}
    {a_iBroken : Addr} {od_iBroken an_iBroken : Option Addr} {sl_iBroken : Array (Option Value)} {oc_iBroken kV_iBroken dc_iBroken pm_iBroken cd_iBroken ct_iBroken : Value}
    (m_pen : PySem.W.nsIn K mainGlobals "_law_pen" = some (some (.ref a_pen)))
    (l_pen : K.lookup a_pen = some ⟨oc_pen, od_pen, .func (PySem.W.fnOf "_law_pen" "_law_pen" (defArgs s_pen) (defBody s_pen) (defScope s_pen) .none kV_pen dc_pen pm_pen an_pen cd_pen ct_pen), sl_pen⟩)
    (o_pen : PySem.W.codeIn K cd_pen "_law_pen" = true)
    (k_pen : PySem.W.keepIn K (.ref a_pen) = true)
    (m_draw : PySem.W.nsIn K mainGlobals "_law_draw" = some (some (.ref a_draw)))
    (l_draw : K.lookup a_draw = some ⟨oc_draw, od_draw, .func (PySem.W.fnOf "_law_draw" "_law_draw" (defArgs s_draw) (defBody s_draw) (defScope s_draw) .none kV_draw dc_draw pm_draw an_draw cd_draw ct_draw), sl_draw⟩)
    (o_draw : PySem.W.codeIn K cd_draw "_law_draw" = true)
    (k_draw : PySem.W.keepIn K (.ref a_draw) = true)
    (m_pick : PySem.W.nsIn K mainGlobals "_law_pick" = some (some (.ref a_pick)))
    (l_pick : K.lookup a_pick = some ⟨oc_pick, od_pick, .func (PySem.W.fnOf "_law_pick" "_law_pick" (defArgs s_pick) (defBody s_pick) (defScope s_pick) .none kV_pick dc_pick pm_pick an_pick cd_pick ct_pick), sl_pick⟩)
    (o_pick : PySem.W.codeIn K cd_pick "_law_pick" = true)
    (k_pick : PySem.W.keepIn K (.ref a_pick) = true)
    (m_far : PySem.W.nsIn K mainGlobals "_law_far" = some (some (.ref a_far)))
    (l_far : K.lookup a_far = some ⟨oc_far, od_far, .func (PySem.W.fnOf "_law_far" "_law_far" (defArgs s_far) (defBody s_far) (defScope s_far) .none kV_far dc_far pm_far an_far cd_far ct_far), sl_far⟩)
    (o_far : PySem.W.codeIn K cd_far "_law_far" = true)
    (k_far : PySem.W.keepIn K (.ref a_far) = true)
    (m_kinds : PySem.W.nsIn K mainGlobals "_law_kinds" = some (some (.ref a_kinds)))
    (l_kinds : K.lookup a_kinds = some ⟨oc_kinds, od_kinds, .func (PySem.W.fnOf "_law_kinds" "_law_kinds" (defArgs s_kinds) (defBody s_kinds) (defScope s_kinds) .none kV_kinds dc_kinds pm_kinds an_kinds cd_kinds ct_kinds), sl_kinds⟩)
    (o_kinds : PySem.W.codeIn K cd_kinds "_law_kinds" = true)
    (k_kinds : PySem.W.keepIn K (.ref a_kinds) = true)
    (m_made : PySem.W.nsIn K mainGlobals "_law_made" = some (some (.ref a_made)))
    (l_made : K.lookup a_made = some ⟨oc_made, od_made, .func (PySem.W.fnOf "_law_made" "_law_made" (defArgs s_made) (defBody s_made) (defScope s_made) .none kV_made dc_made pm_made an_made cd_made ct_made), sl_made⟩)
    (o_made : PySem.W.codeIn K cd_made "_law_made" = true)
    (k_made : PySem.W.keepIn K (.ref a_made) = true)
    (m_fields : PySem.W.nsIn K mainGlobals "_law_fields" = some (some (.ref a_fields)))
    (l_fields : K.lookup a_fields = some ⟨oc_fields, od_fields, .func (PySem.W.fnOf "_law_fields" "_law_fields" (defArgs s_fields) (defBody s_fields) (defScope s_fields) .none kV_fields dc_fields pm_fields an_fields cd_fields ct_fields), sl_fields⟩)
    (o_fields : PySem.W.codeIn K cd_fields "_law_fields" = true)
    (k_fields : PySem.W.keepIn K (.ref a_fields) = true)
    (m_value : PySem.W.nsIn K mainGlobals "_law_value" = some (some (.ref a_value)))
    (l_value : K.lookup a_value = some ⟨oc_value, od_value, .func (PySem.W.fnOf "_law_value" "_law_value" (defArgs s_value) (defBody s_value) (defScope s_value) .none kV_value dc_value pm_value an_value cd_value ct_value), sl_value⟩)
    (o_value : PySem.W.codeIn K cd_value "_law_value" = true)
    (k_value : PySem.W.keepIn K (.ref a_value) = true)
    (m_law : PySem.W.nsIn K mainGlobals "law" = some (some (.ref a_law)))
    (l_law : K.lookup a_law = some ⟨oc_law, od_law, .func (PySem.W.fnOf "law" "law" (defArgs s_law) (defBody s_law) (defScope s_law) .none kV_law dc_law pm_law an_law cd_law ct_law), sl_law⟩)
    (o_law : PySem.W.codeIn K cd_law "law" = true)
    (k_law : PySem.W.keepIn K (.ref a_law) = true)
    (g_JourneyError : PySem.W.nsIn K mainGlobals "JourneyError" = some (some (.ref C_JourneyError)))
    (ic_JourneyError : PySem.W.isClsIn K C_JourneyError = true)
    (tc_JourneyError : PySem.W.typeIn K (.ref C_JourneyError) = some (.type "type"))
    (sg_x : PySem.W.specialIn K (.builtin "object.__class__") "__get__" = some (some (.builtin "getset_descriptor.__get__")))
    (tk_x : PySem.W.takesIn K (.builtin "object.__class__") = some true)
    (g_BadText : PySem.W.nsIn K mainGlobals "BadText" = some (some (.ref C_BadText)))
    (xl_BadText : K.lookup C_BadText = some (excClassObj nm_BadText q_BadText C_BadText N_BadText bs_BadText [.ref C_JourneyError, .type "ValueError", .type "Exception", .type "BaseException", .type "object"] true sn_BadText sub_BadText ab_BadText col_BadText dd_BadText m0_BadText m1_BadText m2_BadText m3_BadText m5_BadText "ValueError.__new__"))
    (sa_BadText : PySem.W.findIn K (.ref C_BadText) "__setattr__" = some (some (.builtin "object.__setattr__")))
    (ga_BadText : PySem.W.findIn K (.ref C_BadText) "__getattribute__" = some (some (.builtin "BaseException.__getattribute__")))
    (gg_BadText : PySem.W.findIn K (.ref C_BadText) "__getattr__" = some none)
    (cl_BadText : PySem.W.findIn K (.ref C_BadText) "__class__" = some (some (.builtin "object.__class__")))
    (kp_BadText : PySem.W.keepIn K (.ref C_BadText) = true)
    (n_BadText_line : PySem.W.findIn K (.ref C_BadText) "line" = some none)
    (n_BadText_column : PySem.W.findIn K (.ref C_BadText) "column" = some none)
    (g_BadName : PySem.W.nsIn K mainGlobals "BadName" = some (some (.ref C_BadName)))
    (xl_BadName : K.lookup C_BadName = some (excClassObj nm_BadName q_BadName C_BadName N_BadName bs_BadName [.ref C_JourneyError, .type "ValueError", .type "Exception", .type "BaseException", .type "object"] true sn_BadName sub_BadName ab_BadName col_BadName dd_BadName m0_BadName m1_BadName m2_BadName m3_BadName m5_BadName "ValueError.__new__"))
    (sa_BadName : PySem.W.findIn K (.ref C_BadName) "__setattr__" = some (some (.builtin "object.__setattr__")))
    (ga_BadName : PySem.W.findIn K (.ref C_BadName) "__getattribute__" = some (some (.builtin "BaseException.__getattribute__")))
    (gg_BadName : PySem.W.findIn K (.ref C_BadName) "__getattr__" = some none)
    (cl_BadName : PySem.W.findIn K (.ref C_BadName) "__class__" = some (some (.builtin "object.__class__")))
    (kp_BadName : PySem.W.keepIn K (.ref C_BadName) = true)
    (n_BadName_name : PySem.W.findIn K (.ref C_BadName) "name" = some none)
    (g_BadNumber : PySem.W.nsIn K mainGlobals "BadNumber" = some (some (.ref C_BadNumber)))
    (xl_BadNumber : K.lookup C_BadNumber = some (excClassObj nm_BadNumber q_BadNumber C_BadNumber N_BadNumber bs_BadNumber [.ref C_JourneyError, .type "ValueError", .type "Exception", .type "BaseException", .type "object"] true sn_BadNumber sub_BadNumber ab_BadNumber col_BadNumber dd_BadNumber m0_BadNumber m1_BadNumber m2_BadNumber m3_BadNumber m5_BadNumber "ValueError.__new__"))
    (sa_BadNumber : PySem.W.findIn K (.ref C_BadNumber) "__setattr__" = some (some (.builtin "object.__setattr__")))
    (ga_BadNumber : PySem.W.findIn K (.ref C_BadNumber) "__getattribute__" = some (some (.builtin "BaseException.__getattribute__")))
    (gg_BadNumber : PySem.W.findIn K (.ref C_BadNumber) "__getattr__" = some none)
    (cl_BadNumber : PySem.W.findIn K (.ref C_BadNumber) "__class__" = some (some (.builtin "object.__class__")))
    (kp_BadNumber : PySem.W.keepIn K (.ref C_BadNumber) = true)
    (n_BadNumber_what : PySem.W.findIn K (.ref C_BadNumber) "what" = some none)
    (n_BadNumber_number : PySem.W.findIn K (.ref C_BadNumber) "number" = some none)
    (g_BadPlace : PySem.W.nsIn K mainGlobals "BadPlace" = some (some (.ref C_BadPlace)))
    (xl_BadPlace : K.lookup C_BadPlace = some (excClassObj nm_BadPlace q_BadPlace C_BadPlace N_BadPlace bs_BadPlace [.ref C_JourneyError, .type "ValueError", .type "Exception", .type "BaseException", .type "object"] true sn_BadPlace sub_BadPlace ab_BadPlace col_BadPlace dd_BadPlace m0_BadPlace m1_BadPlace m2_BadPlace m3_BadPlace m5_BadPlace "ValueError.__new__"))
    (sa_BadPlace : PySem.W.findIn K (.ref C_BadPlace) "__setattr__" = some (some (.builtin "object.__setattr__")))
    (ga_BadPlace : PySem.W.findIn K (.ref C_BadPlace) "__getattribute__" = some (some (.builtin "BaseException.__getattribute__")))
    (gg_BadPlace : PySem.W.findIn K (.ref C_BadPlace) "__getattr__" = some none)
    (cl_BadPlace : PySem.W.findIn K (.ref C_BadPlace) "__class__" = some (some (.builtin "object.__class__")))
    (kp_BadPlace : PySem.W.keepIn K (.ref C_BadPlace) = true)
    (n_BadPlace_what : PySem.W.findIn K (.ref C_BadPlace) "what" = some none)
    (g_BadSheet : PySem.W.nsIn K mainGlobals "BadSheet" = some (some (.ref C_BadSheet)))
    (xl_BadSheet : K.lookup C_BadSheet = some (excClassObj nm_BadSheet q_BadSheet C_BadSheet N_BadSheet bs_BadSheet [.ref C_JourneyError, .type "ValueError", .type "Exception", .type "BaseException", .type "object"] true sn_BadSheet sub_BadSheet ab_BadSheet col_BadSheet dd_BadSheet m0_BadSheet m1_BadSheet m2_BadSheet m3_BadSheet m5_BadSheet "ValueError.__new__"))
    (sa_BadSheet : PySem.W.findIn K (.ref C_BadSheet) "__setattr__" = some (some (.builtin "object.__setattr__")))
    (ga_BadSheet : PySem.W.findIn K (.ref C_BadSheet) "__getattribute__" = some (some (.builtin "BaseException.__getattribute__")))
    (gg_BadSheet : PySem.W.findIn K (.ref C_BadSheet) "__getattr__" = some none)
    (cl_BadSheet : PySem.W.findIn K (.ref C_BadSheet) "__class__" = some (some (.builtin "object.__class__")))
    (kp_BadSheet : PySem.W.keepIn K (.ref C_BadSheet) = true)
    (n_BadSheet_what : PySem.W.findIn K (.ref C_BadSheet) "what" = some none)
    (g_BadJourney : PySem.W.nsIn K mainGlobals "BadJourney" = some (some (.ref C_BadJourney)))
    (xl_BadJourney : K.lookup C_BadJourney = some (excClassObj nm_BadJourney q_BadJourney C_BadJourney N_BadJourney bs_BadJourney [.ref C_JourneyError, .type "ValueError", .type "Exception", .type "BaseException", .type "object"] true sn_BadJourney sub_BadJourney ab_BadJourney col_BadJourney dd_BadJourney m0_BadJourney m1_BadJourney m2_BadJourney m3_BadJourney m5_BadJourney "ValueError.__new__"))
    (sa_BadJourney : PySem.W.findIn K (.ref C_BadJourney) "__setattr__" = some (some (.builtin "object.__setattr__")))
    (ga_BadJourney : PySem.W.findIn K (.ref C_BadJourney) "__getattribute__" = some (some (.builtin "BaseException.__getattribute__")))
    (gg_BadJourney : PySem.W.findIn K (.ref C_BadJourney) "__getattr__" = some none)
    (cl_BadJourney : PySem.W.findIn K (.ref C_BadJourney) "__class__" = some (some (.builtin "object.__class__")))
    (kp_BadJourney : PySem.W.keepIn K (.ref C_BadJourney) = true)
    (n_BadJourney_index : PySem.W.findIn K (.ref C_BadJourney) "index" = some none)
    (g_NoSpot : PySem.W.nsIn K mainGlobals "NoSpot" = some (some (.ref C_NoSpot)))
    (xl_NoSpot : K.lookup C_NoSpot = some (excClassObj nm_NoSpot q_NoSpot C_NoSpot N_NoSpot bs_NoSpot [.ref C_JourneyError, .type "ValueError", .type "Exception", .type "BaseException", .type "object"] true sn_NoSpot sub_NoSpot ab_NoSpot col_NoSpot dd_NoSpot m0_NoSpot m1_NoSpot m2_NoSpot m3_NoSpot m5_NoSpot "ValueError.__new__"))
    (sa_NoSpot : PySem.W.findIn K (.ref C_NoSpot) "__setattr__" = some (some (.builtin "object.__setattr__")))
    (ga_NoSpot : PySem.W.findIn K (.ref C_NoSpot) "__getattribute__" = some (some (.builtin "BaseException.__getattribute__")))
    (gg_NoSpot : PySem.W.findIn K (.ref C_NoSpot) "__getattr__" = some none)
    (cl_NoSpot : PySem.W.findIn K (.ref C_NoSpot) "__class__" = some (some (.builtin "object.__class__")))
    (kp_NoSpot : PySem.W.keepIn K (.ref C_NoSpot) = true)
    (n_NoSpot_name : PySem.W.findIn K (.ref C_NoSpot) "name" = some none)
    (g_NoRoad : PySem.W.nsIn K mainGlobals "NoRoad" = some (some (.ref C_NoRoad)))
    (xl_NoRoad : K.lookup C_NoRoad = some (excClassObj nm_NoRoad q_NoRoad C_NoRoad N_NoRoad bs_NoRoad [.ref C_JourneyError, .type "ValueError", .type "Exception", .type "BaseException", .type "object"] true sn_NoRoad sub_NoRoad ab_NoRoad col_NoRoad dd_NoRoad m0_NoRoad m1_NoRoad m2_NoRoad m3_NoRoad m5_NoRoad "ValueError.__new__"))
    (sa_NoRoad : PySem.W.findIn K (.ref C_NoRoad) "__setattr__" = some (some (.builtin "object.__setattr__")))
    (ga_NoRoad : PySem.W.findIn K (.ref C_NoRoad) "__getattribute__" = some (some (.builtin "BaseException.__getattribute__")))
    (gg_NoRoad : PySem.W.findIn K (.ref C_NoRoad) "__getattr__" = some none)
    (cl_NoRoad : PySem.W.findIn K (.ref C_NoRoad) "__class__" = some (some (.builtin "object.__class__")))
    (kp_NoRoad : PySem.W.keepIn K (.ref C_NoRoad) = true)
    (n_NoRoad_name : PySem.W.findIn K (.ref C_NoRoad) "name" = some none)
    (g_NoMap : PySem.W.nsIn K mainGlobals "NoMap" = some (some (.ref C_NoMap)))
    (xl_NoMap : K.lookup C_NoMap = some (excClassObj nm_NoMap q_NoMap C_NoMap N_NoMap bs_NoMap [.ref C_JourneyError, .type "ValueError", .type "Exception", .type "BaseException", .type "object"] true sn_NoMap sub_NoMap ab_NoMap col_NoMap dd_NoMap m0_NoMap m1_NoMap m2_NoMap m3_NoMap m5_NoMap "ValueError.__new__"))
    (sa_NoMap : PySem.W.findIn K (.ref C_NoMap) "__setattr__" = some (some (.builtin "object.__setattr__")))
    (ga_NoMap : PySem.W.findIn K (.ref C_NoMap) "__getattribute__" = some (some (.builtin "BaseException.__getattribute__")))
    (gg_NoMap : PySem.W.findIn K (.ref C_NoMap) "__getattr__" = some none)
    (cl_NoMap : PySem.W.findIn K (.ref C_NoMap) "__class__" = some (some (.builtin "object.__class__")))
    (kp_NoMap : PySem.W.keepIn K (.ref C_NoMap) = true)
    (n_NoMap_name : PySem.W.findIn K (.ref C_NoMap) "name" = some none)
    (g_TakenName : PySem.W.nsIn K mainGlobals "TakenName" = some (some (.ref C_TakenName)))
    (xl_TakenName : K.lookup C_TakenName = some (excClassObj nm_TakenName q_TakenName C_TakenName N_TakenName bs_TakenName [.ref C_JourneyError, .type "ValueError", .type "Exception", .type "BaseException", .type "object"] true sn_TakenName sub_TakenName ab_TakenName col_TakenName dd_TakenName m0_TakenName m1_TakenName m2_TakenName m3_TakenName m5_TakenName "ValueError.__new__"))
    (sa_TakenName : PySem.W.findIn K (.ref C_TakenName) "__setattr__" = some (some (.builtin "object.__setattr__")))
    (ga_TakenName : PySem.W.findIn K (.ref C_TakenName) "__getattribute__" = some (some (.builtin "BaseException.__getattribute__")))
    (gg_TakenName : PySem.W.findIn K (.ref C_TakenName) "__getattr__" = some none)
    (cl_TakenName : PySem.W.findIn K (.ref C_TakenName) "__class__" = some (some (.builtin "object.__class__")))
    (kp_TakenName : PySem.W.keepIn K (.ref C_TakenName) = true)
    (n_TakenName_name : PySem.W.findIn K (.ref C_TakenName) "name" = some none)
    (g_TooMany : PySem.W.nsIn K mainGlobals "TooMany" = some (some (.ref C_TooMany)))
    (xl_TooMany : K.lookup C_TooMany = some (excClassObj nm_TooMany q_TooMany C_TooMany N_TooMany bs_TooMany [.ref C_JourneyError, .type "ValueError", .type "Exception", .type "BaseException", .type "object"] true sn_TooMany sub_TooMany ab_TooMany col_TooMany dd_TooMany m0_TooMany m1_TooMany m2_TooMany m3_TooMany m5_TooMany "ValueError.__new__"))
    (sa_TooMany : PySem.W.findIn K (.ref C_TooMany) "__setattr__" = some (some (.builtin "object.__setattr__")))
    (ga_TooMany : PySem.W.findIn K (.ref C_TooMany) "__getattribute__" = some (some (.builtin "BaseException.__getattribute__")))
    (gg_TooMany : PySem.W.findIn K (.ref C_TooMany) "__getattr__" = some none)
    (cl_TooMany : PySem.W.findIn K (.ref C_TooMany) "__class__" = some (some (.builtin "object.__class__")))
    (kp_TooMany : PySem.W.keepIn K (.ref C_TooMany) = true)
    (n_TooMany_what : PySem.W.findIn K (.ref C_TooMany) "what" = some none)
    (n_TooMany_many : PySem.W.findIn K (.ref C_TooMany) "many" = some none)
    (n_TooMany_limit : PySem.W.findIn K (.ref C_TooMany) "limit" = some none)
    (g_TooLarge : PySem.W.nsIn K mainGlobals "TooLarge" = some (some (.ref C_TooLarge)))
    (xl_TooLarge : K.lookup C_TooLarge = some (excClassObj nm_TooLarge q_TooLarge C_TooLarge N_TooLarge bs_TooLarge [.ref C_JourneyError, .type "ValueError", .type "Exception", .type "BaseException", .type "object"] true sn_TooLarge sub_TooLarge ab_TooLarge col_TooLarge dd_TooLarge m0_TooLarge m1_TooLarge m2_TooLarge m3_TooLarge m5_TooLarge "ValueError.__new__"))
    (sa_TooLarge : PySem.W.findIn K (.ref C_TooLarge) "__setattr__" = some (some (.builtin "object.__setattr__")))
    (ga_TooLarge : PySem.W.findIn K (.ref C_TooLarge) "__getattribute__" = some (some (.builtin "BaseException.__getattribute__")))
    (gg_TooLarge : PySem.W.findIn K (.ref C_TooLarge) "__getattr__" = some none)
    (cl_TooLarge : PySem.W.findIn K (.ref C_TooLarge) "__class__" = some (some (.builtin "object.__class__")))
    (kp_TooLarge : PySem.W.keepIn K (.ref C_TooLarge) = true)
    (n_TooLarge_what : PySem.W.findIn K (.ref C_TooLarge) "what" = some none)
    (n_TooLarge_number : PySem.W.findIn K (.ref C_TooLarge) "number" = some none)
    (n_TooLarge_limit : PySem.W.findIn K (.ref C_TooLarge) "limit" = some none)
    (g_NotAround : PySem.W.nsIn K mainGlobals "NotAround" = some (some (.ref C_NotAround)))
    (xl_NotAround : K.lookup C_NotAround = some (excClassObj nm_NotAround q_NotAround C_NotAround N_NotAround bs_NotAround [.ref C_JourneyError, .type "ValueError", .type "Exception", .type "BaseException", .type "object"] true sn_NotAround sub_NotAround ab_NotAround col_NotAround dd_NotAround m0_NotAround m1_NotAround m2_NotAround m3_NotAround m5_NotAround "ValueError.__new__"))
    (sa_NotAround : PySem.W.findIn K (.ref C_NotAround) "__setattr__" = some (some (.builtin "object.__setattr__")))
    (ga_NotAround : PySem.W.findIn K (.ref C_NotAround) "__getattribute__" = some (some (.builtin "BaseException.__getattribute__")))
    (gg_NotAround : PySem.W.findIn K (.ref C_NotAround) "__getattr__" = some none)
    (cl_NotAround : PySem.W.findIn K (.ref C_NotAround) "__class__" = some (some (.builtin "object.__class__")))
    (kp_NotAround : PySem.W.keepIn K (.ref C_NotAround) = true)
    (xi_NotAround : PySem.W.excIn K C_NotAround excM "ValueError.__new__" = true)
    (g_Unlike : PySem.W.nsIn K mainGlobals "Unlike" = some (some (.ref C_Unlike)))
    (xl_Unlike : K.lookup C_Unlike = some (excClassObj nm_Unlike q_Unlike C_Unlike N_Unlike bs_Unlike [.ref C_JourneyError, .type "ValueError", .type "Exception", .type "BaseException", .type "object"] true sn_Unlike sub_Unlike ab_Unlike col_Unlike dd_Unlike m0_Unlike m1_Unlike m2_Unlike m3_Unlike m5_Unlike "ValueError.__new__"))
    (sa_Unlike : PySem.W.findIn K (.ref C_Unlike) "__setattr__" = some (some (.builtin "object.__setattr__")))
    (ga_Unlike : PySem.W.findIn K (.ref C_Unlike) "__getattribute__" = some (some (.builtin "BaseException.__getattribute__")))
    (gg_Unlike : PySem.W.findIn K (.ref C_Unlike) "__getattr__" = some none)
    (cl_Unlike : PySem.W.findIn K (.ref C_Unlike) "__class__" = some (some (.builtin "object.__class__")))
    (kp_Unlike : PySem.W.keepIn K (.ref C_Unlike) = true)
    (n_Unlike_what : PySem.W.findIn K (.ref C_Unlike) "what" = some none)
    (g_BadPromise : PySem.W.nsIn K mainGlobals "BadPromise" = some (some (.ref C_BadPromise)))
    (xl_BadPromise : K.lookup C_BadPromise = some (excClassObj nm_BadPromise q_BadPromise C_BadPromise N_BadPromise bs_BadPromise [.ref C_JourneyError, .type "ValueError", .type "Exception", .type "BaseException", .type "object"] true sn_BadPromise sub_BadPromise ab_BadPromise col_BadPromise dd_BadPromise m0_BadPromise m1_BadPromise m2_BadPromise m3_BadPromise m5_BadPromise "ValueError.__new__"))
    (sa_BadPromise : PySem.W.findIn K (.ref C_BadPromise) "__setattr__" = some (some (.builtin "object.__setattr__")))
    (ga_BadPromise : PySem.W.findIn K (.ref C_BadPromise) "__getattribute__" = some (some (.builtin "BaseException.__getattribute__")))
    (gg_BadPromise : PySem.W.findIn K (.ref C_BadPromise) "__getattr__" = some none)
    (cl_BadPromise : PySem.W.findIn K (.ref C_BadPromise) "__class__" = some (some (.builtin "object.__class__")))
    (kp_BadPromise : PySem.W.keepIn K (.ref C_BadPromise) = true)
    (n_BadPromise_promise : PySem.W.findIn K (.ref C_BadPromise) "promise" = some none)
    (g_NotKept : PySem.W.nsIn K mainGlobals "NotKept" = some (some (.ref C_NotKept)))
    (xl_NotKept : K.lookup C_NotKept = some (excClassObj nm_NotKept q_NotKept C_NotKept N_NotKept bs_NotKept [.ref C_JourneyError, .type "ValueError", .type "Exception", .type "BaseException", .type "object"] true sn_NotKept sub_NotKept ab_NotKept col_NotKept dd_NotKept m0_NotKept m1_NotKept m2_NotKept m3_NotKept m5_NotKept "ValueError.__new__"))
    (sa_NotKept : PySem.W.findIn K (.ref C_NotKept) "__setattr__" = some (some (.builtin "object.__setattr__")))
    (ga_NotKept : PySem.W.findIn K (.ref C_NotKept) "__getattribute__" = some (some (.builtin "BaseException.__getattribute__")))
    (gg_NotKept : PySem.W.findIn K (.ref C_NotKept) "__getattr__" = some none)
    (cl_NotKept : PySem.W.findIn K (.ref C_NotKept) "__class__" = some (some (.builtin "object.__class__")))
    (kp_NotKept : PySem.W.keepIn K (.ref C_NotKept) = true)
    (n_NotKept_promise : PySem.W.findIn K (.ref C_NotKept) "promise" = some none)
    (g_Broken : PySem.W.nsIn K mainGlobals "Broken" = some (some (.ref C_Broken)))
    (xl_Broken : K.lookup C_Broken = some (excClassObj nm_Broken q_Broken C_Broken N_Broken bs_Broken [.ref C_JourneyError, .type "ValueError", .type "Exception", .type "BaseException", .type "object"] true sn_Broken sub_Broken ab_Broken col_Broken dd_Broken m0_Broken m1_Broken m2_Broken m3_Broken m5_Broken "ValueError.__new__"))
    (sa_Broken : PySem.W.findIn K (.ref C_Broken) "__setattr__" = some (some (.builtin "object.__setattr__")))
    (ga_Broken : PySem.W.findIn K (.ref C_Broken) "__getattribute__" = some (some (.builtin "BaseException.__getattribute__")))
    (gg_Broken : PySem.W.findIn K (.ref C_Broken) "__getattr__" = some none)
    (cl_Broken : PySem.W.findIn K (.ref C_Broken) "__class__" = some (some (.builtin "object.__class__")))
    (kp_Broken : PySem.W.keepIn K (.ref C_Broken) = true)
    (n_Broken_promise : PySem.W.findIn K (.ref C_Broken) "promise" = some none)
    (n_Broken_place : PySem.W.findIn K (.ref C_Broken) "place" = some none)
    (g_NothingToUndo : PySem.W.nsIn K mainGlobals "NothingToUndo" = some (some (.ref C_NothingToUndo)))
    (xl_NothingToUndo : K.lookup C_NothingToUndo = some (excClassObj nm_NothingToUndo q_NothingToUndo C_NothingToUndo N_NothingToUndo bs_NothingToUndo [.ref C_JourneyError, .type "ValueError", .type "Exception", .type "BaseException", .type "object"] true sn_NothingToUndo sub_NothingToUndo ab_NothingToUndo col_NothingToUndo dd_NothingToUndo m0_NothingToUndo m1_NothingToUndo m2_NothingToUndo m3_NothingToUndo m5_NothingToUndo "ValueError.__new__"))
    (sa_NothingToUndo : PySem.W.findIn K (.ref C_NothingToUndo) "__setattr__" = some (some (.builtin "object.__setattr__")))
    (ga_NothingToUndo : PySem.W.findIn K (.ref C_NothingToUndo) "__getattribute__" = some (some (.builtin "BaseException.__getattribute__")))
    (gg_NothingToUndo : PySem.W.findIn K (.ref C_NothingToUndo) "__getattr__" = some none)
    (cl_NothingToUndo : PySem.W.findIn K (.ref C_NothingToUndo) "__class__" = some (some (.builtin "object.__class__")))
    (kp_NothingToUndo : PySem.W.keepIn K (.ref C_NothingToUndo) = true)
    (xi_NothingToUndo : PySem.W.excIn K C_NothingToUndo excM "ValueError.__new__" = true)
    (g_NothingToRedo : PySem.W.nsIn K mainGlobals "NothingToRedo" = some (some (.ref C_NothingToRedo)))
    (xl_NothingToRedo : K.lookup C_NothingToRedo = some (excClassObj nm_NothingToRedo q_NothingToRedo C_NothingToRedo N_NothingToRedo bs_NothingToRedo [.ref C_JourneyError, .type "ValueError", .type "Exception", .type "BaseException", .type "object"] true sn_NothingToRedo sub_NothingToRedo ab_NothingToRedo col_NothingToRedo dd_NothingToRedo m0_NothingToRedo m1_NothingToRedo m2_NothingToRedo m3_NothingToRedo m5_NothingToRedo "ValueError.__new__"))
    (sa_NothingToRedo : PySem.W.findIn K (.ref C_NothingToRedo) "__setattr__" = some (some (.builtin "object.__setattr__")))
    (ga_NothingToRedo : PySem.W.findIn K (.ref C_NothingToRedo) "__getattribute__" = some (some (.builtin "BaseException.__getattribute__")))
    (gg_NothingToRedo : PySem.W.findIn K (.ref C_NothingToRedo) "__getattr__" = some none)
    (cl_NothingToRedo : PySem.W.findIn K (.ref C_NothingToRedo) "__class__" = some (some (.builtin "object.__class__")))
    (kp_NothingToRedo : PySem.W.keepIn K (.ref C_NothingToRedo) = true)
    (xi_NothingToRedo : PySem.W.excIn K C_NothingToRedo excM "ValueError.__new__" = true)
    (nd_x : [C_JourneyError, C_BadText, C_BadName, C_BadNumber, C_BadPlace, C_BadSheet, C_BadJourney, C_NoSpot, C_NoRoad, C_NoMap, C_TakenName, C_TooMany, C_TooLarge, C_NotAround, C_Unlike, C_BadPromise, C_NotKept, C_Broken, C_NothingToUndo, C_NothingToRedo].Nodup)
    (m_iBadText : PySem.W.findIn K (.ref C_BadText) "__init__" = some (some (.ref a_iBadText)))
    (i_iBadText : PySem.W.isFn K (.ref a_iBadText) = true)
    (l_iBadText : K.lookup a_iBadText = some ⟨oc_iBadText, od_iBadText, .func (PySem.W.fnOf "__init__" "BadText.__init__" (defArgs s_iBadText) (defBody s_iBadText) (defScope s_iBadText) .none kV_iBadText dc_iBadText pm_iBadText an_iBadText cd_iBadText ct_iBadText), sl_iBadText⟩)
    (o_iBadText : PySem.W.codeIn K cd_iBadText "BadText.__init__" = true)
    (k_iBadText : PySem.W.keepIn K (.ref a_iBadText) = true)
    (m_iBadName : PySem.W.findIn K (.ref C_BadName) "__init__" = some (some (.ref a_iBadName)))
    (i_iBadName : PySem.W.isFn K (.ref a_iBadName) = true)
    (l_iBadName : K.lookup a_iBadName = some ⟨oc_iBadName, od_iBadName, .func (PySem.W.fnOf "__init__" "BadName.__init__" (defArgs s_iBadName) (defBody s_iBadName) (defScope s_iBadName) .none kV_iBadName dc_iBadName pm_iBadName an_iBadName cd_iBadName ct_iBadName), sl_iBadName⟩)
    (o_iBadName : PySem.W.codeIn K cd_iBadName "BadName.__init__" = true)
    (k_iBadName : PySem.W.keepIn K (.ref a_iBadName) = true)
    (m_iBadNumber : PySem.W.findIn K (.ref C_BadNumber) "__init__" = some (some (.ref a_iBadNumber)))
    (i_iBadNumber : PySem.W.isFn K (.ref a_iBadNumber) = true)
    (l_iBadNumber : K.lookup a_iBadNumber = some ⟨oc_iBadNumber, od_iBadNumber, .func (PySem.W.fnOf "__init__" "BadNumber.__init__" (defArgs s_iBadNumber) (defBody s_iBadNumber) (defScope s_iBadNumber) .none kV_iBadNumber dc_iBadNumber pm_iBadNumber an_iBadNumber cd_iBadNumber ct_iBadNumber), sl_iBadNumber⟩)
    (o_iBadNumber : PySem.W.codeIn K cd_iBadNumber "BadNumber.__init__" = true)
    (k_iBadNumber : PySem.W.keepIn K (.ref a_iBadNumber) = true)
    (m_iBadPlace : PySem.W.findIn K (.ref C_BadPlace) "__init__" = some (some (.ref a_iBadPlace)))
    (i_iBadPlace : PySem.W.isFn K (.ref a_iBadPlace) = true)
    (l_iBadPlace : K.lookup a_iBadPlace = some ⟨oc_iBadPlace, od_iBadPlace, .func (PySem.W.fnOf "__init__" "BadPlace.__init__" (defArgs s_iBadPlace) (defBody s_iBadPlace) (defScope s_iBadPlace) .none kV_iBadPlace dc_iBadPlace pm_iBadPlace an_iBadPlace cd_iBadPlace ct_iBadPlace), sl_iBadPlace⟩)
    (o_iBadPlace : PySem.W.codeIn K cd_iBadPlace "BadPlace.__init__" = true)
    (k_iBadPlace : PySem.W.keepIn K (.ref a_iBadPlace) = true)
    (m_iBadSheet : PySem.W.findIn K (.ref C_BadSheet) "__init__" = some (some (.ref a_iBadSheet)))
    (i_iBadSheet : PySem.W.isFn K (.ref a_iBadSheet) = true)
    (l_iBadSheet : K.lookup a_iBadSheet = some ⟨oc_iBadSheet, od_iBadSheet, .func (PySem.W.fnOf "__init__" "BadSheet.__init__" (defArgs s_iBadSheet) (defBody s_iBadSheet) (defScope s_iBadSheet) .none kV_iBadSheet dc_iBadSheet pm_iBadSheet an_iBadSheet cd_iBadSheet ct_iBadSheet), sl_iBadSheet⟩)
    (o_iBadSheet : PySem.W.codeIn K cd_iBadSheet "BadSheet.__init__" = true)
    (k_iBadSheet : PySem.W.keepIn K (.ref a_iBadSheet) = true)
    (m_iBadJourney : PySem.W.findIn K (.ref C_BadJourney) "__init__" = some (some (.ref a_iBadJourney)))
    (i_iBadJourney : PySem.W.isFn K (.ref a_iBadJourney) = true)
    (l_iBadJourney : K.lookup a_iBadJourney = some ⟨oc_iBadJourney, od_iBadJourney, .func (PySem.W.fnOf "__init__" "BadJourney.__init__" (defArgs s_iBadJourney) (defBody s_iBadJourney) (defScope s_iBadJourney) .none kV_iBadJourney dc_iBadJourney pm_iBadJourney an_iBadJourney cd_iBadJourney ct_iBadJourney), sl_iBadJourney⟩)
    (o_iBadJourney : PySem.W.codeIn K cd_iBadJourney "BadJourney.__init__" = true)
    (k_iBadJourney : PySem.W.keepIn K (.ref a_iBadJourney) = true)
    (m_iNoSpot : PySem.W.findIn K (.ref C_NoSpot) "__init__" = some (some (.ref a_iNoSpot)))
    (i_iNoSpot : PySem.W.isFn K (.ref a_iNoSpot) = true)
    (l_iNoSpot : K.lookup a_iNoSpot = some ⟨oc_iNoSpot, od_iNoSpot, .func (PySem.W.fnOf "__init__" "NoSpot.__init__" (defArgs s_iNoSpot) (defBody s_iNoSpot) (defScope s_iNoSpot) .none kV_iNoSpot dc_iNoSpot pm_iNoSpot an_iNoSpot cd_iNoSpot ct_iNoSpot), sl_iNoSpot⟩)
    (o_iNoSpot : PySem.W.codeIn K cd_iNoSpot "NoSpot.__init__" = true)
    (k_iNoSpot : PySem.W.keepIn K (.ref a_iNoSpot) = true)
    (m_iNoRoad : PySem.W.findIn K (.ref C_NoRoad) "__init__" = some (some (.ref a_iNoRoad)))
    (i_iNoRoad : PySem.W.isFn K (.ref a_iNoRoad) = true)
    (l_iNoRoad : K.lookup a_iNoRoad = some ⟨oc_iNoRoad, od_iNoRoad, .func (PySem.W.fnOf "__init__" "NoRoad.__init__" (defArgs s_iNoRoad) (defBody s_iNoRoad) (defScope s_iNoRoad) .none kV_iNoRoad dc_iNoRoad pm_iNoRoad an_iNoRoad cd_iNoRoad ct_iNoRoad), sl_iNoRoad⟩)
    (o_iNoRoad : PySem.W.codeIn K cd_iNoRoad "NoRoad.__init__" = true)
    (k_iNoRoad : PySem.W.keepIn K (.ref a_iNoRoad) = true)
    (m_iNoMap : PySem.W.findIn K (.ref C_NoMap) "__init__" = some (some (.ref a_iNoMap)))
    (i_iNoMap : PySem.W.isFn K (.ref a_iNoMap) = true)
    (l_iNoMap : K.lookup a_iNoMap = some ⟨oc_iNoMap, od_iNoMap, .func (PySem.W.fnOf "__init__" "NoMap.__init__" (defArgs s_iNoMap) (defBody s_iNoMap) (defScope s_iNoMap) .none kV_iNoMap dc_iNoMap pm_iNoMap an_iNoMap cd_iNoMap ct_iNoMap), sl_iNoMap⟩)
    (o_iNoMap : PySem.W.codeIn K cd_iNoMap "NoMap.__init__" = true)
    (k_iNoMap : PySem.W.keepIn K (.ref a_iNoMap) = true)
    (m_iTakenName : PySem.W.findIn K (.ref C_TakenName) "__init__" = some (some (.ref a_iTakenName)))
    (i_iTakenName : PySem.W.isFn K (.ref a_iTakenName) = true)
    (l_iTakenName : K.lookup a_iTakenName = some ⟨oc_iTakenName, od_iTakenName, .func (PySem.W.fnOf "__init__" "TakenName.__init__" (defArgs s_iTakenName) (defBody s_iTakenName) (defScope s_iTakenName) .none kV_iTakenName dc_iTakenName pm_iTakenName an_iTakenName cd_iTakenName ct_iTakenName), sl_iTakenName⟩)
    (o_iTakenName : PySem.W.codeIn K cd_iTakenName "TakenName.__init__" = true)
    (k_iTakenName : PySem.W.keepIn K (.ref a_iTakenName) = true)
    (m_iTooMany : PySem.W.findIn K (.ref C_TooMany) "__init__" = some (some (.ref a_iTooMany)))
    (i_iTooMany : PySem.W.isFn K (.ref a_iTooMany) = true)
    (l_iTooMany : K.lookup a_iTooMany = some ⟨oc_iTooMany, od_iTooMany, .func (PySem.W.fnOf "__init__" "TooMany.__init__" (defArgs s_iTooMany) (defBody s_iTooMany) (defScope s_iTooMany) .none kV_iTooMany dc_iTooMany pm_iTooMany an_iTooMany cd_iTooMany ct_iTooMany), sl_iTooMany⟩)
    (o_iTooMany : PySem.W.codeIn K cd_iTooMany "TooMany.__init__" = true)
    (k_iTooMany : PySem.W.keepIn K (.ref a_iTooMany) = true)
    (m_iTooLarge : PySem.W.findIn K (.ref C_TooLarge) "__init__" = some (some (.ref a_iTooLarge)))
    (i_iTooLarge : PySem.W.isFn K (.ref a_iTooLarge) = true)
    (l_iTooLarge : K.lookup a_iTooLarge = some ⟨oc_iTooLarge, od_iTooLarge, .func (PySem.W.fnOf "__init__" "TooLarge.__init__" (defArgs s_iTooLarge) (defBody s_iTooLarge) (defScope s_iTooLarge) .none kV_iTooLarge dc_iTooLarge pm_iTooLarge an_iTooLarge cd_iTooLarge ct_iTooLarge), sl_iTooLarge⟩)
    (o_iTooLarge : PySem.W.codeIn K cd_iTooLarge "TooLarge.__init__" = true)
    (k_iTooLarge : PySem.W.keepIn K (.ref a_iTooLarge) = true)
    (m_iUnlike : PySem.W.findIn K (.ref C_Unlike) "__init__" = some (some (.ref a_iUnlike)))
    (i_iUnlike : PySem.W.isFn K (.ref a_iUnlike) = true)
    (l_iUnlike : K.lookup a_iUnlike = some ⟨oc_iUnlike, od_iUnlike, .func (PySem.W.fnOf "__init__" "Unlike.__init__" (defArgs s_iUnlike) (defBody s_iUnlike) (defScope s_iUnlike) .none kV_iUnlike dc_iUnlike pm_iUnlike an_iUnlike cd_iUnlike ct_iUnlike), sl_iUnlike⟩)
    (o_iUnlike : PySem.W.codeIn K cd_iUnlike "Unlike.__init__" = true)
    (k_iUnlike : PySem.W.keepIn K (.ref a_iUnlike) = true)
    (m_iBadPromise : PySem.W.findIn K (.ref C_BadPromise) "__init__" = some (some (.ref a_iBadPromise)))
    (i_iBadPromise : PySem.W.isFn K (.ref a_iBadPromise) = true)
    (l_iBadPromise : K.lookup a_iBadPromise = some ⟨oc_iBadPromise, od_iBadPromise, .func (PySem.W.fnOf "__init__" "BadPromise.__init__" (defArgs s_iBadPromise) (defBody s_iBadPromise) (defScope s_iBadPromise) .none kV_iBadPromise dc_iBadPromise pm_iBadPromise an_iBadPromise cd_iBadPromise ct_iBadPromise), sl_iBadPromise⟩)
    (o_iBadPromise : PySem.W.codeIn K cd_iBadPromise "BadPromise.__init__" = true)
    (k_iBadPromise : PySem.W.keepIn K (.ref a_iBadPromise) = true)
    (m_iNotKept : PySem.W.findIn K (.ref C_NotKept) "__init__" = some (some (.ref a_iNotKept)))
    (i_iNotKept : PySem.W.isFn K (.ref a_iNotKept) = true)
    (l_iNotKept : K.lookup a_iNotKept = some ⟨oc_iNotKept, od_iNotKept, .func (PySem.W.fnOf "__init__" "NotKept.__init__" (defArgs s_iNotKept) (defBody s_iNotKept) (defScope s_iNotKept) .none kV_iNotKept dc_iNotKept pm_iNotKept an_iNotKept cd_iNotKept ct_iNotKept), sl_iNotKept⟩)
    (o_iNotKept : PySem.W.codeIn K cd_iNotKept "NotKept.__init__" = true)
    (k_iNotKept : PySem.W.keepIn K (.ref a_iNotKept) = true)
    (m_iBroken : PySem.W.findIn K (.ref C_Broken) "__init__" = some (some (.ref a_iBroken)))
    (i_iBroken : PySem.W.isFn K (.ref a_iBroken) = true)
    (l_iBroken : K.lookup a_iBroken = some ⟨oc_iBroken, od_iBroken, .func (PySem.W.fnOf "__init__" "Broken.__init__" (defArgs s_iBroken) (defBody s_iBroken) (defScope s_iBroken) .none kV_iBroken dc_iBroken pm_iBroken an_iBroken cd_iBroken ct_iBroken), sl_iBroken⟩)
    (o_iBroken : PySem.W.codeIn K cd_iBroken "Broken.__init__" = true)
    (k_iBroken : PySem.W.keepIn K (.ref a_iBroken) = true)
    (z_len : PySem.W.nsIn K mainGlobals "len" = some none)
    (z_int : PySem.W.nsIn K mainGlobals "int" = some none)
    (z_list : PySem.W.nsIn K mainGlobals "list" = some none)
    (z_range : PySem.W.nsIn K mainGlobals "range" = some none)
    (z_zip : PySem.W.nsIn K mainGlobals "zip" = some none)
    (z_enumerate : PySem.W.nsIn K mainGlobals "enumerate" = some none)
    (z_isinstance : PySem.W.nsIn K mainGlobals "isinstance" = some none)
    (z_bool : PySem.W.nsIn K mainGlobals "bool" = some none)
    (z_abs : PySem.W.nsIn K mainGlobals "abs" = some none)
    (z_str : PySem.W.nsIn K mainGlobals "str" = some none)
    (z_ValueError : PySem.W.nsIn K mainGlobals "ValueError" = some none) :
    ∃ fd : FuncData, (∀ (s : Shared) (v : Value), BindsTo s fd ⟨[v], []⟩ [("_law_script", v)]) ∧ ∀ base : Heap, K.In base → base.Ns mainGlobals mg → FnOk l.prog w K mg base CX0 10 fa fd ["_law_script"] (spLaw K) := by
  have e := hfa.symm.trans (PySem.W.mg_of X G m_law)
  cases e
  have F_pen := fun_mkD (st := s_pen) l_pen o_pen k_pen
  have b_pen : Binds K (PySem.W.fnOf "_law_pen" "_law_pen" (defArgs s_pen) (defBody s_pen) (defScope s_pen) .none kV_pen dc_pen pm_pen an_pen cd_pen ct_pen) ["_law_script"] [] := .all fun us hl => match us, hl with | [_], _ => rfl
  have F_draw := fun_mkD (st := s_draw) l_draw o_draw k_draw
  have b_draw : Binds K (PySem.W.fnOf "_law_draw" "_law_draw" (defArgs s_draw) (defBody s_draw) (defScope s_draw) .none kV_draw dc_draw pm_draw an_draw cd_draw ct_draw) ["_law_pen_here", "_law_many"] [] := .all fun us hl => match us, hl with | [_, _], _ => rfl
  have F_pick := fun_mkD (st := s_pick) l_pick o_pick k_pick
  have b_pick : Binds K (PySem.W.fnOf "_law_pick" "_law_pick" (defArgs s_pick) (defBody s_pick) (defScope s_pick) .none kV_pick dc_pick pm_pick an_pick cd_pick ct_pick) ["_law_pen_here", "_law_some"] [] := .all fun us hl => match us, hl with | [_, _], _ => rfl
  have F_far := fun_mkD (st := s_far) l_far o_far k_far
  have b_far : Binds K (PySem.W.fnOf "_law_far" "_law_far" (defArgs s_far) (defBody s_far) (defScope s_far) .none kV_far dc_far pm_far an_far cd_far ct_far) ["_law_pen_here"] [] := .all fun us hl => match us, hl with | [_], _ => rfl
  have F_kinds := fun_mkD (st := s_kinds) l_kinds o_kinds k_kinds
  have b_kinds : Binds K (PySem.W.fnOf "_law_kinds" "_law_kinds" (defArgs s_kinds) (defBody s_kinds) (defScope s_kinds) .none kV_kinds dc_kinds pm_kinds an_kinds cd_kinds ct_kinds) ["_law_e"] [] := .all fun us hl => match us, hl with | [_], _ => rfl
  have F_made := fun_mkD (st := s_made) l_made o_made k_made
  have b_made : Binds K (PySem.W.fnOf "_law_made" "_law_made" (defArgs s_made) (defBody s_made) (defScope s_made) .none kV_made dc_made pm_made an_made cd_made ct_made) ["_law_a", "_law_b", "_law_c"] [] := .all fun us hl => match us, hl with | [_, _, _], _ => rfl
  have F_fields := fun_mkD (st := s_fields) l_fields o_fields k_fields
  have b_fields : Binds K (PySem.W.fnOf "_law_fields" "_law_fields" (defArgs s_fields) (defBody s_fields) (defScope s_fields) .none kV_fields dc_fields pm_fields an_fields cd_fields ct_fields) ["_law_row"] [] := .all fun us hl => match us, hl with | [_], _ => rfl
  have F_value := fun_mkD (st := s_value) l_value o_value k_value
  have b_value : Binds K (PySem.W.fnOf "_law_value" "_law_value" (defArgs s_value) (defBody s_value) (defScope s_value) .none kV_value dc_value pm_value an_value cd_value ct_value) ["_law_pen_here"] [] := .all fun us hl => match us, hl with | [_], _ => rfl
  have F_law := fun_mkD (st := s_law) l_law o_law k_law
  have b_law : Binds K (PySem.W.fnOf "law" "law" (defArgs s_law) (defBody s_law) (defScope s_law) .none kV_law dc_law pm_law an_law cd_law ct_law) ["_law_script"] [] := .all fun us hl => match us, hl with | [_], _ => rfl
  have F_iBadText := fun_mkD (st := s_iBadText) l_iBadText o_iBadText k_iBadText
  have b_iBadText : Binds K (PySem.W.fnOf "__init__" "BadText.__init__" (defArgs s_iBadText) (defBody s_iBadText) (defScope s_iBadText) .none kV_iBadText dc_iBadText pm_iBadText an_iBadText cd_iBadText ct_iBadText) ["self", "line", "column"] [] := .all fun us hl => match us, hl with | [_, _, _], _ => rfl
  have F_iBadName := fun_mkD (st := s_iBadName) l_iBadName o_iBadName k_iBadName
  have b_iBadName : Binds K (PySem.W.fnOf "__init__" "BadName.__init__" (defArgs s_iBadName) (defBody s_iBadName) (defScope s_iBadName) .none kV_iBadName dc_iBadName pm_iBadName an_iBadName cd_iBadName ct_iBadName) ["self", "name"] [] := .all fun us hl => match us, hl with | [_, _], _ => rfl
  have F_iBadNumber := fun_mkD (st := s_iBadNumber) l_iBadNumber o_iBadNumber k_iBadNumber
  have b_iBadNumber : Binds K (PySem.W.fnOf "__init__" "BadNumber.__init__" (defArgs s_iBadNumber) (defBody s_iBadNumber) (defScope s_iBadNumber) .none kV_iBadNumber dc_iBadNumber pm_iBadNumber an_iBadNumber cd_iBadNumber ct_iBadNumber) ["self", "what", "number"] [] := .all fun us hl => match us, hl with | [_, _, _], _ => rfl
  have F_iBadPlace := fun_mkD (st := s_iBadPlace) l_iBadPlace o_iBadPlace k_iBadPlace
  have b_iBadPlace : Binds K (PySem.W.fnOf "__init__" "BadPlace.__init__" (defArgs s_iBadPlace) (defBody s_iBadPlace) (defScope s_iBadPlace) .none kV_iBadPlace dc_iBadPlace pm_iBadPlace an_iBadPlace cd_iBadPlace ct_iBadPlace) ["self", "what"] [] := .all fun us hl => match us, hl with | [_, _], _ => rfl
  have F_iBadSheet := fun_mkD (st := s_iBadSheet) l_iBadSheet o_iBadSheet k_iBadSheet
  have b_iBadSheet : Binds K (PySem.W.fnOf "__init__" "BadSheet.__init__" (defArgs s_iBadSheet) (defBody s_iBadSheet) (defScope s_iBadSheet) .none kV_iBadSheet dc_iBadSheet pm_iBadSheet an_iBadSheet cd_iBadSheet ct_iBadSheet) ["self", "what"] [] := .all fun us hl => match us, hl with | [_, _], _ => rfl
  have F_iBadJourney := fun_mkD (st := s_iBadJourney) l_iBadJourney o_iBadJourney k_iBadJourney
  have b_iBadJourney : Binds K (PySem.W.fnOf "__init__" "BadJourney.__init__" (defArgs s_iBadJourney) (defBody s_iBadJourney) (defScope s_iBadJourney) .none kV_iBadJourney dc_iBadJourney pm_iBadJourney an_iBadJourney cd_iBadJourney ct_iBadJourney) ["self", "index"] [] := .all fun us hl => match us, hl with | [_, _], _ => rfl
  have F_iNoSpot := fun_mkD (st := s_iNoSpot) l_iNoSpot o_iNoSpot k_iNoSpot
  have b_iNoSpot : Binds K (PySem.W.fnOf "__init__" "NoSpot.__init__" (defArgs s_iNoSpot) (defBody s_iNoSpot) (defScope s_iNoSpot) .none kV_iNoSpot dc_iNoSpot pm_iNoSpot an_iNoSpot cd_iNoSpot ct_iNoSpot) ["self", "name"] [] := .all fun us hl => match us, hl with | [_, _], _ => rfl
  have F_iNoRoad := fun_mkD (st := s_iNoRoad) l_iNoRoad o_iNoRoad k_iNoRoad
  have b_iNoRoad : Binds K (PySem.W.fnOf "__init__" "NoRoad.__init__" (defArgs s_iNoRoad) (defBody s_iNoRoad) (defScope s_iNoRoad) .none kV_iNoRoad dc_iNoRoad pm_iNoRoad an_iNoRoad cd_iNoRoad ct_iNoRoad) ["self", "name"] [] := .all fun us hl => match us, hl with | [_, _], _ => rfl
  have F_iNoMap := fun_mkD (st := s_iNoMap) l_iNoMap o_iNoMap k_iNoMap
  have b_iNoMap : Binds K (PySem.W.fnOf "__init__" "NoMap.__init__" (defArgs s_iNoMap) (defBody s_iNoMap) (defScope s_iNoMap) .none kV_iNoMap dc_iNoMap pm_iNoMap an_iNoMap cd_iNoMap ct_iNoMap) ["self", "name"] [] := .all fun us hl => match us, hl with | [_, _], _ => rfl
  have F_iTakenName := fun_mkD (st := s_iTakenName) l_iTakenName o_iTakenName k_iTakenName
  have b_iTakenName : Binds K (PySem.W.fnOf "__init__" "TakenName.__init__" (defArgs s_iTakenName) (defBody s_iTakenName) (defScope s_iTakenName) .none kV_iTakenName dc_iTakenName pm_iTakenName an_iTakenName cd_iTakenName ct_iTakenName) ["self", "name"] [] := .all fun us hl => match us, hl with | [_, _], _ => rfl
  have F_iTooMany := fun_mkD (st := s_iTooMany) l_iTooMany o_iTooMany k_iTooMany
  have b_iTooMany : Binds K (PySem.W.fnOf "__init__" "TooMany.__init__" (defArgs s_iTooMany) (defBody s_iTooMany) (defScope s_iTooMany) .none kV_iTooMany dc_iTooMany pm_iTooMany an_iTooMany cd_iTooMany ct_iTooMany) ["self", "what", "many", "limit"] [] := .all fun us hl => match us, hl with | [_, _, _, _], _ => rfl
  have F_iTooLarge := fun_mkD (st := s_iTooLarge) l_iTooLarge o_iTooLarge k_iTooLarge
  have b_iTooLarge : Binds K (PySem.W.fnOf "__init__" "TooLarge.__init__" (defArgs s_iTooLarge) (defBody s_iTooLarge) (defScope s_iTooLarge) .none kV_iTooLarge dc_iTooLarge pm_iTooLarge an_iTooLarge cd_iTooLarge ct_iTooLarge) ["self", "what", "number", "limit"] [] := .all fun us hl => match us, hl with | [_, _, _, _], _ => rfl
  have F_iUnlike := fun_mkD (st := s_iUnlike) l_iUnlike o_iUnlike k_iUnlike
  have b_iUnlike : Binds K (PySem.W.fnOf "__init__" "Unlike.__init__" (defArgs s_iUnlike) (defBody s_iUnlike) (defScope s_iUnlike) .none kV_iUnlike dc_iUnlike pm_iUnlike an_iUnlike cd_iUnlike ct_iUnlike) ["self", "what"] [] := .all fun us hl => match us, hl with | [_, _], _ => rfl
  have F_iBadPromise := fun_mkD (st := s_iBadPromise) l_iBadPromise o_iBadPromise k_iBadPromise
  have b_iBadPromise : Binds K (PySem.W.fnOf "__init__" "BadPromise.__init__" (defArgs s_iBadPromise) (defBody s_iBadPromise) (defScope s_iBadPromise) .none kV_iBadPromise dc_iBadPromise pm_iBadPromise an_iBadPromise cd_iBadPromise ct_iBadPromise) ["self", "promise"] [] := .all fun us hl => match us, hl with | [_, _], _ => rfl
  have F_iNotKept := fun_mkD (st := s_iNotKept) l_iNotKept o_iNotKept k_iNotKept
  have b_iNotKept : Binds K (PySem.W.fnOf "__init__" "NotKept.__init__" (defArgs s_iNotKept) (defBody s_iNotKept) (defScope s_iNotKept) .none kV_iNotKept dc_iNotKept pm_iNotKept an_iNotKept cd_iNotKept ct_iNotKept) ["self", "promise"] [] := .all fun us hl => match us, hl with | [_, _], _ => rfl
  have F_iBroken := fun_mkD (st := s_iBroken) l_iBroken o_iBroken k_iBroken
  have b_iBroken : Binds K (PySem.W.fnOf "__init__" "Broken.__init__" (defArgs s_iBroken) (defBody s_iBroken) (defScope s_iBroken) .none kV_iBroken dc_iBroken pm_iBroken an_iBroken cd_iBroken ct_iBroken) ["self", "promise", "place"] [] := .all fun us hl => match us, hl with | [_, _, _], _ => rfl
  exact ⟨PySem.W.fnOf "law" "law" (defArgs s_law) (defBody s_law) (defScope s_law) .none kV_law dc_law pm_law an_law cd_law ct_law, fun s v => .of_eq rfl, fun base _ _ => ok_law { a_pen := a_pen, f_pen := _, d_pen := ⟨F_pen, PySem.W.mg_of X G m_pen, b_pen⟩, a_draw := a_draw, f_draw := _, d_draw := ⟨F_draw, PySem.W.mg_of X G m_draw, b_draw⟩, a_pick := a_pick, f_pick := _, d_pick := ⟨F_pick, PySem.W.mg_of X G m_pick, b_pick⟩, a_far := a_far, f_far := _, d_far := ⟨F_far, PySem.W.mg_of X G m_far, b_far⟩, a_kinds := a_kinds, f_kinds := _, d_kinds := ⟨F_kinds, PySem.W.mg_of X G m_kinds, b_kinds⟩, a_made := a_made, f_made := _, d_made := ⟨F_made, PySem.W.mg_of X G m_made, b_made⟩, a_fields := a_fields, f_fields := _, d_fields := ⟨F_fields, PySem.W.mg_of X G m_fields, b_fields⟩, a_value := a_value, f_value := _, d_value := ⟨F_value, PySem.W.mg_of X G m_value, b_value⟩, a_law := _, f_law := _, d_law := ⟨F_law, PySem.W.mg_of X G m_law, b_law⟩, C_JourneyError := C_JourneyError, g_JourneyError := PySem.W.mg_of X G g_JourneyError, C_BadText := C_BadText, e_BadText := exk_of xl_BadText sa_BadText ga_BadText gg_BadText cl_BadText kp_BadText sg_x tk_x, g_BadText := PySem.W.mg_of X G g_BadText, n_BadText_line := n_BadText_line, n_BadText_column := n_BadText_column, C_BadName := C_BadName, e_BadName := exk_of xl_BadName sa_BadName ga_BadName gg_BadName cl_BadName kp_BadName sg_x tk_x, g_BadName := PySem.W.mg_of X G g_BadName, n_BadName_name := n_BadName_name, C_BadNumber := C_BadNumber, e_BadNumber := exk_of xl_BadNumber sa_BadNumber ga_BadNumber gg_BadNumber cl_BadNumber kp_BadNumber sg_x tk_x, g_BadNumber := PySem.W.mg_of X G g_BadNumber, n_BadNumber_what := n_BadNumber_what, n_BadNumber_number := n_BadNumber_number, C_BadPlace := C_BadPlace, e_BadPlace := exk_of xl_BadPlace sa_BadPlace ga_BadPlace gg_BadPlace cl_BadPlace kp_BadPlace sg_x tk_x, g_BadPlace := PySem.W.mg_of X G g_BadPlace, n_BadPlace_what := n_BadPlace_what, C_BadSheet := C_BadSheet, e_BadSheet := exk_of xl_BadSheet sa_BadSheet ga_BadSheet gg_BadSheet cl_BadSheet kp_BadSheet sg_x tk_x, g_BadSheet := PySem.W.mg_of X G g_BadSheet, n_BadSheet_what := n_BadSheet_what, C_BadJourney := C_BadJourney, e_BadJourney := exk_of xl_BadJourney sa_BadJourney ga_BadJourney gg_BadJourney cl_BadJourney kp_BadJourney sg_x tk_x, g_BadJourney := PySem.W.mg_of X G g_BadJourney, n_BadJourney_index := n_BadJourney_index, C_NoSpot := C_NoSpot, e_NoSpot := exk_of xl_NoSpot sa_NoSpot ga_NoSpot gg_NoSpot cl_NoSpot kp_NoSpot sg_x tk_x, g_NoSpot := PySem.W.mg_of X G g_NoSpot, n_NoSpot_name := n_NoSpot_name, C_NoRoad := C_NoRoad, e_NoRoad := exk_of xl_NoRoad sa_NoRoad ga_NoRoad gg_NoRoad cl_NoRoad kp_NoRoad sg_x tk_x, g_NoRoad := PySem.W.mg_of X G g_NoRoad, n_NoRoad_name := n_NoRoad_name, C_NoMap := C_NoMap, e_NoMap := exk_of xl_NoMap sa_NoMap ga_NoMap gg_NoMap cl_NoMap kp_NoMap sg_x tk_x, g_NoMap := PySem.W.mg_of X G g_NoMap, n_NoMap_name := n_NoMap_name, C_TakenName := C_TakenName, e_TakenName := exk_of xl_TakenName sa_TakenName ga_TakenName gg_TakenName cl_TakenName kp_TakenName sg_x tk_x, g_TakenName := PySem.W.mg_of X G g_TakenName, n_TakenName_name := n_TakenName_name, C_TooMany := C_TooMany, e_TooMany := exk_of xl_TooMany sa_TooMany ga_TooMany gg_TooMany cl_TooMany kp_TooMany sg_x tk_x, g_TooMany := PySem.W.mg_of X G g_TooMany, n_TooMany_what := n_TooMany_what, n_TooMany_many := n_TooMany_many, n_TooMany_limit := n_TooMany_limit, C_TooLarge := C_TooLarge, e_TooLarge := exk_of xl_TooLarge sa_TooLarge ga_TooLarge gg_TooLarge cl_TooLarge kp_TooLarge sg_x tk_x, g_TooLarge := PySem.W.mg_of X G g_TooLarge, n_TooLarge_what := n_TooLarge_what, n_TooLarge_number := n_TooLarge_number, n_TooLarge_limit := n_TooLarge_limit, C_NotAround := C_NotAround, e_NotAround := exk_of xl_NotAround sa_NotAround ga_NotAround gg_NotAround cl_NotAround kp_NotAround sg_x tk_x, g_NotAround := PySem.W.mg_of X G g_NotAround, x_NotAround := xi_NotAround, C_Unlike := C_Unlike, e_Unlike := exk_of xl_Unlike sa_Unlike ga_Unlike gg_Unlike cl_Unlike kp_Unlike sg_x tk_x, g_Unlike := PySem.W.mg_of X G g_Unlike, n_Unlike_what := n_Unlike_what, C_BadPromise := C_BadPromise, e_BadPromise := exk_of xl_BadPromise sa_BadPromise ga_BadPromise gg_BadPromise cl_BadPromise kp_BadPromise sg_x tk_x, g_BadPromise := PySem.W.mg_of X G g_BadPromise, n_BadPromise_promise := n_BadPromise_promise, C_NotKept := C_NotKept, e_NotKept := exk_of xl_NotKept sa_NotKept ga_NotKept gg_NotKept cl_NotKept kp_NotKept sg_x tk_x, g_NotKept := PySem.W.mg_of X G g_NotKept, n_NotKept_promise := n_NotKept_promise, C_Broken := C_Broken, e_Broken := exk_of xl_Broken sa_Broken ga_Broken gg_Broken cl_Broken kp_Broken sg_x tk_x, g_Broken := PySem.W.mg_of X G g_Broken, n_Broken_promise := n_Broken_promise, n_Broken_place := n_Broken_place, C_NothingToUndo := C_NothingToUndo, e_NothingToUndo := exk_of xl_NothingToUndo sa_NothingToUndo ga_NothingToUndo gg_NothingToUndo cl_NothingToUndo kp_NothingToUndo sg_x tk_x, g_NothingToUndo := PySem.W.mg_of X G g_NothingToUndo, x_NothingToUndo := xi_NothingToUndo, C_NothingToRedo := C_NothingToRedo, e_NothingToRedo := exk_of xl_NothingToRedo sa_NothingToRedo ga_NothingToRedo gg_NothingToRedo cl_NothingToRedo kp_NothingToRedo sg_x tk_x, g_NothingToRedo := PySem.W.mg_of X G g_NothingToRedo, x_NothingToRedo := xi_NothingToRedo, kits := kits_of (exl_cons (exl_of xl_BadText) (exl_cons (exl_of xl_BadName) (exl_cons (exl_of xl_BadNumber) (exl_cons (exl_of xl_BadPlace) (exl_cons (exl_of xl_BadSheet) (exl_cons (exl_of xl_BadJourney) (exl_cons (exl_of xl_NoSpot) (exl_cons (exl_of xl_NoRoad) (exl_cons (exl_of xl_NoMap) (exl_cons (exl_of xl_TakenName) (exl_cons (exl_of xl_TooMany) (exl_cons (exl_of xl_TooLarge) (exl_cons (exl_of xl_NotAround) (exl_cons (exl_of xl_Unlike) (exl_cons (exl_of xl_BadPromise) (exl_cons (exl_of xl_NotKept) (exl_cons (exl_of xl_Broken) (exl_cons (exl_of xl_NothingToUndo) (exl_cons (exl_of xl_NothingToRedo) exl_nil ))))))))))))))))))) ic_JourneyError tc_JourneyError nd_x, a_iBadText := a_iBadText, f_iBadText := _, d_iBadText := ⟨F_iBadText, ⟨m_iBadText, i_iBadText, k_iBadText⟩⟩, b_iBadText := b_iBadText, a_iBadName := a_iBadName, f_iBadName := _, d_iBadName := ⟨F_iBadName, ⟨m_iBadName, i_iBadName, k_iBadName⟩⟩, b_iBadName := b_iBadName, a_iBadNumber := a_iBadNumber, f_iBadNumber := _, d_iBadNumber := ⟨F_iBadNumber, ⟨m_iBadNumber, i_iBadNumber, k_iBadNumber⟩⟩, b_iBadNumber := b_iBadNumber, a_iBadPlace := a_iBadPlace, f_iBadPlace := _, d_iBadPlace := ⟨F_iBadPlace, ⟨m_iBadPlace, i_iBadPlace, k_iBadPlace⟩⟩, b_iBadPlace := b_iBadPlace, a_iBadSheet := a_iBadSheet, f_iBadSheet := _, d_iBadSheet := ⟨F_iBadSheet, ⟨m_iBadSheet, i_iBadSheet, k_iBadSheet⟩⟩, b_iBadSheet := b_iBadSheet, a_iBadJourney := a_iBadJourney, f_iBadJourney := _, d_iBadJourney := ⟨F_iBadJourney, ⟨m_iBadJourney, i_iBadJourney, k_iBadJourney⟩⟩, b_iBadJourney := b_iBadJourney, a_iNoSpot := a_iNoSpot, f_iNoSpot := _, d_iNoSpot := ⟨F_iNoSpot, ⟨m_iNoSpot, i_iNoSpot, k_iNoSpot⟩⟩, b_iNoSpot := b_iNoSpot, a_iNoRoad := a_iNoRoad, f_iNoRoad := _, d_iNoRoad := ⟨F_iNoRoad, ⟨m_iNoRoad, i_iNoRoad, k_iNoRoad⟩⟩, b_iNoRoad := b_iNoRoad, a_iNoMap := a_iNoMap, f_iNoMap := _, d_iNoMap := ⟨F_iNoMap, ⟨m_iNoMap, i_iNoMap, k_iNoMap⟩⟩, b_iNoMap := b_iNoMap, a_iTakenName := a_iTakenName, f_iTakenName := _, d_iTakenName := ⟨F_iTakenName, ⟨m_iTakenName, i_iTakenName, k_iTakenName⟩⟩, b_iTakenName := b_iTakenName, a_iTooMany := a_iTooMany, f_iTooMany := _, d_iTooMany := ⟨F_iTooMany, ⟨m_iTooMany, i_iTooMany, k_iTooMany⟩⟩, b_iTooMany := b_iTooMany, a_iTooLarge := a_iTooLarge, f_iTooLarge := _, d_iTooLarge := ⟨F_iTooLarge, ⟨m_iTooLarge, i_iTooLarge, k_iTooLarge⟩⟩, b_iTooLarge := b_iTooLarge, a_iUnlike := a_iUnlike, f_iUnlike := _, d_iUnlike := ⟨F_iUnlike, ⟨m_iUnlike, i_iUnlike, k_iUnlike⟩⟩, b_iUnlike := b_iUnlike, a_iBadPromise := a_iBadPromise, f_iBadPromise := _, d_iBadPromise := ⟨F_iBadPromise, ⟨m_iBadPromise, i_iBadPromise, k_iBadPromise⟩⟩, b_iBadPromise := b_iBadPromise, a_iNotKept := a_iNotKept, f_iNotKept := _, d_iNotKept := ⟨F_iNotKept, ⟨m_iNotKept, i_iNotKept, k_iNotKept⟩⟩, b_iNotKept := b_iNotKept, a_iBroken := a_iBroken, f_iBroken := _, d_iBroken := ⟨F_iBroken, ⟨m_iBroken, i_iBroken, k_iBroken⟩⟩, b_iBroken := b_iBroken, z_len := PySem.W.mg_none_of X G z_len, z_int := PySem.W.mg_none_of X G z_int, z_list := PySem.W.mg_none_of X G z_list, z_range := PySem.W.mg_none_of X G z_range, z_zip := PySem.W.mg_none_of X G z_zip, z_enumerate := PySem.W.mg_none_of X G z_enumerate, z_isinstance := PySem.W.mg_none_of X G z_isinstance, z_bool := PySem.W.mg_none_of X G z_bool, z_abs := PySem.W.mg_none_of X G z_abs, z_str := PySem.W.mg_none_of X G z_str, z_ValueError := PySem.W.mg_none_of X G z_ValueError }⟩
theorem walk {l : PySem.W.OpenLaw} {q : Program} {loose : List Str} {XP : (Str → Option Value) → Heap → Prop} {YP : World → Heap → Prop} {d : DefRec} {K : Params → Fr} (hn : l.most = some 63) (hdf : d.params.defaults = [])
    (hY : ∀ (w : World) (h : Heap), YP w h → (K w.params).In h)
    (F : ∀ (w : World) (mg : Str → Option Value) (fa : Addr) (h : Heap), (K w.params).In h → h.Ns mainGlobals mg → mg d.name = some (.ref fa) →
      ∃ fd : FuncData, (∀ (s : Shared) (u : Value), BindsTo s fd ⟨[u], []⟩ [("_law_script", u)]) ∧ ∀ base : Heap, (K w.params).In base → base.Ns mainGlobals mg → FnOk l.prog w (K w.params) mg base CX0 10 fa fd ["_law_script"] (spLaw (K w.params))) :
    PySem.W.WalkO q loose XP YP l.row.toRowW d [] (fun f vs => PySem.call f vs) :=
  L2.walk_of (n := 63) (k := 10) (x := "_law_script") (CX := fun _ => CX0) (sp := fun w => spLaw (K w.params)) hn (by decide) hdf ⟨rfl, by decide, by decide⟩ hY F (fun _ _ a ns hl _ hS => ⟨a, ns, rfl, hS, hl, fun _ => rfl⟩) fun _ _ _ _ _ z => z
end
end LW
open PySem PySem.W PyProof.Rows
set_option maxRecDepth 100000 in
set_option maxHeartbeats 0 in
theorem PySem.Challenge.cw_alljourneys_k00_errors_holds : PySem.Challenge.rw_alljourneys_k00_errors.Holds := by
  w_on; o_law; k_head; (case hw => w_witness2)
  k_fill
  refine LW.walk (l := PySem.Challenge.rw_alljourneys_k00_errors) rfl rfl (fun w h Y => PySem.W.kIn_of Y) ?F
  case F =>
    intro w mg fa h KX G hmg
    refine' LW.all_mk KX G hmg ?m_pen ?l_pen ?o_pen ?k_pen ?m_draw ?l_draw ?o_draw ?k_draw ?m_pick ?l_pick ?o_pick ?k_pick ?m_far ?l_far ?o_far ?k_far ?m_kinds ?l_kinds ?o_kinds ?k_kinds ?m_made ?l_made ?o_made ?k_made ?m_fields ?l_fields ?o_fields ?k_fields ?m_value ?l_value ?o_value ?k_value ?m_law ?l_law ?o_law ?k_law ?g_JourneyError ?ic_JourneyError ?tc_JourneyError ?sg_x ?tk_x ?g_BadText ?xl_BadText ?sa_BadText ?ga_BadText ?gg_BadText ?cl_BadText ?kp_BadText ?n_BadText_line ?n_BadText_column ?g_BadName ?xl_BadName ?sa_BadName ?ga_BadName ?gg_BadName ?cl_BadName ?kp_BadName ?n_BadName_name ?g_BadNumber ?xl_BadNumber ?sa_BadNumber ?ga_BadNumber ?gg_BadNumber ?cl_BadNumber ?kp_BadNumber ?n_BadNumber_what ?n_BadNumber_number ?g_BadPlace ?xl_BadPlace ?sa_BadPlace ?ga_BadPlace ?gg_BadPlace ?cl_BadPlace ?kp_BadPlace ?n_BadPlace_what ?g_BadSheet ?xl_BadSheet ?sa_BadSheet ?ga_BadSheet ?gg_BadSheet ?cl_BadSheet ?kp_BadSheet ?n_BadSheet_what ?g_BadJourney ?xl_BadJourney ?sa_BadJourney ?ga_BadJourney ?gg_BadJourney ?cl_BadJourney ?kp_BadJourney ?n_BadJourney_index ?g_NoSpot ?xl_NoSpot ?sa_NoSpot ?ga_NoSpot ?gg_NoSpot ?cl_NoSpot ?kp_NoSpot ?n_NoSpot_name ?g_NoRoad ?xl_NoRoad ?sa_NoRoad ?ga_NoRoad ?gg_NoRoad ?cl_NoRoad ?kp_NoRoad ?n_NoRoad_name ?g_NoMap ?xl_NoMap ?sa_NoMap ?ga_NoMap ?gg_NoMap ?cl_NoMap ?kp_NoMap ?n_NoMap_name ?g_TakenName ?xl_TakenName ?sa_TakenName ?ga_TakenName ?gg_TakenName ?cl_TakenName ?kp_TakenName ?n_TakenName_name ?g_TooMany ?xl_TooMany ?sa_TooMany ?ga_TooMany ?gg_TooMany ?cl_TooMany ?kp_TooMany ?n_TooMany_what ?n_TooMany_many ?n_TooMany_limit ?g_TooLarge ?xl_TooLarge ?sa_TooLarge ?ga_TooLarge ?gg_TooLarge ?cl_TooLarge ?kp_TooLarge ?n_TooLarge_what ?n_TooLarge_number ?n_TooLarge_limit ?g_NotAround ?xl_NotAround ?sa_NotAround ?ga_NotAround ?gg_NotAround ?cl_NotAround ?kp_NotAround ?xi_NotAround ?g_Unlike ?xl_Unlike ?sa_Unlike ?ga_Unlike ?gg_Unlike ?cl_Unlike ?kp_Unlike ?n_Unlike_what ?g_BadPromise ?xl_BadPromise ?sa_BadPromise ?ga_BadPromise ?gg_BadPromise ?cl_BadPromise ?kp_BadPromise ?n_BadPromise_promise ?g_NotKept ?xl_NotKept ?sa_NotKept ?ga_NotKept ?gg_NotKept ?cl_NotKept ?kp_NotKept ?n_NotKept_promise ?g_Broken ?xl_Broken ?sa_Broken ?ga_Broken ?gg_Broken ?cl_Broken ?kp_Broken ?n_Broken_promise ?n_Broken_place ?g_NothingToUndo ?xl_NothingToUndo ?sa_NothingToUndo ?ga_NothingToUndo ?gg_NothingToUndo ?cl_NothingToUndo ?kp_NothingToUndo ?xi_NothingToUndo ?g_NothingToRedo ?xl_NothingToRedo ?sa_NothingToRedo ?ga_NothingToRedo ?gg_NothingToRedo ?cl_NothingToRedo ?kp_NothingToRedo ?xi_NothingToRedo ?nd_x ?m_iBadText ?i_iBadText ?l_iBadText ?o_iBadText ?k_iBadText ?m_iBadName ?i_iBadName ?l_iBadName ?o_iBadName ?k_iBadName ?m_iBadNumber ?i_iBadNumber ?l_iBadNumber ?o_iBadNumber ?k_iBadNumber ?m_iBadPlace ?i_iBadPlace ?l_iBadPlace ?o_iBadPlace ?k_iBadPlace ?m_iBadSheet ?i_iBadSheet ?l_iBadSheet ?o_iBadSheet ?k_iBadSheet ?m_iBadJourney ?i_iBadJourney ?l_iBadJourney ?o_iBadJourney ?k_iBadJourney ?m_iNoSpot ?i_iNoSpot ?l_iNoSpot ?o_iNoSpot ?k_iNoSpot ?m_iNoRoad ?i_iNoRoad ?l_iNoRoad ?o_iNoRoad ?k_iNoRoad ?m_iNoMap ?i_iNoMap ?l_iNoMap ?o_iNoMap ?k_iNoMap ?m_iTakenName ?i_iTakenName ?l_iTakenName ?o_iTakenName ?k_iTakenName ?m_iTooMany ?i_iTooMany ?l_iTooMany ?o_iTooMany ?k_iTooMany ?m_iTooLarge ?i_iTooLarge ?l_iTooLarge ?o_iTooLarge ?k_iTooLarge ?m_iUnlike ?i_iUnlike ?l_iUnlike ?o_iUnlike ?k_iUnlike ?m_iBadPromise ?i_iBadPromise ?l_iBadPromise ?o_iBadPromise ?k_iBadPromise ?m_iNotKept ?i_iNotKept ?l_iNotKept ?o_iNotKept ?k_iNotKept ?m_iBroken ?i_iBroken ?l_iBroken ?o_iBroken ?k_iBroken ?z_len ?z_int ?z_list ?z_range ?z_zip ?z_enumerate ?z_isinstance ?z_bool ?z_abs ?z_str ?z_ValueError
    (case m_pen => k_is); (case l_pen => k_is); (case o_pen => k_is); (case k_pen => k_is); (case m_draw => k_is); (case l_draw => k_is); (case o_draw => k_is); (case k_draw => k_is)
    (case m_pick => k_is); (case l_pick => k_is); (case o_pick => k_is); (case k_pick => k_is); (case m_far => k_is); (case l_far => k_is); (case o_far => k_is); (case k_far => k_is)
    (case m_kinds => k_is); (case l_kinds => k_is); (case o_kinds => k_is); (case k_kinds => k_is); (case m_made => k_is); (case l_made => k_is); (case o_made => k_is); (case k_made => k_is)
    (case m_fields => k_is); (case l_fields => k_is); (case o_fields => k_is); (case k_fields => k_is); (case m_value => k_is); (case l_value => k_is); (case o_value => k_is); (case k_value => k_is)
    (case m_law => k_is); (case l_law => k_is); (case o_law => k_is); (case k_law => k_is); (case g_JourneyError => k_is); (case ic_JourneyError => k_is); (case tc_JourneyError => k_is); (case sg_x => k_is)
    (case tk_x => k_is); (case g_BadText => k_is); (case xl_BadText => k_is); (case sa_BadText => k_is); (case ga_BadText => k_is); (case gg_BadText => k_is); (case cl_BadText => k_is); (case kp_BadText => k_is)
    (case n_BadText_line => k_is); (case n_BadText_column => k_is); (case g_BadName => k_is); (case xl_BadName => k_is); (case sa_BadName => k_is); (case ga_BadName => k_is); (case gg_BadName => k_is); (case cl_BadName => k_is)
    (case kp_BadName => k_is); (case n_BadName_name => k_is); (case g_BadNumber => k_is); (case xl_BadNumber => k_is); (case sa_BadNumber => k_is); (case ga_BadNumber => k_is); (case gg_BadNumber => k_is); (case cl_BadNumber => k_is)
    (case kp_BadNumber => k_is); (case n_BadNumber_what => k_is); (case n_BadNumber_number => k_is); (case g_BadPlace => k_is); (case xl_BadPlace => k_is); (case sa_BadPlace => k_is); (case ga_BadPlace => k_is); (case gg_BadPlace => k_is)
    (case cl_BadPlace => k_is); (case kp_BadPlace => k_is); (case n_BadPlace_what => k_is); (case g_BadSheet => k_is); (case xl_BadSheet => k_is); (case sa_BadSheet => k_is); (case ga_BadSheet => k_is); (case gg_BadSheet => k_is)
    (case cl_BadSheet => k_is); (case kp_BadSheet => k_is); (case n_BadSheet_what => k_is); (case g_BadJourney => k_is); (case xl_BadJourney => k_is); (case sa_BadJourney => k_is); (case ga_BadJourney => k_is); (case gg_BadJourney => k_is)
    (case cl_BadJourney => k_is); (case kp_BadJourney => k_is); (case n_BadJourney_index => k_is); (case g_NoSpot => k_is); (case xl_NoSpot => k_is); (case sa_NoSpot => k_is); (case ga_NoSpot => k_is); (case gg_NoSpot => k_is)
    (case cl_NoSpot => k_is); (case kp_NoSpot => k_is); (case n_NoSpot_name => k_is); (case g_NoRoad => k_is); (case xl_NoRoad => k_is); (case sa_NoRoad => k_is); (case ga_NoRoad => k_is); (case gg_NoRoad => k_is)
    (case cl_NoRoad => k_is); (case kp_NoRoad => k_is); (case n_NoRoad_name => k_is); (case g_NoMap => k_is); (case xl_NoMap => k_is); (case sa_NoMap => k_is); (case ga_NoMap => k_is); (case gg_NoMap => k_is)
    (case cl_NoMap => k_is); (case kp_NoMap => k_is); (case n_NoMap_name => k_is); (case g_TakenName => k_is); (case xl_TakenName => k_is); (case sa_TakenName => k_is); (case ga_TakenName => k_is); (case gg_TakenName => k_is)
    (case cl_TakenName => k_is); (case kp_TakenName => k_is); (case n_TakenName_name => k_is); (case g_TooMany => k_is); (case xl_TooMany => k_is); (case sa_TooMany => k_is); (case ga_TooMany => k_is); (case gg_TooMany => k_is)
    (case cl_TooMany => k_is); (case kp_TooMany => k_is); (case n_TooMany_what => k_is); (case n_TooMany_many => k_is); (case n_TooMany_limit => k_is); (case g_TooLarge => k_is); (case xl_TooLarge => k_is); (case sa_TooLarge => k_is)
    (case ga_TooLarge => k_is); (case gg_TooLarge => k_is); (case cl_TooLarge => k_is); (case kp_TooLarge => k_is); (case n_TooLarge_what => k_is); (case n_TooLarge_number => k_is); (case n_TooLarge_limit => k_is); (case g_NotAround => k_is)
    (case xl_NotAround => k_is); (case sa_NotAround => k_is); (case ga_NotAround => k_is); (case gg_NotAround => k_is); (case cl_NotAround => k_is); (case kp_NotAround => k_is); (case xi_NotAround => k_exc); (case g_Unlike => k_is)
    (case xl_Unlike => k_is); (case sa_Unlike => k_is); (case ga_Unlike => k_is); (case gg_Unlike => k_is); (case cl_Unlike => k_is); (case kp_Unlike => k_is); (case n_Unlike_what => k_is); (case g_BadPromise => k_is)
    (case xl_BadPromise => k_is); (case sa_BadPromise => k_is); (case ga_BadPromise => k_is); (case gg_BadPromise => k_is); (case cl_BadPromise => k_is); (case kp_BadPromise => k_is); (case n_BadPromise_promise => k_is); (case g_NotKept => k_is)
    (case xl_NotKept => k_is); (case sa_NotKept => k_is); (case ga_NotKept => k_is); (case gg_NotKept => k_is); (case cl_NotKept => k_is); (case kp_NotKept => k_is); (case n_NotKept_promise => k_is); (case g_Broken => k_is)
    (case xl_Broken => k_is); (case sa_Broken => k_is); (case ga_Broken => k_is); (case gg_Broken => k_is); (case cl_Broken => k_is); (case kp_Broken => k_is); (case n_Broken_promise => k_is); (case n_Broken_place => k_is)
    (case g_NothingToUndo => k_is); (case xl_NothingToUndo => k_is); (case sa_NothingToUndo => k_is); (case ga_NothingToUndo => k_is); (case gg_NothingToUndo => k_is); (case cl_NothingToUndo => k_is); (case kp_NothingToUndo => k_is); (case xi_NothingToUndo => k_exc)
    (case g_NothingToRedo => k_is); (case xl_NothingToRedo => k_is); (case sa_NothingToRedo => k_is); (case ga_NothingToRedo => k_is); (case gg_NothingToRedo => k_is); (case cl_NothingToRedo => k_is); (case kp_NothingToRedo => k_is); (case xi_NothingToRedo => k_exc)
    (case nd_x => decide); (case m_iBadText => k_is); (case i_iBadText => k_is); (case l_iBadText => k_is); (case o_iBadText => k_is); (case k_iBadText => k_is); (case m_iBadName => k_is); (case i_iBadName => k_is)
    (case l_iBadName => k_is); (case o_iBadName => k_is); (case k_iBadName => k_is); (case m_iBadNumber => k_is); (case i_iBadNumber => k_is); (case l_iBadNumber => k_is); (case o_iBadNumber => k_is); (case k_iBadNumber => k_is)
    (case m_iBadPlace => k_is); (case i_iBadPlace => k_is); (case l_iBadPlace => k_is); (case o_iBadPlace => k_is); (case k_iBadPlace => k_is); (case m_iBadSheet => k_is); (case i_iBadSheet => k_is); (case l_iBadSheet => k_is)
    (case o_iBadSheet => k_is); (case k_iBadSheet => k_is); (case m_iBadJourney => k_is); (case i_iBadJourney => k_is); (case l_iBadJourney => k_is); (case o_iBadJourney => k_is); (case k_iBadJourney => k_is); (case m_iNoSpot => k_is)
    (case i_iNoSpot => k_is); (case l_iNoSpot => k_is); (case o_iNoSpot => k_is); (case k_iNoSpot => k_is); (case m_iNoRoad => k_is); (case i_iNoRoad => k_is); (case l_iNoRoad => k_is); (case o_iNoRoad => k_is)
    (case k_iNoRoad => k_is); (case m_iNoMap => k_is); (case i_iNoMap => k_is); (case l_iNoMap => k_is); (case o_iNoMap => k_is); (case k_iNoMap => k_is); (case m_iTakenName => k_is); (case i_iTakenName => k_is)
    (case l_iTakenName => k_is); (case o_iTakenName => k_is); (case k_iTakenName => k_is); (case m_iTooMany => k_is); (case i_iTooMany => k_is); (case l_iTooMany => k_is); (case o_iTooMany => k_is); (case k_iTooMany => k_is)
    (case m_iTooLarge => k_is); (case i_iTooLarge => k_is); (case l_iTooLarge => k_is); (case o_iTooLarge => k_is); (case k_iTooLarge => k_is); (case m_iUnlike => k_is); (case i_iUnlike => k_is); (case l_iUnlike => k_is)
    (case o_iUnlike => k_is); (case k_iUnlike => k_is); (case m_iBadPromise => k_is); (case i_iBadPromise => k_is); (case l_iBadPromise => k_is); (case o_iBadPromise => k_is); (case k_iBadPromise => k_is); (case m_iNotKept => k_is)
    (case i_iNotKept => k_is); (case l_iNotKept => k_is); (case o_iNotKept => k_is); (case k_iNotKept => k_is); (case m_iBroken => k_is); (case i_iBroken => k_is); (case l_iBroken => k_is); (case o_iBroken => k_is)
    (case k_iBroken => k_is); (case z_len => k_is); (case z_int => k_is); (case z_list => k_is); (case z_range => k_is); (case z_zip => k_is); (case z_enumerate => k_is); (case z_isinstance => k_is)
    (case z_bool => k_is); (case z_abs => k_is); (case z_str => k_is); (case z_ValueError => k_is)
