import PyProof.Rows.All
import Wide.All
import OpenK.AllK
import Wide.FinOn
import HandS.ForMost
import HandS.Wide
import HandS.Zip
import HandS.Style
import HandS.Deep
import HandS.TupLe
import HandS.IsInst
import KE.GoesMore
import HandS.Defaults
import HandS.Walk
import PySem.Challenge.RW_alljourneys_k02_cells_and_counts_of_shee
set_option Elab.async false
set_option linter.all false
set_option maxRecDepth 100000
/-! What holds of the heap between the steps of a law: data made of tuples (Rep), kept by all that is done behind (Kt); expressions by their data (Ev ..). -/
namespace LB
open PySem L2
abbrev Fr := PySem.W.Frag
abbrev PD := PyData
/-! ### heaps -/
def Imm : HO → Prop
  | .tup _ => True
  | .ins _ _ _ => True
  | .own _ => True
  | .frz _ _ => True
  | _ => False
def Kt (H H' : Hp) : Prop := ∀ b o, H b = some o → Imm o → H' b = some o
theorem Kt.refl (H : Hp) : Kt H H := fun _ _ h _ => h
theorem Kt.trans {H H1 H2 : Hp} (a : Kt H H1) (b : Kt H1 H2) : Kt H H2 := fun c o h i => b c o (a c o h i) i
theorem kt_same {H H' : Hp} (s : Same H H') : Kt H H' := fun b o h _ => s b o h
/-- all but what stands at d is kept -/
def Kd (d : Addr) (H H' : Hp) : Prop := ∀ b o, H b = some o → b ≠ d → H' b = some o
theorem Kd.refl {d : Addr} (H : Hp) : Kd d H H := fun _ _ h _ => h
theorem Kd.trans {d : Addr} {H H1 H2 : Hp} (a : Kd d H H1) (b : Kd d H1 H2) : Kd d H H2 := fun c o h i => b c o (a c o h i) i
theorem kd_same {d : Addr} {H H' : Hp} (s : Same H H') : Kd d H H' := fun b o h _ => s b o h
theorem kt_kd {d : Addr} {H H' : Hp} {o : HO} (k : Kd d H H') (hd : H d = some o) (ni : ¬ Imm o) : Kt H H' := fun b u h i =>
  k b u h fun e => by subst e; rw [hd] at h; cases h; exact ni i
theorem kt_sqt {K : Fr} {H H' : Hp} (k : Kt H H') {a : Addr} {xs : List V} (h : SqT K H a xs) : SqT K H' a xs := by
  rcases h with (h | ⟨o, h⟩) | h
  · exact .inl (.inl (k _ _ h trivial))
  · exact .inl (.inr ⟨o, k _ _ h trivial⟩)
  · exact .inr h
theorem same_upd {H : Hp} {p : Addr} {o : HO} (h : H p = none) : Same H (upd H p o) := fun b u e => by
  rw [upd_ne (ne_of_none e h)]; exact e
/-! ### data made of tuples -/
mutual
inductive Rep (K : Fr) (H : Hp) : V → PD → Prop
  | non : Rep K H .non .none
  | bl (b : Bool) : Rep K H (.bl b) (.bool b)
  | int (i : Int) : Rep K H (.int i) (.int i)
  | str (x : Str) : Rep K H (.str x) (.str x)
  | tup {a : Addr} {xs : List V} {ds : List PD} : SqT K H a xs → RepAll K H xs ds → Rep K H (.ref a) (.tuple ds)
inductive RepAll (K : Fr) (H : Hp) : List V → List PD → Prop
  | nil : RepAll K H [] []
  | cons {v : V} {vs : List V} {d : PD} {ds : List PD} : Rep K H v d → RepAll K H vs ds → RepAll K H (v :: vs) (d :: ds)
end
section
variable {K : Fr} {H H' : Hp}
def ImmT : HO → Prop
  | .tup _ => True
  | .frz _ _ => True
  | _ => False
/-- the tuples are kept -/
def Kr (H H' : Hp) : Prop := ∀ b o, H b = some o → ImmT o → H' b = some o
theorem kr_sqt (k : Kr H H') {a : Addr} {xs : List V} (h : SqT K H a xs) : SqT K H' a xs := by
  rcases h with (h | ⟨o, h⟩) | h
  · exact .inl (.inl (k _ _ h trivial))
  · exact .inl (.inr ⟨o, k _ _ h trivial⟩)
  · exact .inr h
theorem kr_kt (k : Kt H H') : Kr H H' := fun b o h i => k b o h (by cases o <;> first | exact trivial | exact i.elim)
theorem kr_upd {p : Addr} {o u : HO} (h : H p = some u) (n : ¬ ImmT u) : Kr H (upd H p o) := fun b v e i => by
  have ne : b ≠ p := fun z => by subst z; rw [h] at e; cases e; exact n i
  rw [upd_ne ne]; exact e
mutual
theorem Rep.kr (k : Kr H H') {v : V} {d : PD} : Rep K H v d → Rep K H' v d
  | .non => .non
  | .bl b => .bl b
  | .int i => .int i
  | .str x => .str x
  | .tup h r => .tup (kr_sqt k h) (RepAll.kr k r)
theorem RepAll.kr (k : Kr H H') {vs : List V} {ds : List PD} : RepAll K H vs ds → RepAll K H' vs ds
  | .nil => .nil
  | .cons h r => .cons (Rep.kr k h) (RepAll.kr k r)
end
mutual
theorem Rep.kt (k : Kt H H') {v : V} {d : PD} : Rep K H v d → Rep K H' v d
  | .non => .non
  | .bl b => .bl b
  | .int i => .int i
  | .str x => .str x
  | .tup h r => .tup (kt_sqt k h) (RepAll.kt k r)
theorem RepAll.kt (k : Kt H H') {vs : List V} {ds : List PD} : RepAll K H vs ds → RepAll K H' vs ds
  | .nil => .nil
  | .cons h r => .cons (Rep.kt k h) (RepAll.kt k r)
end
theorem Rep.same (s : Same H H') {v : V} {d : PD} (h : Rep K H v d) : Rep K H' v d := h.kt (kt_same s)
theorem RepAll.same (s : Same H H') {v : List V} {d : List PD} (h : RepAll K H v d) : RepAll K H' v d := h.kt (kt_same s)
mutual
theorem Rep.dp {v : V} {d : PD} : Rep K H v d → Dp K H v d
  | .non => .non
  | .bl b => .bl b
  | .int i => .int i
  | .str x => .str x
  | .tup h r => .tup h (RepAll.dp r)
theorem RepAll.dp {vs : List V} {ds : List PD} : RepAll K H vs ds → DpAll K H vs ds
  | .nil => .nil
  | .cons h r => .cons (Rep.dp h) (RepAll.dp r)
end
theorem Rep.int_inv {v : V} {i : Int} (h : Rep K H v (.int i)) : v = .int i := by cases h; rfl
theorem Rep.bl_inv {v : V} {i : Bool} (h : Rep K H v (.bool i)) : v = .bl i := by cases h; rfl
theorem Rep.non_inv {v : V} (h : Rep K H v .none) : v = .non := by cases h; rfl
theorem Rep.str_inv {v : V} {x : Str} (h : Rep K H v (.str x)) : v = .str x := by cases h; rfl
theorem Rep.tup_inv {v : V} {ds : List PD} (h : Rep K H v (.tuple ds)) : ∃ a xs, v = .ref a ∧ SqT K H a xs ∧ RepAll K H xs ds := by
  cases h with
  | tup h r => exact ⟨_, _, rfl, h, r⟩
theorem RepAll.len : ∀ {vs : List V} {ds : List PD}, RepAll K H vs ds → vs.length = ds.length
  | _, _, .nil => rfl
  | _, _, .cons _ r => by rw [List.length_cons, List.length_cons, RepAll.len r]
theorem RepAll.get : ∀ {vs : List V} {ds : List PD} {i : Nat} {d : PD}, RepAll K H vs ds → ds[i]? = some d → ∃ v, vs[i]? = some v ∧ Rep K H v d
  | _, _, _, _, .nil, e => by simp at e
  | _, _, 0, _, .cons h _, e => by simp at e; subst e; exact ⟨_, rfl, h⟩
  | _, _, i + 1, d, .cons _ r, e => by
    obtain ⟨v, h1, h2⟩ := RepAll.get (i := i) (d := d) r (by simpa using e)
    exact ⟨v, by simpa using h1, h2⟩
theorem RepAll.getV : ∀ {vs : List V} {ds : List PD} {i : Nat} {v : V}, RepAll K H vs ds → vs[i]? = some v → ∃ d, ds[i]? = some d ∧ Rep K H v d
  | _, _, _, _, .nil, e => by simp at e
  | _, _, 0, _, .cons h _, e => by simp at e; subst e; exact ⟨_, rfl, h⟩
  | _, _, i + 1, v, .cons _ r, e => by
    obtain ⟨d, h1, h2⟩ := RepAll.getV (i := i) (v := v) r (by simpa using e)
    exact ⟨d, by simpa using h1, h2⟩
theorem RepAll.at {vs : List V} {ds : List PD} {i : Int} {d : PD} (r : RepAll K H vs ds) (e : atI ds i = some d) : ∃ v, atI vs i = some v ∧ Rep K H v d := by
  unfold atI at e ⊢
  rw [r.len]
  cases q : ixN ds.length i with
  | none => rw [q] at e; cases e
  | some j =>
    rw [q] at e
    exact r.get e
theorem RepAll.append : ∀ {vs ws : List V} {ds es : List PD}, RepAll K H vs ds → RepAll K H ws es → RepAll K H (vs ++ ws) (ds ++ es)
  | _, _, _, _, .nil, s => s
  | _, _, _, _, .cons h r, s => .cons h (RepAll.append r s)
theorem RepAll.inv1 {vs : List V} {d : PD} (h : RepAll K H vs [d]) : ∃ v, vs = [v] ∧ Rep K H v d := by
  cases h with
  | cons h r => cases r; exact ⟨_, rfl, h⟩
theorem RepAll.inv2 {vs : List V} {d e : PD} (h : RepAll K H vs [d, e]) : ∃ v w, vs = [v, w] ∧ Rep K H v d ∧ Rep K H w e := by
  cases h with
  | cons h r => obtain ⟨w, rfl, h2⟩ := r.inv1; exact ⟨_, _, rfl, h, h2⟩
theorem RepAll.inv3 {vs : List V} {d e f : PD} (h : RepAll K H vs [d, e, f]) : ∃ v w x, vs = [v, w, x] ∧ Rep K H v d ∧ Rep K H w e ∧ Rep K H x f := by
  cases h with
  | cons h r => obtain ⟨w, x, rfl, h2, h3⟩ := r.inv2; exact ⟨_, _, _, rfl, h, h2, h3⟩
theorem RepAll.inv4 {vs : List V} {d e f g : PD} (h : RepAll K H vs [d, e, f, g]) : ∃ v w x y, vs = [v, w, x, y] ∧ Rep K H v d ∧ Rep K H w e ∧ Rep K H x f ∧ Rep K H y g := by
  cases h with
  | cons h r => obtain ⟨w, x, y, rfl, h2, h3, h4⟩ := r.inv3; exact ⟨_, _, _, _, rfl, h, h2, h3, h4⟩
end
/-! ### sizes of ints -/
def Bd (n : Nat) (i : Int) : Prop := i.natAbs < 2 ^ n
theorem Bd.mono {n m : Nat} {i : Int} (h : Bd n i) (l : n ≤ m) : Bd m i := Nat.lt_of_lt_of_le h (Nat.pow_le_pow_right (by decide) l)
theorem Bd.add {n m : Nat} {i j : Int} (a : Bd n i) (b : Bd m j) : Bd (max n m + 1) (i + j) := by
  have a' := a.mono (Nat.le_max_left n m)
  have b' := b.mono (Nat.le_max_right n m)
  unfold Bd at *
  rw [Nat.pow_succ]
  omega
theorem Bd.sub {n m : Nat} {i j : Int} (a : Bd n i) (b : Bd m j) : Bd (max n m + 1) (i - j) := by
  have a' := a.mono (Nat.le_max_left n m)
  have b' := b.mono (Nat.le_max_right n m)
  unfold Bd at *
  rw [Nat.pow_succ]
  omega
theorem Bd.mul {n m : Nat} {i j : Int} (a : Bd n i) (b : Bd m j) : Bd (n + m) (i * j) := wide_lt a b
theorem Bd.neg {n : Nat} {i : Int} (a : Bd n i) : Bd n (-i) := by unfold Bd at *; omega
theorem Bd.mulW {n m : Nat} {i j : Int} (a : Bd n i) (b : Bd m j) (h : n + m ≤ 900000) : CMulW i j := by
  exact wide_mul (a.mono (Nat.le_succ n)) (b.mono (Nat.le_succ m)) (Nat.succ_pos _) (Nat.succ_pos _) (by omega)
theorem Bd.divW {n : Nat} {i j : Int} (b : Bd n j) (h : 0 < j) (l : n < 9000) : CDivW i j := wide_div h (b.mono (Nat.le_succ n)) (Nat.succ_pos _) (by omega)
theorem Bd.of_range {lo hi : Int} {i : Int} {n : Nat} (h1 : lo ≤ i) (h2 : i < hi) (h3 : -(2 ^ n : Int) < lo) (h4 : hi ≤ (2 ^ n : Int)) : Bd n i := by
  unfold Bd
  have h5 : ((2 ^ n : Nat) : Int) = (2 ^ n : Int) := by simp
  omega
/-! ### // by any wide divisor but 0 -/
def CDivNW (_ j : Int) : Prop := j ≠ 0 ∧ j.natAbs.log2 < 9000
theorem op_fdivNW {X : Cx} : OpR X (binaryOp .FloorDiv) (rI CDivNW fun i j => .int (i.fdiv j)) :=
  opI fun _ _ _ _ _ _ _ hc q => PyProof.Rows.floordiv_int hc.1 q (.inl (PyProof.noPylong_of_log2 hc.2))
theorem Bd.divNW {n : Nat} {i j : Int} (b : Bd n j) (h : j ≠ 0) (l : n < 9000) : CDivNW i j :=
  ⟨h, Nat.lt_of_lt_of_le (PySem.Flt.log2_lt_of (Nat.succ_pos n) (b.mono (Nat.le_succ n))) (by omega)⟩
/-! ### x in a tuple of data -/
def rInT (K : Fr) : R2 := fun x y H Q => ∃ d ds, Dp K H x d ∧ Dp K H y (.tuple ds) ∧ SeqAt.shaped d = true ∧ SeqAt.shaped (.tuple ds) = true ∧ Q (.bl (ds.any fun z => PyData.eqv z d)) H
theorem op_inT {X : Cx} (hu : X.A.units + 65 < cLine) : OpR X (compareOp .In) (rInT X.K) := by
  intro pins s σ H x y v u Q I rx ry h
  obtain ⟨d, ds, hd, he, sd, se, q⟩ := h
  obtain ⟨as, r1⟩ := Dp.reads I d x v hd rx
  obtain ⟨bs, r2⟩ := Dp.reads I (.tuple ds) y u he ry
  exact SeqAt.in_tuple_reads r2 r1 (SeqAt.canLay_of_shaped se) (SeqAt.canLay_of_shaped sd) (PyProof.Rows.room_in_shaped sd hu) ⟨.bl _, H, I, rfl, q⟩
/-! ### what an expression is worth -/
section
variable (K : Fr)
def Ev (te : TE) (σ : L2.St) (H : Hp) (d : PD) : Prop := ∀ H1, Same H H1 → ∀ Q : VK, (∀ v H2, Same H1 H2 → Rep K H2 v d → Q v H2) → te σ H1 Q
def EvB (tt : TT) (σ : L2.St) (H : Hp) (b : Bool) : Prop := ∀ H1, Same H H1 → ∀ Q : Bool → Hp → Prop, (∀ H2, Same H1 H2 → Q b H2) → tt σ H1 Q
def EvA (ta : TA) (σ : L2.St) (H : Hp) (ds : List PD) : Prop := ∀ H1, Same H H1 → ∀ Q : List V → Hp → Prop, (∀ vs H2, Same H1 H2 → RepAll K H2 vs ds → Q vs H2) → ta σ H1 Q
/-- a new list -/
def EvL (te : TE) (σ : L2.St) (H : Hp) (ds : List PD) : Prop := ∀ H1, Same H H1 → ∀ Q : VK, (∀ p vs H2, Same H1 H2 → H1 p = none → H2 p = some (.lst vs) → RepAll K H2 vs ds → Q (.ref p) H2) → te σ H1 Q
end
section
variable {K : Fr} {σ : L2.St} {H : Hp} {ta tb : TE} {tc : TT} {d e : PD} {ds es : List PD} {x y : Int}
theorem ev_var {i : Nat} {v : V} (e : σ[i]? = some (some v)) (h : Rep K H v d) : Ev K (tVar i) σ H d := fun H1 s Q k => ⟨v, e, k v H1 (Same.refl H1) (h.same s)⟩
theorem ev_int {i : Int} : Ev K (tC (.int i)) σ H (.int i) := fun H1 _ Q k => k _ H1 (Same.refl H1) (.int i)
theorem ev_bl {b : Bool} : Ev K (tC (.bl b)) σ H (.bool b) := fun H1 _ Q k => k _ H1 (Same.refl H1) (.bl b)
theorem ev_non : Ev K (tC .non) σ H .none := fun H1 _ Q k => k _ H1 (Same.refl H1) .non
theorem ev_str {z : Str} : Ev K (tC (.str z)) σ H (.str z) := fun H1 _ Q k => k _ H1 (Same.refl H1) (.str z)
/-- an operation on two values of known data -/
theorem ev_op {r : R2} {f : PD} (a : Ev K ta σ H d) (b : Ev K tb σ H e) (h : ∀ v w H1, Rep K H1 v d → Rep K H1 w e → ∀ Q : VK, (∀ z H2, Same H1 H2 → Rep K H2 z f → Q z H2) → r v w H1 Q) : Ev K (tOp r ta tb) σ H f := fun H1 s Q k =>
  a H1 s _ fun v H2 s2 rv => b H2 (s.trans s2) _ fun w H3 s3 rw' => h v w H3 (rv.same s3) rw' Q fun z H4 s4 rz => k z H4 ((s2.trans s3).trans s4) rz
theorem ev_add (a : Ev K ta σ H (.int x)) (b : Ev K tb σ H (.int y)) : Ev K (tOp (rI0 fun i j => .int (i + j)) ta tb) σ H (.int (x + y)) :=
  ev_op a b fun v w H1 rv rw' Q k => by cases rv.int_inv; cases rw'.int_inv; exact ⟨_, _, rfl, rfl, k _ H1 (Same.refl H1) (.int _)⟩
theorem ev_sub (a : Ev K ta σ H (.int x)) (b : Ev K tb σ H (.int y)) : Ev K (tOp (rI0 fun i j => .int (i - j)) ta tb) σ H (.int (x - y)) :=
  ev_op a b fun v w H1 rv rw' Q k => by cases rv.int_inv; cases rw'.int_inv; exact ⟨_, _, rfl, rfl, k _ H1 (Same.refl H1) (.int _)⟩
theorem ev_rI {C : Int → Int → Prop} {g : Int → Int → V} {gd : Int → Int → PD} (hg : ∀ i j H, Rep K H (g i j) (gd i j)) (hc : C x y) (a : Ev K ta σ H (.int x)) (b : Ev K tb σ H (.int y)) : Ev K (tOp (rI C g) ta tb) σ H (gd x y) :=
  ev_op a b fun v w H1 rv rw' Q k => by cases rv.int_inv; cases rw'.int_inv; exact ⟨_, _, rfl, rfl, hc, k _ H1 (Same.refl H1) (hg _ _ _)⟩
theorem ev_mul (a : Ev K ta σ H (.int x)) (b : Ev K tb σ H (.int y)) (hc : CMulW x y) : Ev K (tOp (rI CMulW fun i j => .int (i * j)) ta tb) σ H (.int (x * y)) := ev_rI (gd := fun i j => .int (i * j)) (fun _ _ _ => .int _) hc a b
theorem ev_mod (a : Ev K ta σ H (.int x)) (b : Ev K tb σ H (.int y)) (hc : 0 < y) : Ev K (tOp (rI (fun _ j => 0 < j) fun i j => .int (i % j)) ta tb) σ H (.int (x % y)) := ev_rI (C := fun _ j => 0 < j) (gd := fun i j => .int (i % j)) (fun _ _ _ => .int _) hc a b
theorem ev_modN (a : Ev K ta σ H (.int x)) (b : Ev K tb σ H (.int y)) (hc : y ≠ 0) : Ev K (tOp (rI (fun _ j => j ≠ 0) fun i j => .int (i.fmod j)) ta tb) σ H (.int (x.fmod y)) := ev_rI (C := fun _ j => j ≠ 0) (gd := fun i j => .int (i.fmod j)) (fun _ _ _ => .int _) hc a b
theorem ev_fdiv (a : Ev K ta σ H (.int x)) (b : Ev K tb σ H (.int y)) (hc : CDivW x y) : Ev K (tOp (rI CDivW fun i j => .int (i / j)) ta tb) σ H (.int (x / y)) := ev_rI (gd := fun i j => .int (i / j)) (fun _ _ _ => .int _) hc a b
theorem ev_fdivN (a : Ev K ta σ H (.int x)) (b : Ev K tb σ H (.int y)) (hc : CDivNW x y) : Ev K (tOp (rI CDivNW fun i j => .int (i.fdiv j)) ta tb) σ H (.int (x.fdiv y)) := ev_rI (gd := fun i j => .int (i.fdiv j)) (fun _ _ _ => .int _) hc a b
theorem ev_pow {g : Int} (a : Ev K ta σ H (.int x)) (b : Ev K tb σ H (.int y)) (hc : CPow x y) (hg : x ^ y.toNat = g) : Ev K (tOp (rI CPow fun i j => .int (i ^ j.toNat)) ta tb) σ H (.int g) := by
  subst hg; exact ev_rI (gd := fun i j => .int (i ^ j.toNat)) (fun _ _ _ => .int _) hc a b
theorem ev_neg (a : Ev K ta σ H (.int x)) : Ev K (tUn (rU fun i => .int (-i)) ta) σ H (.int (-x)) := fun H1 s Q k =>
  a H1 s _ fun v H2 s2 rv => by cases rv.int_inv; exact ⟨x, rfl, k _ H2 s2 (.int _)⟩
/-- an item of a tuple -/
theorem ev_ix {i : Int} (a : Ev K ta σ H (.tuple ds)) (he : atI ds i = some d) : Ev K (tOp (rIxT K) ta (tC (.int i))) σ H d := fun H1 s Q k =>
  a H1 s _ fun v H2 s2 rv => by
    obtain ⟨p, xs, rfl, hp, r⟩ := rv.tup_inv
    obtain ⟨z, hz, rz⟩ := r.at he
    exact ⟨p, xs, i, z, rfl, rfl, hp, hz, k z H2 s2 rz⟩
theorem eva_nil : EvA K tNil σ H [] := fun H1 _ Q k => k [] H1 (Same.refl H1) .nil
theorem eva_cons {tr : TA} (a : Ev K ta σ H d) (b : EvA K tr σ H ds) : EvA K (tCons ta tr) σ H (d :: ds) := fun H1 s Q k =>
  a H1 s _ fun v H2 s2 rv => b H2 (s.trans s2) _ fun vs H3 s3 rs => k (v :: vs) H3 (s2.trans s3) (.cons (rv.same s3) rs)
theorem ev_tup {tr : TA} (a : EvA K tr σ H ds) (hl : ds.length ≤ 1000 := by exact Nat.le_of_ble_eq_true rfl) : Ev K (tTup tr) σ H (.tuple ds) := fun H1 s Q k =>
  a H1 s _ fun vs H2 s2 rs => ⟨by rw [rs.len]; exact Nat.le_of_lt (small1000 hl), fun p hp => k (.ref p) _ (s2.trans (same_upd hp)) (.tup (SqT.of upd_same) (rs.same (same_upd hp)))⟩
theorem evl_lst {tr : TA} (a : EvA K tr σ H ds) (hl : ds.length ≤ 1000 := by exact Nat.le_of_ble_eq_true rfl) : EvL K (tLst tr) σ H ds := fun H1 s Q k =>
  a H1 s _ fun vs H2 s2 rs => ⟨by rw [rs.len]; exact Nat.le_of_lt (small1000 hl), fun p hp => k p vs _ (s2.trans (same_upd hp)) (s2.free hp) upd_same (rs.same (same_upd hp))⟩
theorem ev_if {c : Bool} (t : EvB tc σ H c) (a : c = true → Ev K ta σ H d) (b : c = false → Ev K tb σ H d) : Ev K (tIf tc ta tb) σ H d := fun H1 s Q k =>
  t H1 s _ fun H2 s2 => by
    cases c with
    | true => exact iteT (a rfl H2 (s.trans s2) Q fun v H3 s3 r => k v H3 (s2.trans s3) r)
    | false => exact iteF (b rfl H2 (s.trans s2) Q fun v H3 s3 r => k v H3 (s2.trans s3) r)
/-! tests -/
theorem evb_test {te : TE} {b : Bool} (a : Ev K te σ H (.bool b)) : EvB (tTest te) σ H b := fun H1 s Q k =>
  a H1 s _ fun v H2 s2 rv => by cases rv.bl_inv; exact ⟨b, rfl, k H2 s2⟩
theorem evb_b {te : TE} {b : Bool} (a : Ev K te σ H (.bool b)) : EvB (tB te) σ H b := fun H1 s Q k =>
  a H1 s _ fun v H2 s2 rv => by cases rv.bl_inv; exact ⟨b, rfl, k H2 s2⟩
theorem evb_not {b : Bool} (a : EvB tc σ H b) : EvB (tNot tc) σ H (!b) := fun H1 s Q k => a H1 s _ fun H2 s2 => k H2 s2
theorem evb_and {td : TT} {b c : Bool} (a : EvB tc σ H b) (h : b = true → EvB td σ H c) : EvB (tAnd tc td) σ H (b && c) := fun H1 s Q k => a H1 s _ fun H2 s2 => by
  cases b with
  | true => exact iteT (h rfl H2 (s.trans s2) _ fun H3 s3 => k H3 (s2.trans s3))
  | false => exact iteF (k H2 s2)
theorem evb_or {td : TT} {b c : Bool} (a : EvB tc σ H b) (h : b = false → EvB td σ H c) : EvB (tOr tc td) σ H (b || c) := fun H1 s Q k => a H1 s _ fun H2 s2 => by
  cases b with
  | true => exact iteT (k H2 s2)
  | false => exact iteF (h rfl H2 (s.trans s2) _ fun H3 s3 => k H3 (s2.trans s3))
theorem ev_andV {b c : Bool} (a : Ev K ta σ H (.bool b)) (h : b = true → Ev K tb σ H (.bool c)) : Ev K (tAndV ta tb) σ H (.bool (b && c)) := fun H1 s Q k =>
  a H1 s _ fun v H2 s2 rv => by
    cases rv.bl_inv
    refine ⟨b, rfl, ?_⟩
    cases b with
    | true => exact iteT (h rfl H2 (s.trans s2) _ fun v H3 s3 r => k v H3 (s2.trans s3) r)
    | false => exact iteF (k _ H2 s2 (.bl _))
theorem ev_orV {b c : Bool} (a : Ev K ta σ H (.bool b)) (h : b = false → Ev K tb σ H (.bool c)) : Ev K (tOrV ta tb) σ H (.bool (b || c)) := fun H1 s Q k =>
  a H1 s _ fun v H2 s2 rv => by
    cases rv.bl_inv
    refine ⟨b, rfl, ?_⟩
    cases b with
    | true => exact iteT (k _ H2 s2 (.bl _))
    | false => exact iteF (h rfl H2 (s.trans s2) _ fun v H3 s3 r => k v H3 (s2.trans s3) r)
theorem ev_lt (a : Ev K ta σ H (.int x)) (b : Ev K tb σ H (.int y)) : Ev K (tOp (rI0 fun i j => .bl (decide (i < j))) ta tb) σ H (.bool (decide (x < y))) :=
  ev_op a b fun v w H1 rv rw' Q k => by cases rv.int_inv; cases rw'.int_inv; exact ⟨_, _, rfl, rfl, k _ H1 (Same.refl H1) (.bl _)⟩
theorem ev_le (a : Ev K ta σ H (.int x)) (b : Ev K tb σ H (.int y)) : Ev K (tOp (rI0 fun i j => .bl (decide (i ≤ j))) ta tb) σ H (.bool (decide (x ≤ y))) :=
  ev_op a b fun v w H1 rv rw' Q k => by cases rv.int_inv; cases rw'.int_inv; exact ⟨_, _, rfl, rfl, k _ H1 (Same.refl H1) (.bl _)⟩
theorem ev_gt (a : Ev K ta σ H (.int x)) (b : Ev K tb σ H (.int y)) : Ev K (tOp (rI0 fun i j => .bl (decide (j < i))) ta tb) σ H (.bool (decide (y < x))) :=
  ev_op a b fun v w H1 rv rw' Q k => by cases rv.int_inv; cases rw'.int_inv; exact ⟨_, _, rfl, rfl, k _ H1 (Same.refl H1) (.bl _)⟩
theorem ev_ge (a : Ev K ta σ H (.int x)) (b : Ev K tb σ H (.int y)) : Ev K (tOp (rI0 fun i j => .bl (decide (j ≤ i))) ta tb) σ H (.bool (decide (y ≤ x))) :=
  ev_op a b fun v w H1 rv rw' Q k => by cases rv.int_inv; cases rw'.int_inv; exact ⟨_, _, rfl, rfl, k _ H1 (Same.refl H1) (.bl _)⟩
theorem dec_Vint {x y : Int} : decide (V.int x = V.int y) = decide (x = y) := by
  by_cases h : x = y
  · subst h; simp
  · rw [decide_eq_false h]; exact decide_eq_false fun e => h (V.int.inj e)
theorem dec_Vbl {x y : Bool} : decide (V.bl x = V.bl y) = decide (x = y) := by cases x <;> cases y <;> rfl
theorem ev_eqI (a : Ev K ta σ H (.int x)) (b : Ev K tb σ H (.int y)) : Ev K (tOp rEq ta tb) σ H (.bool (decide (x = y))) :=
  ev_op a b fun v w H1 rv rw' Q k => by cases rv.int_inv; cases rw'.int_inv; exact ⟨rfl, k _ H1 (Same.refl H1) (by rw [dec_Vint]; exact .bl _)⟩
theorem ev_neI (a : Ev K ta σ H (.int x)) (b : Ev K tb σ H (.int y)) : Ev K (tOp rNe ta tb) σ H (.bool (!decide (x = y))) :=
  ev_op a b fun v w H1 rv rw' Q k => by cases rv.int_inv; cases rw'.int_inv; exact ⟨rfl, k _ H1 (Same.refl H1) (by rw [dec_Vint]; exact .bl _)⟩
theorem ev_eqB {x y : Bool} (a : Ev K ta σ H (.bool x)) (b : Ev K tb σ H (.bool y)) : Ev K (tOp rEq ta tb) σ H (.bool (decide (x = y))) :=
  ev_op a b fun v w H1 rv rw' Q k => by cases rv.bl_inv; cases rw'.bl_inv; exact ⟨rfl, k _ H1 (Same.refl H1) (by rw [dec_Vbl]; exact .bl _)⟩
theorem ev_eqD (a : Ev K ta σ H d) (b : Ev K tb σ H e) (sd : SeqAt.shaped d = true) (se : SeqAt.shaped e = true) : Ev K (tOp (rEqD K) ta tb) σ H (.bool (PyData.eqv d e)) :=
  ev_op a b fun v w H1 rv rw' Q k => ⟨d, e, rv.dp, rw'.dp, sd, se, k _ H1 (Same.refl H1) (.bl _)⟩
theorem ev_neD (a : Ev K ta σ H d) (b : Ev K tb σ H e) (sd : SeqAt.shaped d = true) (se : SeqAt.shaped e = true) : Ev K (tOp (rNeD K) ta tb) σ H (.bool (!PyData.eqv d e)) :=
  ev_op a b fun v w H1 rv rw' Q k => ⟨d, e, rv.dp, rw'.dp, sd, se, k _ H1 (Same.refl H1) (.bl _)⟩
theorem ev_inT (a : Ev K ta σ H d) (b : Ev K tb σ H (.tuple ds)) (sd : SeqAt.shaped d = true) (se : SeqAt.shaped (.tuple ds) = true) : Ev K (tOp (rInT K) ta tb) σ H (.bool (ds.any fun z => PyData.eqv z d)) :=
  ev_op a b fun v w H1 rv rw' Q k => ⟨d, ds, rv.dp, rw'.dp, sd, se, k _ H1 (Same.refl H1) (.bl _)⟩
/-! None or not -/
def isN : PD → Bool
  | .none => true
  | _ => false
theorem Rep.isNon {v : V} (h : Rep K H v d) : decide (v = .non) = isN d := by
  cases h <;> rfl
theorem ev_isN (a : Ev K ta σ H d) : Ev K (tIsN ta) σ H (.bool (isN d)) := fun H1 s Q k =>
  a H1 s _ fun v H2 s2 rv => k _ H2 s2 (by rw [rv.isNon]; exact .bl _)
theorem ev_notN (a : Ev K ta σ H d) : Ev K (tNotN ta) σ H (.bool (!isN d)) := fun H1 s Q k =>
  a H1 s _ fun v H2 s2 rv => k _ H2 s2 (by rw [rv.isNon]; exact .bl _)
theorem ev_isB {x y : Bool} (a : Ev K ta σ H (.bool x)) (b : Ev K tb σ H (.bool y)) : Ev K (tOp rIsB ta tb) σ H (.bool (decide (x = y))) :=
  ev_op a b fun v w H1 rv rw' Q k => by cases rv.bl_inv; cases rw'.bl_inv; exact ⟨_, _, rfl, rfl, k _ H1 (Same.refl H1) (.bl _)⟩
theorem ev_isNB {x y : Bool} (a : Ev K ta σ H (.bool x)) (b : Ev K tb σ H (.bool y)) : Ev K (tOp rNotB ta tb) σ H (.bool (!decide (x = y))) :=
  ev_op a b fun v w H1 rv rw' Q k => by cases rv.bl_inv; cases rw'.bl_inv; exact ⟨_, _, rfl, rfl, k _ H1 (Same.refl H1) (.bl _)⟩
/-! truth, length -/
theorem evb_truT (a : Ev K ta σ H (.tuple ds)) : EvB (fun σ H Q => ta σ H fun x H' => ∃ k, TruV K x H' k ∧ Q k H') σ H (!ds.isEmpty) := fun H1 s Q k =>
  a H1 s _ fun v H2 s2 rv => by
    obtain ⟨p, xs, rfl, hp, r⟩ := rv.tup_inv
    exact ⟨_, .inr (.inl ⟨xs, hp, rfl⟩), by rw [show xs.isEmpty = ds.isEmpty by cases r <;> rfl]; exact k H2 s2⟩
theorem ev_lenT {tr : TA} (a : EvA K tr σ H [.tuple ds]) : Ev K (tCB (fun xs H Q => ∃ p ys, xs = [.ref p] ∧ (SqL K H p ys ∨ SqT K H p ys) ∧ Q (.int ys.length) H) tr) σ H (.int ds.length) := fun H1 s Q k =>
  a H1 s _ fun vs H2 s2 rs => by
    obtain ⟨v, rfl, rv⟩ := rs.inv1
    obtain ⟨p, xs, rfl, hp, r⟩ := rv.tup_inv
    exact ⟨p, xs, rfl, .inr hp, k _ H2 s2 (by rw [r.len]; exact .int _)⟩
theorem ev_intI {tr : TA} (a : EvA K tr σ H [.int x]) : Ev K (tCB (fun xs H Q => (∃ i, xs = [.int i] ∧ Q (.int i) H) ∨ ∃ k, xs = [.bl k] ∧ Q (.int (if k then 1 else 0)) H) tr) σ H (.int x) := fun H1 s Q k =>
  a H1 s _ fun vs H2 s2 rs => by
    obtain ⟨v, rfl, rv⟩ := rs.inv1
    cases rv.int_inv
    exact .inl ⟨x, rfl, k _ H2 s2 (.int _)⟩
theorem ev_abs {tr : TA} (a : EvA K tr σ H [.int x]) : Ev K (tCB (fun xs H Q => ∃ i, xs = [.int i] ∧ Q (.int (if i < 0 then -i else i)) H) tr) σ H (.int (if x < 0 then -x else x)) := fun H1 s Q k =>
  a H1 s _ fun vs H2 s2 rs => by
    obtain ⟨v, rfl, rv⟩ := rs.inv1
    cases rv.int_inv
    exact ⟨x, rfl, k _ H2 s2 (.int _)⟩
/-! a list made new, used up -/
theorem RepAll.ints : ∀ {vs : List V} {ns : List Int}, RepAll K H vs (ns.map .int) → vs = ns.map V.int
  | _, [], h => by cases h; rfl
  | _, n :: ns, h => by
    cases h with
    | cons h r => cases h.int_inv; rw [RepAll.ints r]; rfl
theorem RepAll.bools : ∀ {vs : List V} {ns : List Bool}, RepAll K H vs (ns.map .bool) → vs = ns.map V.bl
  | _, [], h => by cases h; rfl
  | _, n :: ns, h => by
    cases h with
    | cons h r => cases h.bl_inv; rw [RepAll.bools r]; rfl
theorem ev_sum {ns : List Int} (a : EvL K ta σ H (ns.map .int)) : Ev K (tCB (rSum K) (tCons ta tNil)) σ H (.int ns.sum) := fun H1 s Q k =>
  a H1 s _ fun p vs H2 s2 _ hp rs => ⟨p, ns, rfl, SqL.of (by rw [hp, rs.ints]), k _ H2 s2 (.int _)⟩
theorem ev_any {ns : List Bool} (a : EvL K ta σ H (ns.map .bool)) : Ev K (tCB (rAny K) (tCons ta tNil)) σ H (.bool (ns.any id)) := fun H1 s Q k =>
  a H1 s _ fun p vs H2 s2 _ hp rs => ⟨p, ns, rfl, SqL.of (by rw [hp, rs.bools]), k _ H2 s2 (.bl _)⟩
theorem ev_all {ns : List Bool} (a : EvL K ta σ H (ns.map .bool)) : Ev K (tCB (rAll K) (tCons ta tNil)) σ H (.bool (ns.all id)) := fun H1 s Q k =>
  a H1 s _ fun p vs H2 s2 _ hp rs => ⟨p, ns, rfl, SqL.of (by rw [hp, rs.bools]), k _ H2 s2 (.bl _)⟩
def rTupleOf (K : Fr) : List V → Hp → VK → Prop := fun xs H Q => ∃ p ys, xs = [.ref p] ∧ ((SqL K H p ys ∧ ∀ l, H l = none → Q (.ref l) (upd H l (.tup ys))) ∨ (SqT K H p ys ∧ Q (.ref p) H))
theorem ev_tupleL (a : EvL K ta σ H ds) : Ev K (tCB (rTupleOf K) (tCons ta tNil)) σ H (.tuple ds) := fun H1 s Q k =>
  a H1 s _ fun p vs H2 s2 _ hp rs => ⟨p, vs, rfl, .inl ⟨SqL.of hp, fun l hl => k (.ref l) _ (s2.trans (same_upd hl)) (.tup (SqT.of upd_same) (rs.same (same_upd hl)))⟩⟩
theorem ev_tupleT (a : Ev K ta σ H (.tuple ds)) : Ev K (tCB (rTupleOf K) (tCons ta tNil)) σ H (.tuple ds) := fun H1 s Q k =>
  a H1 s _ fun v H2 s2 rv => by
    have rv' := rv
    obtain ⟨p, xs, rfl, hp, r⟩ := rv.tup_inv
    exact ⟨p, xs, rfl, .inr ⟨hp, k (.ref p) H2 s2 rv'⟩⟩
/-- an attribute of an instance that a name holds -/
theorem ev_fld {i : Nat} {p C dx : Addr} {fs : List (Str × V)} {f : Str} {v : V} (e : σ[i]? = some (some (.ref p))) (hp : H p = some (.ins C dx fs)) (hc : Cls K C) (hn : NoAttr K C f) (hf : fs.lookup f = some v) (r : Rep K H v d) : Ev K (tFld K (tVar i) f) σ H d := fun H1 s Q k =>
  ⟨_, e, p, C, dx, fs, v, rfl, s _ _ hp, hc, hn, hf, k v H1 (Same.refl H1) (r.same s)⟩
/-- a def that hands back data, and touches nothing -/
def spF (K : Fr) (R : List PD → PD → Prop) : Sp := fun vs H Q _ => ∃ ds d, RepAll K H vs ds ∧ R ds d ∧ ∀ v H', Same H H' → Rep K H' v d → Q v H'
theorem ev_call {R : List PD → PD → Prop} {E : XK} {t : TA} (a : EvA K t σ H ds) (h : R ds d) : Ev K (tCall (spF K R) [] E t) σ H d := fun H1 s Q k =>
  a H1 s _ fun vs H2 s2 rs => ⟨ds, d, by rw [List.append_nil]; exact rs, h, fun v H3 s3 rv => k v H3 (s2.trans s3) rv⟩
/-! statements -/
variable {D : Ends} {u t1 t2 : TS}
theorem s_set {i : Nat} (a : Ev K ta σ H d) (h : ∀ v H1, Same H H1 → Rep K H1 v d → u D (σ.set i (some v)) H1) : tSeq (tAsg ta (gName i)) u D σ H := a H (Same.refl H) _ h
theorem s_ret (a : Ev K ta σ H d) (h : ∀ v H1, Same H H1 → Rep K H1 v d → D.rt v H1) : tRet ta D σ H := a H (Same.refl H) _ h
theorem s_if {c : Bool} (t : EvB tc σ H c) (a : c = true → ∀ H1, Same H H1 → t1 D σ H1) (b : c = false → ∀ H1, Same H H1 → t2 D σ H1) : tIfS tc t1 t2 D σ H :=
  t H (Same.refl H) _ fun H1 s => by
    cases c with
    | true => exact iteT (a rfl H1 s)
    | false => exact iteF (b rfl H1 s)
/-- an if in a block -/
theorem s_ifs {c : Bool} (t : EvB tc σ H c) (a : c = true → ∀ H1, Same H H1 → t1 { D with nx := u D } σ H1) (b : c = false → ∀ H1, Same H H1 → t2 { D with nx := u D } σ H1) : tSeq (tIfS tc t1 t2) u D σ H :=
  s_if t a b
/-- an if that leaves, in a block -/
theorem s_ifr {c : Bool} (t : EvB tc σ H c) (a : c = true → ∀ H1, Same H H1 → t1 { D with nx := u D } σ H1) (b : c = false → ∀ H1, Same H H1 → u D σ H1) : tSeq (tIfS tc t1 tNext) u D σ H :=
  s_if t a b
theorem s_ret1 {te : TE} {H1 : Hp} (a : Ev K te σ H d) (h : ∀ v H1, Same H H1 → Rep K H1 v d → D.rt v H1) : tRet te D σ H := a H (Same.refl H) _ h
end
/-! ### isinstance of data -/
def pyT : PD → String
  | .none => "NoneType"
  | .bool _ => "bool"
  | .int _ => "int"
  | .str _ => "str"
  | .tuple _ => "tuple"
  | .list _ => "list"
  | .dict _ => "dict"
theorem Rep.ty {K : Fr} {H : Hp} {v : V} {d : PD} (h : Rep K H v d) : TyX K H v (.type (pyT d)) := by
  cases h with
  | non => exact .base .non
  | bl b => exact .base (.bl b)
  | int i => exact .base (.int i)
  | str x => exact .base (.str x)
  | tup h r =>
    rcases h with (h | ⟨o, h⟩) | ⟨o, its, n, hk, hc, _⟩
    · exact .base (.tup h)
    · exact .fTuple h
    · exact .kTuple hk hc
theorem ev_isi {K : Fr} {σ : L2.St} {H : Hp} {ta : TE} {d : PD} {T : String} {b : Bool} (a : Ev K ta σ H d) (h : kitB (pyT d) T = some b) : Ev K (tCB (rIsi K) (tCons ta (tCons (tC (.ty T)) tNil))) σ H (.bool b) := fun H1 s Q k =>
  a H1 s _ fun v H2 s2 rv => ⟨v, .ty T, _, _, b, rfl, .ty T, rv.ty, kit_ty h, k _ H2 s2 (.bl b)⟩
/-! ### x, y = a, b -/
theorem s_par {K : Fr} {σ : L2.St} {H : Hp} {ta : TA} {d e : PD} {i j : Nat} {u : TS} {D : Ends} (a : EvA K ta σ H [d, e]) (h : ∀ v w H1, Same H H1 → Rep K H1 v d → Rep K H1 w e → u D ((σ.set i (some v)).set j (some w)) H1) : tSeq (tPar i j ta) u D σ H :=
  a H (Same.refl H) _ fun vs H1 s rs => by
    obtain ⟨v, w, rfl, r1, r2⟩ := rs.inv2
    exact ⟨v, w, rfl, h v w H1 s r1 r2⟩
theorem s_par_end {K : Fr} {σ : L2.St} {H : Hp} {ta : TA} {d e : PD} {i j : Nat} {D : Ends} (a : EvA K ta σ H [d, e]) (h : ∀ v w H1, Same H H1 → Rep K H1 v d → Rep K H1 w e → D.nx ((σ.set i (some v)).set j (some w)) H1) : tPar i j ta D σ H :=
  a H (Same.refl H) _ fun vs H1 s rs => by
    obtain ⟨v, w, rfl, r1, r2⟩ := rs.inv2
    exact ⟨v, w, rfl, h v w H1 s r1 r2⟩
theorem s_par3_end {K : Fr} {σ : L2.St} {H : Hp} {ta : TA} {d e f : PD} {i j l : Nat} {D : Ends} (a : EvA K ta σ H [d, e, f]) (h : ∀ v w x H1, Same H H1 → Rep K H1 v d → Rep K H1 w e → Rep K H1 x f → D.nx (((σ.set i (some v)).set j (some w)).set l (some x)) H1) : tPar3 i j l ta D σ H :=
  a H (Same.refl H) _ fun vs H1 s rs => by
    obtain ⟨v, w, x, rfl, r1, r2, r3⟩ := rs.inv3
    exact ⟨v, w, x, rfl, h v w x H1 s r1 r2 r3⟩
end LB
/-! Two rules of our own: zip over three tuples; x in an object by its class's own __contains__. -/
namespace LB
open PySem PySem.Spec PyProof.Rows L2
/-! ### for x, y, z in zip(a, b, c), three tuples -/
def Itz3 (K : Fr) (a b c : Addr) : It where
  go := fun i H => ∃ (xs ys zs : List V) (x y z : V), SqT K H a xs ∧ SqT K H b ys ∧ SqT K H c zs ∧ xs[i]? = some x ∧ ys[i]? = some y ∧ zs[i]? = some z
  yld := fun i H v H' => ∃ T x y z, v = .ref T ∧ H T = none ∧ H' = upd H T (.tup [x, y, z]) ∧ (∀ xs, SqT K H a xs → xs[i]? = some x) ∧ (∀ ys, SqT K H b ys → ys[i]? = some y) ∧ ∀ zs, SqT K H c zs → zs[i]? = some z
  stop := fun i H => ∃ xs ys zs : List V, SqT K H a xs ∧ SqT K H b ys ∧ SqT K H c zs ∧ (i ≤ xs.length ∧ i ≤ ys.length ∧ i ≤ zs.length) ∧ (i = xs.length ∨ i = ys.length ∨ i = zs.length)
theorem tup_ne_iter {h : Heap} {a i t : Addr} {n : Nat} {its : Array Value} (p : h.IsTuple a its) (g : h.IsTupleIter i t n) : a ≠ i := by
  intro e
  subst e
  obtain ⟨o, e1, c1, _⟩ := p
  obtain ⟨u, e2, c2, _⟩ := g
  rw [e1] at e2
  cases e2
  rw [c1] at c2
  exact absurd c2 (by decide)
theorem turn_z3 {P : Program} {w : World} {K : Fr} {elts : List Expr} {kk : Nat} {tpos : Pos} {a b c z TI TO i1 i2 i3 : Addr}
    (S : ZipSep3 z TI TO i1 i2 i3 [i1, a] [i2, b] [i3, c]) :
    Turn P w K (.Tuple elts kk tpos) (Itz3 K a b c) [z, TI, TO, i1, i2, i3] z
      (fun i h => IsZip h z TI TO .none ∧ IsTupOf3 h TI (.ref i1) (.ref i2) (.ref i3) ∧ (∃ x y v, IsTupOf3 h TO x y v) ∧ h.IsTupleIter i1 a i ∧ h.IsTupleIter i2 b i ∧ h.IsTupleIter i3 c i) where
  mem := List.mem_cons_self
  obj := by
    rintro i h ⟨g1, g2, ⟨x, y, v, g3⟩, ⟨o4, e4, _, d4⟩, ⟨o5, e5, _, d5⟩, ⟨o6, e6, _, d6⟩⟩ q hq
    have q' : q = z ∨ q = TI ∨ q = TO ∨ q = i1 ∨ q = i2 ∨ q = i3 := by simpa using hq
    rcases q' with rfl | rfl | rfl | rfl | rfl | rfl
    · exact ⟨_, g1, fun v e => nomatch e⟩
    · exact ⟨_, g2, fun v e => nomatch e⟩
    · exact ⟨_, g3, fun v e => nomatch e⟩
    · exact ⟨_, e4, fun v e => by rw [d4] at e; cases e⟩
    · exact ⟨_, e5, fun v e => by rw [d5] at e; cases e⟩
    · exact ⟨_, e6, fun v e => by rw [d6] at e; cases e⟩
  keep := by
    rintro i h h' ⟨g1, g2, ⟨x, y, v, g3⟩, g4, g5, g6⟩ k
    exact ⟨k z (by simp) _ g1, k TI (by simp) _ g2, ⟨x, y, v, k TO (by simp) _ g3⟩, g4.at fun o e => k i1 (by simp) o e, g5.at fun o e => k i2 (by simp) o e, g6.at fun o e => k i3 (by simp) o e⟩
  item := by
    intro X hP hw hK hc i pins s σ H E I hf st hg
    subst hP hw hK
    obtain ⟨g1, g2, ⟨x0, y0, v0, g3⟩, g4, g5, g6⟩ := st
    obtain ⟨xs, ys, zs, x, y, v, qa, qb, qc, hx, hy, hv⟩ := hg
    obtain ⟨its1, r1, p1, _⟩ := I.tuple qa
    obtain ⟨its2, r2, p2, _⟩ := I.tuple qb
    obtain ⟨its3, r3, p3, _⟩ := I.tuple qc
    obtain ⟨u1, hu1, ru1⟩ := r1.get hx
    obtain ⟨u2, hu2, ru2⟩ := r2.get hy
    obtain ⟨u3, hu3, ru3⟩ := r3.get hv
    have hh : X.A.in1.handled = none := I.ok.hd hc
    have zl : z < s.heap.objs.size := Heap.lt_size g1
    refine wpAny_pyNext_zipD3_item S (Draws.tuple hh i1 a (tup_ne_iter p1 g4) its1.toArray) (Draws.tuple hh i2 b (tup_ne_iter p2 g5) its2.toArray) (Draws.tuple hh i3 c (tup_ne_iter p3 g6) its3.toArray)
      g1 g2 g3 ⟨g4, p1⟩ ⟨g5, p2⟩ ⟨g6, p3⟩ (i := i) (List.getElem?_eq_some_iff.mp (by simpa using hu1)).1 (List.getElem?_eq_some_iff.mp (by simpa using hu2)).1 (List.getElem?_eq_some_iff.mp (by simpa using hu3)).1 ?_
    intro w1 w2 w3 h' tk c1 c2 c3 z' TO' n1 n2 n3 hT hsz hk
    have c1' : w1 = u1 := by
      have q : its1.toArray[i]? = some u1 := by simpa using hu1
      exact Option.some.inj (c1.symm.trans q)
    have c2' : w2 = u2 := by
      have q : its2.toArray[i]? = some u2 := by simpa using hu2
      exact Option.some.inj (c2.symm.trans q)
    have c3' : w3 = u3 := by
      have q : its3.toArray[i]? = some u3 := by simpa using hu3
      exact Option.some.inj (c3.symm.trans q)
    subst c1' c2' c3'
    refine ⟨_, rfl, wpAny_letOwnedTupleGo_zip (s := { s with heap := h', toks := tk }) z' fun h'' z'' sb => ?_⟩
    have hT2 : h''.get? s.heap.objs.size = some { cls := .type "tuple", data := .seq #[w1, w2, w3] } := (sb.2 _ (Nat.ne_of_gt zl)).trans hT
    have new : ObjOk X.prog X.w (upd H s.heap.objs.size (.tup [x, y, v])) h'' s.heap.objs.size (.tup [x, y, v]) := by
      refine ⟨by show 3 ≤ sizeLine; decide, [w1, w2, w3], .cons ru1 (.cons ru2 (.cons ru3 .nil)), ?_⟩
      exact ⟨_, hT2, rfl, _, rfl⟩
    have keep : ∀ q o, q ∉ [z, TI, TO, i1, i2, i3] → s.heap.get? q = some o → h''.get? q = some o := by
      intro q o hq e
      simp at hq
      exact (sb.2 q hq.1).trans (hk q o hq.1 hq.2.2.1 hq.2.2.2.1 hq.2.2.2.2.1 hq.2.2.2.2.2 e)
    have I1 : Inv X pins σ (upd H s.heap.objs.size (.tup [x, y, v])) { s with heap := h'', toks := tk } := I.turnedNew (t' := tk) (ch := [z, TI, TO, i1, i2, i3]) keep hf (Nat.le_refl _) new
    refine ⟨.ref s.heap.objs.size, _, I1, rfl, ⟨_, x, y, v, rfl, I.hok.fresh (Nat.le_refl _), rfl, fun l hl => by rw [I.tuple_inj hl qa]; exact hx, fun l hl => by rw [I.tuple_inj hl qb]; exact hy, fun l hl => by rw [I.tuple_inj hl qc]; exact hv⟩, ⟨z'', ?_, ⟨w1, w2, w3, ?_⟩, ?_, ?_, ?_⟩, fun q hq => ?_⟩
    · exact (sb.2 _ S.TIz).trans (hk _ _ S.TIz S.TITO S.TIi1 S.TIi2 S.TIi3 g2)
    · exact (sb.2 _ S.TOz).trans TO'
    · exact n1.1.at fun o e => (sb.2 _ (fun e' => S.zi1 e'.symm)).trans e
    · exact n2.1.at fun o e => (sb.2 _ (fun e' => S.zi2 e'.symm)).trans e
    · exact n3.1.at fun o e => (sb.2 _ (fun e' => S.zi3 e'.symm)).trans e
    · have lt : q < s.heap.objs.size := by
        have q' : q = z ∨ q = TI ∨ q = TO ∨ q = i1 ∨ q = i2 ∨ q = i3 := by simpa using hq
        obtain ⟨_, e4, _⟩ := g4
        obtain ⟨_, e5, _⟩ := g5
        obtain ⟨_, e6, _⟩ := g6
        rcases q' with rfl | rfl | rfl | rfl | rfl | rfl
        · exact zl
        · exact Heap.lt_size g2
        · exact Heap.lt_size g3
        · exact Heap.lt_size e4
        · exact Heap.lt_size e5
        · exact Heap.lt_size e6
      rw [upd_ne (Nat.ne_of_lt lt)]
      exact (hf q hq).1
  done := by
    intro X hP hw hK hc i pins s σ H E I hf st hg
    subst hP hw hK
    obtain ⟨g1, g2, ⟨x0, y0, v0, g3⟩, g4, g5, g6⟩ := st
    obtain ⟨xs, ys, zs, qa, qb, qc, ⟨l1, l2, l3⟩, hend⟩ := hg
    obtain ⟨its1, r1, p1, _⟩ := I.tuple qa
    obtain ⟨its2, r2, p2, _⟩ := I.tuple qb
    obtain ⟨its3, r3, p3, _⟩ := I.tuple qc
    have m1 : its1.toArray.size = xs.length := by simpa using r1.length.symm
    have m2 : its2.toArray.size = ys.length := by simpa using r2.length.symm
    have m3 : its3.toArray.size = zs.length := by simpa using r3.length.symm
    have hh : X.A.in1.handled = none := I.ok.hd hc
    refine wpAny_pyNext_zipD3_end S (Draws.tuple hh i1 a (tup_ne_iter p1 g4) its1.toArray) (Draws.tuple hh i2 b (tup_ne_iter p2 g5) its2.toArray) (Draws.tuple hh i3 c (tup_ne_iter p3 g6) its3.toArray)
      g1 g2 g3 ⟨g4, p1⟩ ⟨g5, p2⟩ ⟨g6, p3⟩ (i := i) (by omega) (by omega) (by omega) (by omega) ?_
    intro h' tk hk
    refine ⟨rfl, I.turnedL (t' := tk) (ch := [z, TI, TO, i1, i2, i3]) (fun q o hq e => ?_) hf⟩
    simp at hq
    exact hk q o hq.1 hq.2.2.1 hq.2.2.2.1 hq.2.2.2.2.1 hq.2.2.2.2.2 e
  self := fun A i s Q E st h => wpAny_pyIter_zip st.1 h
theorem sep3_of {n a b c : Nat} (la : a < n) (lb : b < n) (lc : c < n) : ZipSep3 (n + 5) (n + 3) (n + 4) n (n + 1) (n + 2) [n, a] [n + 1, b] [n + 2, c] := by
  constructor
  all_goals first
    | exact Nat.ne_of_lt (by omega)
    | exact Nat.ne_of_gt (by omega)
    | (simp; done)
    | (simp; exact Nat.ne_of_gt (by omega))
    | (simp; exact Nat.ne_of_lt (by omega))
def iZip3 (K : Fr) (ta : TA) : TI := fun σ H R => ta σ H fun vs H1 => ∃ a b c xs ys zs, vs = [.ref a, .ref b, .ref c] ∧ SqT K H1 a xs ∧ SqT K H1 b ys ∧ SqT K H1 c zs ∧ R (Itz3 K a b c) H1
theorem pi_zip3 {X : Cx} {e e2 e3 : Expr} {ta : TA} {p pos tpos : Pos} {elts : List Expr} {kk : Nat} (hg : Gl X "zip") (hm : X.mg "zip" = none) (ha : PA X [e, e2, e3] ta)
    (hs : starEach [e, e2, e3] X.env = (false, eval e X.env) :: starEach [e2, e3] X.env := by rfl) (hpl : (backTo pos (starEach [e2, e3] X.env)).any (·.1) = false := by rfl) :
    PI X (.Tuple elts kk tpos) (.Call (.Name "zip" p) [e, e2, e3] [] pos) (iZip3 X.K ta) := by
  refine ⟨fun pins s σ H R I h => ?_⟩
  refine Call_ (ld_blt I hg hm boot_zip (callWith_type1 (thn (ha.run pos pins s σ H _ I h) fun us s1 hh => ?_) hs hpl))
  obtain ⟨vs, H1, I1, rv, a, b, c, xs, ys, zs, ex, qa, qb, qc, q⟩ := hh
  subst ex
  obtain ⟨its1, r1, p1, _⟩ := I1.tuple qa
  obtain ⟨its2, r2, p2, _⟩ := I1.tuple qb
  obtain ⟨its3, r3, p3, _⟩ := I1.tuple qc
  cases rv with
  | cons ra rv =>
    cases rv with
    | cons rb rv =>
      cases rv with
      | cons rc rv =>
        cases rv
        cases ra
        cases rb
        cases rc
        have la : a < s1.heap.objs.size := by obtain ⟨_, e, _⟩ := id p1; exact Heap.lt_size e
        have lb : b < s1.heap.objs.size := by obtain ⟨_, e, _⟩ := id p2; exact Heap.lt_size e
        have lc : c < s1.heap.objs.size := by obtain ⟨_, e, _⟩ := id p3; exact Heap.lt_size e
        refine zip_begins3 (begins_tuple a its1.toArray) (begins_tuple b its2.toArray) (begins_tuple c its3.toArray) p1 p2 p3 fun h' hz hTI hTO h1 h2 h3 hsz hk => wpAny_pyIter_zip hz ?_
        have I2 : Inv X pins σ H1 { s1 with heap := h' } := I1.kept (t' := s1.toks) hk
        generalize hn : s1.heap.objs.size = n at *
        have S : ZipSep3 (n + 5) (n + 3) (n + 4) n (n + 1) (n + 2) [n, a] [n + 1, b] [n + 2, c] := by
          exact sep3_of la lb lc
        have fresh : ∀ q, q ∈ [n + 5, n + 3, n + 4, n, n + 1, n + 2] → FpOk X pins H1 q := fun q hq => by
          have q' : q = n + 5 ∨ q = n + 3 ∨ q = n + 4 ∨ q = n ∨ q = n + 1 ∨ q = n + 2 := by simpa using hq
          have hle : s1.heap.objs.size ≤ q := by omega
          exact I1.fpOk hle (I1.hok.fresh hle)
        exact ⟨n + 5, [n + 5, n + 3, n + 4, n, n + 1, n + 2], _, Itz3 X.K a b c, H1, rfl, I2, turn_z3 S, ⟨hz, hTI, ⟨_, _, _, hTO⟩, ⟨_, h1, rfl, rfl⟩, ⟨_, h2, rfl, rfl⟩, ⟨_, h3, rfl, rfl⟩⟩, fresh, q⟩
/-- a loop over zip of three tuples of one length -/
theorem for_zip3 {K : Fr} {a b c : Addr} {xs ys zs : List V} {g : TG} {tb : TS} {D : Ends} {σ : L2.St} {H : Hp} (hl : xs.length = ys.length) (hl2 : xs.length = zs.length) (Pv : Nat → L2.St → Hp → Prop) (h0 : Pv 0 σ H)
    (hq : ∀ i σ H, i ≤ xs.length → Pv i σ H → SqT K H a xs ∧ SqT K H b ys ∧ SqT K H c zs)
    (hs : ∀ i x y z T σ H, xs[i]? = some x → ys[i]? = some y → zs[i]? = some z → Pv i σ H → H T = none → g (.ref T) σ (upd H T (.tup [x, y, z])) fun σ2 H2 => tb { D with nx := Pv (i + 1), ct := Pv (i + 1), bk := D.nx } σ2 H2)
    (hd : ∀ σ H, Pv xs.length σ H → D.nx σ H) :
    ∃ W : Nat → Nat → L2.St → Hp → Prop, (∃ m, W 0 m σ H) ∧ ∀ i m σ H, W i m σ H →
      ((Itz3 K a b c).stop i H ∧ D.nx σ H) ∨ ((Itz3 K a b c).go i H ∧ ∃ N : L2.St → Hp → Prop, (∀ σ' H', N σ' H' → ∃ m', m' < m ∧ W (i + 1) m' σ' H') ∧ ∀ x H', (Itz3 K a b c).yld i H x H' → g x σ H' fun σ2 H2 => tb { D with nx := N, ct := N, bk := D.nx } σ2 H2) := by
  refine ⟨fun i m σ H => m = xs.length - i ∧ i ≤ xs.length ∧ Pv i σ H, ⟨xs.length, rfl, Nat.zero_le _, h0⟩, ?_⟩
  rintro i m σ H ⟨rfl, hi, p⟩
  obtain ⟨qa, qb, qc⟩ := hq i σ H hi p
  rcases Nat.lt_or_ge i xs.length with lt | ge
  · refine .inr ⟨⟨xs, ys, zs, xs[i], ys[i], zs[i], qa, qb, qc, by simp [lt], by simp [← hl, lt], by simp [← hl2, lt]⟩, Pv (i + 1), fun σ' H' p' => ⟨_, ?_, rfl, lt, p'⟩, ?_⟩
    · omega
    · rintro v H' ⟨T, x, y, z, rfl, hT, rfl, ex, ey, ez⟩
      exact hs i x y z T σ H (ex xs qa) (ey ys qb) (ez zs qc) p hT
  · have e : i = xs.length := Nat.le_antisymm hi ge
    subst e
    exact .inl ⟨⟨xs, ys, zs, qa, qb, qc, ⟨Nat.le_refl _, Nat.le_of_eq hl, Nat.le_of_eq hl2⟩, .inl rfl⟩, hd σ H p⟩
/-! ### x in an object, by its class's own __contains__ -/
def tInOwn (C : Addr) (sp : Sp) (E : XK) : R2 := fun x y H Q => ∃ a dx fs, y = .ref a ∧ H a = some (.ins C dx fs) ∧ sp [y, x] H (fun v H' => ∃ r, v = .bl r ∧ Q (.bl r) H') E
theorem op_inOwn {X : Cx} {C f : Addr} {CX : CXT} {k : Nat} {fd : FuncData} {ps : List Str} {sp : Sp} {E : XK} (hm : Meth X.K C "__contains__" f) (F : FnOk X.prog X.w X.K X.mg X.base CX k f fd ps sp) (hr : Room k X.A) (hb : Binds X.K fd ps []) (hx : Passes CX X E) :
    OpR X (compareOp .In) (tInOwn C sp E) := by
  intro pins s σ H x y v u Q I rx ry h
  obtain ⟨a, dx, fs, rfl, ea, q⟩ := h
  obtain rfl : u = Value.ref a := ry
  obtain ⟨mA, O, _, _, _, _⟩ := ins_get I.hok ea
  obtain ⟨od, J, _⟩ := O.look
  have hK := I.kIn
  show wpAny _ _ (contains (.ref a) v >>= _) _ _ _
  refine wpAny_bind ?_
  unfold contains
  refine wpAny_holding (wpAny_bind (wpAny_bind (J.type.here ?_)))
  refine (PySem.W.looks_findIn hK hm.at_).here ?_
  rw [if_neg (by simp)]
  refine wpAny_bind (PySem.W.unlessNone_K hK J hm.at_ hm.fn ?_)
  refine thn (run_fn (us := [.ref a, v]) (vs := [.ref a, x]) F hr hb .nil hx I (.cons rfl (.cons rx .nil)) (by rw [List.append_nil]; exact q)) fun r s1 hh => ?_
  obtain ⟨z, H1, I1, rz, hz⟩ := hh
  obtain ⟨c, ez, q1⟩ := hz
  subst ez
  obtain rfl : r = Value.bool c := rz
  exact wpAny_truthy_bool (wpAny_pure ⟨.bl c, H1, I1, rfl, q1⟩)
/-! ### a def as it stands behind the top, its defaults whatever they are -/
structure FunD (K : Fr) (x qual : Str) (st : Stmt) (f : Addr) (fd : FuncData) : Prop where
  ex : ∃ (oc : Value) (od : Option Addr) (dV kV doc pm : Value) (an : Option Addr) (cdv ct : Value) (osl : Array (Option Value)),
    K.lookup f = some ⟨oc, od, .func fd, osl⟩ ∧ fd = PySem.W.fnOf x qual (defArgs st) (defBody st) (defScope st) dV kV doc pm an cdv ct ∧ PySem.W.codeIn K cdv qual = true
  kp : PySem.W.keepIn K (.ref f) = true
section
variable {P : Program} {w : World} {K : Fr} {mg : Str → Option Value} {base : Heap}
theorem FunD.ok {x qual : Str} {st : Stmt} {f : Addr} {fd : FuncData} {N ps : List Str} {k : Nat} {sp : Sp} (F : FunD K x qual st f fd) (S : FnScope N ps (defScope st)) (len : ∀ vs H Q E, sp vs H Q E → vs.length = ps.length)
    (hb : ∀ (cdv : Value) (A : Around) (outer : List Env) (s : Shared) (H : Hp) (vs : List V) (Q : VK) (E : XK), Room k (A.deeper (envOfC qual (defScope st) s.heap.objs.size f cdv)) → sp vs H Q E →
      ∃ t, PSs (cxOf CX0 P w K mg base N qual (defScope st) f cdv A outer s H E).nox (defBody st) t ∧ t { nx := fun _ H' => Q .non H', rt := Q } (start N vs) H) : FnOk P w K mg base CX0 (k + 1) f fd ps sp := by
  obtain ⟨oc, od, dV, kV, doc, pm, an, cdv, ct, osl, lk, rfl, hcd⟩ := F.ex
  refine fn_of lk hcd S len fun A outer s H vs Q E hr hsp => ?_
  obtain ⟨t, h, q⟩ := hb cdv A outer s H vs Q E hr hsp
  exact ⟨t, h.nox, q⟩
theorem FunD.bnd {x qual : Str} {st : Stmt} {f : Addr} {fd : FuncData} {ps : List Str} (F : FunD K x qual st f fd)
    (h : ∀ (dV kV doc pm : Value) (an : Option Addr) (cdv ct : Value) (us : List Value), us.length = ps.length → bindArgs (PySem.W.fnOf x qual (defArgs st) (defBody st) (defScope st) dV kV doc pm an cdv ct) ⟨us, []⟩ = pure (ps.zip us)) : Binds K fd ps [] := by
  obtain ⟨oc, od, dV, kV, doc, pm, an, cdv, ct, osl, lk, rfl, hcd⟩ := F.ex
  exact .all (h dV kV doc pm an cdv ct)
theorem fun_mkD {x qual : Str} {st : Stmt} {f : Addr} {oc : Value} {od an : Option Addr} {osl : Array (Option Value)} {dV kV doc pm cdv ct : Value} (l : K.lookup f = some ⟨oc, od, .func (PySem.W.fnOf x qual (defArgs st) (defBody st) (defScope st) dV kV doc pm an cdv ct), osl⟩)
    (c : PySem.W.codeIn K cdv qual = true) (k : PySem.W.keepIn K (.ref f) = true) : FunD K x qual st f (PySem.W.fnOf x qual (defArgs st) (defBody st) (defScope st) dV kV doc pm an cdv ct) := ⟨⟨oc, od, dV, kV, doc, pm, an, cdv, ct, osl, l, rfl, c⟩, k⟩
end
/-! ### a statement whose ways meet again: what holds there is told -/
def tMeet (t u : TS) : TS := fun D σ H => ∃ Mid : L2.St → Hp → Prop, (∀ σ' H', Mid σ' H' → u D σ' H') ∧ t { D with nx := Mid } σ H
theorem pss_meet {X : Cx} {st : Stmt} {rest : List Stmt} {t u : TS} (h1 : PS X st t) (h2 : PSs X rest u) : PSs X (st :: rest) (tMeet t u) := by
  refine ⟨fun pins s σ H D I h => ?_⟩
  obtain ⟨Mid, hm, h⟩ := h
  refine wpAny_execs_cons (thn (h1.run pins s σ H { D with nx := Mid } I h) fun f s1 q => ?_)
  cases f with
  | ret v => exact q
  | brk => exact q
  | cont => exact q
  | next =>
    obtain ⟨σ', H', I', q⟩ := q
    exact h2.run pins s1 σ' H' D I' (hm σ' H' q)
theorem s_meet {t u : TS} {D : Ends} {σ : L2.St} {H : Hp} (Mid : L2.St → Hp → Prop) (m : ∀ σ' H', Mid σ' H' → u D σ' H') (h : t { D with nx := Mid } σ H) : tMeet t u D σ H := ⟨Mid, m, h⟩
theorem s_next {D : Ends} {σ : L2.St} {H : Hp} (h : D.nx σ H) : tNext D σ H := h
theorem ix_tK {X : Cx} (K : Fr) (h : X.K = K := by rfl) : IxR X (rIxT K) := by subst h; exact ix_tup
theorem ix_lK {X : Cx} (K : Fr) (h : X.K = K := by rfl) : IxR X (rIxL K) := by subst h; exact ix_list
theorem op_eqK {X : Cx} (K : Fr) (h : X.K = K) (hu : X.A.units + 64 < cLine) : OpR X (compareOp .Eq) (rEqD K) := by subst h; exact op_eqD hu
theorem op_neK {X : Cx} (K : Fr) (h : X.K = K) (hu : X.A.units + 64 < cLine) : OpR X (compareOp .NotEq) (rNeD K) := by subst h; exact op_neD hu
theorem op_inK {X : Cx} (K : Fr) (h : X.K = K) (hu : X.A.units + 65 < cLine) : OpR X (compareOp .In) (rInT K) := by subst h; exact op_inT hu
/-- a def with defaults, called with every argument -/
theorem bnd_dflt {K : Fr} {fd : FuncData} {ps : List Str} {T : Addr} {o : Obj} {its : Array Value} {n : Nat} (lT : K.lookup T = some o) (oT : o.data = .seq its n)
    (h : ∀ us : List Value, us.length = ps.length → ∃ k : Option (Array Value) → Sem (List (Str × Value)), bindArgs fd ⟨us, []⟩ = seqItems? (.ref T) >>= k ∧ k (some its) = pure (ps.zip us)) : Binds K fd ps [] := fun s us X hl => by
  rw [List.append_nil] at hl ⊢
  obtain ⟨k, e1, e2⟩ := h us hl
  refine BindsTo.of_looks fun M => ?_
  rw [e1]
  exact looks_items X lT oT (.of_pure e2)
end LB
/-! The source of draws of a law: a dict with text keys; what a draw promises. -/
namespace LB
open PySem L2
structure PenS where
  c : Addr
  cells : List Int
  at_ : Int
  dg : Int
  ct : Int
  fo : Int
def PenS.kvs (p : PenS) : List (Key × V) := [(.inr "cells", .ref p.c), (.inr "at", .int p.at_), (.inr "digits", .int p.dg), (.inr "count", .int p.ct), (.inr "fold", .int p.fo)]
theorem kk {a b : Str} (h : (a == b) = false) : decide ((Sum.inr a : Key) = Sum.inr b) = false := decide_eq_false fun e => by
  have e' := Sum.inr.inj e
  subst e'
  simp at h
theorem val_skip {k : Key} {x : Key × V} {r : List (Key × V)} (h : decide (x.1 = k) = false) : valV (x :: r) k = valV r k := by
  unfold valV; rw [List.find?_cons_of_neg (by rw [h]; exact Bool.false_ne_true)]
theorem val_here {k : Key} {v : V} {r : List (Key × V)} : valV ((k, v) :: r) k = some v := by
  unfold valV; rw [List.find?_cons_of_pos (by simp)]; rfl
theorem p_cells (p : PenS) : valV p.kvs (.inr "cells") = some (.ref p.c) := val_here
theorem p_at (p : PenS) : valV p.kvs (.inr "at") = some (.int p.at_) := by
  unfold PenS.kvs; rw [val_skip (kk (by decide +kernel)), val_here]
theorem p_dg (p : PenS) : valV p.kvs (.inr "digits") = some (.int p.dg) := by
  unfold PenS.kvs; rw [val_skip (kk (by decide +kernel)), val_skip (kk (by decide +kernel)), val_here]
theorem p_ct (p : PenS) : valV p.kvs (.inr "count") = some (.int p.ct) := by
  unfold PenS.kvs; rw [val_skip (kk (by decide +kernel)), val_skip (kk (by decide +kernel)), val_skip (kk (by decide +kernel)), val_here]
theorem p_fo (p : PenS) : valV p.kvs (.inr "fold") = some (.int p.fo) := by
  unfold PenS.kvs; rw [val_skip (kk (by decide +kernel)), val_skip (kk (by decide +kernel)), val_skip (kk (by decide +kernel)), val_skip (kk (by decide +kernel)), val_here]
theorem putK_of {kvs : List (Key × V)} {k : Key} {v w : V} (h : valV kvs k = some w) : putK kvs k v = kvs.map (fun kv => if kv.1 = k then (kv.1, v) else kv) := by
  unfold putK
  rw [if_pos]
  unfold valV at h
  cases e : kvs.find? fun kv => decide (kv.1 = k) with
  | none => rw [e] at h; cases h
  | some x => exact List.any_eq_true.mpr ⟨x, List.mem_of_find?_eq_some e, by simpa using List.find?_some e⟩
theorem kn {a b : Str} (h : (a == b) = false) : ¬ (Sum.inr a : Key) = Sum.inr b := of_decide_eq_false (kk h)
theorem u_at (p : PenS) (x : Int) : putK p.kvs (.inr "at") (.int x) = { p with at_ := x }.kvs := by
  rw [putK_of (p_at p)]
  simp only [PenS.kvs, List.map]
  rw [if_neg (kn (by decide +kernel)), if_pos True.intro, if_neg (kn (by decide +kernel)), if_neg (kn (by decide +kernel)), if_neg (kn (by decide +kernel))]
theorem u_dg (p : PenS) (x : Int) : putK p.kvs (.inr "digits") (.int x) = { p with dg := x }.kvs := by
  rw [putK_of (p_dg p)]
  simp only [PenS.kvs, List.map]
  rw [if_neg (kn (by decide +kernel)), if_neg (kn (by decide +kernel)), if_pos True.intro, if_neg (kn (by decide +kernel)), if_neg (kn (by decide +kernel))]
theorem u_ct (p : PenS) (x : Int) : putK p.kvs (.inr "count") (.int x) = { p with ct := x }.kvs := by
  rw [putK_of (p_ct p)]
  simp only [PenS.kvs, List.map]
  rw [if_neg (kn (by decide +kernel)), if_neg (kn (by decide +kernel)), if_neg (kn (by decide +kernel)), if_pos True.intro, if_neg (kn (by decide +kernel))]
theorem u_fo (p : PenS) (x : Int) : putK p.kvs (.inr "fold") (.int x) = { p with fo := x }.kvs := by
  rw [putK_of (p_fo p)]
  simp only [PenS.kvs, List.map]
  rw [if_neg (kn (by decide +kernel)), if_neg (kn (by decide +kernel)), if_neg (kn (by decide +kernel)), if_neg (kn (by decide +kernel)), if_pos True.intro]
/-- the pen p stands at d -/
structure Pn (H : Hp) (d : Addr) (p : PenS) : Prop where
  at_ : H d = some (.dK p.kvs)
  cl : H p.c = some (.lst (p.cells.map V.int))
  ne : p.c ≠ d
theorem Pn.same {H H' : Hp} {d : Addr} {p : PenS} (P : Pn H d p) (s : Same H H') : Pn H' d p := ⟨s _ _ P.at_, s _ _ P.cl, P.ne⟩
/-- some pen stands at d, its cells at c: what all draws keep; n bounds how often it was drawn -/
def PenAt (c : Addr) (H : Hp) (d : Addr) (n : Nat) : Prop := ∃ p, Pn H d p ∧ p.c = c ∧ 0 ≤ p.at_ ∧ 0 ≤ p.ct ∧ p.ct ≤ n ∧ 0 ≤ p.fo ∧ p.fo < 2147483587
section
variable {H H' : Hp} {c d : Addr} {n m : Nat}
theorem PenAt.same (P : PenAt c H d n) (s : Same H H') : PenAt c H' d n := by
  obtain ⟨p, P, h⟩ := P
  exact ⟨p, P.same s, h⟩
theorem PenAt.mono (P : PenAt c H d n) (l : n ≤ m) : PenAt c H d m := by
  obtain ⟨p, P, h0, h1, h2, h3, h4, h5⟩ := P
  exact ⟨p, P, h0, h1, h2, by omega, h4, h5⟩
theorem PenAt.kt (P : PenAt c H d n) (k : Kd d H H') : Kt H H' := by
  obtain ⟨p, P, h⟩ := P
  exact kt_kd k P.at_ (fun i => i)
theorem PenAt.ne {l : Addr} {o : HO} (P : PenAt c H d n) (h : H l = some o) (ho : ∀ kvs, o ≠ .dK kvs) : l ≠ d := by
  obtain ⟨p, P, _⟩ := P
  exact ne_of h P.at_ (ho _)
theorem PenAt.ned (P : PenAt c H d n) {l : Addr} (h : H l = none) : l ≠ d ∧ l ≠ c := by
  obtain ⟨p, P, rfl, _⟩ := P
  exact ⟨fun e => ne_of_none P.at_ h e.symm, fun e => ne_of_none P.cl h e.symm⟩
/-- a write elsewhere -/
theorem PenAt.upd (P : PenAt c H d n) {l : Addr} {o : HO} (h1 : l ≠ d) (h2 : l ≠ c) : PenAt c (upd H l o) d n := by
  obtain ⟨p, P, rfl, h⟩ := P
  exact ⟨p, ⟨by rw [upd_ne (Ne.symm h1)]; exact P.at_, by rw [upd_ne (Ne.symm h2)]; exact P.cl, P.ne⟩, rfl, h⟩
end
section
variable {K : Fr} {σ : L2.St} {H : Hp} {te tv : TE} {d : Addr} {p : PenS} {x : Int} {D : Ends}
theorem ev_pget {key : Str} (e : σ[0]? = some (some (.ref d))) (P : Pn H d p) (hv : valV p.kvs (.inr key) = some (.int x)) : Ev K (tDGet (tVar 0) (tC (.str key))) σ H (.int x) := fun H1 s Q k =>
  ⟨_, e, d, .int x, rfl, .inl ⟨p.kvs, .inr key, .inl (s _ _ P.at_), rfl, hv.symm⟩, k _ H1 (Same.refl H1) (.int x)⟩
theorem s_pput {key : Str} {kvs' : List (Key × V)} (e : σ[0]? = some (some (.ref d))) (P : Pn H d p) (a : Ev K tv σ H (.int x)) (hk : putK p.kvs (.inr key) (.int x) = kvs')
    (h : ∀ H1, Kd d H H1 → H1 d = some (.dK kvs') → H1 p.c = some (.lst (p.cells.map V.int)) → D.nx σ H1) : sDPut (tVar 0) (tC (.str key)) tv D σ H :=
  a H (Same.refl H) _ fun v H1 s rv => by
    cases rv.int_inv
    refine ⟨_, e, d, upd H1 d (.dK kvs'), rfl, ?_, ?_⟩
    · refine .inl ⟨p.kvs, .inr key, s _ _ P.at_, rfl, ?_, by rw [hk]⟩
      exact small1000 (by show 5 ≤ 1000; decide)
    · refine h _ (fun b o hb ne => by rw [upd_ne ne]; exact s _ _ hb) upd_same ?_
      rw [upd_ne P.ne]
      exact s _ _ P.cl
end
section
variable {K : Fr} {σ : L2.St} {H : Hp} {d : Addr} {p : PenS} {D : Ends} {t u : TS} {te tv : TE} {x : Int}
theorem s_pputs {key : Str} {kvs' : List (Key × V)} (e : σ[0]? = some (some (.ref d))) (P : Pn H d p) (a : Ev K tv σ H (.int x)) (hk : putK p.kvs (.inr key) (.int x) = kvs')
    (h : ∀ H1, Kd d H H1 → H1 d = some (.dK kvs') → H1 p.c = some (.lst (p.cells.map V.int)) → u D σ H1) : tSeq (sDPut (tVar 0) (tC (.str key)) tv) u D σ H := s_pput e P a hk h
theorem ev_lencells (e : σ[0]? = some (some (.ref d))) (P : Pn H d p) :
    Ev K (tCB (fun xs H Q => ∃ p ys, xs = [.ref p] ∧ (SqL K H p ys ∨ SqT K H p ys) ∧ Q (.int ys.length) H) (tCons (tDGet (tVar 0) (tC (.str "cells"))) tNil)) σ H (.int p.cells.length) := fun H1 s Q k => by
  refine ⟨_, e, d, .ref p.c, rfl, .inl ⟨p.kvs, .inr "cells", .inl (s _ _ P.at_), rfl, (p_cells p).symm⟩, ?_⟩
  refine ⟨p.c, _, rfl, .inl (SqL.of (s _ _ P.cl)), k _ H1 (Same.refl H1) ?_⟩
  rw [List.length_map]
  exact .int _
theorem ev_cell {j : Nat} (e : σ[0]? = some (some (.ref d))) (P : Pn H d p) (ej : p.at_ = j) (hj : p.cells[j]? = some x) :
    Ev K (tOp (rIxL K) (tDGet (tVar 0) (tC (.str "cells"))) (tDGet (tVar 0) (tC (.str "at")))) σ H (.int x) := fun H1 s Q k => by
  refine ⟨_, e, d, .ref p.c, rfl, .inl ⟨p.kvs, .inr "cells", .inl (s _ _ P.at_), rfl, (p_cells p).symm⟩, ?_⟩
  refine ⟨_, e, d, .int p.at_, rfl, .inl ⟨p.kvs, .inr "at", .inl (s _ _ P.at_), rfl, (p_at p).symm⟩, ?_⟩
  refine ⟨p.c, _, p.at_, .int x, rfl, rfl, SqL.of (s _ _ P.cl), ?_, k _ H1 (Same.refl H1) (.int x)⟩
  rw [ej]
  refine atI_nat ?_
  rw [List.getElem?_map, hj]
  rfl
end
/-- a draw below m -/
def spDraw : Sp := fun vs H Q _ => ∃ (c d : Addr) (n : Nat) (m : Int), vs = [.ref d, .int m] ∧ PenAt c H d n ∧ n < 1000000000 ∧ 0 < m ∧ m < 1073741824 ∧ ∀ (r : Int) (H' : Hp), 0 ≤ r → r < m → Kd d H H' → PenAt c H' d (n + 1) → Q (.int r) H'
/-- an item of a list -/
def spPick : Sp := fun vs H Q _ => ∃ (c d l : Addr) (n : Nat) (xs : List V), vs = [.ref d, .ref l] ∧ PenAt c H d n ∧ n < 1000000000 ∧ H l = some (.lst xs) ∧ 0 < xs.length ∧ xs.length < 1000000 ∧ ∀ (v : V) (H' : Hp), v ∈ xs → Kd d H H' → PenAt c H' d (n + 1) → Q v H'
/-- the pen made -/
def spPen (K : Fr) : Sp := fun vs H Q _ => ∃ (a : Addr) (ns : List Int), vs = [.ref a] ∧ SqL K H a (ns.map V.int) ∧ ∀ (c d : Addr) (H' : Hp), Same H H' → PenAt c H' d 0 → Q (.ref d) H'
section
variable {K : Fr} {E : XK} {σ : L2.St} {H : Hp} {c d : Addr} {n i : Nat} {m : Int} {te tl : TE} {Q : VK} {ds : List PD}
theorem c_draw (e : σ[i]? = some (some (.ref d))) (P : PenAt c H d n) (hn : n < 1000000000) (m0 : 0 < m) (m1 : m < 1073741824) (a : Ev K te σ H (.int m))
    (k : ∀ (r : Int) (H' : Hp), 0 ≤ r → r < m → Kd d H H' → PenAt c H' d (n + 1) → Q (.int r) H') : tCall spDraw [] E (tCons (tVar i) (tCons te tNil)) σ H Q :=
  ⟨_, e, a H (Same.refl H) _ fun v H1 s rv => by
    cases rv.int_inv
    exact ⟨c, d, n, m, rfl, P.same s, hn, m0, m1, fun r H' h1 h2 h3 h4 => k r H' h1 h2 ((kd_same s).trans h3) h4⟩⟩
theorem mem_rep {vs : List V} {ds : List PD} {v : V} (r : RepAll K H vs ds) (h : v ∈ vs) : ∃ x, x ∈ ds ∧ Rep K H v x := by
  obtain ⟨j, hj, e⟩ := List.getElem_of_mem h
  obtain ⟨x, hx, rx⟩ := r.getV (i := j) (v := v) (by simp [hj, e])
  exact ⟨x, List.mem_of_getElem? hx, rx⟩
theorem c_pick (e : σ[i]? = some (some (.ref d))) (P : PenAt c H d n) (hn : n < 1000000000) (a : EvL K tl σ H ds) (h0 : 0 < ds.length) (h1 : ds.length < 1000000)
    (k : ∀ (v : V) (x : PD) (H' : Hp), x ∈ ds → Rep K H' v x → Kd d H H' → PenAt c H' d (n + 1) → Q v H') : tCall spPick [] E (tCons (tVar i) (tCons tl tNil)) σ H Q :=
  ⟨_, e, a H (Same.refl H) _ fun p vs H1 s _ hp rs => by
    refine ⟨c, d, p, n, vs, rfl, P.same s, hn, hp, by rw [rs.len]; exact h0, by rw [rs.len]; exact h1, fun v H' hv h3 h4 => ?_⟩
    obtain ⟨x, hx, rx⟩ := mem_rep rs hv
    exact k v x H' hx (rx.kt ((P.same s).kt h3)) ((kd_same s).trans h3) h4⟩
end
theorem bd_lit {n : Nat} {i : Int} (h : decide (i.natAbs < 2 ^ n) = true) : Bd n i := by unfold Bd; exact of_decide_eq_true h
end LB
/-! Comprehensions of data: [e for x in a tuple], [e for x, y in zip of two tuples], [e for k in range]. -/
namespace LB
open PySem L2
theorem kt_lst {H : Hp} {D : Addr} {a b : List V} (h : H D = some (.lst a)) : Kt H (upd H D (.lst b)) := fun c o e i => by
  have ne : c ≠ D := fun z => by subst z; rw [h] at e; cases e; exact i
  rw [upd_ne ne]; exact e
theorem same_new {H H1 : Hp} {D : Addr} {b : HO} (hD : H D = none) (s : Same H H1) : Same H (upd H1 D b) := fun c o e => by
  rw [upd_ne (ne_of_none e hD)]; exact s c o e
theorem lc_pure {J : It} {n : Nat} {G : Hp → Prop} {Y : Nat → Hp → V → Hp → Prop} {K : Fr} (w : Walk J n G Y) {g : TG} {te : TE} {vs : List Nat} {σ : L2.St} {H1 : Hp} {D : Addr} {Qd : Hp → Prop} (es : List PD) (hn : es.length = n) (hl : n ≤ 1000) (hD : H1 D = none)
    (hG : ∀ H, Same H1 H → G H) (hY : ∀ i x H H', i < n → Y i H x H' → Same H H')
    (ht : ∀ i x H H', i < n → Same H1 H → Same H H' → Y i H x H' → g x (wipe σ vs) H' fun σ2 H2 => wipe σ2 vs = wipe σ vs ∧ H2 = H' ∧ ∃ d, es[i]? = some d ∧ Ev K te σ2 H' d)
    (hg : ∀ (x : V) (σ0 : L2.St) (H : Hp) (Q Q' : L2.St → Hp → Prop), (∀ σ' H', Q σ' H' → Q' σ' H') → g x σ0 H Q → g x σ0 H Q')
    (k : ∀ ws H, Same H1 H → H D = some (.lst ws) → RepAll K H ws es → Qd H) :
    ∃ W : Nat → Nat → Hp → Prop, (∃ m, W 0 m (upd H1 D (.lst []))) ∧ ∀ i m H, W i m H →
      (J.stop i H ∧ Qd H) ∨ (J.go i H ∧ ∃ Nx : Hp → Prop, (∀ H', Nx H' → ∃ m', m' < m ∧ W (i + 1) m' H') ∧ ∀ x H', J.yld i H x H' → g x (wipe σ vs) H' fun σ2 H2 => wipe σ2 vs = wipe σ vs ∧ tYes σ2 H2 fun b H3 =>
        if b = true then te σ2 H3 fun y H4 => ∃ acc, H4 D = some (.lst acc) ∧ acc.length < sizeLine ∧ Nx (upd H4 D (.lst (acc ++ [y]))) else Nx H3) := by
  refine lc_it w (fun i H => Same H1 H ∧ ∃ acc, H D = some (.lst acc) ∧ RepAll K H acc (es.take i)) ⟨same_new hD (Same.refl H1), [], upd_same, .nil⟩ (fun i H _ p => hG H p.1) ?_ ?_
  · rintro i x H H' hi ⟨s1, acc, ha, ra⟩ y
    have s2 := hY i x H H' hi y
    refine hg _ _ _ _ _ ?_ (ht i x H H' hi s1 s2 y)
    rintro σ2 H2 ⟨e1, rfl, d, ed, ev⟩
    refine ⟨e1, ?_⟩
    dsimp only [tYes]
    rw [if_pos rfl]
    refine ev H2 (Same.refl H2) _ fun v H4 s4 rv => ?_
    have hD4 : H4 D = some (.lst acc) := s4 _ _ (s2 _ _ ha)
    refine ⟨acc, hD4, ?_, same_new hD ((s1.trans s2).trans s4), acc ++ [v], upd_same, ?_⟩
    · have := ra.len
      rw [List.length_take] at this
      exact small1000 (by omega)
    · rw [List.take_succ, ed]
      exact (((ra.same s2).same s4).append (.cons rv .nil)).kt (kt_lst hD4)
  · rintro H ⟨s1, acc, ha, ra⟩
    rw [← hn, List.take_length] at ra
    exact k acc H s1 ha ra
section
variable {K : Fr} {σ : L2.St} {H : Hp} {ta tb te : TE} {ds es fs : List PD}
theorem gName_mono {i : Nat} (x : V) (σ0 : L2.St) (H : Hp) (Q Q' : L2.St → Hp → Prop) (m : ∀ σ' H', Q σ' H' → Q' σ' H') (h : gName i x σ0 H Q) : gName i x σ0 H Q' := m _ _ h
theorem gT2_mono {i j : Nat} (x : V) (σ0 : L2.St) (H : Hp) (Q Q' : L2.St → Hp → Prop) (m : ∀ σ' H', Q σ' H' → Q' σ' H') (h : gTup K 2 (gCons (gName i) (gCons (gName j) gNil)) x σ0 H Q) : gTup K 2 (gCons (gName i) (gCons (gName j) gNil)) x σ0 H Q' := by
  obtain ⟨a, xs, e, hs, hl, v, r, e1, w, r2, e2, e3, q⟩ := h
  exact ⟨a, xs, e, hs, hl, v, r, e1, w, r2, e2, e3, m _ _ q⟩
theorem wipe1 {i : Nat} {v : Option V} {σ : L2.St} : wipe ((wipe σ [i]).set i v) [i] = wipe σ [i] := by
  show ((σ.set i none).set i v).set i none = σ.set i none
  rw [List.set_set, List.set_set]
theorem wipe2 {i j : Nat} {v u : Option V} {σ : L2.St} (h : i ≠ j) : wipe (((wipe σ [i, j]).set i v).set j u) [i, j] = wipe σ [i, j] := by
  show (((((σ.set j none).set i none).set i v).set j u).set j none).set i none = (σ.set j none).set i none
  rw [List.set_set, List.set_set, List.set_comm _ _ h, List.set_set, List.set_set]
/-- [e for x in t], t a tuple of data -/
theorem evl_lct {i : Nat} (a : Ev K ta σ H (.tuple ds)) (hn : es.length = ds.length) (hl : ds.length ≤ 1000)
    (h : ∀ (j : Nat) (d : PD) (v : V) (H1 : Hp), ds[j]? = some d → Same H H1 → Rep K H1 v d → ∃ e, es[j]? = some e ∧ Ev K te ((wipe σ [i]).set i (some v)) H1 e) : EvL K (tLc (iTup K ta) (gName i) tYes te [i]) σ H es := fun H1 s Q k =>
  a H1 s _ fun v H2 s2 rv => by
    obtain ⟨p, xs, rfl, hp, r⟩ := rv.tup_inv
    refine ⟨p, rfl, ⟨xs, hp⟩, fun D hD => ?_⟩
    refine lc_pure (K := K) (walk_tup (K := K) (a := p) (xs := xs)) es (by rw [hn, r.len]) (by rw [r.len]; exact hl) hD (fun H s => kt_sqt (kt_same s) hp) (fun i x H H' _ y => by rw [y.1]; exact Same.refl H) ?_ gName_mono (fun ws H3 s3 e3 r3 => k D ws H3 (s2.trans s3) (s2.free hD) e3 r3)
    rintro j x H3 H4 hj s3 s4 ⟨rfl, hx⟩
    obtain ⟨d, ed, rd⟩ := r.getV hx
    obtain ⟨e, ee, ev⟩ := h j d x H4 ed ((s.trans s2).trans s3) (rd.same s3)
    exact ⟨wipe1, rfl, e, ee, ev⟩
/-- zip of two tuples -/
theorem walk_zT {a b : Addr} {xs ys : List V} {n : Nat} (hn : n = min xs.length ys.length) : Walk (RZ.ItzT K a b) n (fun H => SqT K H a xs ∧ SqT K H b ys) (YPair (fun i => xs[i]?) (fun i => ys[i]?)) := by
  subst hn
  constructor
  · intro i H hi q
    have h1 : i < xs.length := by omega
    have h2 : i < ys.length := by omega
    exact ⟨xs, ys, xs[i], ys[i], q.1, q.2, by simp [h1], by simp [h2]⟩
  · intro H q
    refine ⟨xs, ys, q.1, q.2, ?_⟩
    omega
  · rintro i H v H' _ q ⟨T, x, y, e1, e2, e3, e4, e5⟩
    exact ⟨T, x, y, e1, e2, e3, e4 xs q.1, e5 ys q.2⟩
theorem evl_lcz {i j : Nat} (hij : i ≠ j) (a : Ev K ta σ H (.tuple ds)) (b : Ev K tb σ H (.tuple fs)) (hn : es.length = min ds.length fs.length) (hl : ds.length ≤ 1000)
    (h : ∀ (m : Nat) (d f : PD) (v w : V) (H1 : Hp), ds[m]? = some d → fs[m]? = some f → Same H H1 → Rep K H1 v d → Rep K H1 w f → ∃ e, es[m]? = some e ∧ Ev K te (((wipe σ [i, j]).set i (some v)).set j (some w)) H1 e) :
    EvL K (tLc (RZ.iZipA K (tCons ta (tCons tb tNil))) (gTup K 2 (gCons (gName i) (gCons (gName j) gNil))) tYes te [i, j]) σ H es := fun H1 s Q k =>
  a H1 s _ fun v H2 s2 rv => b H2 (s.trans s2) _ fun w H3 s3 rw' => by
    obtain ⟨p, xs, rfl, hp, r⟩ := rv.tup_inv
    obtain ⟨q, ys, rfl, hq, r'⟩ := rw'.tup_inv
    have hp' := kt_sqt (kt_same s3) hp
    have r3 := r.same s3
    refine ⟨p, q, xs, ys, rfl, .inr ⟨hp', hq, fun D hD => ?_⟩⟩
    refine lc_pure (K := K) (walk_zT (K := K) (a := p) (b := q) (xs := xs) (ys := ys) rfl) es (by rw [hn, r.len, r'.len]) (by rw [r.len]; omega) hD (fun H s => ⟨kt_sqt (kt_same s) hp', kt_sqt (kt_same s) hq⟩) ?_ ?_ gT2_mono (fun ws H3' s3' e3 r3 => k D ws H3' ((s2.trans s3).trans s3') ((s2.trans s3).free hD) e3 r3)
    · rintro i x H H' _ ⟨T, _, _, _, hT, rfl, _⟩
      exact same_upd hT
    · rintro m x H4 H5 hm s4 s5 ⟨T, x1, y1, rfl, hT, rfl, hx, hy⟩
      obtain ⟨d, ed, rd⟩ := r3.getV hx
      obtain ⟨f, ef, rf⟩ := r'.getV hy
      obtain ⟨e, ee, ev⟩ := h m d f x1 y1 _ ed ef (((s.trans (s2.trans s3)).trans s4).trans s5) ((rd.same s4).same s5) ((rf.same s4).same s5)
      exact ⟨T, [x1, y1], rfl, SqT.of upd_same, rfl, x1, [y1], rfl, y1, [], rfl, rfl, wipe2 hij, rfl, e, ee, ev⟩
end
end LB
/-! Sheets as data: what the class says of them, and how one stands in the heap. -/
namespace LB
open PySem L2
abbrev C2 := Int × Int
abbrev dC (c : C2) : PD := .tuple [.int c.1, .int c.2]
abbrev dCs (l : List C2) : PD := .tuple (l.map dC)
abbrev dIs (l : List Int) : PD := .tuple (l.map .int)
def dO : Option (List Int) → PD
  | none => .none
  | some l => dIs l
def dOI : Option Int → PD
  | none => .none
  | some i => .int i
def BdC (n : Nat) (c : C2) : Prop := Bd n c.1 ∧ Bd n c.2
structure Sh where
  base : C2
  price : Int
  steps : List C2
  prices : List Int
def cr (a b : C2) : Int := a.1 * b.2 - a.2 * b.1
def exactF (tops : List Int) (b : Int) : Option (List Int) :=
  if (tops.map fun t => (!decide (t.fmod b = 0) || decide (t.fdiv b < 0))).any id = true then none else some (tops.map fun t => t.fdiv b)
def Sh.way (S : Sh) (c : C2) : C2 := (c.1 - S.base.1, c.2 - S.base.2)
def Sh.counts (S : Sh) (c : C2) : Option (List Int) := match S.steps with
  | [] => if S.way c = (0, 0) then some [] else none
  | [f] => if cr f (S.way c) = 0 then exactF [f.1 * (S.way c).1 + f.2 * (S.way c).2] (f.1 * f.1 + f.2 * f.2) else none
  | f :: s :: _ => exactF [cr (S.way c) s, cr f (S.way c)] (cr f s)
def Sh.cellOf (S : Sh) (n : List Int) : C2 :=
  (S.base.1 + ((n.zip S.steps).map fun p => p.1 * p.2.1).sum, S.base.2 + ((n.zip S.steps).map fun p => p.1 * p.2.2).sum)
def Sh.priceOf (S : Sh) (n : List Int) : Int := S.price + ((n.zip S.prices).map fun p => p.1 * p.2).sum
def Sh.priceAt (S : Sh) (c : C2) : Option Int := (S.counts c).map S.priceOf
def areSteps (l : List C2) : Bool := match l with
  | [] => true
  | [a] => !decide (a = (0, 0))
  | [a, b] => !decide (a = (0, 0)) && !decide (b = (0, 0)) && !decide (cr a b = 0)
  | _ => false
/-- the sheets of the laws: two steps at most, sizes told -/
structure Sh.Ok (S : Sh) : Prop where
  st : areSteps S.steps = true
  ln : S.prices.length = S.steps.length
  b0 : BdC 400 S.base
  b1 : Bd 400 S.price
  b2 : ∀ s ∈ S.steps, BdC 400 s
  b3 : ∀ s ∈ S.prices, Bd 400 s
theorem areSteps_len {l : List C2} (h : areSteps l = true) : l.length ≤ 2 := by
  match l, h with
  | [], _ => exact Nat.zero_le _
  | [a], _ => exact (by decide : 1 ≤ 2)
  | [a, b], _ => exact Nat.le_refl _
theorem eqv_dC {a b : C2} : PyData.eqv (dC a) (dC b) = decide (a = b) := by
  obtain ⟨x, y⟩ := a
  obtain ⟨u, v⟩ := b
  by_cases h1 : x = u <;> by_cases h2 : y = v <;> simp [PyData.eqv, PyData.eqvAll, h1, h2]
theorem shaped_dC (a : C2) : SeqAt.shaped (dC a) = true := by
  simp [SeqAt.shaped, PyData.canLay0, PyData.canLayAll0, PyData.depth, PyData.depthAll]
theorem canLay_dCs : ∀ l : List C2, PyData.canLayAll0 (l.map dC) = true ∧ PyData.depthAll (l.map dC) ≤ 1
  | [] => by simp [PyData.canLayAll0, PyData.depthAll]
  | a :: l => by
    obtain ⟨h1, h2⟩ := canLay_dCs l
    simp [PyData.canLayAll0, PyData.depthAll, PyData.canLay0, PyData.depth, h1]
    exact Nat.max_le.mpr ⟨Nat.le_refl _, h2⟩
theorem shaped_dCs (l : List C2) : SeqAt.shaped (dCs l) = true := by
  obtain ⟨h1, h2⟩ := canLay_dCs l
  have h3 : PyData.depth (dCs l) ≤ 64 := by show PyData.depthAll (l.map dC) + 1 ≤ 64; omega
  have h4 : PyData.canLay0 (dCs l) = true := h1
  unfold SeqAt.shaped
  rw [h4, decide_eq_true h3]
  rfl
theorem canLay_dIs : ∀ l : List Int, PyData.canLayAll0 (l.map .int) = true ∧ PyData.depthAll (l.map .int) = 0
  | [] => by simp [PyData.canLayAll0, PyData.depthAll]
  | a :: l => by
    obtain ⟨h1, h2⟩ := canLay_dIs l
    simp [PyData.canLayAll0, PyData.depthAll, PyData.canLay0, PyData.depth, h1, h2]
theorem shaped_dIs (l : List Int) : SeqAt.shaped (dIs l) = true := by
  obtain ⟨h1, h2⟩ := canLay_dIs l
  have h3 : PyData.depth (dIs l) ≤ 64 := by show PyData.depthAll (l.map .int) + 1 ≤ 64; omega
  have h4 : PyData.canLay0 (dIs l) = true := h1
  unfold SeqAt.shaped
  rw [h4, decide_eq_true h3]
  rfl
/-! ### a sheet in the heap -/
def shF (vb vp vs vr : V) : List (Str × V) := putF "prices" vr (putF "steps" vs (putF "price" vp (putF "base" vb [])))
theorem shF_base (vb vp vs vr : V) : (shF vb vp vs vr).lookup ("base" : Str) = some vb := by
  unfold shF
  rw [lookup_putF, if_neg (by decide +kernel), lookup_putF, if_neg (by decide +kernel), lookup_putF, if_neg (by decide +kernel), lookup_putF, if_pos rfl]
theorem shF_price (vb vp vs vr : V) : (shF vb vp vs vr).lookup ("price" : Str) = some vp := by
  unfold shF
  rw [lookup_putF, if_neg (by decide +kernel), lookup_putF, if_neg (by decide +kernel), lookup_putF, if_pos rfl]
theorem shF_steps (vb vp vs vr : V) : (shF vb vp vs vr).lookup ("steps" : Str) = some vs := by
  unfold shF
  rw [lookup_putF, if_neg (by decide +kernel), lookup_putF, if_pos rfl]
theorem shF_prices (vb vp vs vr : V) : (shF vb vp vs vr).lookup ("prices" : Str) = some vr := by
  unfold shF
  rw [lookup_putF, if_pos rfl]
theorem shF_no (vb vp vs vr : V) {m : Str} (h1 : ¬ m = "prices") (h2 : ¬ m = "steps") (h3 : ¬ m = "price") (h4 : ¬ m = "base") : (shF vb vp vs vr).lookup m = none := by
  unfold shF
  rw [lookup_putF, if_neg h1, lookup_putF, if_neg h2, lookup_putF, if_neg h3, lookup_putF, if_neg h4]
  rfl
structure ShAt (K : Fr) (C : Addr) (H : Hp) (p : Addr) (S : Sh) : Prop where
  ex : ∃ dx vb vp vs vr, H p = some (.ins C dx (shF vb vp vs vr)) ∧ Rep K H vb (dC S.base) ∧ Rep K H vp (.int S.price) ∧ Rep K H vs (dCs S.steps) ∧ Rep K H vr (dIs S.prices)
theorem ShAt.kt {K : Fr} {C : Addr} {H H' : Hp} {p : Addr} {S : Sh} (h : ShAt K C H p S) (k : Kt H H') : ShAt K C H' p S := by
  obtain ⟨dx, vb, vp, vs, vr, e, r1, r2, r3, r4⟩ := h.ex
  exact ⟨dx, vb, vp, vs, vr, k _ _ e trivial, r1.kt k, r2.kt k, r3.kt k, r4.kt k⟩
theorem ShAt.same {K : Fr} {C : Addr} {H H' : Hp} {p : Addr} {S : Sh} (h : ShAt K C H p S) (k : Same H H') : ShAt K C H' p S := h.kt (kt_same k)
section
variable {K : Fr} {C p : Addr} {H : Hp} {S : Sh} {σ : L2.St} {i : Nat}
theorem ev_base (e : σ[i]? = some (some (.ref p))) (h : ShAt K C H p S) (c : Cls K C) (n : NoAttr K C "base") : Ev K (tFld K (tVar i) "base") σ H (dC S.base) := by
  obtain ⟨dx, vb, vp, vs, vr, e1, r1, r2, r3, r4⟩ := h.ex
  exact ev_fld e e1 c n (shF_base ..) r1
theorem ev_price (e : σ[i]? = some (some (.ref p))) (h : ShAt K C H p S) (c : Cls K C) (n : NoAttr K C "price") : Ev K (tFld K (tVar i) "price") σ H (.int S.price) := by
  obtain ⟨dx, vb, vp, vs, vr, e1, r1, r2, r3, r4⟩ := h.ex
  exact ev_fld e e1 c n (shF_price ..) r2
theorem ev_steps (e : σ[i]? = some (some (.ref p))) (h : ShAt K C H p S) (c : Cls K C) (n : NoAttr K C "steps") : Ev K (tFld K (tVar i) "steps") σ H (dCs S.steps) := by
  obtain ⟨dx, vb, vp, vs, vr, e1, r1, r2, r3, r4⟩ := h.ex
  exact ev_fld e e1 c n (shF_steps ..) r3
theorem ev_prices (e : σ[i]? = some (some (.ref p))) (h : ShAt K C H p S) (c : Cls K C) (n : NoAttr K C "prices") : Ev K (tFld K (tVar i) "prices") σ H (dIs S.prices) := by
  obtain ⟨dx, vb, vp, vs, vr, e1, r1, r2, r3, r4⟩ := h.ex
  exact ev_fld e e1 c n (shF_prices ..) r4
end
/-! ### promises -/
def spCross (K : Fr) : Sp := spF K fun ds d => ∃ a b : C2, ds = [dC a, dC b] ∧ BdC 3000 a ∧ BdC 3000 b ∧ d = .int (cr a b)
def spAreSteps (K : Fr) : Sp := spF K fun ds d => ∃ l : List C2, ds = [dCs l] ∧ (∀ s ∈ l, BdC 400 s) ∧ d = .bool (areSteps l)
def spExact (K : Fr) : Sp := spF K fun ds d => ∃ (l : List Int) (b : Int), ds = [dIs l, .int b] ∧ l.length ≤ 1000 ∧ b ≠ 0 ∧ Bd 8000 b ∧ d = dO (exactF l b)
/-- a method that asks a sheet of one value, and touches nothing -/
def spSh (K : Fr) (C : Addr) (R : Sh → PD → PD → Prop) : Sp := fun vs H Q _ => ∃ p S v x d, vs = [.ref p, v] ∧ ShAt K C H p S ∧ S.Ok ∧ Rep K H v x ∧ R S x d ∧ ∀ v' H', Same H H' → Rep K H' v' d → Q v' H'
def spCounts (K : Fr) (C : Addr) : Sp := spSh K C fun S x d => ∃ c : C2, x = dC c ∧ BdC 2000 c ∧ d = dO (S.counts c)
def spContains (K : Fr) (C : Addr) : Sp := spSh K C fun S x d => ∃ c : C2, x = dC c ∧ BdC 2000 c ∧ d = .bool (S.counts c).isSome
def spPriceAt (K : Fr) (C : Addr) : Sp := spSh K C fun S x d => ∃ c : C2, x = dC c ∧ BdC 2000 c ∧ d = dOI (S.priceAt c)
def spCellOf (K : Fr) (C : Addr) : Sp := spSh K C fun S x d => ∃ n : List Int, x = dIs n ∧ n.length = S.steps.length ∧ (∀ k ∈ n, Bd 3000 k) ∧ d = dC (S.cellOf n)
def spInit (K : Fr) (C : Addr) : Sp := fun vs H Q _ => ∃ (p dx : Addr) (vb vp vs' vr : V) (S : Sh), vs = [.ref p, vb, vp, vs', vr] ∧ H p = some (.ins C dx []) ∧ S.Ok ∧ Rep K H vb (dC S.base) ∧ Rep K H vp (.int S.price) ∧ Rep K H vs' (dCs S.steps) ∧ Rep K H vr (dIs S.prices) ∧
  ∀ H', ShAt K C H' p S → (∀ b o, H b = some o → b ≠ p → H' b = some o) → Q .non H'
/-- a method of one argument, called -/
theorem ev_meth {K : Fr} {C p : Addr} {m : Str} {R : Sh → PD → PD → Prop} {E : XK} {i : Nat} {ta : TE} {σ : L2.St} {H : Hp} {S : Sh} {x d : PD} (e : σ[i]? = some (some (.ref p))) (h : ShAt K C H p S) (ok : S.Ok)
    (a : Ev K ta σ H x) (r : R S x d) (hm : ¬ m = "prices" ∧ ¬ m = "steps" ∧ ¬ m = "price" ∧ ¬ m = "base") : Ev K (tMeth C m (spSh K C R) [] E (tVar i) (tCons ta tNil)) σ H d := fun H1 s Q k => by
  obtain ⟨dx, vb, vp, vs, vr, e1, r1, r2, r3, r4⟩ := h.ex
  refine ⟨_, e, p, dx, _, rfl, s _ _ e1, shF_no _ _ _ _ hm.1 hm.2.1 hm.2.2.1 hm.2.2.2, ?_⟩
  refine a H1 s _ fun v H2 s2 rv => ?_
  exact ⟨p, S, v, x, d, rfl, h.same (s.trans s2), ok, rv, r, fun v' H' s3 r' => k v' H' (s2.trans s3) r'⟩
/-- c in the sheet that a name holds -/
theorem ev_inSh {K : Fr} {C p : Addr} {R : Sh → PD → PD → Prop} {E : XK} {i : Nat} {ta : TE} {σ : L2.St} {H : Hp} {S : Sh} {x : PD} {b : Bool} (e : σ[i]? = some (some (.ref p))) (h : ShAt K C H p S) (ok : S.Ok)
    (a : Ev K ta σ H x) (r : R S x (.bool b)) : Ev K (tOp (tInOwn C (spSh K C R) E) ta (tVar i)) σ H (.bool b) := fun H1 s Q k => by
  obtain ⟨dx, vb, vp, vs, vr, e1, r1, r2, r3, r4⟩ := h.ex
  refine a H1 s _ fun v H2 s2 rv => ⟨_, e, p, dx, _, rfl, (s.trans s2) _ _ e1, ?_⟩
  exact ⟨p, S, v, x, .bool b, rfl, h.same (s.trans s2), ok, rv, r, fun v' H' s3 r' => ⟨b, r'.bl_inv, by have e' := r'.bl_inv; subst e'; exact k _ H' (s2.trans s3) r'⟩⟩
theorem ev_cross {K : Fr} {E : XK} {ta tb : TE} {σ : L2.St} {H : Hp} {a b : C2} (ha : Ev K ta σ H (dC a)) (hb : Ev K tb σ H (dC b)) (ba : BdC 3000 a) (bb : BdC 3000 b) : Ev K (tCall (spCross K) [] E (tCons ta (tCons tb tNil))) σ H (.int (cr a b)) :=
  ev_call (eva_cons ha (eva_cons hb eva_nil)) ⟨a, b, rfl, ba, bb, rfl⟩
theorem BdC.mono {n m : Nat} {c : C2} (h : BdC n c) (l : n ≤ m) : BdC m c := ⟨h.1.mono l, h.2.mono l⟩
theorem Bd.cr {n m : Nat} {a b : C2} (ha : BdC n a) (hb : BdC m b) : Bd (n + m + 1) (cr a b) := by
  have h := Bd.sub (Bd.mul ha.1 hb.2) (Bd.mul ha.2 hb.1)
  rw [Nat.max_self] at h
  exact h
theorem ev_areSteps {K : Fr} {E : XK} {ta : TE} {σ : L2.St} {H : Hp} {l : List C2} (a : Ev K ta σ H (dCs l)) (h : ∀ s ∈ l, BdC 400 s) : Ev K (tCall (spAreSteps K) [] E (tCons ta tNil)) σ H (.bool (areSteps l)) :=
  ev_call (eva_cons a eva_nil) ⟨l, rfl, h, rfl⟩
theorem ev_exact {K : Fr} {E : XK} {ta tb : TE} {σ : L2.St} {H : Hp} {l : List Int} {b : Int} (a : Ev K ta σ H (dIs l)) (a2 : Ev K tb σ H (.int b)) (hl : l.length ≤ 1000) (b0 : b ≠ 0) (bb : Bd 8000 b) :
    Ev K (tCall (spExact K) [] E (tCons ta (tCons tb tNil))) σ H (dO (exactF l b)) :=
  ev_call (eva_cons a (eva_cons a2 eva_nil)) ⟨l, b, rfl, hl, b0, bb, rfl⟩
theorem sq_pos {a : C2} (h : ¬ a = (0, 0)) : a.1 * a.1 + a.2 * a.2 ≠ 0 := by
  intro e
  have h1 : 0 ≤ a.1 * a.1 := by
    rcases Int.le_total 0 a.1 with q | q
    · exact Int.mul_nonneg q q
    · exact Int.mul_nonneg_of_nonpos_of_nonpos q q
  have h2 : 0 ≤ a.2 * a.2 := by
    rcases Int.le_total 0 a.2 with q | q
    · exact Int.mul_nonneg q q
    · exact Int.mul_nonneg_of_nonpos_of_nonpos q q
  have h3 : a.1 * a.1 = 0 := by omega
  have h4 : a.2 * a.2 = 0 := by omega
  exact h (Prod.ext (by rcases Int.mul_eq_zero.mp h3 with q | q <;> exact q) (by rcases Int.mul_eq_zero.mp h4 with q | q <;> exact q))
/-- sum of products over a zip, in a comprehension -/
theorem evl_zipmap {K : Fr} {i j : Nat} {σ : L2.St} {H : Hp} {ta tb te : TE} {α β : Type} {xs : List α} {ys : List β} (fx : α → PD) (fy : β → PD) (g : α → β → Int) (hij : i ≠ j) (a : Ev K ta σ H (.tuple (xs.map fx))) (b : Ev K tb σ H (.tuple (ys.map fy))) (hl : xs.length ≤ 1000)
    (h : ∀ x ∈ xs, ∀ y ∈ ys, ∀ (v w : V) (H1 : Hp), Same H H1 → Rep K H1 v (fx x) → Rep K H1 w (fy y) → Ev K te (((wipe σ [i, j]).set i (some v)).set j (some w)) H1 (.int (g x y))) :
    EvL K (tLc (RZ.iZipA K (tCons ta (tCons tb tNil))) (gTup K 2 (gCons (gName i) (gCons (gName j) gNil))) tYes te [i, j]) σ H (((xs.zip ys).map fun p => g p.1 p.2).map .int) := by
  refine evl_lcz hij a b (by simp) (by simpa using hl) fun m d f v w H1 hd hf s rv rw' => ?_
  rw [List.getElem?_map] at hd hf
  cases ex : xs[m]? with
  | none => rw [ex] at hd; cases hd
  | some x =>
    cases ey : ys[m]? with
    | none => rw [ey] at hf; cases hf
    | some y =>
      rw [ex] at hd
      rw [ey] at hf
      cases hd
      cases hf
      refine ⟨.int (g x y), ?_, h x (List.mem_of_getElem? ex) y (List.mem_of_getElem? ey) v w H1 s rv rw'⟩
      rw [List.getElem?_map, List.getElem?_map, List.getElem?_zip_eq_some (z := (x, y)) |>.mpr ⟨ex, ey⟩]
      rfl
/-! ### powers of wide ints -/
def CPowW (i j : Int) : Prop := 0 ≤ j ∧ (Builtin.Int.intBits i : Int) * j ≤ 2 ^ 27
theorem op_powW {X : Cx} : OpR X (binaryOp .Pow) (rI CPowW fun i j => .int (i ^ j.toNat)) := opI fun _ _ _ _ _ _ _ hc q => PyProof.Rows.pow_int hc.1 hc.2 q
theorem Bd.sq {n : Nat} {i : Int} (h : Bd n i) (l : n ≤ 100000) : CPowW i 2 := by
  refine ⟨by decide, ?_⟩
  have e := PySem.Flt.log2_lt_of (Nat.succ_pos n) (h.mono (Nat.le_succ n))
  have b : Builtin.Int.intBits i ≤ i.natAbs.log2 + 1 := by
    unfold Builtin.Int.intBits
    split <;> omega
  have l2 : (2 : Int) ^ 27 = 134217728 := by decide
  rw [l2]
  omega
theorem ev_sq {K : Fr} {ta : TE} {σ : L2.St} {H : Hp} {x : Int} {n : Nat} (a : Ev K ta σ H (.int x)) (b : Bd n x) (l : n ≤ 100000) : Ev K (tOp (rI CPowW fun i j => .int (i ^ j.toNat)) ta (tC (.int 2))) σ H (.int (x * x)) := by
  have e : x * x = x ^ (2 : Int).toNat := by
    show x * x = x ^ 2
    rw [Int.pow_succ, Int.pow_succ, Int.pow_zero, Int.one_mul]
  rw [e]
  exact ev_rI (gd := fun i j => .int (i ^ j.toNat)) (fun _ _ _ => .int _) (b.sq l) a ev_int
theorem exactF_bd {l m : List Int} {b : Int} {k : Nat} (h : exactF l b = some m) (hb : ∀ x ∈ l, Bd k x) : m.length = l.length ∧ ∀ x ∈ m, Bd (k + 1) x := by
  unfold exactF at h
  by_cases e : (l.map fun t => (!decide (t.fmod b = 0) || decide (t.fdiv b < 0))).any id = true
  · rw [if_pos e] at h; cases h
  · rw [if_neg e] at h
    cases h
    refine ⟨by simp, fun x hx => ?_⟩
    obtain ⟨t, ht, rfl⟩ := List.mem_map.mp hx
    have b0 := hb t ht
    have q : t.fmod b = 0 ∧ ¬ t.fdiv b < 0 := by
      have q := e
      simp only [List.any_map, List.any_eq_true, not_exists, not_and] at q
      have q2 := q t ht
      simp at q2
      exact ⟨q2.1, by omega⟩
    have e3 : b * t.fdiv b = t := by have := Int.mul_fdiv_add_fmod t b; rw [q.1] at this; omega
    by_cases hb0 : b = 0
    · subst hb0
      rw [Int.fdiv_zero]
      unfold Bd
      exact Nat.pos_of_ne_zero (by simp)
    · refine Bd.mono ?_ (Nat.le_succ k)
      unfold Bd at *
      have : t.natAbs = b.natAbs * (t.fdiv b).natAbs := by rw [← Int.natAbs_mul, e3]
      have h1 : 1 ≤ b.natAbs := by omega
      have h2 : 1 * (t.fdiv b).natAbs ≤ b.natAbs * (t.fdiv b).natAbs := Nat.mul_le_mul_right _ h1
      omega
theorem way_bd {S : Sh} (ok : S.Ok) {c : C2} (bc : BdC 2000 c) : BdC 2001 (S.way c) := ⟨(bc.1.sub ok.b0.1).mono (by decide), (bc.2.sub ok.b0.2).mono (by decide)⟩
theorem counts_bd {S : Sh} (ok : S.Ok) {c : C2} (bc : BdC 2000 c) {n : List Int} (h : S.counts c = some n) : n.length ≤ 2 ∧ ∀ x ∈ n, Bd 2600 x := by
  have bw := way_bd ok bc
  have hb := ok.b2
  unfold Sh.counts at h
  split at h
  · by_cases e : S.way c = (0, 0)
    · rw [if_pos e] at h; cases h; exact ⟨by decide, by simp⟩
    · rw [if_neg e] at h; cases h
  · rename_i f hst
    have bf := hb f (by rw [hst]; simp)
    by_cases e : cr f (S.way c) = 0
    · rw [if_pos e] at h
      obtain ⟨h1, h2⟩ := exactF_bd (k := 2500) h (fun x hx => by
        simp at hx; subst hx
        exact (Bd.add (Bd.mul bf.1 bw.1) (Bd.mul bf.2 bw.2)).mono (by decide))
      exact ⟨by rw [h1]; simp, fun x hx => (h2 x hx).mono (by decide)⟩
    · rw [if_neg e] at h; cases h
  · rename_i f s l hst
    have bf := hb f (by rw [hst]; simp)
    have bs := hb s (by rw [hst]; simp)
    obtain ⟨h1, h2⟩ := exactF_bd (k := 2500) h (fun x hx => by
      simp at hx
      rcases hx with rfl | rfl
      · exact (Bd.cr bw bs).mono (by decide)
      · exact (Bd.cr bf bw).mono (by decide))
    exact ⟨by rw [h1]; simp, fun x hx => (h2 x hx).mono (by decide)⟩
/-! ### the law's own counts -/
abbrev dR (S : Sh) : PD := .tuple [dC S.base, .int S.price, dCs S.steps, dIs S.prices]
def lone (f g : C2) : Option (List Int) :=
  if (!decide (cr g f = 0) || (decide (g.1 * f.1 + g.2 * f.2 < 0) || !decide ((g.1 * f.1 + g.2 * f.2) % (f.1 * f.1 + f.2 * f.2) = 0))) = true then none else some [(g.1 * f.1 + g.2 * f.2) / (f.1 * f.1 + f.2 * f.2)]
def ltwo (size one two : Int) : Option (List Int) :=
  if (decide (one < 0) || (decide (two < 0) || (!decide (one % size = 0) || !decide (two % size = 0)))) = true then none else some [one / size, two / size]
def lcountsF (S : Sh) (c : C2) : Option (List Int) := match S.steps with
  | [] => if S.way c = (0, 0) then some [] else none
  | [f] => lone f (S.way c)
  | f :: s :: _ => if cr f s < 0 then ltwo (-cr f s) (-cr (S.way c) s) (-cr f (S.way c)) else ltwo (cr f s) (cr (S.way c) s) (cr f (S.way c))
theorem exact1 {t b : Int} (hb : 0 < b) : exactF [t] b = if (decide (t < 0) || !decide (t % b = 0)) = true then none else some [t / b] := by
  unfold exactF
  have e1 : t.fmod b = t % b := Int.fmod_eq_emod_of_nonneg t (by omega)
  have e2 : t.fdiv b = t / b := Int.fdiv_eq_ediv_of_nonneg t (by omega)
  have e3 := Int.mul_ediv_add_emod t b
  simp only [List.map, List.any, e1, e2, id, Bool.or_false]
  by_cases h : t % b = 0
  · have h1 : t / b < 0 ↔ t < 0 := by
      rw [h] at e3
      constructor
      · intro q
        have := Int.mul_neg_of_pos_of_neg hb q
        omega
      · intro q
        rcases Int.lt_or_le (t / b) 0 with z | z
        · exact z
        · have := Int.mul_nonneg (Int.le_of_lt hb) z
          omega
    simp [h, h1]
  · simp [h]
theorem exact2 {t u b : Int} (hb : 0 < b) : exactF [t, u] b = if (decide (t < 0) || (decide (u < 0) || (!decide (t % b = 0) || !decide (u % b = 0)))) = true then none else some [t / b, u / b] := by
  have k : ∀ t : Int, (!decide (t.fmod b = 0) || decide (t.fdiv b < 0)) = (decide (t < 0) || !decide (t % b = 0)) := fun t => by
    have e1 : t.fmod b = t % b := Int.fmod_eq_emod_of_nonneg t (by omega)
    have e2 : t.fdiv b = t / b := Int.fdiv_eq_ediv_of_nonneg t (by omega)
    have e3 := Int.mul_ediv_add_emod t b
    rw [e1, e2]
    by_cases h : t % b = 0
    · have h1 : t / b < 0 ↔ t < 0 := by
        rw [h] at e3
        constructor
        · intro q
          have := Int.mul_neg_of_pos_of_neg hb q
          omega
        · intro q
          rcases Int.lt_or_le (t / b) 0 with z | z
          · exact z
          · have := Int.mul_nonneg (Int.le_of_lt hb) z
            omega
      simp [h, h1]
    · simp [h]
  unfold exactF
  simp only [List.map, List.any, id, k, Bool.or_false]
  rw [Int.fdiv_eq_ediv_of_nonneg t (by omega), Int.fdiv_eq_ediv_of_nonneg u (by omega)]
  congr 1
  cases decide (t < 0) <;> cases decide (u < 0) <;> cases decide (t % b = 0) <;> cases decide (u % b = 0) <;> rfl
theorem exactF_neg {l : List Int} {b : Int} : exactF (l.map fun x => -x) (-b) = exactF l b := by
  have e1 : ∀ t : Int, (-t).fmod (-b) = -(t.fmod b) := fun t => by
    rw [Int.neg_fmod_neg]
  have e2 : ∀ t : Int, (-t).fdiv (-b) = t.fdiv b := fun t => Int.neg_fdiv_neg t b
  unfold exactF
  simp only [List.map_map, Function.comp_def, e1, e2, Int.neg_eq_zero]
theorem lcounts_eq {S : Sh} (ok : S.Ok) (c : C2) : lcountsF S c = S.counts c := by
  have st := ok.st
  unfold lcountsF Sh.counts
  split
  · rfl
  · rename_i f hst
    rw [hst] at st
    have f0 : ¬ f = (0, 0) := by
      intro e
      simp [areSteps, e] at st
    have sq := sq_pos f0
    have h1 : 0 ≤ f.1 * f.1 := by
      rcases Int.le_total 0 f.1 with q | q
      · exact Int.mul_nonneg q q
      · exact Int.mul_nonneg_of_nonpos_of_nonpos q q
    have h2 : 0 ≤ f.2 * f.2 := by
      rcases Int.le_total 0 f.2 with q | q
      · exact Int.mul_nonneg q q
      · exact Int.mul_nonneg_of_nonpos_of_nonpos q q
    have e1 : f.1 * (S.way c).1 + f.2 * (S.way c).2 = (S.way c).1 * f.1 + (S.way c).2 * f.2 := by rw [Int.mul_comm f.1, Int.mul_comm f.2]
    have e2 : cr (S.way c) f = - cr f (S.way c) := by
      unfold cr
      rw [Int.mul_comm (S.way c).1, Int.mul_comm (S.way c).2]
      omega
    rw [exact1 (by omega), e1]
    unfold lone
    rw [e2]
    by_cases z : cr f (S.way c) = 0
    · rw [if_pos z]
      simp [z]
    · rw [if_neg z]
      simp [z]
  · rename_i f s l hst
    rw [hst] at st
    have l0 : l = [] := by
      have := areSteps_len st
      cases l with
      | nil => rfl
      | cons a b => simp at this
    subst l0
    have b0 : cr f s ≠ 0 := by
      intro e
      simp [areSteps, e] at st
    by_cases z : cr f s < 0
    · rw [if_pos z]
      have e := exactF_neg (l := [cr (S.way c) s, cr f (S.way c)]) (b := cr f s)
      rw [← e]
      show ltwo _ _ _ = exactF [-cr (S.way c) s, -cr f (S.way c)] (-cr f s)
      rw [exact2 (by omega)]
      rfl
    · rw [if_neg z, exact2 (by omega)]
      rfl
def spExact0 (K : Fr) : Sp := spF K fun ds d => ∃ i : Int, ds = [.int i, .int i] ∧ d = .bool true
def spExact1 (K : Fr) : Sp := spF K fun ds d => ∃ l : List Int, ds = [dIs l, dIs l] ∧ l.length ≤ 1000 ∧ d = .bool true
def spLcounts (K : Fr) : Sp := spF K fun ds d => ∃ (S : Sh) (c : C2), ds = [dR S, dC c] ∧ S.Ok ∧ BdC 2000 c ∧ d = dO (S.counts c)
def spLprice (K : Fr) : Sp := spF K fun ds d => ∃ (S : Sh) (c : C2), ds = [dR S, dC c] ∧ S.Ok ∧ BdC 2000 c ∧ d = dOI (S.priceAt c)
def spSpot (K : Fr) : Sp := spF K fun ds d => ∃ (S : Sh) (n : List Int), ds = [dR S, dIs n, .bool false] ∧ S.Ok ∧ n.length = S.steps.length ∧ (∀ k ∈ n, Bd 300 k) ∧ d = .tuple [dC (S.cellOf n), .int (S.priceOf n)]
theorem sq_pos' {a : C2} (h : ¬ a = (0, 0)) : 0 < a.1 * a.1 + a.2 * a.2 := by
  have h0 := sq_pos h
  have h1 : 0 ≤ a.1 * a.1 := by
    rcases Int.le_total 0 a.1 with q | q
    · exact Int.mul_nonneg q q
    · exact Int.mul_nonneg_of_nonpos_of_nonpos q q
  have h2 : 0 ≤ a.2 * a.2 := by
    rcases Int.le_total 0 a.2 with q | q
    · exact Int.mul_nonneg q q
    · exact Int.mul_nonneg_of_nonpos_of_nonpos q q
  omega
theorem i_zip3 {K : Fr} {σ : L2.St} {H : Hp} {ta : TA} {ds : List PD} {R : It → Hp → Prop} (a : EvA K ta σ H ds)
    (h : ∀ ws H2, Same H H2 → RepAll K H2 ws ds → ∃ a b c xs ys zs, ws = [.ref a, .ref b, .ref c] ∧ SqT K H2 a xs ∧ SqT K H2 b ys ∧ SqT K H2 c zs ∧ R (Itz3 K a b c) H2) : iZip3 K ta σ H R := a H (Same.refl H) _ h
end LB
/-! Draws of numbers, cells, steps. -/
namespace LB
open PySem L2
/-- a comprehension that draws at each turn -/
theorem lc_pen {J : It} {m : Nat} {G0 : Hp → Prop} {Y : Nat → Hp → V → Hp → Prop} {K : Fr} (w : Walk J m G0 Y) {te : TE} {i : Nat} {σ : L2.St} {H1 : Hp} {D : Addr} {Qd : Hp → Prop} {c d : Addr} {n0 k : Nat} (G : PD → Prop)
    (hm : m ≤ 1000) (hD : H1 D = none) (P : PenAt c H1 d n0) (hG : ∀ H, Kd d H1 H → G0 H) (hY : ∀ i H x H', Y i H x H' → H' = H)
    (he : ∀ (v : V) (H : Hp) (n : Nat), PenAt c H d n → n ≤ n0 + m * k → Kd d H1 H → ∀ Q : VK, (∀ y x H', G x → Rep K H' y x → Kd d H H' → PenAt c H' d (n + k) → Q y H') → te ((wipe σ [i]).set i (some v)) H Q)
    (kf : ∀ ws xs H, xs.length = m → (∀ x ∈ xs, G x) → Kd d H1 H → PenAt c H d (n0 + m * k) → H D = some (.lst ws) → RepAll K H ws xs → Qd H) :
    ∃ W : Nat → Nat → Hp → Prop, (∃ m, W 0 m (upd H1 D (.lst []))) ∧ ∀ i' m H, W i' m H →
      (J.stop i' H ∧ Qd H) ∨ (J.go i' H ∧ ∃ Nx : Hp → Prop, (∀ H', Nx H' → ∃ m', m' < m ∧ W (i' + 1) m' H') ∧ ∀ x H', J.yld i' H x H' → gName i x (wipe σ [i]) H' fun σ2 H2 => wipe σ2 [i] = wipe σ [i] ∧ tYes σ2 H2 fun b H3 =>
        if b = true then te σ2 H3 fun y H4 => ∃ acc, H4 D = some (.lst acc) ∧ acc.length < sizeLine ∧ Nx (upd H4 D (.lst (acc ++ [y]))) else Nx H3) := by
  obtain ⟨nd, nc⟩ := P.ned hD
  have kn : ∀ {H : Hp} {o : HO}, Kd d H1 H → Kd d H1 (upd H D o) := fun {H o} s b u e ne => by
    rw [upd_ne (ne_of_none e hD)]; exact s b u e ne
  refine lc_it w (fun j H => Kd d H1 H ∧ PenAt c H d (n0 + j * k) ∧ ∃ acc xs, H D = some (.lst acc) ∧ xs.length = j ∧ (∀ x ∈ xs, G x) ∧ RepAll K H acc xs) ?_ (fun j H _ p => hG H p.1) ?_ ?_
  · exact ⟨kn (Kd.refl H1), by rw [Nat.zero_mul]; exact P.upd nd nc, [], [], upd_same, rfl, by simp, .nil⟩
  · rintro j x H H' hj ⟨s1, Pj, acc, xs, ha, hx, hg, ra⟩ y
    have e := hY j H x H' y
    subst e
    refine ⟨wipe1, ?_⟩
    dsimp only [tYes]
    rw [if_pos rfl]
    refine he x H' _ Pj ?_ s1 _ fun y x H4 gx ry s4 P4 => ?_
    · exact Nat.add_le_add_left (Nat.mul_le_mul_right k (by omega)) n0
    have hD4 : H4 D = some (.lst acc) := s4 _ _ ha nd
    refine ⟨acc, hD4, ?_, kn (s1.trans s4), ?_, acc ++ [y], xs ++ [x], upd_same, by simp [hx], ?_, ?_⟩
    · have := ra.len
      exact small1000 (by omega)
    · have e : n0 + (j + 1) * k = n0 + j * k + k := by rw [Nat.add_mul, Nat.one_mul, Nat.add_assoc]
      rw [e]
      exact P4.upd nd nc
    · intro z hz
      rcases List.mem_append.mp hz with q | q
      · exact hg z q
      · simp at q; subst q; exact gx
    · exact ((ra.kt (Pj.kt s4)).append (.cons ry .nil)).kt (kt_lst hD4)
  · rintro H ⟨s1, Pj, acc, xs, ha, hx, hg, ra⟩
    exact kf acc xs H hx hg s1 Pj ha ra
/-! ### promises of draws -/
def spWide : Sp := fun vs H Q _ => ∃ (c d : Addr) (n : Nat), vs = [.ref d] ∧ PenAt c H d n ∧ n < 900000000 ∧ ∀ (x : Int) (H' : Hp), Bd 210 x → Kd d H H' → PenAt c H' d (n + 12) → Q (.int x) H'
def spNear (K : Fr) : Sp := fun vs H Q _ => ∃ (c d : Addr) (n : Nat) (m : Int), vs = [.ref d, .int m] ∧ PenAt c H d n ∧ n < 900000000 ∧ 0 < m ∧ m < 1000 ∧ ∀ (v : V) (x : C2) (H' : Hp), BdC 20 x → Rep K H' v (dC x) → Kd d H H' → PenAt c H' d (n + 2) → Q v H'
def spSteps (K : Fr) : Sp := fun vs H Q _ => ∃ (c d : Addr) (n j : Nat) (m : Int), vs = [.ref d, .int j, .int m] ∧ j ≤ 2 ∧ PenAt c H d n ∧ n < 800000000 ∧ 0 < m ∧ m < 1000 ∧
  ∀ (v : V) (l : List C2) (H' : Hp), l.length = j → areSteps l = true → (∀ s ∈ l, BdC 210 s) → Rep K H' v (dCs l) → Kd d H H' → PenAt c H' d (n + 60) → Q v H'
def spGreat (K : Fr) : Sp := fun vs H Q _ => ∃ (c d : Addr) (n j : Nat), vs = [.ref d, .int j] ∧ j ≤ 2 ∧ PenAt c H d n ∧ n < 700000000 ∧
  ∀ (v : V) (l : List C2) (H' : Hp), l.length = j → areSteps l = true → (∀ s ∈ l, BdC 210 s) → Rep K H' v (dCs l) → Kd d H H' → PenAt c H' d (n + 100) → Q v H'
def spCount : Sp := fun vs H Q _ => ∃ (c d : Addr) (n : Nat), vs = [.ref d] ∧ PenAt c H d n ∧ n < 800000000 ∧ ∀ (x : Int) (H' : Hp), 0 ≤ x → Bd 210 x → Kd d H H' → PenAt c H' d (n + 13) → Q (.int x) H'
def spOther (K : Fr) : Sp := fun vs H Q _ => ∃ (c d : Addr) (n : Nat) (S : Sh) (x : C2) (v w : V), vs = [.ref d, v, w] ∧ PenAt c H d n ∧ n < 700000000 ∧ S.Ok ∧ Rep K H v (dR S) ∧ Rep K H w (dC x) ∧ BdC 900 x ∧
  ∀ (u : V) (y : C2) (H' : Hp), BdC 1000 y → Rep K H' u (dC y) → Kd d H H' → PenAt c H' d (n + 100) → Q u H'
def spMade (K : Fr) (C : Addr) : Sp := fun vs H Q _ => ∃ (S : Sh) (v : V), vs = [v] ∧ S.Ok ∧ Rep K H v (dR S) ∧ ∀ (p : Addr) (H' : Hp), ShAt K C H' p S → Same H H' → Q (.ref p) H'
def spAsked (K : Fr) (C : Addr) : Sp := fun vs H Q _ => ∃ (S : Sh) (x : C2) (p : Addr) (v w : V), vs = [.ref p, v, w] ∧ S.Ok ∧ ShAt K C H p S ∧ Rep K H v (dR S) ∧ Rep K H w (dC x) ∧ BdC 1000 x ∧ ∀ (H' : Hp), Same H H' → Q (.bl true) H'
def spLaw (K : Fr) : Sp := fun vs H Q _ => ∃ (a : Addr) (ns : List Int), vs = [.ref a] ∧ SqL K H a (ns.map V.int) ∧ ns.length ≤ 63 ∧ ∀ H', Q (.bl true) H'
section
variable {K : Fr} {E : XK} {σ : L2.St} {H : Hp} {c d : Addr} {n i : Nat} {Q : VK}
theorem c_wide (e : σ[i]? = some (some (.ref d))) (P : PenAt c H d n) (hn : n < 900000000) (k : ∀ (x : Int) (H' : Hp), Bd 210 x → Kd d H H' → PenAt c H' d (n + 12) → Q (.int x) H') : tCall spWide [] E (tCons (tVar i) tNil) σ H Q :=
  ⟨_, e, c, d, n, rfl, P, hn, k⟩
theorem c_count (e : σ[i]? = some (some (.ref d))) (P : PenAt c H d n) (hn : n < 800000000) (k : ∀ (x : Int) (H' : Hp), 0 ≤ x → Bd 210 x → Kd d H H' → PenAt c H' d (n + 13) → Q (.int x) H') : tCall spCount [] E (tCons (tVar i) tNil) σ H Q :=
  ⟨_, e, c, d, n, rfl, P, hn, k⟩
theorem c_near {te : TE} {m : Int} (e : σ[i]? = some (some (.ref d))) (P : PenAt c H d n) (hn : n < 900000000) (m0 : 0 < m) (m1 : m < 1000) (a : Ev K te σ H (.int m))
    (k : ∀ (v : V) (x : C2) (H' : Hp), BdC 20 x → Rep K H' v (dC x) → Kd d H H' → PenAt c H' d (n + 2) → Q v H') : tCall (spNear K) [] E (tCons (tVar i) (tCons te tNil)) σ H Q :=
  ⟨_, e, a H (Same.refl H) _ fun v H1 s rv => by
    cases rv.int_inv
    exact ⟨c, d, n, m, rfl, P.same s, hn, m0, m1, fun v x H' h1 h2 h3 h4 => k v x H' h1 h2 ((kd_same s).trans h3) h4⟩⟩
end
/-- numbers by their six digits -/
theorem six_step {x r : Int} {j : Nat} (h0 : 0 ≤ x) (h1 : x < 10 ^ (6 * j)) (r0 : 0 ≤ r) (r1 : r < 1000000) : 0 ≤ x * 1000000 + r ∧ x * 1000000 + r < 10 ^ (6 * (j + 1)) := by
  have e : (10 : Int) ^ (6 * (j + 1)) = 10 ^ (6 * j) * 1000000 := by
    rw [Nat.mul_add, Int.pow_add]
    rfl
  rw [e]
  omega
theorem six_bd {x : Int} {j : Nat} (h0 : 0 ≤ x) (h1 : x < 10 ^ (6 * j)) (hj : j ≤ 10) : Bd 210 x := by
  have e : (10 : Int) ^ (6 * j) ≤ 10 ^ 60 := by
    have q : (10 : Nat) ^ (6 * j) ≤ 10 ^ 60 := Nat.pow_le_pow_right (by decide) (by omega)
    exact_mod_cast q
  have e2 : (10 : Int) ^ 60 < 2 ^ 210 := by decide
  refine Bd.of_range (lo := 0) (hi := 10 ^ 60) h0 (by omega) (by decide) (Int.le_of_lt e2)
/-- [e for x in l], l a list that a name holds -/
theorem evl_lcl {K : Fr} {σ : L2.St} {H : Hp} {te : TE} {i0 i : Nat} {l : Addr} {vs : List V} {ds es : List PD} (e : σ[i0]? = some (some (.ref l))) (hl : H l = some (.lst vs)) (rs : RepAll K H vs ds) (hn : es.length = ds.length) (h1 : ds.length ≤ 1000)
    (h : ∀ (j : Nat) (d : PD) (v : V) (H1 : Hp), ds[j]? = some d → Same H H1 → Rep K H1 v d → ∃ e, es[j]? = some e ∧ Ev K te ((wipe σ [i]).set i (some v)) H1 e) : EvL K (tLc (iList K (tVar i0)) (gName i) tYes te [i]) σ H es := fun H1 s Q k => by
  refine ⟨_, e, l, rfl, ⟨vs, SqL.of (s _ _ hl)⟩, fun D hD => ?_⟩
  refine lc_pure (K := K) (walk_list (K := K) (a := l) (xs := vs)) es (by rw [hn, rs.len]) (by rw [rs.len]; exact h1) hD (fun H2 s2 => SqL.of (s2 _ _ (s _ _ hl))) (fun i x H H' _ y => by rw [y.1]; exact Same.refl H) ?_ gName_mono (fun ws H3 s3 e3 r3 => k D ws H3 s3 hD e3 r3)
  rintro j x H3 H4 hj s3 s4 ⟨rfl, hx⟩
  obtain ⟨d, ed, rd⟩ := rs.getV hx
  obtain ⟨e, ee, ev⟩ := h j d x H4 ed (s.trans s3) ((rd.same s).same s3)
  exact ⟨wipe1, rfl, e, ee, ev⟩
/-- an item of a list that a name holds -/
theorem ev_ixL {K : Fr} {σ : L2.St} {H : Hp} {i0 : Nat} {i : Int} {l : Addr} {vs : List V} {ds : List PD} {d : PD} (e : σ[i0]? = some (some (.ref l))) (hl : H l = some (.lst vs)) (rs : RepAll K H vs ds) (he : atI ds i = some d) : Ev K (tOp (rIxL K) (tVar i0) (tC (.int i))) σ H d := fun H1 s Q k => by
  obtain ⟨z, hz, rz⟩ := rs.at he
  exact ⟨_, e, l, vs, i, z, rfl, rfl, SqL.of (s _ _ hl), hz, k z H1 (Same.refl H1) (rz.same s)⟩
theorem cell_of_list {cells : List C2} {j : Nat} {d : PD} (h : (cells.map dC)[j]? = some d) : ∃ q, cells[j]? = some q ∧ d = dC q := by
  rw [List.getElem?_map] at h
  cases e : cells[j]? with
  | none => rw [e] at h; cases h
  | some q => rw [e] at h; exact ⟨q, rfl, (Option.some.inj h).symm⟩
theorem cells_of {xs : List PD} {P : C2 → Prop} : (∀ x ∈ xs, ∃ q, x = dC q ∧ P q) → ∃ cells : List C2, xs = cells.map dC ∧ ∀ q ∈ cells, P q := by
  induction xs with
  | nil => exact fun _ => ⟨[], rfl, by simp⟩
  | cons x xs ih =>
    intro h
    obtain ⟨q, e, hq⟩ := h x (by simp)
    obtain ⟨cells, e2, h2⟩ := ih fun y hy => h y (by simp [hy])
    exact ⟨q :: cells, by rw [e, e2]; rfl, by simp; exact ⟨hq, fun a b hab => h2 (a, b) hab⟩⟩
def fixC (z : C2) (q : C2) : C2 := if q = (0, 0) then z else q
theorem fixC_ne {z q : C2} (hz : ¬ z = (0, 0)) : ¬ fixC z q = (0, 0) := by
  unfold fixC
  by_cases h : q = (0, 0)
  · rw [if_pos h]; exact hz
  · rw [if_neg h]; exact h
theorem fixC_bd {z q : C2} {n : Nat} (hz : BdC n z) (hq : BdC n q) : BdC n (fixC z q) := by
  unfold fixC
  by_cases h : q = (0, 0)
  · rw [if_pos h]; exact hz
  · rw [if_neg h]; exact hq
def quarter (a : C2) : C2 := (-a.2, a.1)
theorem quarter_ok {a : C2} (h : ¬ a = (0, 0)) : areSteps [a, quarter a] = true := by
  have e : cr a (quarter a) = a.1 * a.1 + a.2 * a.2 := by
    show a.1 * a.1 - a.2 * (-a.2) = _
    rw [Int.mul_neg]
    omega
  have h2 := sq_pos h
  have h3 : ¬ quarter a = (0, 0) := by
    intro z
    have z1 := congrArg Prod.fst z
    have z2 := congrArg Prod.snd z
    simp [quarter] at z1 z2
    exact h (Prod.ext z2 z1)
  rw [← e] at h2
  simp [areSteps, h, h2, h3]
theorem s_setL {K : Fr} {σ : L2.St} {H : Hp} {ta : TE} {ds : List PD} {i : Nat} {u : TS} {D : Ends} (a : EvL K ta σ H ds) (h : ∀ p vs H1, Same H H1 → H p = none → H1 p = some (.lst vs) → RepAll K H1 vs ds → u D (σ.set i (some (.ref p))) H1) : tSeq (tAsg ta (gName i)) u D σ H := a H (Same.refl H) _ h
def rListOf (K : Fr) : List V → Hp → VK → Prop := fun xs H Q => ∃ p ys, xs = [.ref p] ∧ (SqL K H p ys ∨ SqT K H p ys) ∧ ∀ l, H l = none → Q (.ref l) (upd H l (.lst ys))
theorem evl_listT {K : Fr} {σ : L2.St} {H : Hp} {ta : TE} {ds : List PD} (a : Ev K ta σ H (.tuple ds)) : EvL K (tCB (rListOf K) (tCons ta tNil)) σ H ds := fun H1 s Q k =>
  a H1 s _ fun v H2 s2 rv => by
    obtain ⟨p, xs, rfl, hp, r⟩ := rv.tup_inv
    refine ⟨p, xs, rfl, .inr hp, fun l hl => ?_⟩
    exact k l xs _ (s2.trans (same_upd hl)) (s2.free hl) upd_same (r.same (same_upd hl))
theorem eqv_nil {l : List C2} : PyData.eqv (dCs l) (.tuple []) = l.isEmpty := by
  cases l <;> rfl
/-! two promises of one def -/
section
variable {P : Program} {w : World} {K : Fr} {mg : Str → Option Value} {base : Heap} {CX : CXT} {k j : Nat} {f : Addr} {fd : FuncData} {ps : List Str} {sp sp2 : Sp}
theorem FnOk.or (F : FnOk P w K mg base CX k f fd ps sp) (F2 : FnOk P w K mg base CX k f fd ps sp2) : FnOk P w K mg base CX k f fd ps (fun vs H Q E => sp vs H Q E ∨ sp2 vs H Q E) :=
  ⟨fun vs H Q E h => h.elim (F.len vs H Q E) (F2.len vs H Q E), fun A outer s H args us vs Q E hr e0 hb r h => h.elim (F.run A outer s H args us vs Q E hr e0 hb r) (F2.run A outer s H args us vs Q E hr e0 hb r)⟩
end
def spExactB (K : Fr) : Sp := fun vs H Q E => spExact0 K vs H Q E ∨ spExact1 K vs H Q E
theorem ev_exI {K : Fr} {E : XK} {ta tb : TE} {σ : L2.St} {H : Hp} {i : Int} (a : Ev K ta σ H (.int i)) (b : Ev K tb σ H (.int i)) : Ev K (tCall (spExactB K) [] E (tCons ta (tCons tb tNil))) σ H (.bool true) := fun H1 s Q k =>
  a H1 s _ fun v H2 s2 rv => b H2 (s.trans s2) _ fun u H3 s3 ru => .inl ⟨[.int i, .int i], .bool true, .cons (rv.same s3) (.cons ru .nil), ⟨i, rfl, rfl⟩, fun v' H' s4 r' => k v' H' ((s2.trans s3).trans s4) r'⟩
theorem ev_exL {K : Fr} {E : XK} {ta tb : TE} {σ : L2.St} {H : Hp} {l : List Int} (hl : l.length ≤ 1000) (a : Ev K ta σ H (dIs l)) (b : Ev K tb σ H (dIs l)) : Ev K (tCall (spExactB K) [] E (tCons ta (tCons tb tNil))) σ H (.bool true) := fun H1 s Q k =>
  a H1 s _ fun v H2 s2 rv => b H2 (s.trans s2) _ fun u H3 s3 ru => .inr ⟨[dIs l, dIs l], .bool true, .cons (rv.same s3) (.cons ru .nil), ⟨l, rfl, hl, rfl⟩, fun v' H' s4 r' => k v' H' ((s2.trans s3).trans s4) r'⟩
theorem ev_exC {K : Fr} {E : XK} {ta tb : TE} {σ : L2.St} {H : Hp} {c : C2} (a : Ev K ta σ H (dC c)) (b : Ev K tb σ H (dC c)) : Ev K (tCall (spExactB K) [] E (tCons ta (tCons tb tNil))) σ H (.bool true) := ev_exL (l := [c.1, c.2]) (Nat.le_of_ble_eq_true rfl) a b
/-! ### counts and cells fit -/
theorem exact_mul {a b s : Int} (hs : s ≠ 0) (ha : 0 ≤ a) (hb : 0 ≤ b) : exactF [a * s, b * s] s = some [a, b] := by
  unfold exactF
  simp [Int.mul_fmod_left, Int.mul_fdiv_cancel _ hs]
  omega
theorem exact_mul1 {a s : Int} (hs : s ≠ 0) (ha : 0 ≤ a) : exactF [a * s] s = some [a] := by
  unfold exactF
  simp [Int.mul_fmod_left, Int.mul_fdiv_cancel _ hs]
  omega
theorem counts_cellOf {S : Sh} (ok : S.Ok) {n : List Int} (ln : n.length = S.steps.length) (h0 : ∀ k ∈ n, 0 ≤ k) : S.counts (S.cellOf n) = some n := by
  have st := ok.st
  unfold Sh.counts
  split
  · rename_i hst
    rw [hst] at ln
    have e : n = [] := List.length_eq_zero_iff.mp ln
    subst e
    rw [if_pos]
    simp [Sh.way, Sh.cellOf, hst]
  · rename_i f hst
    rw [hst] at ln st
    obtain ⟨a, rfl⟩ := List.length_eq_one_iff.mp ln
    have ha := h0 a (by simp)
    have f0 : ¬ f = (0, 0) := by
      intro e
      simp [areSteps, e] at st
    have ew : S.way (S.cellOf [a]) = (a * f.1, a * f.2) := by
      simp [Sh.way, Sh.cellOf, hst]
      omega
    rw [ew]
    have e1 : cr f (a * f.1, a * f.2) = 0 := by
      unfold cr
      simp only
      grind
    have e2 : f.1 * (a * f.1) + f.2 * (a * f.2) = a * (f.1 * f.1 + f.2 * f.2) := by grind
    rw [if_pos e1]
    simp only
    rw [e2]
    exact exact_mul1 (sq_pos f0) ha
  · rename_i f s l hst
    rw [hst] at ln st
    have l0 : l = [] := by
      have := areSteps_len st
      cases l with
      | nil => rfl
      | cons a b => simp at this
    subst l0
    obtain ⟨a, b, rfl⟩ : ∃ a b, n = [a, b] := by
      match n, ln with
      | [a, b], _ => exact ⟨a, b, rfl⟩
    have ha := h0 a (by simp)
    have hb := h0 b (by simp)
    have b0 : cr f s ≠ 0 := by
      intro e
      simp [areSteps, e] at st
    have ew : S.way (S.cellOf [a, b]) = (a * f.1 + b * s.1, a * f.2 + b * s.2) := by
      simp [Sh.way, Sh.cellOf, hst]
      omega
    rw [ew]
    have e1 : cr (a * f.1 + b * s.1, a * f.2 + b * s.2) s = a * cr f s := by
      unfold cr
      simp only
      grind
    have e2 : cr f (a * f.1 + b * s.1, a * f.2 + b * s.2) = b * cr f s := by
      unfold cr
      simp only
      grind
    rw [e1, e2]
    exact exact_mul b0 ha hb
theorem exact_inv {l m : List Int} {b : Int} (h : exactF l b = some m) : l = m.map (fun k => b * k) := by
  unfold exactF at h
  by_cases e : (l.map fun t => (!decide (t.fmod b = 0) || decide (t.fdiv b < 0))).any id = true
  · rw [if_pos e] at h; cases h
  · rw [if_neg e] at h
    cases h
    have q : ∀ t ∈ l, b * t.fdiv b = t := by
      intro t ht
      simp only [List.any_map, List.any_eq_true, not_exists, not_and] at e
      have q2 := e t ht
      simp at q2
      have := Int.mul_fdiv_add_fmod t b
      omega
    rw [List.map_map]
    have e2 : l.map ((fun k => b * k) ∘ fun t => t.fdiv b) = l.map id := List.map_congr_left (fun t ht => q t ht)
    rw [e2, List.map_id]
theorem cellOf_counts {S : Sh} (ok : S.Ok) {c : C2} {n : List Int} (h : S.counts c = some n) : S.cellOf n = c ∧ n.length = S.steps.length := by
  have st := ok.st
  have hw : ∀ x y : Int, S.way c = (x, y) → c = (S.base.1 + x, S.base.2 + y) := by
    intro x y e
    have e1 := congrArg Prod.fst e
    have e2 := congrArg Prod.snd e
    simp [Sh.way] at e1 e2
    exact Prod.ext (by simp; omega) (by simp; omega)
  unfold Sh.counts at h
  split at h
  · rename_i hst
    by_cases e : S.way c = (0, 0)
    · rw [if_pos e] at h
      cases h
      rw [hw 0 0 e]
      simp [Sh.cellOf, hst]
    · rw [if_neg e] at h; cases h
  · rename_i f hst
    rw [hst] at st
    have f0 : ¬ f = (0, 0) := by
      intro e
      simp [areSteps, e] at st
    have z0 := sq_pos f0
    by_cases e : cr f (S.way c) = 0
    · rw [if_pos e] at h
      have q := exact_inv h
      match n, q with
      | [k], q =>
        simp at q
        generalize hW : S.way c = W at *
        obtain ⟨x, y⟩ := W
        obtain ⟨f1, f2⟩ := f
        simp [cr] at e q z0
        have e1 : (f1 * f1 + f2 * f2) * x = (f1 * f1 + f2 * f2) * (k * f1) := by grind
        have e2 : (f1 * f1 + f2 * f2) * y = (f1 * f1 + f2 * f2) * (k * f2) := by grind
        have e3 := Int.eq_of_mul_eq_mul_left z0 e1
        have e4 := Int.eq_of_mul_eq_mul_left z0 e2
        rw [hw x y rfl]
        simp [Sh.cellOf, hst, e3, e4]
      | [], q => simp at q
      | a :: b :: r, q => simp at q
    · rw [if_neg e] at h; cases h
  · rename_i f s l hst
    rw [hst] at st
    have l0 : l = [] := by
      have := areSteps_len st
      cases l with
      | nil => rfl
      | cons a b => simp at this
    subst l0
    have b0 : cr f s ≠ 0 := by
      intro e
      simp [areSteps, e] at st
    have q := exact_inv h
    match n, q with
    | [a, b], q =>
      simp at q
      obtain ⟨q1, q2⟩ := q
      generalize hW : S.way c = W at *
      obtain ⟨x, y⟩ := W
      obtain ⟨f1, f2⟩ := f
      obtain ⟨s1, s2⟩ := s
      simp [cr] at q1 q2 b0
      have e1 : (f1 * s2 - f2 * s1) * x = (f1 * s2 - f2 * s1) * (a * f1 + b * s1) := by grind
      have e2 : (f1 * s2 - f2 * s1) * y = (f1 * s2 - f2 * s1) * (a * f2 + b * s2) := by grind
      have e3 := Int.eq_of_mul_eq_mul_left b0 e1
      have e4 := Int.eq_of_mul_eq_mul_left b0 e2
      rw [hw x y rfl]
      simp [Sh.cellOf, hst, e3, e4]
    | [], q => simp at q
    | [a], q => simp at q
    | a :: b :: d :: r, q => simp at q
theorem ints_of {xs : List PD} {P : Int → Prop} : (∀ x ∈ xs, ∃ q, x = .int q ∧ P q) → ∃ l : List Int, xs = l.map .int ∧ ∀ q ∈ l, P q := by
  induction xs with
  | nil => exact fun _ => ⟨[], rfl, by simp⟩
  | cons x xs ih =>
    intro h
    obtain ⟨q, e, hq⟩ := h x (by simp)
    obtain ⟨l, e2, h2⟩ := ih fun y hy => h y (by simp [hy])
    exact ⟨q :: l, by rw [e, e2]; rfl, by simp; exact ⟨hq, h2⟩⟩
theorem cellOf_bd {S : Sh} (ok : S.Ok) {n : List Int} (ln : n.length = S.steps.length) (bn : ∀ k ∈ n, Bd 300 k) : BdC 900 (S.cellOf n) := by
  have ll := areSteps_len ok.st
  have b2 := ok.b2
  have b0 := ok.b0
  generalize hs : S.steps = st at *
  match st, n, ln, ll, bn, b2 with
  | [], [], _, _, _, _ =>
    simp [Sh.cellOf, hs]
    exact b0.mono (by decide)
  | [f], [a], _, _, bn, b2 =>
    have ba := bn a (by simp)
    have bf := b2 f (by simp)
    simp [Sh.cellOf, hs]
    exact ⟨(b0.1.add (ba.mul bf.1)).mono (by decide), (b0.2.add (ba.mul bf.2)).mono (by decide)⟩
  | [f, g], [a, b], _, _, bn, b2 =>
    have ba := bn a (by simp)
    have bb := bn b (by simp)
    have bf := b2 f (by simp)
    have bg := b2 g (by simp)
    simp [Sh.cellOf, hs]
    exact ⟨(b0.1.add ((ba.mul bf.1).add (bb.mul bg.1))).mono (by decide), (b0.2.add ((ba.mul bf.2).add (bb.mul bg.2))).mono (by decide)⟩
  | a :: b :: c :: r, _, _, ll, _, _ => simp at ll
/-! for k in range(n) -/
theorem s_range_end {K : Fr} {σ : L2.St} {H : Hp} {te : TE} {g : TG} {tb : TS} {D : Ends} {m : Nat} (a : Ev K te σ H (.int (m : Int))) (hm : m < 1000000) (Pv : Nat → L2.St → Hp → Prop) (h0 : ∀ H1, Same H H1 → Pv 0 σ H1)
    (hs : ∀ i σ H, i < m → Pv i σ H → g (.int (i : Int)) σ H fun σ2 H2 => tb { D with nx := Pv (i + 1), ct := Pv (i + 1), bk := D.nx } σ2 H2) (hd : ∀ σ H, Pv m σ H → D.nx σ H) : tFor (iRng1 (tCons te tNil)) g tb D σ H :=
  a H (Same.refl H) _ fun v H1 s rv => by
    cases rv.int_inv
    refine ⟨(m : Int), rfl, by omega, by omega, ?_⟩
    have e : (m : Int).toNat = m := by omega
    rw [e]
    refine for_range (n := m) Pv (h0 H1 s) (fun i σ H hi p => ?_) hd
    rw [Int.zero_add]
    exact hs i σ H hi p
theorem s_range {K : Fr} {σ : L2.St} {H : Hp} {te : TE} {g : TG} {tb u : TS} {D : Ends} {m : Nat} (a : Ev K te σ H (.int (m : Int))) (hm : m < 1000000) (Pv : Nat → L2.St → Hp → Prop) (h0 : ∀ H1, Same H H1 → Pv 0 σ H1)
    (hs : ∀ i σ H, i < m → Pv i σ H → g (.int (i : Int)) σ H fun σ2 H2 => tb { D with nx := Pv (i + 1), ct := Pv (i + 1), bk := u D } σ2 H2) (hd : ∀ σ H, Pv m σ H → u D σ H) : tSeq (tFor (iRng1 (tCons te tNil)) g tb) u D σ H :=
  s_range_end (D := { D with nx := u D }) a hm Pv h0 hs hd
end LB
namespace LW
open PySem L2 LB
local macro_rules | `(tactic| walk_at "hp") => `(tactic| first
  | (with_reducible assumption) | (with_reducible exact Rep.int _) | (with_reducible exact Rep.bl _) | (with_reducible exact Rep.non) | (with_reducible exact Rep.str _)
  | ((with_reducible refine' Rep.same ?kk ?hh); (case kk => with_reducible assumption); (case hh => walk_at "hp"))
  | ((with_reducible refine' Rep.kt ?kk ?hh); (case kk => with_reducible assumption); (case hh => walk_at "hp")))
local macro_rules | `(tactic| walk_at "bd") => `(tactic| first
  | (with_reducible assumption)
  | exact bd_lit (n := 64) (by decide)
  | (with_reducible refine' Bd.mul ?_ ?_) <;> walk_at "bd"
  | (with_reducible refine' Bd.add ?_ ?_) <;> walk_at "bd"
  | (with_reducible refine' Bd.sub ?_ ?_) <;> walk_at "bd"
  | (with_reducible refine' Bd.neg ?_) <;> walk_at "bd")
local macro_rules | `(tactic| walk_at "ev") => `(tactic| first
  | (with_reducible exact ev_int) | (with_reducible exact ev_bl) | (with_reducible exact ev_non) | (with_reducible exact ev_str)
  | ((with_reducible refine' ev_var ?e ?hh); (case e => rfl); (case hh => walk_at "hp"))
  | (with_reducible refine' ev_add ?_ ?_) <;> walk_at "ev"
  | (with_reducible refine' ev_sub ?_ ?_) <;> walk_at "ev"
  | ((with_reducible refine' ev_mul ?m1 ?m2 ?m3); (case m1 => walk_at "ev"); (case m2 => walk_at "ev"); (case m3 => (refine' Bd.mulW ?b1 ?b2 ?b3; (case b1 => walk_at "bd"); (case b2 => walk_at "bd"); (case b3 => decide))))
  | ((with_reducible refine' ev_ix ?m1 ?m2); (case m1 => walk_at "ev"); (case m2 => rfl))
  | ((with_reducible refine' ev_tup ?m1 ?m2); (case m1 => walk_at "eva"); (case m2 => exact Nat.le_of_ble_eq_true rfl))
  | (with_reducible refine' ev_neg ?_) <;> walk_at "ev"
  | (with_reducible refine' ev_lt ?_ ?_) <;> walk_at "ev"
  | (with_reducible refine' ev_le ?_ ?_) <;> walk_at "ev"
  | (with_reducible refine' ev_gt ?_ ?_) <;> walk_at "ev"
  | (with_reducible refine' ev_ge ?_ ?_) <;> walk_at "ev"
  | (with_reducible refine' ev_eqI ?_ ?_) <;> walk_at "ev"
  | (with_reducible refine' ev_neI ?_ ?_) <;> walk_at "ev"
  | (with_reducible refine' ev_intI ?_) <;> walk_at "eva"
  | (with_reducible refine' ev_lenT ?_) <;> walk_at "eva"
  | walk_at "evx")
local macro_rules | `(tactic| walk_at "eva") => `(tactic| first
  | (with_reducible exact eva_nil)
  | ((with_reducible refine' eva_cons ?v1 ?v2); (case v1 => walk_at "ev"); (case v2 => walk_at "eva")))
local macro_rules | `(tactic| walk_at "evx") => `(tactic| first
  | ((with_reducible refine' ev_pget ?a ?b ?c); (case a => rfl); (case b => with_reducible assumption); (case c => first | (with_reducible exact p_at _) | (with_reducible exact p_dg _) | (with_reducible exact p_ct _) | (with_reducible exact p_fo _))))
local macro_rules | `(tactic| walk_at "sh") => `(tactic| first
  | (with_reducible assumption)
  | ((with_reducible refine' ShAt.same ?hh ?kk); (case kk => with_reducible assumption); (case hh => walk_at "sh"))
  | ((with_reducible refine' ShAt.kt ?hh ?kk); (case kk => with_reducible assumption); (case hh => walk_at "sh")))
local macro_rules | `(tactic| walk_at "evx") => `(tactic| first
  | ((with_reducible refine' ev_base ?e ?h ?c ?n); (case e => rfl); (case h => walk_at "sh"); (case c => with_reducible assumption); (case n => with_reducible assumption))
  | ((with_reducible refine' ev_price ?e ?h ?c ?n); (case e => rfl); (case h => walk_at "sh"); (case c => with_reducible assumption); (case n => with_reducible assumption))
  | ((with_reducible refine' ev_steps ?e ?h ?c ?n); (case e => rfl); (case h => walk_at "sh"); (case c => with_reducible assumption); (case n => with_reducible assumption))
  | ((with_reducible refine' ev_prices ?e ?h ?c ?n); (case e => rfl); (case h => walk_at "sh"); (case c => with_reducible assumption); (case n => with_reducible assumption)))
def top (i : Nat) : Stmt := PySem.Challenge.pw_alljourneys_k02_cells_and_counts_of_shee.main.body.getD i (.Pass ⟨0, 0, 0, 0⟩)
abbrev s_pcross : Stmt := top 5
abbrev N_pcross : List Str := ["one", "other"]
theorem sc_pcross : FnScope N_pcross ["one", "other"] (defScope s_pcross) := ⟨rfl, rfl, rfl, by decide +kernel, rfl, by decide +kernel, by decide +kernel⟩
abbrev s_are_steps : Stmt := top 6
abbrev N_are_steps : List Str := ["steps"]
theorem sc_are_steps : FnScope N_are_steps ["steps"] (defScope s_are_steps) := ⟨rfl, rfl, rfl, by decide +kernel, rfl, by decide +kernel, by decide +kernel⟩
abbrev s_pexact : Stmt := top 7
abbrev N_pexact : List Str := ["tops", "bottom", "top"]
theorem sc_pexact : FnScope N_pexact ["tops", "bottom"] (defScope s_pexact) := ⟨rfl, rfl, rfl, by decide +kernel, rfl, by decide +kernel, by decide +kernel⟩
abbrev s_init : Stmt := inClass (top 8) 0
abbrev N_init : List Str := ["self", "base", "price", "steps", "prices"]
theorem sc_init : FnScope N_init ["self", "base", "price", "steps", "prices"] (defScope s_init) := ⟨rfl, rfl, rfl, by decide +kernel, rfl, by decide +kernel, by decide +kernel⟩
abbrev s_contains : Stmt := inClass (top 8) 2
abbrev N_contains : List Str := ["self", "cell"]
theorem sc_contains : FnScope N_contains ["self", "cell"] (defScope s_contains) := ⟨rfl, rfl, rfl, by decide +kernel, rfl, by decide +kernel, by decide +kernel⟩
abbrev s_counts : Stmt := inClass (top 8) 3
abbrev N_counts : List Str := ["self", "cell", "way", "first", "second"]
theorem sc_counts : FnScope N_counts ["self", "cell"] (defScope s_counts) := ⟨rfl, rfl, rfl, by decide +kernel, rfl, by decide +kernel, by decide +kernel⟩
abbrev s_price_at : Stmt := inClass (top 8) 4
abbrev N_price_at : List Str := ["self", "cell", "counts", "count", "price"]
theorem sc_price_at : FnScope N_price_at ["self", "cell"] (defScope s_price_at) := ⟨rfl, rfl, rfl, by decide +kernel, rfl, by decide +kernel, by decide +kernel⟩
abbrev s_cell_of : Stmt := inClass (top 8) 5
abbrev N_cell_of : List Str := ["self", "counts", "x", "y", "count", "step"]
theorem sc_cell_of : FnScope N_cell_of ["self", "counts"] (defScope s_cell_of) := ⟨rfl, rfl, rfl, by decide +kernel, rfl, by decide +kernel, by decide +kernel⟩
abbrev s_pen : Stmt := top 10
abbrev N_pen : List Str := ["_law_script", "_law_fold", "_law_cell"]
theorem sc_pen : FnScope N_pen ["_law_script"] (defScope s_pen) := ⟨rfl, rfl, rfl, by decide +kernel, rfl, by decide +kernel, by decide +kernel⟩
abbrev s_draw : Stmt := top 11
abbrev N_draw : List Str := ["_law_pen_here", "_law_many", "_law_cell", "_law_digit", "_law_mixed"]
theorem sc_draw : FnScope N_draw ["_law_pen_here", "_law_many"] (defScope s_draw) := ⟨rfl, rfl, rfl, by decide +kernel, rfl, by decide +kernel, by decide +kernel⟩
abbrev s_pick : Stmt := top 12
abbrev N_pick : List Str := ["_law_pen_here", "_law_some"]
theorem sc_pick : FnScope N_pick ["_law_pen_here", "_law_some"] (defScope s_pick) := ⟨rfl, rfl, rfl, by decide +kernel, rfl, by decide +kernel, by decide +kernel⟩
abbrev s_lcross : Stmt := top 13
abbrev N_lcross : List Str := ["_law_one", "_law_two"]
theorem sc_lcross : FnScope N_lcross ["_law_one", "_law_two"] (defScope s_lcross) := ⟨rfl, rfl, rfl, by decide +kernel, rfl, by decide +kernel, by decide +kernel⟩
abbrev s_lcounts : Stmt := top 14
abbrev N_lcounts : List Str := ["_law_sheet", "_law_cell", "_law_base", "_law_steps_here", "_law_gap", "_law_size", "_law_along", "_law_one", "_law_two"]
theorem sc_lcounts : FnScope N_lcounts ["_law_sheet", "_law_cell"] (defScope s_lcounts) := ⟨rfl, rfl, rfl, by decide +kernel, rfl, by decide +kernel, by decide +kernel⟩
abbrev s_lprice_at : Stmt := top 15
abbrev N_lprice_at : List Str := ["_law_sheet", "_law_cell", "_law_counts_here", "_law_many", "_law_price"]
theorem sc_lprice_at : FnScope N_lprice_at ["_law_sheet", "_law_cell"] (defScope s_lprice_at) := ⟨rfl, rfl, rfl, by decide +kernel, rfl, by decide +kernel, by decide +kernel⟩
abbrev s_spot_of : Stmt := top 16
abbrev N_spot_of : List Str := ["_law_sheet", "_law_counts_here", "_law_is_way", "_law_cell", "_law_price", "_law_many", "_law_step", "_law_cost"]
theorem sc_spot_of : FnScope N_spot_of ["_law_sheet", "_law_counts_here", "_law_is_way"] (defScope s_spot_of) := ⟨rfl, rfl, rfl, by decide +kernel, rfl, by decide +kernel, by decide +kernel⟩
abbrev s_wide : Stmt := top 17
abbrev N_wide : List Str := ["_law_pen_here", "_law_number", "_law_k"]
theorem sc_wide : FnScope N_wide ["_law_pen_here"] (defScope s_wide) := ⟨rfl, rfl, rfl, by decide +kernel, rfl, by decide +kernel, by decide +kernel⟩
abbrev s_lexact : Stmt := top 18
abbrev N_lexact : List Str := ["_law_told", "_law_due", "_law_one", "_law_other"]
theorem sc_lexact : FnScope N_lexact ["_law_told", "_law_due"] (defScope s_lexact) := ⟨rfl, rfl, rfl, by decide +kernel, rfl, by decide +kernel, by decide +kernel⟩
abbrev s_near : Stmt := top 19
abbrev N_near : List Str := ["_law_pen_here", "_law_wide_here", "_law_x"]
theorem sc_near : FnScope N_near ["_law_pen_here", "_law_wide_here"] (defScope s_near) := ⟨rfl, rfl, rfl, by decide +kernel, rfl, by decide +kernel, by decide +kernel⟩
abbrev s_steps : Stmt := top 20
abbrev N_steps : List Str := ["_law_pen_here", "_law_many", "_law_wide_here", "_law_steps_here", "_law_k", "_law_step"]
theorem sc_steps : FnScope N_steps ["_law_pen_here", "_law_many", "_law_wide_here"] (defScope s_steps) := ⟨rfl, rfl, rfl, by decide +kernel, rfl, by decide +kernel, by decide +kernel⟩
abbrev s_made : Stmt := top 21
abbrev N_made : List Str := ["_law_row"]
theorem sc_made : FnScope N_made ["_law_row"] (defScope s_made) := ⟨rfl, rfl, rfl, by decide +kernel, rfl, by decide +kernel, by decide +kernel⟩
abbrev s_great_steps : Stmt := top 22
abbrev N_great_steps : List Str := ["_law_pen_here", "_law_many", "_law_steps_here", "_law_k", "_law_step"]
theorem sc_great_steps : FnScope N_great_steps ["_law_pen_here", "_law_many"] (defScope s_great_steps) := ⟨rfl, rfl, rfl, by decide +kernel, rfl, by decide +kernel, by decide +kernel⟩
abbrev s_count : Stmt := top 23
abbrev N_count : List Str := ["_law_pen_here"]
theorem sc_count : FnScope N_count ["_law_pen_here"] (defScope s_count) := ⟨rfl, rfl, rfl, by decide +kernel, rfl, by decide +kernel, by decide +kernel⟩
abbrev s_other_cell : Stmt := top 24
abbrev N_other_cell : List Str := ["_law_pen_here", "_law_row", "_law_cell", "_law_way", "_law_step"]
theorem sc_other_cell : FnScope N_other_cell ["_law_pen_here", "_law_row", "_law_cell"] (defScope s_other_cell) := ⟨rfl, rfl, rfl, by decide +kernel, rfl, by decide +kernel, by decide +kernel⟩
abbrev s_asked : Stmt := top 25
abbrev N_asked : List Str := ["_law_sheet", "_law_row", "_law_cell", "_law_counts_here", "_law_price"]
theorem sc_asked : FnScope N_asked ["_law_sheet", "_law_row", "_law_cell"] (defScope s_asked) := ⟨rfl, rfl, rfl, by decide +kernel, rfl, by decide +kernel, by decide +kernel⟩
abbrev s_law : Stmt := top 26
abbrev N_law : List Str := ["_law_script", "_law_pen_here", "_law_lap", "_law_steps_here", "_law_prices", "_law_row", "_law_sheet", "_law_k", "_law_counts_here", "_law_cell", "_law_price", "_law_step"]
theorem sc_law : FnScope N_law ["_law_script"] (defScope s_law) := ⟨rfl, rfl, rfl, by decide +kernel, rfl, by decide +kernel, by decide +kernel⟩
structure Df (K : Fr) (mg : Str → Option Value) (x : Str) (st : Stmt) (ps : List Str) (f : Addr) (fd : FuncData) : Prop where
  F : FunD K x x st f fd
  m : mg x = some (.ref f)
  b : Binds K fd ps []
structure Dm (K : Fr) (C : Addr) (x q : Str) (st : Stmt) (ps : List Str) (f : Addr) (fd : FuncData) : Prop where
  F : FunD K x q st f fd
  m : Meth K C x f
/-- what the top has written -/
structure Txt (K : Fr) (mg : Str → Option Value) where
  a_pcross : Addr
  f_pcross : FuncData
  d_pcross : Df K mg "cross" s_pcross ["one", "other"] a_pcross f_pcross
  a_are_steps : Addr
  f_are_steps : FuncData
  d_are_steps : Df K mg "_are_steps" s_are_steps ["steps"] a_are_steps f_are_steps
  a_pexact : Addr
  f_pexact : FuncData
  d_pexact : Df K mg "_exact" s_pexact ["tops", "bottom"] a_pexact f_pexact
  a_pen : Addr
  f_pen : FuncData
  d_pen : Df K mg "_law_pen" s_pen ["_law_script"] a_pen f_pen
  a_draw : Addr
  f_draw : FuncData
  d_draw : Df K mg "_law_draw" s_draw ["_law_pen_here", "_law_many"] a_draw f_draw
  a_pick : Addr
  f_pick : FuncData
  d_pick : Df K mg "_law_pick" s_pick ["_law_pen_here", "_law_some"] a_pick f_pick
  a_lcross : Addr
  f_lcross : FuncData
  d_lcross : Df K mg "_law_cross" s_lcross ["_law_one", "_law_two"] a_lcross f_lcross
  a_lcounts : Addr
  f_lcounts : FuncData
  d_lcounts : Df K mg "_law_counts" s_lcounts ["_law_sheet", "_law_cell"] a_lcounts f_lcounts
  a_lprice_at : Addr
  f_lprice_at : FuncData
  d_lprice_at : Df K mg "_law_price_at" s_lprice_at ["_law_sheet", "_law_cell"] a_lprice_at f_lprice_at
  a_spot_of : Addr
  f_spot_of : FuncData
  d_spot_of : Df K mg "_law_spot_of" s_spot_of ["_law_sheet", "_law_counts_here", "_law_is_way"] a_spot_of f_spot_of
  a_wide : Addr
  f_wide : FuncData
  d_wide : Df K mg "_law_wide" s_wide ["_law_pen_here"] a_wide f_wide
  a_lexact : Addr
  f_lexact : FuncData
  d_lexact : Df K mg "_law_exact" s_lexact ["_law_told", "_law_due"] a_lexact f_lexact
  a_near : Addr
  f_near : FuncData
  d_near : Df K mg "_law_near" s_near ["_law_pen_here", "_law_wide_here"] a_near f_near
  a_steps : Addr
  f_steps : FuncData
  d_steps : Df K mg "_law_steps" s_steps ["_law_pen_here", "_law_many", "_law_wide_here"] a_steps f_steps
  a_made : Addr
  f_made : FuncData
  d_made : Df K mg "_law_made" s_made ["_law_row"] a_made f_made
  a_great_steps : Addr
  f_great_steps : FuncData
  d_great_steps : Df K mg "_law_great_steps" s_great_steps ["_law_pen_here", "_law_many"] a_great_steps f_great_steps
  a_count : Addr
  f_count : FuncData
  d_count : Df K mg "_law_count" s_count ["_law_pen_here"] a_count f_count
  a_other_cell : Addr
  f_other_cell : FuncData
  d_other_cell : Df K mg "_law_other_cell" s_other_cell ["_law_pen_here", "_law_row", "_law_cell"] a_other_cell f_other_cell
  a_asked : Addr
  f_asked : FuncData
  d_asked : Df K mg "_law_asked" s_asked ["_law_sheet", "_law_row", "_law_cell"] a_asked f_asked
  a_law : Addr
  f_law : FuncData
  d_law : Df K mg "law" s_law ["_law_script"] a_law f_law
  C_Sheet : Addr
  c_Sheet : Cls K C_Sheet
  g_Sheet : mg "Sheet" = some (.ref C_Sheet)
  n_Sheet_base : NoAttr K C_Sheet "base"
  n_Sheet_price : NoAttr K C_Sheet "price"
  n_Sheet_steps : NoAttr K C_Sheet "steps"
  n_Sheet_prices : NoAttr K C_Sheet "prices"
  a_init : Addr
  f_init : FuncData
  d_init : Dm K C_Sheet "__init__" "Sheet.__init__" s_init ["self", "base", "price", "steps", "prices"] a_init f_init
  k_Sheet : Mk K C_Sheet a_init
  b_init : Binds K f_init ["self", "base", "price", "steps", "prices"] []
  a_contains : Addr
  f_contains : FuncData
  d_contains : Dm K C_Sheet "__contains__" "Sheet.__contains__" s_contains ["self", "cell"] a_contains f_contains
  b_contains : Binds K f_contains ["self", "cell"] []
  a_counts : Addr
  f_counts : FuncData
  d_counts : Dm K C_Sheet "counts" "Sheet.counts" s_counts ["self", "cell"] a_counts f_counts
  b_counts : Binds K f_counts ["self", "cell"] []
  a_price_at : Addr
  f_price_at : FuncData
  d_price_at : Dm K C_Sheet "price_at" "Sheet.price_at" s_price_at ["self", "cell"] a_price_at f_price_at
  b_price_at : Binds K f_price_at ["self", "cell"] []
  a_cell_of : Addr
  f_cell_of : FuncData
  d_cell_of : Dm K C_Sheet "cell_of" "Sheet.cell_of" s_cell_of ["self", "counts"] a_cell_of f_cell_of
  b_cell_of : Binds K f_cell_of ["self", "counts"] []
  z_len : mg "len" = none
  z_any : mg "any" = none
  z_tuple : mg "tuple" = none
  z_int : mg "int" = none
  z_list : mg "list" = none
  z_sum : mg "sum" = none
  z_zip : mg "zip" = none
  z_range : mg "range" = none
  z_all : mg "all" = none
  z_isinstance : mg "isinstance" = none
  z_bool : mg "bool" = none
  z_abs : mg "abs" = none
section
variable {P : Program} {w : World} {K : Fr} {mg : Str → Option Value} {base : Heap}
/-! ### draws -/
set_option maxHeartbeats 2000000 in
theorem ok_draw (T : Txt K mg) : FnOk P w K mg base CX0 1 T.a_draw T.f_draw ["_law_pen_here", "_law_many"] spDraw := by
  refine T.d_draw.F.ok sc_draw (fun vs H Q E h => ?_) (fun cdv A outer s H vs Q E hr h => ?_)
  · obtain ⟨c, d, n, m, rfl, _⟩ := h
    rfl
  · obtain ⟨c, d, n, m, rfl, ⟨p, P0, hcc, a0, c0, c1, f0, f1⟩, hn, hm, hm2, k⟩ := h
    have hu := hu_of hr
    refine ⟨_, (pss_cons (ps_dput hu (pv 0) pe_str (pe_op op_add (pe_dget hu (pv 0) pe_str (fun _ _ => rfl)) pe_int) rfl)
    (pss_meet (ps_if (PW.pt (pw_and (pt_cmpR op_eq (pe_dget hu (pv 0) pe_str (fun _ _ => rfl)) pe_int (nomark _)) (pw_and1 (pt_cmpR op_lt (pe_dget hu (pv 0) pe_str (fun _ _ => rfl)) (pe_callB call_len_seq (by rfl) T.z_len (by decide +kernel) (pa_cons (pe_dget hu (pv 0) pe_str (fun _ _ => rfl)) pa_nil)) (nomark _))))) (pss_cons (ps_set (i := 2) sc_draw.nd rfl (Or.inl rfl) (pe_ix (ix_lK K) (pe_dget hu (pv 0) pe_str (fun _ _ => rfl)) (pe_dget hu (pv 0) pe_str (fun _ _ => rfl)) (fun _ _ => rfl)))
    (pss_cons (ps_dput hu (pv 0) pe_str (pe_op op_add (pe_dget hu (pv 0) pe_str (fun _ _ => rfl)) pe_int) rfl)
    (pss_one (ps_if (pt_cmpR op_ge (pv 2) (pe_op op_pow pe_int pe_int) (nomark _)) (pss_one (ps_dput hu (pv 0) pe_str (pe_op op_sub (pv 2) (pe_op op_pow pe_int pe_int)) rfl)) (pss_one (ps_dput hu (pv 0) pe_str (pe_op op_mod (pe_callTy call_int1 (by rfl) T.z_int (by decide +kernel) (pa_cons (pe_op op_add (pe_op op_mulW (pe_dget hu (pv 0) pe_str (fun _ _ => rfl)) pe_int) (pv 2)) pa_nil)) pe_int) rfl)))))) pss_nil)
    (pss_cons (ps_if (pt_cmpR op_gt (pe_dget hu (pv 0) pe_str (fun _ _ => rfl)) pe_int (nomark _)) (pss_cons (ps_set (i := 3) sc_draw.nd rfl (Or.inl rfl) (pe_op op_mod (pe_callTy call_int1 (by rfl) T.z_int (by decide +kernel) (pa_cons (pe_dget hu (pv 0) pe_str (fun _ _ => rfl)) pa_nil)) (pv 1)))
    (pss_cons (ps_dput hu (pv 0) pe_str (pe_op op_fdivW (pe_dget hu (pv 0) pe_str (fun _ _ => rfl)) (pv 1)) rfl)
    (pss_one (ps_ret (pv 3))))) pss_nil)
    (pss_cons (ps_set (i := 4) sc_draw.nd rfl (Or.inl rfl) (pe_op op_add (pe_op op_add (pe_dget hu (pv 0) pe_str (fun _ _ => rfl)) (pe_op op_mulW (pe_dget hu (pv 0) pe_str (fun _ _ => rfl)) pe_int)) pe_int))
    (pss_one (ps_ret (pe_op op_mod (pe_op op_fdivW (pe_callTy call_int1 (by rfl) T.z_int (by decide +kernel) (pa_cons (pe_op op_mod (pe_op op_pow (pv 4) pe_int) pe_int) pa_nil)) pe_int) (pv 1)))))))), ?_⟩
    try dsimp only [cxOf]
    rw [show L2.start N_draw [V.ref d, V.int m] = [some (.ref d), some (.int m), none, none, none] from rfl]
    have em : ∀ H, Rep K H (.int m) (.int m) := fun _ => .int m
    -- the count
    with_reducible refine s_pputs (K := K) (x := p.ct + 1) ?e P0 ?v (u_ct p _) fun H1 k1 e1 l1 => ?_
    case e => rfl
    case v => walk_at "ev"
    have P1 : Pn H1 d { p with ct := p.ct + 1 } := ⟨e1, l1, P0.ne⟩
    generalize hp1 : { p with ct := p.ct + 1 } = p1 at P1
    have q1 : p1.at_ = p.at_ ∧ p1.ct = p.ct + 1 ∧ p1.fo = p.fo ∧ p1.c = c := by subst hp1; exact ⟨rfl, rfl, rfl, hcc⟩
    -- a cell is taken, or not
    with_reducible refine s_meet (fun σ' H' => ∃ p2 v2, σ' = [some (.ref d), some (.int m), v2, none, none] ∧ Kd d H H' ∧ Pn H' d p2 ∧ p2.c = c ∧ 0 ≤ p2.at_ ∧ p2.ct = p.ct + 1 ∧ 0 ≤ p2.fo ∧ p2.fo < 2147483587) ?rest ?_
    case rest =>
      rintro σ' H2 ⟨p2, v2, rfl, k2, P2, bc, b0, b1, b2, b3⟩
      with_reducible refine s_ifr (c := decide (0 < p2.dg)) (evb_test (K := K) ?t) (fun ht H3 s3 => ?_) (fun hf H3 s3 => ?_)
      case t => walk_at "ev"
      · have P3 := P2.same s3
        with_reducible refine s_set (K := K) (d := .int (p2.dg % m)) ?t fun v H4 s4 r4 => ?_
        case t =>
          with_reducible refine ev_mod (ev_intI (eva_cons ?_ eva_nil)) ?_ hm
          all_goals walk_at "ev"
        have P4 := P3.same s4
        have e4 := r4.int_inv
        subst e4
        with_reducible refine s_pputs (K := K) (x := p2.dg / m) ?e P4 ?t (u_dg p2 _) fun H5 k5 e5 l5 => ?_
        case e => rfl
        case t =>
          with_reducible refine ev_fdiv ?_ ?_ ?_
          · walk_at "ev"
          · walk_at "ev"
          · exact Bd.divW (n := 30) (Bd.of_range (lo := 0) (hi := 1073741824) (by omega) hm2 (by decide) (by decide)) hm (by decide)
        have P5 : Pn H5 d { p2 with dg := p2.dg / m } := ⟨e5, l5, P2.ne⟩
        with_reducible refine s_ret (K := K) (d := .int (p2.dg % m)) ?t fun v H6 s6 r6 => ?_
        case t => walk_at "ev"
        have e6 := r6.int_inv
        subst e6
        refine k _ H6 (Int.emod_nonneg _ (by omega)) (Int.emod_lt_of_pos _ hm) (((k2.trans (kd_same (s3.trans s4))).trans k5).trans (kd_same s6)) ⟨_, P5.same s6, bc, b0, ?_, ?_, b2, b3⟩
        · show 0 ≤ p2.ct
          omega
        · show p2.ct ≤ _
          omega
      · have P3 := P2.same s3
        have hb1 : Bd 40 p2.ct := Bd.of_range (lo := 0) (hi := 1000000001) (by omega) (by omega) (by decide) (by decide)
        have hb2 : p2.ct * 7907 ≤ 1000000001 * 7907 := by omega
        with_reducible refine s_set (K := K) (d := .int (p2.fo + p2.ct * 7907 + 37)) ?t fun v H4 s4 r4 => ?_
        case t => walk_at "ev"
        have hx : (p2.fo + p2.ct * 7907 + 37).natAbs < 2 ^ 64 := by omega
        have e4 := r4.int_inv
        subst e4
        with_reducible refine s_ret (K := K) (d := .int ((p2.fo + p2.ct * 7907 + 37) ^ 17 % 2305843009213693951 / 128 % m)) ?_ fun v H5 s5 r5 => ?_
        · refine ev_mod (ev_fdiv (ev_intI (eva_cons (ev_mod (ev_pow (y := 17) ?_ ?_ ⟨by decide, by decide, hx⟩ rfl) ?_ (by decide)) eva_nil)) ?_ ⟨by decide, by decide⟩) ?_ hm <;> walk_at "ev"
        · have e5 := r5.int_inv
          subst e5
          refine k _ H5 (Int.emod_nonneg _ (by omega)) (Int.emod_lt_of_pos _ hm) (k2.trans (kd_same (s3.trans (s4.trans s5)))) ⟨p2, (P3.same s4).same s5, bc, b0, by omega, ?_, b2, b3⟩
          omega
    · obtain ⟨qa, qc, qf, qcc⟩ := q1
      obtain ⟨g, hg⟩ : ∃ g : Int, (10 : Int) ^ (18 : Int).toNat = g := ⟨_, rfl⟩
      have eg : ∀ H σ, Ev K (tOp (rI CPow fun i j => .int (i ^ j.toNat)) (tC (.int 10)) (tC (.int 18))) σ H (.int g) := fun _ _ => ev_pow ev_int ev_int ⟨by decide, by decide, by decide⟩ hg
      with_reducible refine s_if (c := decide (p1.dg = 0) && decide (p1.at_ < p1.cells.length)) (evb_and (evb_test (K := K) ?t1) fun _ => evb_test (K := K) (ev_lt ?t2 (ev_lencells ?t3 P1))) (fun ht H2 s2 => ?_) (fun hf H2 s2 => s_next ?_)
      case t1 => walk_at "ev"
      case t2 => walk_at "ev"
      case t3 => rfl
      · have P2 := P1.same s2
        have ht2 : p1.at_ < p1.cells.length := by
          have := (Bool.and_eq_true_iff.mp ht).2
          exact of_decide_eq_true this
        have ej : p1.at_ = (p1.at_.toNat : Nat) := by omega
        have hj : p1.at_.toNat < p1.cells.length := by omega
        with_reducible refine s_set (K := K) (d := .int p1.cells[p1.at_.toNat]) (ev_cell ?t P2 ej ?t4) fun v H3 s3 r3 => ?_
        case t => rfl
        case t4 => simp [hj]
        generalize p1.cells[p1.at_.toNat] = x at r3
        have P3 := P2.same s3
        have e3 := r3.int_inv
        subst e3
        with_reducible refine s_pputs (K := K) (x := p1.at_ + 1) ?e P3 ?t (u_at p1 _) fun H4 k4 e4 l4 => ?_
        case e => rfl
        case t => walk_at "ev"
        have P4 : Pn H4 d { p1 with at_ := p1.at_ + 1 } := ⟨e4, l4, P1.ne⟩
        have k04 : Kd d H H4 := (k1.trans (kd_same (s2.trans s3))).trans k4
        have ex : ∀ H, Rep K H (.int x) (.int x) := fun _ => .int x
        with_reducible refine s_if (c := decide (g ≤ x)) (evb_test (K := K) (ev_ge ?t (eg _ _))) (fun _ H5 s5 => ?_) (fun _ H5 s5 => ?_)
        case t => walk_at "ev"
        · have P5 := P4.same s5
          with_reducible refine s_pput (K := K) (x := x - g) ?e P5 (ev_sub ?t (eg _ _)) (u_dg _ _) fun H6 k6 e6 l6 => ?_
          case e => rfl
          case t => walk_at "ev"
          refine ⟨_, _, rfl, (k04.trans (kd_same s5)).trans k6, ⟨e6, l6, P1.ne⟩, qcc, ?_, ?_, ?_, ?_⟩
          · show 0 ≤ p1.at_ + 1
            omega
          · exact qc
          · show 0 ≤ p1.fo
            omega
          · show p1.fo < _
            omega
        · have P5 := P4.same s5
          have hb1 : Bd 40 p1.fo := Bd.of_range (lo := 0) (hi := 2147483587) (by omega) (by omega) (by decide) (by decide)
          with_reducible refine s_pput (K := K) (x := (p1.fo * 69069 + x) % 2147483587) ?e P5 ?t (u_fo _ _) fun H6 k6 e6 l6 => ?_
          case e => rfl
          case t =>
            refine ev_mod (ev_intI (eva_cons (ev_add (ev_mul ?_ ?_ (Bd.mulW hb1 (bd_lit (n := 64) (by decide)) (by decide))) ?_) eva_nil)) ?_ (by decide) <;> walk_at "ev"
          refine ⟨_, _, rfl, (k04.trans (kd_same s5)).trans k6, ⟨e6, l6, P1.ne⟩, qcc, ?_, ?_, ?_, ?_⟩
          · show 0 ≤ p1.at_ + 1
            omega
          · exact qc
          · exact Int.emod_nonneg _ (by decide)
          · exact Int.emod_lt_of_pos _ (by decide)
      · refine ⟨p1, none, rfl, k1.trans (kd_same s2), P1.same s2, qcc, by omega, by omega, by omega, by omega⟩
theorem ok_pick (T : Txt K mg) : FnOk P w K mg base CX0 2 T.a_pick T.f_pick ["_law_pen_here", "_law_some"] spPick := by
  refine T.d_pick.F.ok sc_pick (fun vs H Q E h => ?_) (fun cdv A outer s H vs Q E hr h => ?_)
  · obtain ⟨c, d, l, n, xs, rfl, _⟩ := h
    rfl
  · obtain ⟨c, d, l, n, xs, rfl, P0, hn, hl, h0, h1, k⟩ := h
    have hu := hu_of hr
    refine ⟨_, (pss_one (ps_ret (pe_ix (ix_lK K) (pv 1) (pe_call (ok_draw T) (hr.mono (by decide)) rfl T.d_draw.m T.d_draw.F.kp T.d_draw.b .nil pass0 (pa_cons (pv 0) (pa_cons (pe_callB call_len_seq (by rfl) T.z_len (by decide +kernel) (pa_cons (pv 1) pa_nil)) pa_nil))) (fun _ _ => rfl)))), ?_⟩
    refine ⟨_, rfl, _, rfl, _, rfl, l, xs, rfl, .inl (SqL.of hl), ?_⟩
    refine ⟨c, d, n, xs.length, rfl, P0, hn, by omega, by omega, fun r H' r0 r1 kd P' => ?_⟩
    obtain ⟨j, rfl⟩ : ∃ j : Nat, r = j := ⟨r.toNat, by omega⟩
    have hj : j < xs.length := by omega
    exact ⟨l, xs, j, xs[j], rfl, rfl, SqL.of (kd l _ hl (P0.ne hl (fun _ e => nomatch e))), atI_nat (by simp [hj]), k _ H' (List.getElem_mem hj) kd P'⟩
theorem ok_pen (T : Txt K mg) : FnOk P w K mg base CX0 1 T.a_pen T.f_pen ["_law_script"] (spPen K) := by
  refine T.d_pen.F.ok sc_pen (fun vs H Q E h => ?_) (fun cdv A outer s H vs Q E hr h => ?_)
  · obtain ⟨a, ns, rfl, _⟩ := h
    rfl
  · obtain ⟨a, ns, rfl, hS, k⟩ := h
    have hu := hu_of hr
    refine ⟨_, (pss_cons (ps_set (i := 1) sc_pen.nd rfl (Or.inl rfl) pe_int)
    (pss_cons (ps_for PassesOwn.never rfl (pi_list (pv 0)) (pg_name (i := 2) sc_pen.nd rfl (Or.inl rfl))
    (pss_one (ps_set (i := 1) sc_pen.nd rfl (Or.inl rfl) (pe_op op_mod (pe_callTy call_int1 (by rfl) T.z_int (by decide +kernel) (pa_cons (pe_op op_add (pe_op op_mulW (pv 1) pe_int) (pv 2)) pa_nil)) pe_int))))
    (pss_one (ps_ret (pe_disp (pps_cons pe_str (pe_callTy call_list_of (by rfl) T.z_list (by decide +kernel) (pa_cons (pv 0) pa_nil)) (pps_cons pe_str pe_int (pps_cons pe_str pe_int (pps_cons pe_str pe_int (pps_cons pe_str (pv 1) pps_nil))))) rfl rfl (by simp) (by decide)))))), ?_⟩
    -- the fold
    refine ⟨_, rfl, a, rfl, ⟨_, hS⟩, for_list (K := K) (a := a) (xs := ns.map V.int) (fun i σ H2 => ∃ (f : Int) (v : Option V), σ = [some (.ref a), some (.int f), v] ∧ Same H H2 ∧ 0 ≤ f ∧ f < 1000000007)
      ⟨0, none, rfl, Same.refl H, by decide, by decide⟩ (fun i σ H2 _ ⟨_, _, _, s2, _⟩ => s2.seq hS) ?_ ?_⟩
    · rintro i y σ H2 hi ⟨f, v, rfl, s2, f0, f1⟩
      obtain ⟨z, rfl⟩ : ∃ z, y = V.int z := by
        rw [List.getElem?_map] at hi
        cases e : ns[i]? with
        | none => rw [e] at hi; cases hi
        | some z => rw [e] at hi; exact ⟨z, (Option.some.inj hi).symm⟩
      have hb1 : Bd 40 f := Bd.of_range (lo := 0) (hi := 1000000007) (by omega) (by omega) (by decide) (by decide)
      refine ⟨_, rfl, _, _, rfl, rfl, Bd.mulW hb1 (bd_lit (n := 64) (by decide)) (by decide), _, rfl, _, _, rfl, rfl, .inl ⟨_, rfl, _, _, rfl, rfl, (by show (0 : Int) < 1000000007; decide), ?_⟩⟩
      exact ⟨_, _, rfl, s2, Int.emod_nonneg _ (by decide), Int.emod_lt_of_pos _ (by decide)⟩
    · rintro σ H2 ⟨f, v, rfl, s2, f0, f1⟩
      -- the dict
      intro d hd
      have sd := same_upd (o := HO.dK []) hd
      refine ⟨_, rfl, a, _, rfl, .inl (sd.seq (s2.seq hS)), fun l hl => ?_⟩
      have sl := same_upd (o := HO.lst (ns.map V.int)) hl
      have ne : l ≠ d := by
        intro e
        subst e
        rw [upd_same] at hl
        cases hl
      refine ⟨_, rfl, sl _ _ upd_same, PenS.kvs ⟨l, ns, 0, 0, 0, f⟩, rfl, by show 5 ≤ 15; decide, ?_⟩
      refine k l d _ ?_ ⟨⟨l, ns, 0, 0, 0, f⟩, ⟨?_, ?_, ne⟩, rfl, Int.le_refl _, Int.le_refl _, Int.le_refl _, f0, (show f < 2147483587 by omega)⟩
      · intro b o hb
        have e := s2 b o hb
        rw [upd_ne (ne_of_none e hd)]
        exact sl _ _ (sd _ _ e)
      · rw [upd_same]
        rfl
      · rw [upd_ne ne, upd_same]
/-! ### the program's defs -/
theorem ok_pcross (T : Txt K mg) : FnOk P w K mg base CX0 1 T.a_pcross T.f_pcross ["one", "other"] (spCross K) := by
  refine T.d_pcross.F.ok sc_pcross (fun vs H Q E h => ?_) (fun cdv A outer s H vs Q E hr h => ?_)
  · obtain ⟨ds, d, hv, ⟨a, b, rfl, _⟩, _⟩ := h
    exact hv.len
  · obtain ⟨ds, d, hv, ⟨a, b, rfl, ⟨ba1, ba2⟩, ⟨bb1, bb2⟩, rfl⟩, k⟩ := h
    obtain ⟨v1, v2, rfl, r1, r2⟩ := hv.inv2
    refine ⟨_, (pss_one (ps_ret (pe_op op_sub (pe_op op_mulW (pe_ix (ix_tK K) (pv 0) pe_int (fun _ _ => rfl)) (pe_ix (ix_tK K) (pv 1) pe_int (fun _ _ => rfl))) (pe_op op_mulW (pe_ix (ix_tK K) (pv 0) pe_int (fun _ _ => rfl)) (pe_ix (ix_tK K) (pv 1) pe_int (fun _ _ => rfl)))))), ?_⟩
    try dsimp only [cxOf]
    rw [show L2.start N_pcross [v1, v2] = [some v1, some v2] from rfl]
    with_reducible refine s_ret (K := K) (d := .int (a.1 * b.2 - a.2 * b.1)) ?t ?_
    case t => walk_at "ev"
    exact fun v H1 s1 r => k v H1 s1 r
theorem ok_are_steps (T : Txt K mg) : FnOk P w K mg base CX0 2 T.a_are_steps T.f_are_steps ["steps"] (spAreSteps K) := by
  refine T.d_are_steps.F.ok sc_are_steps (fun vs H Q E h => ?_) (fun cdv A outer s H vs Q E hr h => ?_)
  · obtain ⟨ds, d, hv, ⟨l, rfl, _⟩, _⟩ := h
    exact hv.len
  · obtain ⟨ds, d, hv, ⟨l, rfl, bl, rfl⟩, k⟩ := h
    obtain ⟨v1, rfl, r1⟩ := hv.inv1
    have hu65 : (A.deeper (PyProof.Rows.envOfC "_are_steps" (defScope s_are_steps) s.heap.objs.size T.a_are_steps cdv)).units + 65 < cLine := by
      have := hr.un
      omega
    refine ⟨_, (pss_cons (ps_if (PW.pt (pw_or (pt_cmpR op_gt (pe_callB call_len_seq (by rfl) T.z_len (by decide +kernel) (pa_cons (pv 0) pa_nil)) pe_int (nomark _)) (pw_or1 (pt_cmpR (op_inK K rfl hu65) (pe_tup (pa_cons pe_int (pa_cons pe_int pa_nil))) (pv 0) rfl)))) (pss_one (ps_ret pe_bl)) pss_nil)
    (pss_one (ps_ret (pe_or (pe_cmpR op_lt (pe_callB call_len_seq (by rfl) T.z_len (by decide +kernel) (pa_cons (pv 0) pa_nil)) pe_int (nomark _)) (pe_one (pe_cmpR op_ne (pe_call (ok_pcross T) (hr.mono (by decide)) rfl T.d_pcross.m T.d_pcross.F.kp T.d_pcross.b .nil pass0 (pa_cons (pe_ix (ix_tK K) (pv 0) pe_int (fun _ _ => rfl)) (pa_cons (pe_ix (ix_tK K) (pv 0) pe_int (fun _ _ => rfl)) pa_nil))) pe_int (nomark _))))))), ?_⟩
    try dsimp only [cxOf]
    rw [show L2.start N_are_steps [v1] = [some v1] from rfl]
    have e1 : ∀ H1, Same H H1 → EvB (tOr (tTest (tOp (rI0 fun i j => V.bl (decide (j < i))) (tCB (fun xs H Q => ∃ p ys, xs = [V.ref p] ∧ (SqL K H p ys ∨ SqT K H p ys) ∧ Q (V.int ys.length) H) (tCons (tVar 0) tNil)) (tC (V.int 2))))
        (tTest (tOp (rInT K) (tTup (tCons (tC (V.int 0)) (tCons (tC (V.int 0)) tNil))) (tVar 0)))) [some v1] H1 (decide ((2 : Int) < ((l.map dC).length : Nat)) || (l.map dC).any fun z => PyData.eqv z (dC (0, 0))) := fun H1 s1 => by
      refine evb_or (evb_test (K := K) ?_) fun _ => evb_test (K := K) (ev_inT (d := dC (0, 0)) ?_ ?_ (shaped_dC _) (shaped_dCs l))
      all_goals walk_at "ev"
    with_reducible refine s_ifr (e1 H (Same.refl H)) (fun ht H1 s1 => ?_) (fun hf H1 s1 => ?_)
    · have hno : areSteps l = false := by
        match l, ht with
        | [], ht => simp at ht
        | [a], ht =>
          simp [eqv_dC] at ht
          simp [areSteps, ht]
        | [a, b], ht =>
          simp [eqv_dC] at ht
          simp only [areSteps]
          rcases ht with h | h <;> simp [h]
        | a :: b :: c :: r, _ => rfl
      rw [hno] at k
      with_reducible refine s_ret (K := K) ev_bl ?_
      exact fun v H2 s2 r => k v H2 (s1.trans s2) r
    · match l, bl, r1, hf, k with
      | [], bl, r1, _, k =>
        with_reducible refine s_ret (K := K) (d := .bool (decide ((([] : List C2).map dC).length < (2 : Int)) || false)) (ev_orV ?t fun h => by simp at h) ?_
        case t => walk_at "ev"
        exact fun v H2 s2 r => k v H2 (s1.trans s2) r
      | [a], bl, r1, hf, k =>
        with_reducible refine s_ret (K := K) (d := .bool (decide ((([a] : List C2).map dC).length < (2 : Int)) || false)) (ev_orV ?t fun h => by simp at h) ?_
        case t => walk_at "ev"
        have e : areSteps [a] = true := by
          simp [eqv_dC] at hf
          simp [areSteps, hf]
        rw [e] at k
        exact fun v H2 s2 r => k v H2 (s1.trans s2) r
      | [a, b], bl, r1, hf, k =>
        obtain ⟨a1, a2⟩ := bl a (by simp)
        obtain ⟨b1, b2⟩ := bl b (by simp)
        with_reducible refine s_ret (K := K) (d := .bool (decide ((([a, b] : List C2).map dC).length < (2 : Int)) || !decide (cr a b = 0))) (ev_orV ?t fun h => ev_neI (ev_cross ?t1 ?t2 ?t3 ?t4) ev_int) ?_
        case t => walk_at "ev"
        case t1 => walk_at "ev"
        case t2 => walk_at "ev"
        case t3 => exact (bl a (by simp)).mono (by decide)
        case t4 => exact (bl b (by simp)).mono (by decide)
        have e : areSteps [a, b] = !decide (cr a b = 0) := by
          simp [eqv_dC] at hf
          simp [areSteps, hf]
        rw [e] at k
        exact fun v H2 s2 r => k v H2 (s1.trans s2) r
      | a :: b :: c :: r, bl, r1, hf, k =>
        exfalso
        simp at hf
        omega
theorem ok_pexact (T : Txt K mg) : FnOk P w K mg base CX0 1 T.a_pexact T.f_pexact ["tops", "bottom"] (spExact K) := by
  refine T.d_pexact.F.ok sc_pexact (fun vs H Q E h => ?_) (fun cdv A outer s H vs Q E hr h => ?_)
  · obtain ⟨ds, d, hv, ⟨l, b, rfl, _⟩, _⟩ := h
    exact hv.len
  · obtain ⟨ds, d, hv, ⟨l, b, rfl, hl, b0, bb, rfl⟩, k⟩ := h
    obtain ⟨v1, v2, rfl, r1, r2⟩ := hv.inv2
    refine ⟨_, (pss_cons (ps_if (pt_val (pe_callB (cr_any rfl) (by rfl) T.z_any (by decide +kernel) (pa_cons (pe_lc (own := [("top", 2)]) (g := gName 2) rfl sc_pexact.nd (pi_tup (pv 0)) (blkOk_by (N := N_pexact) (sc := defScope s_pexact) (by decide +kernel)) (fun _ _ _ _ _ => (pg_name (i := 2) sc_pexact.nd rfl (Or.inl rfl))) (fun _ _ _ _ _ => pts_nil) (fun _ _ _ _ _ => (pe_or (pe_cmpR op_ne (pe_op op_modN (pv 2) (pv 1)) pe_int (nomark _)) (pe_one (pe_cmpR op_lt (pe_op op_fdivNW (pv 2) (pv 1)) pe_int (nomark _)))))) pa_nil))) (pss_one (ps_ret pe_non)) pss_nil)
    (pss_one (ps_ret (pe_callTy call_tuple_of (by rfl) T.z_tuple (by decide +kernel) (pa_cons (pe_lc (own := [("top", 2)]) (g := gName 2) rfl sc_pexact.nd (pi_tup (pv 0)) (blkOk_by (N := N_pexact) (sc := defScope s_pexact) (by decide +kernel)) (fun _ _ _ _ _ => (pg_name (i := 2) sc_pexact.nd rfl (Or.inl rfl))) (fun _ _ _ _ _ => pts_nil) (fun _ _ _ _ _ => (pe_op op_fdivNW (pv 2) (pv 1)))) pa_nil))))), ?_⟩
    try dsimp only [cxOf, List.map]
    rw [show L2.start N_pexact [v1, v2] = [some v1, some v2, none] from rfl]
    have dv : ∀ t, CDivNW t b := fun _ => bb.divNW b0 (by decide)
    with_reducible refine s_ifr (c := (l.map fun t => (!decide (t.fmod b = 0) || decide (t.fdiv b < 0))).any id) (evb_b (K := K) (ev_any ?t)) (fun ht H1 s1 => ?_) (fun hf H1 s1 => ?_)
    case t =>
      with_reducible refine evl_lct (ds := l.map .int) ?a ?b ?c ?d
      case a => walk_at "ev"
      case b => simp
      case c => simpa using hl
      case d =>
        intro j d v H2 hj s2 rv
        obtain ⟨t, ht, rfl⟩ : ∃ t, l[j]? = some t ∧ d = .int t := by
          rw [List.getElem?_map] at hj
          cases e : l[j]? with
          | none => rw [e] at hj; cases hj
          | some t => rw [e] at hj; exact ⟨t, rfl, (Option.some.inj hj).symm⟩
        refine ⟨.bool (!decide (t.fmod b = 0) || decide (t.fdiv b < 0)), by simp [ht], ?_⟩
        with_reducible refine ev_orV (ev_neI (ev_modN ?_ ?_ b0) ev_int) fun _ => ev_lt (ev_fdivN ?_ ?_ (dv _)) ev_int
        all_goals walk_at "ev"
    · with_reducible refine s_ret (K := K) ev_non ?_
      have e : exactF l b = none := if_pos ht
      rw [e] at k
      exact fun v H2 s2 r => k v H2 (s1.trans s2) r
    · have e : exactF l b = some (l.map fun t => t.fdiv b) := if_neg (by rw [hf]; exact Bool.false_ne_true)
      rw [e] at k
      with_reducible refine s_ret (K := K) (d := dIs (l.map fun t => t.fdiv b)) (ev_tupleL ?t) ?_
      case t =>
        with_reducible refine evl_lct (ds := l.map .int) ?a ?b ?c ?d
        case a => walk_at "ev"
        case b => simp
        case c => simpa using hl
        case d =>
          intro j d v H2 hj s2 rv
          obtain ⟨t, ht, rfl⟩ : ∃ t, l[j]? = some t ∧ d = .int t := by
            rw [List.getElem?_map] at hj
            cases e : l[j]? with
            | none => rw [e] at hj; cases hj
            | some t => rw [e] at hj; exact ⟨t, rfl, (Option.some.inj hj).symm⟩
          refine ⟨.int (t.fdiv b), by simp [ht], ?_⟩
          with_reducible refine ev_fdivN ?_ ?_ (dv _)
          all_goals walk_at "ev"
      exact fun v H2 s2 r => k v H2 (s1.trans s2) r
end
end LW
namespace LW
open PySem L2 LB
local macro_rules | `(tactic| walk_at "hp") => `(tactic| first
  | (with_reducible assumption) | (with_reducible exact Rep.int _) | (with_reducible exact Rep.bl _) | (with_reducible exact Rep.non) | (with_reducible exact Rep.str _)
  | ((with_reducible refine' Rep.same ?kk ?hh); (case kk => with_reducible assumption); (case hh => walk_at "hp"))
  | ((with_reducible refine' Rep.kt ?kk ?hh); (case kk => with_reducible assumption); (case hh => walk_at "hp")))
local macro_rules | `(tactic| walk_at "bd") => `(tactic| first
  | (with_reducible assumption)
  | exact bd_lit (n := 64) (by decide)
  | (with_reducible refine' Bd.mul ?_ ?_) <;> walk_at "bd"
  | (with_reducible refine' Bd.add ?_ ?_) <;> walk_at "bd"
  | (with_reducible refine' Bd.sub ?_ ?_) <;> walk_at "bd"
  | (with_reducible refine' Bd.neg ?_) <;> walk_at "bd")
local macro_rules | `(tactic| walk_at "ev") => `(tactic| first
  | (with_reducible exact ev_int) | (with_reducible exact ev_bl) | (with_reducible exact ev_non) | (with_reducible exact ev_str)
  | ((with_reducible refine' ev_var ?e ?hh); (case e => rfl); (case hh => walk_at "hp"))
  | (with_reducible refine' ev_add ?_ ?_) <;> walk_at "ev"
  | (with_reducible refine' ev_sub ?_ ?_) <;> walk_at "ev"
  | ((with_reducible refine' ev_mul ?m1 ?m2 ?m3); (case m1 => walk_at "ev"); (case m2 => walk_at "ev"); (case m3 => (refine' Bd.mulW ?b1 ?b2 ?b3; (case b1 => walk_at "bd"); (case b2 => walk_at "bd"); (case b3 => decide))))
  | ((with_reducible refine' ev_ix ?m1 ?m2); (case m1 => walk_at "ev"); (case m2 => rfl))
  | ((with_reducible refine' ev_tup ?m1 ?m2); (case m1 => walk_at "eva"); (case m2 => exact Nat.le_of_ble_eq_true rfl))
  | (with_reducible refine' ev_neg ?_) <;> walk_at "ev"
  | (with_reducible refine' ev_lt ?_ ?_) <;> walk_at "ev"
  | (with_reducible refine' ev_le ?_ ?_) <;> walk_at "ev"
  | (with_reducible refine' ev_gt ?_ ?_) <;> walk_at "ev"
  | (with_reducible refine' ev_ge ?_ ?_) <;> walk_at "ev"
  | (with_reducible refine' ev_eqI ?_ ?_) <;> walk_at "ev"
  | (with_reducible refine' ev_neI ?_ ?_) <;> walk_at "ev"
  | (with_reducible refine' ev_intI ?_) <;> walk_at "eva"
  | (with_reducible refine' ev_lenT ?_) <;> walk_at "eva"
  | walk_at "evx")
local macro_rules | `(tactic| walk_at "eva") => `(tactic| first
  | (with_reducible exact eva_nil)
  | ((with_reducible refine' eva_cons ?v1 ?v2); (case v1 => walk_at "ev"); (case v2 => walk_at "eva")))
local macro_rules | `(tactic| walk_at "evx") => `(tactic| first
  | ((with_reducible refine' ev_pget ?a ?b ?c); (case a => rfl); (case b => with_reducible assumption); (case c => first | (with_reducible exact p_at _) | (with_reducible exact p_dg _) | (with_reducible exact p_ct _) | (with_reducible exact p_fo _))))
local macro_rules | `(tactic| walk_at "sh") => `(tactic| first
  | (with_reducible assumption)
  | ((with_reducible refine' ShAt.same ?hh ?kk); (case kk => with_reducible assumption); (case hh => walk_at "sh"))
  | ((with_reducible refine' ShAt.kt ?hh ?kk); (case kk => with_reducible assumption); (case hh => walk_at "sh")))
local macro_rules | `(tactic| walk_at "evx") => `(tactic| first
  | ((with_reducible refine' ev_base ?e ?h ?c ?n); (case e => rfl); (case h => walk_at "sh"); (case c => with_reducible assumption); (case n => with_reducible assumption))
  | ((with_reducible refine' ev_price ?e ?h ?c ?n); (case e => rfl); (case h => walk_at "sh"); (case c => with_reducible assumption); (case n => with_reducible assumption))
  | ((with_reducible refine' ev_steps ?e ?h ?c ?n); (case e => rfl); (case h => walk_at "sh"); (case c => with_reducible assumption); (case n => with_reducible assumption))
  | ((with_reducible refine' ev_prices ?e ?h ?c ?n); (case e => rfl); (case h => walk_at "sh"); (case c => with_reducible assumption); (case n => with_reducible assumption)))
section
variable {P : Program} {w : World} {K : Fr} {mg : Str → Option Value} {base : Heap}
theorem ok_init (T : Txt K mg) : FnOk P w K mg base CX0 3 T.a_init T.f_init ["self", "base", "price", "steps", "prices"] (spInit K T.C_Sheet) := by
  refine T.d_init.F.ok sc_init (fun vs H Q E h => ?_) (fun cdv A outer s H vs Q E hr h => ?_)
  · obtain ⟨p, dx, vb, vp, vs', vr, S, rfl, _⟩ := h
    rfl
  · obtain ⟨p, dx, vb, vp, vs', vr, S, rfl, hp, ok, rb, rp, rs, rr, k⟩ := h
    refine ⟨_, (pss_cons (ps_if (pt_not (pt_val (pe_call (ok_are_steps T) (hr.mono (by decide)) rfl T.d_are_steps.m T.d_are_steps.F.kp T.d_are_steps.b .nil pass0 (pa_cons (pv 3) pa_nil)))) (pss_one ps_never) pss_nil)
    (pss_cons (ps_if (pt_cmpR op_ne (pe_callB call_len_seq (by rfl) T.z_len (by decide +kernel) (pa_cons (pv 4) pa_nil)) (pe_callB call_len_seq (by rfl) T.z_len (by decide +kernel) (pa_cons (pv 3) pa_nil)) (nomark _)) (pss_one ps_never) pss_nil)
    (pss_cons (ps_fld (pv 0) (pv 1) rfl)
    (pss_cons (ps_fld (pv 0) (pv 2) rfl)
    (pss_cons (ps_fld (pv 0) (pe_callTy call_tuple_of (by rfl) T.z_tuple (by decide +kernel) (pa_cons (pv 3) pa_nil)) rfl)
    (pss_one (ps_fld (pv 0) (pe_callTy call_tuple_of (by rfl) T.z_tuple (by decide +kernel) (pa_cons (pv 4) pa_nil)) rfl))))))), ?_⟩
    try dsimp only [cxOf]
    rw [show L2.start N_init [V.ref p, vb, vp, vs', vr] = [some (V.ref p), some vb, some vp, some vs', some vr] from rfl]
    with_reducible refine s_ifr (c := !(areSteps S.steps)) (evb_not (evb_b (K := K) (ev_areSteps ?t ok.b2))) (fun ht H1 s1 => ?_) (fun hf H1 s1 => ?_)
    case t => walk_at "ev"
    · rw [ok.st] at ht
      exact absurd ht (by decide)
    with_reducible refine s_ifr (c := !decide ((((S.prices.map PyData.int).length : Nat) : Int) = ((S.steps.map dC).length : Nat))) (evb_test (K := K) (ev_neI ?t1 ?t2)) (fun ht H2 s2 => ?_) (fun hf H2 s2 => ?_)
    case t1 => walk_at "ev"
    case t2 => walk_at "ev"
    · rw [List.length_map, List.length_map, ok.ln] at ht
      simp at ht
    have hp2 : H2 p = some (.ins T.C_Sheet dx []) := s2 _ _ (s1 _ _ hp)
    have s02 := s1.trans s2
    obtain ⟨qs, xs, rfl, hqs, ras⟩ := (rs.same s02).tup_inv
    obtain ⟨qr, xr, rfl, hqr, rar⟩ := (rr.same s02).tup_inv
    have rb2 := rb.same s02
    have rp2 := rp.same s02
    -- self.base = base; self.price = price
    refine ⟨_, rfl, _, rfl, p, T.C_Sheet, dx, [], rfl, hp2, T.c_Sheet, T.n_Sheet_base, (by show 0 < 1000; decide), ?_⟩
    refine ⟨_, rfl, _, rfl, p, T.C_Sheet, dx, _, rfl, upd_same, T.c_Sheet, T.n_Sheet_price, (by show 1 < 1000; decide), ?_⟩
    rw [upd_upd]
    have g1 : ∀ {o : HO}, Kr H2 (upd H2 p o) := fun {o} => kr_upd hp2 (fun i => i)
    refine ⟨_, rfl, qs, xs, rfl, .inr ⟨kr_sqt g1 hqs, ?_⟩⟩
    refine ⟨_, rfl, p, T.C_Sheet, dx, _, rfl, upd_same, T.c_Sheet, T.n_Sheet_steps, ?_, ?_⟩
    · exact Nat.lt_of_le_of_lt (Nat.le_trans (length_putF _ _ _) (Nat.succ_le_succ (length_putF _ _ _))) (by decide)
    rw [upd_upd]
    refine ⟨_, rfl, qr, xr, rfl, .inr ⟨kr_sqt g1 hqr, ?_⟩⟩
    refine ⟨_, rfl, p, T.C_Sheet, dx, _, rfl, upd_same, T.c_Sheet, T.n_Sheet_prices, ?_, ?_⟩
    · exact Nat.lt_of_le_of_lt (Nat.le_trans (length_putF _ _ _) (Nat.succ_le_succ (Nat.le_trans (length_putF _ _ _) (Nat.succ_le_succ (length_putF _ _ _))))) (by decide)
    rw [upd_upd]
    refine k _ ⟨dx, vb, vp, .ref qs, .ref qr, upd_same, rb2.kr g1, rp2.kr g1, (Rep.tup hqs ras).kr g1, (Rep.tup hqr rar).kr g1⟩ fun b o hb ne => ?_
    rw [upd_ne ne]
    exact s02 _ _ hb
theorem ok_counts (T : Txt K mg) : FnOk P w K mg base CX0 2 T.a_counts T.f_counts ["self", "cell"] (spCounts K T.C_Sheet) := by
  refine T.d_counts.F.ok sc_counts (fun vs H Q E h => ?_) (fun cdv A outer s H vs Q E hr h => ?_)
  · obtain ⟨p, S, v, x, d, rfl, _⟩ := h
    rfl
  · obtain ⟨p, S, v, x, d, rfl, hS, ok, rv, ⟨c, rfl, bc, rfl⟩, k⟩ := h
    have hu64 : (A.deeper (PyProof.Rows.envOfC "Sheet.counts" (defScope s_counts) s.heap.objs.size T.a_counts cdv)).units + 64 < cLine := by
      have := hr.un
      omega
    have hc := T.c_Sheet
    have hn1 := T.n_Sheet_base
    have hn2 := T.n_Sheet_steps
    refine ⟨_, (pss_cons (ps_set (i := 2) sc_counts.nd rfl (Or.inl rfl) (pe_tup (pa_cons (pe_op op_sub (pe_ix (ix_tK K) (pv 1) pe_int (fun _ _ => rfl)) (pe_ix (ix_tK K) (pe_fld (pv 0) rfl) pe_int (fun _ _ => rfl))) (pa_cons (pe_op op_sub (pe_ix (ix_tK K) (pv 1) pe_int (fun _ _ => rfl)) (pe_ix (ix_tK K) (pe_fld (pv 0) rfl) pe_int (fun _ _ => rfl))) pa_nil))))
    (pss_cons (ps_if (pt_not (pt_truth (pe_fld (pv 0) rfl) (fun _ => rfl))) (pss_one (ps_ret (pe_ifExp (pt_cmpR (op_eqK K rfl hu64) (pv 2) (pe_tup (pa_cons pe_int (pa_cons pe_int pa_nil))) (nomark _)) (pe_tup pa_nil) pe_non))) pss_nil)
    (pss_cons (ps_set (i := 3) sc_counts.nd rfl (Or.inl rfl) (pe_ix (ix_tK K) (pe_fld (pv 0) rfl) pe_int (fun _ _ => rfl)))
    (pss_cons (ps_if (pt_cmpR op_eq (pe_callB call_len_seq (by rfl) T.z_len (by decide +kernel) (pa_cons (pe_fld (pv 0) rfl) pa_nil)) pe_int (nomark _)) (pss_cons (ps_set (i := 4) sc_counts.nd rfl (Or.inl rfl) (pe_ix (ix_tK K) (pe_fld (pv 0) rfl) pe_int (fun _ _ => rfl)))
    (pss_one (ps_ret (pe_call (ok_pexact T) (hr.mono (by decide)) rfl T.d_pexact.m T.d_pexact.F.kp T.d_pexact.b .nil pass0 (pa_cons (pe_tup (pa_cons (pe_call (ok_pcross T) (hr.mono (by decide)) rfl T.d_pcross.m T.d_pcross.F.kp T.d_pcross.b .nil pass0 (pa_cons (pv 2) (pa_cons (pv 4) pa_nil))) (pa_cons (pe_call (ok_pcross T) (hr.mono (by decide)) rfl T.d_pcross.m T.d_pcross.F.kp T.d_pcross.b .nil pass0 (pa_cons (pv 3) (pa_cons (pv 2) pa_nil))) pa_nil))) (pa_cons (pe_call (ok_pcross T) (hr.mono (by decide)) rfl T.d_pcross.m T.d_pcross.F.kp T.d_pcross.b .nil pass0 (pa_cons (pv 3) (pa_cons (pv 4) pa_nil))) pa_nil)))))) pss_nil)
    (pss_cons (ps_if (pt_cmpR op_ne (pe_call (ok_pcross T) (hr.mono (by decide)) rfl T.d_pcross.m T.d_pcross.F.kp T.d_pcross.b .nil pass0 (pa_cons (pv 3) (pa_cons (pv 2) pa_nil))) pe_int (nomark _)) (pss_one (ps_ret pe_non)) pss_nil)
    (pss_one (ps_ret (pe_call (ok_pexact T) (hr.mono (by decide)) rfl T.d_pexact.m T.d_pexact.F.kp T.d_pexact.b .nil pass0 (pa_cons (pe_tup (pa_cons (pe_op op_add (pe_op op_mulW (pe_ix (ix_tK K) (pv 3) pe_int (fun _ _ => rfl)) (pe_ix (ix_tK K) (pv 2) pe_int (fun _ _ => rfl))) (pe_op op_mulW (pe_ix (ix_tK K) (pv 3) pe_int (fun _ _ => rfl)) (pe_ix (ix_tK K) (pv 2) pe_int (fun _ _ => rfl)))) pa_nil)) (pa_cons (pe_op op_add (pe_op op_mulW (pe_ix (ix_tK K) (pv 3) pe_int (fun _ _ => rfl)) (pe_ix (ix_tK K) (pv 3) pe_int (fun _ _ => rfl))) (pe_op op_mulW (pe_ix (ix_tK K) (pv 3) pe_int (fun _ _ => rfl)) (pe_ix (ix_tK K) (pv 3) pe_int (fun _ _ => rfl)))) pa_nil)))))))))), ?_⟩
    try dsimp only [cxOf]
    rw [show L2.start N_counts [V.ref p, v] = [some (V.ref p), some v, none, none, none] from rfl]
    with_reducible refine s_set (K := K) (d := dC (S.way c)) ?t ?_
    case t =>
      show Ev K _ _ _ (.tuple [.int (c.1 - S.base.1), .int (c.2 - S.base.2)])
      walk_at "ev"
    intro vw H1 s1 rw1
    have bw : BdC 2001 (S.way c) := ⟨(bc.1.sub ok.b0.1).mono (by decide), (bc.2.sub ok.b0.2).mono (by decide)⟩
    with_reducible refine s_ifr (c := !(!(S.steps.map dC).isEmpty)) (evb_not (evb_truT (K := K) ?t)) (fun ht H2 s2 => ?_) (fun hf H2 s2 => ?_)
    case t => walk_at "ev"
    · have e0 : S.steps = [] := by
        cases e : S.steps with
        | nil => rfl
        | cons a l => rw [e] at ht; simp at ht
      have ec : S.counts c = if S.way c = (0, 0) then some [] else none := by unfold Sh.counts; rw [e0]
      rw [ec] at k
      with_reducible refine s_ret (K := K) (d := dO (if S.way c = (0, 0) then some [] else none)) (ev_if (c := decide (S.way c = (0, 0))) (evb_test (K := K) ?t) (fun h => ?a) (fun h => ?b)) ?_
      case t =>
        rw [← eqv_dC]
        with_reducible refine ev_eqD ?x ?y (shaped_dC _) (shaped_dC _)
        case x => walk_at "ev"
        case y => walk_at "ev"
      case a =>
        rw [if_pos (of_decide_eq_true h)]
        exact ev_tup eva_nil
      case b =>
        rw [if_neg (of_decide_eq_false h)]
        exact ev_non
      exact fun v H3 s3 r => k v H3 ((s1.trans s2).trans s3) r
    cases hst : S.steps with
    | nil => rw [hst] at hf; simp at hf
    | cons f l1 =>
      have hb2 := ok.b2
      have hs2 := ok.st
      have hS3 : Ev K (tFld K (tVar 0) "steps") [some (V.ref p), some v, some vw, none, none] H2 (dCs (f :: l1)) := by
        rw [← hst]
        walk_at "ev"
      rw [hst] at hb2 hs2
      have bf : BdC 400 f := hb2 f (by simp)
      refine s_set (K := K) (d := dC f) (ev_ix hS3 (atI_nat (j := 0) rfl)) ?_
      intro vf H3 s3 rf
      have hS4 : ∀ H4, Same H3 H4 → ∀ q, Ev K (tFld K (tVar 0) "steps") [some (V.ref p), some v, some vw, some vf, q] H4 (dCs (f :: l1)) := fun H4 s4 q => by
        rw [← hst]
        walk_at "ev"
      refine s_ifr (c := decide (((((f :: l1).map dC).length : Nat) : Int) = 2)) (evb_test (K := K) (ev_eqI (ev_lenT (eva_cons (hS4 H3 (Same.refl H3) none) eva_nil)) ev_int)) (fun ht H4 s4 => ?_) (fun hf2 H4 s4 => ?_)
      · cases l1 with
        | nil => simp at ht
        | cons g l2 =>
          have e2 : l2 = [] := by
            cases l2 with
            | nil => rfl
            | cons a b => simp at ht; omega
          subst e2
          have bg : BdC 400 g := hb2 g (by simp)
          have b0 : cr f g ≠ 0 := by
            intro e
            simp [areSteps, e] at hs2
          have ec : S.counts c = exactF [cr (S.way c) g, cr f (S.way c)] (cr f g) := by unfold Sh.counts; rw [hst]
          rw [ec] at k
          refine s_set (K := K) (d := dC g) (ev_ix (hS4 H4 s4 none) (atI_nat (j := 1) rfl)) ?_
          intro vg H5 s5 rg
          with_reducible refine s_ret (K := K) (d := dO (exactF [cr (S.way c) g, cr f (S.way c)] (cr f g))) (ev_exact ?x1 ?x2 ?x3 b0 ?x4) ?_
          case x1 =>
            refine ev_tup (eva_cons (ev_cross (a := S.way c) (b := g) ?_ ?_ (bw.mono (by decide)) (bg.mono (by decide))) (eva_cons (ev_cross (a := f) (b := S.way c) ?_ ?_ (bf.mono (by decide)) (bw.mono (by decide))) eva_nil)) (Nat.le_of_ble_eq_true rfl)
            all_goals walk_at "ev"
          case x2 =>
            refine ev_cross (a := f) (b := g) ?_ ?_ (bf.mono (by decide)) (bg.mono (by decide))
            all_goals walk_at "ev"
          case x3 => exact (by decide : 2 ≤ 1000)
          case x4 => exact (Bd.cr bf bg).mono (by decide)
          exact fun v H6 s6 r => k v H6 (((((s1.trans s2).trans s3).trans s4).trans s5).trans s6) r
      · cases l1 with
        | cons g l2 =>
          cases l2 with
          | nil => simp at hf2
          | cons a b => exact absurd (areSteps_len hs2) (by simp)
        | nil =>
          have f0 : ¬ f = (0, 0) := by
            intro e
            simp [areSteps, e] at hs2
          obtain ⟨bf1, bf2⟩ := bf
          obtain ⟨bw1, bw2⟩ := bw
          have ec : S.counts c = if cr f (S.way c) = 0 then exactF [f.1 * (S.way c).1 + f.2 * (S.way c).2] (f.1 * f.1 + f.2 * f.2) else none := by unfold Sh.counts; rw [hst]
          with_reducible refine s_ifr (c := !decide (cr f (S.way c) = 0)) (evb_test (K := K) (ev_neI (ev_cross (a := f) (b := S.way c) ?t1 ?t2 ?b1 ?b2) ev_int)) (fun ht H5 s5 => ?_) (fun hf3 H5 s5 => ?_)
          case t1 => walk_at "ev"
          case t2 => walk_at "ev"
          case b1 => exact ⟨bf1.mono (by decide), bf2.mono (by decide)⟩
          case b2 => exact ⟨bw1.mono (by decide), bw2.mono (by decide)⟩
          · have e3 : ¬ cr f (S.way c) = 0 := by simpa using ht
            rw [ec, if_neg e3] at k
            with_reducible refine s_ret (K := K) ev_non ?_
            exact fun v H6 s6 r => k v H6 (((((s1.trans s2).trans s3).trans s4).trans s5).trans s6) r
          · have e3 : cr f (S.way c) = 0 := by simpa using hf3
            rw [ec, if_pos e3] at k
            with_reducible refine s_ret (K := K) (d := dO (exactF [f.1 * (S.way c).1 + f.2 * (S.way c).2] (f.1 * f.1 + f.2 * f.2))) (ev_exact ?x1 ?x2 ?x3 (sq_pos f0) ?x4) ?_
            case x1 =>
              show Ev K _ _ _ (.tuple [.int (f.1 * (S.way c).1 + f.2 * (S.way c).2)])
              generalize S.way c = W at *
              walk_at "ev"
            case x2 => walk_at "ev"
            case x3 => exact (by decide : 1 ≤ 1000)
            case x4 => exact (Bd.add (Bd.mul bf1 bf1) (Bd.mul bf2 bf2)).mono (by decide)
            exact fun v H6 s6 r => k v H6 (((((s1.trans s2).trans s3).trans s4).trans s5).trans s6) r
end
end LW
namespace LW
open PySem L2 LB
local macro_rules | `(tactic| walk_at "hp") => `(tactic| first
  | (with_reducible assumption) | (with_reducible exact Rep.int _) | (with_reducible exact Rep.bl _) | (with_reducible exact Rep.non) | (with_reducible exact Rep.str _)
  | ((with_reducible refine' Rep.same ?kk ?hh); (case kk => with_reducible assumption); (case hh => walk_at "hp"))
  | ((with_reducible refine' Rep.kt ?kk ?hh); (case kk => with_reducible assumption); (case hh => walk_at "hp")))
local macro_rules | `(tactic| walk_at "bd") => `(tactic| first
  | (with_reducible assumption)
  | exact bd_lit (n := 64) (by decide)
  | (with_reducible refine' Bd.mul ?_ ?_) <;> walk_at "bd"
  | (with_reducible refine' Bd.add ?_ ?_) <;> walk_at "bd"
  | (with_reducible refine' Bd.sub ?_ ?_) <;> walk_at "bd"
  | (with_reducible refine' Bd.neg ?_) <;> walk_at "bd")
local macro_rules | `(tactic| walk_at "ev") => `(tactic| first
  | (with_reducible exact ev_int) | (with_reducible exact ev_bl) | (with_reducible exact ev_non) | (with_reducible exact ev_str)
  | ((with_reducible refine' ev_var ?e ?hh); (case e => rfl); (case hh => walk_at "hp"))
  | (with_reducible refine' ev_add ?_ ?_) <;> walk_at "ev"
  | (with_reducible refine' ev_sub ?_ ?_) <;> walk_at "ev"
  | ((with_reducible refine' ev_mul ?m1 ?m2 ?m3); (case m1 => walk_at "ev"); (case m2 => walk_at "ev"); (case m3 => (refine' Bd.mulW ?b1 ?b2 ?b3; (case b1 => walk_at "bd"); (case b2 => walk_at "bd"); (case b3 => decide))))
  | ((with_reducible refine' ev_ix ?m1 ?m2); (case m1 => walk_at "ev"); (case m2 => rfl))
  | ((with_reducible refine' ev_tup ?m1 ?m2); (case m1 => walk_at "eva"); (case m2 => exact Nat.le_of_ble_eq_true rfl))
  | (with_reducible refine' ev_neg ?_) <;> walk_at "ev"
  | (with_reducible refine' ev_lt ?_ ?_) <;> walk_at "ev"
  | (with_reducible refine' ev_le ?_ ?_) <;> walk_at "ev"
  | (with_reducible refine' ev_gt ?_ ?_) <;> walk_at "ev"
  | (with_reducible refine' ev_ge ?_ ?_) <;> walk_at "ev"
  | (with_reducible refine' ev_eqI ?_ ?_) <;> walk_at "ev"
  | (with_reducible refine' ev_neI ?_ ?_) <;> walk_at "ev"
  | (with_reducible refine' ev_intI ?_) <;> walk_at "eva"
  | (with_reducible refine' ev_lenT ?_) <;> walk_at "eva"
  | walk_at "evx")
local macro_rules | `(tactic| walk_at "eva") => `(tactic| first
  | (with_reducible exact eva_nil)
  | ((with_reducible refine' eva_cons ?v1 ?v2); (case v1 => walk_at "ev"); (case v2 => walk_at "eva")))
local macro_rules | `(tactic| walk_at "evx") => `(tactic| first
  | ((with_reducible refine' ev_pget ?a ?b ?c); (case a => rfl); (case b => with_reducible assumption); (case c => first | (with_reducible exact p_at _) | (with_reducible exact p_dg _) | (with_reducible exact p_ct _) | (with_reducible exact p_fo _))))
local macro_rules | `(tactic| walk_at "sh") => `(tactic| first
  | (with_reducible assumption)
  | ((with_reducible refine' ShAt.same ?hh ?kk); (case kk => with_reducible assumption); (case hh => walk_at "sh"))
  | ((with_reducible refine' ShAt.kt ?hh ?kk); (case kk => with_reducible assumption); (case hh => walk_at "sh")))
local macro_rules | `(tactic| walk_at "evx") => `(tactic| first
  | ((with_reducible refine' ev_base ?e ?h ?c ?n); (case e => rfl); (case h => walk_at "sh"); (case c => with_reducible assumption); (case n => with_reducible assumption))
  | ((with_reducible refine' ev_price ?e ?h ?c ?n); (case e => rfl); (case h => walk_at "sh"); (case c => with_reducible assumption); (case n => with_reducible assumption))
  | ((with_reducible refine' ev_steps ?e ?h ?c ?n); (case e => rfl); (case h => walk_at "sh"); (case c => with_reducible assumption); (case n => with_reducible assumption))
  | ((with_reducible refine' ev_prices ?e ?h ?c ?n); (case e => rfl); (case h => walk_at "sh"); (case c => with_reducible assumption); (case n => with_reducible assumption)))
section
variable {P : Program} {w : World} {K : Fr} {mg : Str → Option Value} {base : Heap}
theorem ok_contains (T : Txt K mg) : FnOk P w K mg base CX0 4 T.a_contains T.f_contains ["self", "cell"] (spContains K T.C_Sheet) := by
  refine T.d_contains.F.ok sc_contains (fun vs H Q E h => ?_) (fun cdv A outer s H vs Q E hr h => ?_)
  · obtain ⟨p, S, v, x, d, rfl, _⟩ := h
    rfl
  · obtain ⟨p, S, v, x, d, rfl, hS, ok, rv, ⟨c, rfl, bc, rfl⟩, k⟩ := h
    refine ⟨_, (pss_one (ps_ret (pe_cmp (pc_notN (pe_meth (pv 0) T.c_Sheet T.d_counts.m (ok_counts T) (hr.mono (by decide)) T.b_counts .nil pass0 (pa_cons (pv 1) pa_nil)))))), ?_⟩
    try dsimp only [cxOf]
    rw [show L2.start N_contains [V.ref p, v] = [some (V.ref p), some v] from rfl]
    refine s_ret (K := K) (d := .bool (!isN (dO (S.counts c)))) (ev_notN (ev_meth (x := dC c) rfl hS ok ?_ ⟨c, rfl, bc, rfl⟩ (by decide +kernel))) fun v H1 s1 r => k v H1 s1 ?_
    · walk_at "ev"
    · cases e : S.counts c <;> (rw [e] at r; exact r)
theorem ok_price_at (T : Txt K mg) : FnOk P w K mg base CX0 4 T.a_price_at T.f_price_at ["self", "cell"] (spPriceAt K T.C_Sheet) := by
  refine T.d_price_at.F.ok sc_price_at (fun vs H Q E h => ?_) (fun cdv A outer s H vs Q E hr h => ?_)
  · obtain ⟨p, S, v, x, d, rfl, _⟩ := h
    rfl
  · obtain ⟨p, S, v, x, d, rfl, hS, ok, rv, ⟨c, rfl, bc, rfl⟩, k⟩ := h
    have hc := T.c_Sheet
    have hn1 := T.n_Sheet_price
    have hn2 := T.n_Sheet_prices
    refine ⟨_, (pss_cons (ps_set (i := 2) sc_price_at.nd rfl (Or.inl rfl) (pe_meth (pv 0) T.c_Sheet T.d_counts.m (ok_counts T) (hr.mono (by decide)) T.b_counts .nil pass0 (pa_cons (pv 1) pa_nil)))
    (pss_cons (ps_if (pt_cmp (pc_isN (pv 2))) (pss_one (ps_ret pe_non)) pss_nil)
    (pss_one (ps_ret (pe_op op_add (pe_fld (pv 0) rfl) (pe_callB (cr_sum rfl) (by rfl) T.z_sum (by decide +kernel) (pa_cons (pe_lc (own := [("count", 3), ("price", 4)]) (g := gTup _ 2 (gCons (gName 3) (gCons (gName 4) gNil))) rfl sc_price_at.nd (RZ.pi_zipA rfl T.z_zip (pa_cons (pv 2) (pa_cons (pe_fld (pv 0) rfl) pa_nil))) (blkOk_by (N := N_price_at) (sc := defScope s_price_at) (by decide +kernel)) (fun _ _ _ _ _ => (pg_tup rfl (pgs_cons (pg_name (i := 3) sc_price_at.nd rfl (Or.inl rfl)) (pgs_cons (pg_name (i := 4) sc_price_at.nd rfl (Or.inl rfl)) pgs_nil)))) (fun _ _ _ _ _ => pts_nil) (fun _ _ _ _ _ => (pe_op op_mulW (pv 3) (pv 4)))) pa_nil))))))), ?_⟩
    try dsimp only [cxOf, List.map]
    rw [show L2.start N_price_at [V.ref p, v] = [some (V.ref p), some v, none, none, none] from rfl]
    refine s_set (K := K) (d := dO (S.counts c)) (ev_meth (x := dC c) rfl hS ok ?_ ⟨c, rfl, bc, rfl⟩ (by decide +kernel)) fun vn H1 s1 rn => ?_
    · walk_at "ev"
    rw [show ([some (V.ref p), some v, none, none, none] : L2.St).set 2 (some vn) = [some (V.ref p), some v, some vn, none, none] from rfl]
    with_reducible refine s_ifr (c := isN (dO (S.counts c))) (evb_b (K := K) (ev_isN ?t)) (fun ht H2 s2 => ?_) (fun hf H2 s2 => ?_)
    case t => walk_at "ev"
    · cases e : S.counts c with
      | some n => rw [e] at ht; exact absurd ht (by simp [dO, isN])
      | none =>
        have e2 : S.priceAt c = none := by unfold Sh.priceAt; rw [e]; rfl
        rw [e2] at k
        with_reducible refine s_ret (K := K) ev_non ?_
        exact fun v H3 s3 r => k v H3 ((s1.trans s2).trans s3) r
    · cases e : S.counts c with
      | none => rw [e] at hf; exact absurd hf (by simp [dO, isN])
      | some n =>
        have bn := counts_bd ok bc e
        have e2 : S.priceAt c = some (S.priceOf n) := by unfold Sh.priceAt; rw [e]; rfl
        rw [e2] at k
        rw [e] at rn
        have rn' : Rep K H1 vn (dIs n) := rn
        have hb3 := ok.b3
        with_reducible refine s_ret (K := K) (d := .int (S.priceOf n)) (ev_add ?t1 (ev_sum (evl_zipmap .int .int (fun a b => a * b) (by decide) ?t2 ?t3 ?t4 ?t5))) ?_
        case t1 => walk_at "ev"
        case t2 => walk_at "ev"
        case t3 => walk_at "ev"
        case t4 => exact Nat.le_trans bn.1 (by decide)
        case t5 =>
          intro x hx y hy vx vy H3 s3 rx ry
          have b1 := bn.2 x hx
          have b2 := hb3 y hy
          walk_at "ev"
        exact fun v H3 s3 r => k v H3 ((s1.trans s2).trans s3) r
theorem ok_cell_of (T : Txt K mg) : FnOk P w K mg base CX0 2 T.a_cell_of T.f_cell_of ["self", "counts"] (spCellOf K T.C_Sheet) := by
  refine T.d_cell_of.F.ok sc_cell_of (fun vs H Q E h => ?_) (fun cdv A outer s H vs Q E hr h => ?_)
  · obtain ⟨p, S, v, x, d, rfl, _⟩ := h
    rfl
  · obtain ⟨p, S, v, x, d, rfl, hS, ok, rv, ⟨n, rfl, ln, bn, rfl⟩, k⟩ := h
    have hc := T.c_Sheet
    have hn1 := T.n_Sheet_base
    have hn2 := T.n_Sheet_steps
    have hb2 := ok.b2
    have hl : n.length ≤ 1000 := by have := areSteps_len ok.st; omega
    refine ⟨_, (pss_cons (ps_set (i := 2) sc_cell_of.nd rfl (Or.inl rfl) (pe_op op_add (pe_ix (ix_tK K) (pe_fld (pv 0) rfl) pe_int (fun _ _ => rfl)) (pe_callB (cr_sum rfl) (by rfl) T.z_sum (by decide +kernel) (pa_cons (pe_lc (own := [("count", 4), ("step", 5)]) (g := gTup _ 2 (gCons (gName 4) (gCons (gName 5) gNil))) rfl sc_cell_of.nd (RZ.pi_zipA rfl T.z_zip (pa_cons (pv 1) (pa_cons (pe_fld (pv 0) rfl) pa_nil))) (blkOk_by (N := N_cell_of) (sc := defScope s_cell_of) (by decide +kernel)) (fun _ _ _ _ _ => (pg_tup rfl (pgs_cons (pg_name (i := 4) sc_cell_of.nd rfl (Or.inl rfl)) (pgs_cons (pg_name (i := 5) sc_cell_of.nd rfl (Or.inl rfl)) pgs_nil)))) (fun _ _ _ _ _ => pts_nil) (fun _ _ _ _ _ => (pe_op op_mulW (pv 4) (pe_ix (ix_tK K) (pv 5) pe_int (fun _ _ => rfl))))) pa_nil))))
    (pss_cons (ps_set (i := 3) sc_cell_of.nd rfl (Or.inl rfl) (pe_op op_add (pe_ix (ix_tK K) (pe_fld (pv 0) rfl) pe_int (fun _ _ => rfl)) (pe_callB (cr_sum rfl) (by rfl) T.z_sum (by decide +kernel) (pa_cons (pe_lc (own := [("count", 4), ("step", 5)]) (g := gTup _ 2 (gCons (gName 4) (gCons (gName 5) gNil))) rfl sc_cell_of.nd (RZ.pi_zipA rfl T.z_zip (pa_cons (pv 1) (pa_cons (pe_fld (pv 0) rfl) pa_nil))) (blkOk_by (N := N_cell_of) (sc := defScope s_cell_of) (by decide +kernel)) (fun _ _ _ _ _ => (pg_tup rfl (pgs_cons (pg_name (i := 4) sc_cell_of.nd rfl (Or.inl rfl)) (pgs_cons (pg_name (i := 5) sc_cell_of.nd rfl (Or.inl rfl)) pgs_nil)))) (fun _ _ _ _ _ => pts_nil) (fun _ _ _ _ _ => (pe_op op_mulW (pv 4) (pe_ix (ix_tK K) (pv 5) pe_int (fun _ _ => rfl))))) pa_nil))))
    (pss_one (ps_ret (pe_tup (pa_cons (pv 2) (pa_cons (pv 3) pa_nil))))))), ?_⟩
    try dsimp only [cxOf, List.map]
    rw [show L2.start N_cell_of [V.ref p, v] = [some (V.ref p), some v, none, none, none, none] from rfl]
    with_reducible refine s_set (K := K) (d := .int (S.cellOf n).1) (ev_add ?t1 (ev_sum (evl_zipmap .int dC (fun a b => a * b.1) (by decide) ?t2 ?t3 hl ?t5))) ?_
    case t1 => walk_at "ev"
    case t2 => walk_at "ev"
    case t3 => walk_at "ev"
    case t5 =>
      intro x hx y hy vx vy H3 s3 rx ry
      have b1 := bn x hx
      obtain ⟨b2, b3⟩ := hb2 y hy
      walk_at "ev"
    intro v1 H1 s1 r1
    rw [show ([some (V.ref p), some v, none, none, none, none] : L2.St).set 2 (some v1) = [some (V.ref p), some v, some v1, none, none, none] from rfl]
    with_reducible refine s_set (K := K) (d := .int (S.cellOf n).2) (ev_add ?t1 (ev_sum (evl_zipmap .int dC (fun a b => a * b.2) (by decide) ?t2 ?t3 hl ?t5))) ?_
    case t1 => walk_at "ev"
    case t2 => walk_at "ev"
    case t3 => walk_at "ev"
    case t5 =>
      intro x hx y hy vx vy H3 s3 rx ry
      have b1 := bn x hx
      obtain ⟨b2, b3⟩ := hb2 y hy
      walk_at "ev"
    intro v2 H2 s2 r2
    with_reducible refine s_ret (K := K) (d := dC (S.cellOf n)) ?t ?_
    case t => walk_at "ev"
    exact fun v H3 s3 r => k v H3 ((s1.trans s2).trans s3) r
end
end LW
namespace LW
open PySem L2 LB
local macro_rules | `(tactic| walk_at "hp") => `(tactic| first
  | (with_reducible assumption) | (with_reducible exact Rep.int _) | (with_reducible exact Rep.bl _) | (with_reducible exact Rep.non) | (with_reducible exact Rep.str _)
  | ((with_reducible refine' Rep.same ?kk ?hh); (case kk => with_reducible assumption); (case hh => walk_at "hp"))
  | ((with_reducible refine' Rep.kt ?kk ?hh); (case kk => with_reducible assumption); (case hh => walk_at "hp")))
local macro_rules | `(tactic| walk_at "bd") => `(tactic| first
  | (with_reducible assumption)
  | exact bd_lit (n := 64) (by decide)
  | (with_reducible refine' Bd.mul ?_ ?_) <;> walk_at "bd"
  | (with_reducible refine' Bd.add ?_ ?_) <;> walk_at "bd"
  | (with_reducible refine' Bd.sub ?_ ?_) <;> walk_at "bd"
  | (with_reducible refine' Bd.neg ?_) <;> walk_at "bd")
local macro_rules | `(tactic| walk_at "ev") => `(tactic| first
  | (with_reducible exact ev_int) | (with_reducible exact ev_bl) | (with_reducible exact ev_non) | (with_reducible exact ev_str)
  | ((with_reducible refine' ev_var ?e ?hh); (case e => rfl); (case hh => walk_at "hp"))
  | (with_reducible refine' ev_add ?_ ?_) <;> walk_at "ev"
  | (with_reducible refine' ev_sub ?_ ?_) <;> walk_at "ev"
  | ((with_reducible refine' ev_mul ?m1 ?m2 ?m3); (case m1 => walk_at "ev"); (case m2 => walk_at "ev"); (case m3 => (refine' Bd.mulW ?b1 ?b2 ?b3; (case b1 => walk_at "bd"); (case b2 => walk_at "bd"); (case b3 => decide))))
  | ((with_reducible refine' ev_ix ?m1 ?m2); (case m1 => walk_at "ev"); (case m2 => rfl))
  | ((with_reducible refine' ev_tup ?m1 ?m2); (case m1 => walk_at "eva"); (case m2 => exact Nat.le_of_ble_eq_true rfl))
  | (with_reducible refine' ev_neg ?_) <;> walk_at "ev"
  | (with_reducible refine' ev_lt ?_ ?_) <;> walk_at "ev"
  | (with_reducible refine' ev_le ?_ ?_) <;> walk_at "ev"
  | (with_reducible refine' ev_gt ?_ ?_) <;> walk_at "ev"
  | (with_reducible refine' ev_ge ?_ ?_) <;> walk_at "ev"
  | (with_reducible refine' ev_eqI ?_ ?_) <;> walk_at "ev"
  | (with_reducible refine' ev_neI ?_ ?_) <;> walk_at "ev"
  | (with_reducible refine' ev_intI ?_) <;> walk_at "eva"
  | (with_reducible refine' ev_lenT ?_) <;> walk_at "eva"
  | walk_at "evx")
local macro_rules | `(tactic| walk_at "eva") => `(tactic| first
  | (with_reducible exact eva_nil)
  | ((with_reducible refine' eva_cons ?v1 ?v2); (case v1 => walk_at "ev"); (case v2 => walk_at "eva")))
local macro_rules | `(tactic| walk_at "evx") => `(tactic| first
  | ((with_reducible refine' ev_pget ?a ?b ?c); (case a => rfl); (case b => with_reducible assumption); (case c => first | (with_reducible exact p_at _) | (with_reducible exact p_dg _) | (with_reducible exact p_ct _) | (with_reducible exact p_fo _))))
local macro_rules | `(tactic| walk_at "sh") => `(tactic| first
  | (with_reducible assumption)
  | ((with_reducible refine' ShAt.same ?hh ?kk); (case kk => with_reducible assumption); (case hh => walk_at "sh"))
  | ((with_reducible refine' ShAt.kt ?hh ?kk); (case kk => with_reducible assumption); (case hh => walk_at "sh")))
local macro_rules | `(tactic| walk_at "evx") => `(tactic| first
  | ((with_reducible refine' ev_base ?e ?h ?c ?n); (case e => rfl); (case h => walk_at "sh"); (case c => with_reducible assumption); (case n => with_reducible assumption))
  | ((with_reducible refine' ev_price ?e ?h ?c ?n); (case e => rfl); (case h => walk_at "sh"); (case c => with_reducible assumption); (case n => with_reducible assumption))
  | ((with_reducible refine' ev_steps ?e ?h ?c ?n); (case e => rfl); (case h => walk_at "sh"); (case c => with_reducible assumption); (case n => with_reducible assumption))
  | ((with_reducible refine' ev_prices ?e ?h ?c ?n); (case e => rfl); (case h => walk_at "sh"); (case c => with_reducible assumption); (case n => with_reducible assumption)))
section
variable {P : Program} {w : World} {K : Fr} {mg : Str → Option Value} {base : Heap}
/-! ### the law's own defs, without draws -/
theorem ok_lcross (T : Txt K mg) : FnOk P w K mg base CX0 1 T.a_lcross T.f_lcross ["_law_one", "_law_two"] (spCross K) := by
  refine T.d_lcross.F.ok sc_lcross (fun vs H Q E h => ?_) (fun cdv A outer s H vs Q E hr h => ?_)
  · obtain ⟨ds, d, hv, ⟨a, b, rfl, _⟩, _⟩ := h
    exact hv.len
  · obtain ⟨ds, d, hv, ⟨a, b, rfl, ⟨ba1, ba2⟩, ⟨bb1, bb2⟩, rfl⟩, k⟩ := h
    obtain ⟨v1, v2, rfl, r1, r2⟩ := hv.inv2
    refine ⟨_, (pss_one (ps_ret (pe_op op_sub (pe_op op_mulW (pe_ix (ix_tK K) (pv 0) pe_int (fun _ _ => rfl)) (pe_ix (ix_tK K) (pv 1) pe_int (fun _ _ => rfl))) (pe_op op_mulW (pe_ix (ix_tK K) (pv 0) pe_int (fun _ _ => rfl)) (pe_ix (ix_tK K) (pv 1) pe_int (fun _ _ => rfl)))))), ?_⟩
    try dsimp only [cxOf]
    rw [show L2.start N_lcross [v1, v2] = [some v1, some v2] from rfl]
    with_reducible refine s_ret (K := K) (d := .int (a.1 * b.2 - a.2 * b.1)) ?t ?_
    case t => walk_at "ev"
    exact fun v H1 s1 r => k v H1 s1 r
theorem ok_lexact0 (T : Txt K mg) : FnOk P w K mg base CX0 1 T.a_lexact T.f_lexact ["_law_told", "_law_due"] (spExact0 K) := by
  refine T.d_lexact.F.ok sc_lexact (fun vs H Q E h => ?_) (fun cdv A outer s H vs Q E hr h => ?_)
  · obtain ⟨ds, d, hv, ⟨i, rfl, _⟩, _⟩ := h
    exact hv.len
  · obtain ⟨ds, d, hv, ⟨i, rfl, rfl⟩, k⟩ := h
    obtain ⟨v1, v2, rfl, r1, r2⟩ := hv.inv2
    refine ⟨_, (pss_cons (ps_if (pt_val (pe_callB call_isi (by rfl) T.z_isinstance (by decide +kernel) (pa_cons (pv 1) (pa_cons (pe_bltn (v := .ty "tuple") (u := .type "tuple") rfl T.z_tuple (by decide +kernel) rfl) pa_nil)))) pss_never pss_nil)
      (pss_one (ps_ret (pe_and (pe_cmpR op_eq (pe_callB call_isi (by rfl) T.z_isinstance (by decide +kernel) (pa_cons (pv 0) (pa_cons (pe_bltn (v := .ty "bool") (u := .type "bool") rfl T.z_bool (by decide +kernel) rfl) pa_nil))) (pe_callB call_isi (by rfl) T.z_isinstance (by decide +kernel) (pa_cons (pv 1) (pa_cons (pe_bltn (v := .ty "bool") (u := .type "bool") rfl T.z_bool (by decide +kernel) rfl) pa_nil))) (nomark _)) (pe_one (pe_cmpR op_eq (pv 0) (pv 1) (nomark _))))))), ?_⟩
    try dsimp only [cxOf]
    rw [show L2.start N_lexact [v1, v2] = [some v1, some v2, none, none] from rfl]
    refine s_ifr (c := false) (evb_b (K := K) (ev_isi (d := .int i) ?_ (show kitB "int" "tuple" = some false by decide +kernel))) (fun ht H1 s1 => by cases ht) (fun hf H1 s1 => ?_)
    · walk_at "ev"
    refine s_ret (K := K) (d := .bool (decide (false = false) && decide (i = i))) (ev_andV (ev_eqB (ev_isi (d := .int i) ?_ (show kitB "int" "bool" = some false by decide +kernel)) (ev_isi (d := .int i) ?_ (show kitB "int" "bool" = some false by decide +kernel))) fun _ => ?_) fun v H2 s2 r => k v H2 (s1.trans s2) (by simpa using r)
    all_goals walk_at "ev"
theorem ok_lexactT (T : Txt K mg) : FnOk P w K mg base CX0 2 T.a_lexact T.f_lexact ["_law_told", "_law_due"] (spExact1 K) := by
  refine T.d_lexact.F.ok sc_lexact (fun vs H Q E h => ?_) (fun cdv A outer s H vs Q E hr h => ?_)
  · obtain ⟨ds, d, hv, ⟨l, rfl, _⟩, _⟩ := h
    exact hv.len
  · obtain ⟨ds, d, hv, ⟨l, rfl, hl, rfl⟩, k⟩ := h
    obtain ⟨v1, v2, rfl, r1, r2⟩ := hv.inv2
    refine ⟨_, (pss_cons (ps_if (pt_val (pe_callB call_isi (by rfl) T.z_isinstance (by decide +kernel) (pa_cons (pv 1) (pa_cons (pe_bltn (v := .ty "tuple") (u := .type "tuple") rfl T.z_tuple (by decide +kernel) rfl) pa_nil)))) (pss_cons (ps_if (PW.pt (pw_or (pt_not (pt_val (pe_callB call_isi (by rfl) T.z_isinstance (by decide +kernel) (pa_cons (pv 0) (pa_cons (pe_bltn (v := .ty "tuple") (u := .type "tuple") rfl T.z_tuple (by decide +kernel) rfl) pa_nil))))) (pw_or1 (pt_cmpR op_ne (pe_callB call_len_seq (by rfl) T.z_len (by decide +kernel) (pa_cons (pv 0) pa_nil)) (pe_callB call_len_seq (by rfl) T.z_len (by decide +kernel) (pa_cons (pv 1) pa_nil)) (nomark _))))) (pss_one (ps_ret pe_bl)) pss_nil)
    (pss_one (ps_ret (pe_callB (cr_all rfl) (by rfl) T.z_all (by decide +kernel) (pa_cons (pe_lc (own := [("_law_one", 2), ("_law_other", 3)]) (g := gTup _ 2 (gCons (gName 2) (gCons (gName 3) gNil))) rfl sc_lexact.nd (RZ.pi_zipA rfl T.z_zip (pa_cons (pv 0) (pa_cons (pv 1) pa_nil))) (blkOk_by (N := N_lexact) (sc := defScope s_lexact) (by decide +kernel)) (fun _ _ _ _ _ => (pg_tup rfl (pgs_cons (pg_name (i := 2) sc_lexact.nd rfl (Or.inl rfl)) (pgs_cons (pg_name (i := 3) sc_lexact.nd rfl (Or.inl rfl)) pgs_nil)))) (fun _ _ _ _ _ => pts_nil) (fun _ _ _ _ _ => (pe_call (ok_lexact0 T) (hr.mono (by decide)) rfl T.d_lexact.m T.d_lexact.F.kp T.d_lexact.b .nil pass0 (pa_cons (pv 2) (pa_cons (pv 3) pa_nil))))) pa_nil))))) pss_nil)
    (pss_one (ps_ret (pe_and (pe_cmpR op_eq (pe_callB call_isi (by rfl) T.z_isinstance (by decide +kernel) (pa_cons (pv 0) (pa_cons (pe_bltn (v := .ty "bool") (u := .type "bool") rfl T.z_bool (by decide +kernel) rfl) pa_nil))) (pe_callB call_isi (by rfl) T.z_isinstance (by decide +kernel) (pa_cons (pv 1) (pa_cons (pe_bltn (v := .ty "bool") (u := .type "bool") rfl T.z_bool (by decide +kernel) rfl) pa_nil))) (nomark _)) (pe_one (pe_cmpR op_eq (pv 0) (pv 1) (nomark _))))))), ?_⟩
    try dsimp only [cxOf, List.map]
    rw [show L2.start N_lexact [v1, v2] = [some v1, some v2, none, none] from rfl]
    refine s_ifs (c := true) (evb_b (K := K) (ev_isi (d := dIs l) ?_ (show kitB "tuple" "tuple" = some true by decide +kernel))) (fun ht H1 s1 => ?_) (fun hf => by cases hf)
    · walk_at "ev"
    refine s_ifr (c := (!true) || !decide ((((l.map PyData.int).length : Nat) : Int) = ((l.map PyData.int).length : Nat))) (evb_or (evb_not (evb_b (K := K) (ev_isi (d := dIs l) ?_ (show kitB "tuple" "tuple" = some true by decide +kernel)))) fun _ => evb_test (K := K) (ev_neI ?_ ?_)) (fun ht H2 s2 => by simp at ht) (fun hf H2 s2 => ?_)
    · walk_at "ev"
    · walk_at "ev"
    · walk_at "ev"
    refine s_ret (K := K) (d := .bool ((l.map fun _ => true).all id)) (ev_all (evl_lcz (ds := l.map .int) (fs := l.map .int) (by decide) ?_ ?_ (by simp) (by simpa using hl) ?_)) ?_
    · walk_at "ev"
    · walk_at "ev"
    · intro m d f v w H3 hd hf s3 rv rw'
      rw [List.getElem?_map] at hd hf
      cases e : l[m]? with
      | none => rw [e] at hd; cases hd
      | some i =>
        rw [e] at hd hf
        cases hd
        cases hf
        refine ⟨.bool true, by simp [e], ?_⟩
        refine ev_call (ds := [.int i, .int i]) (eva_cons ?_ (eva_cons ?_ eva_nil)) ⟨i, rfl, rfl⟩
        all_goals walk_at "ev"
    · intro v H3 s3 r
      have e : (l.map fun _ => true).all id = true := by simp
      rw [e] at r
      exact k v H3 ((s1.trans s2).trans s3) r
theorem ok_lexact (T : Txt K mg) : FnOk P w K mg base CX0 2 T.a_lexact T.f_lexact ["_law_told", "_law_due"] (spExactB K) := LB.FnOk.or ((ok_lexact0 T).mono (by decide)) (ok_lexactT T)
end
end LW
namespace LW
open PySem L2 LB
local macro_rules | `(tactic| walk_at "hp") => `(tactic| first
  | (with_reducible assumption) | (with_reducible exact Rep.int _) | (with_reducible exact Rep.bl _) | (with_reducible exact Rep.non) | (with_reducible exact Rep.str _)
  | ((with_reducible refine' Rep.same ?kk ?hh); (case kk => with_reducible assumption); (case hh => walk_at "hp"))
  | ((with_reducible refine' Rep.kt ?kk ?hh); (case kk => with_reducible assumption); (case hh => walk_at "hp")))
local macro_rules | `(tactic| walk_at "bd") => `(tactic| first
  | (with_reducible assumption)
  | exact bd_lit (n := 64) (by decide)
  | (with_reducible refine' Bd.mul ?_ ?_) <;> walk_at "bd"
  | (with_reducible refine' Bd.add ?_ ?_) <;> walk_at "bd"
  | (with_reducible refine' Bd.sub ?_ ?_) <;> walk_at "bd"
  | (with_reducible refine' Bd.neg ?_) <;> walk_at "bd")
local macro_rules | `(tactic| walk_at "ev") => `(tactic| first
  | (with_reducible exact ev_int) | (with_reducible exact ev_bl) | (with_reducible exact ev_non) | (with_reducible exact ev_str)
  | ((with_reducible refine' ev_var ?e ?hh); (case e => rfl); (case hh => walk_at "hp"))
  | (with_reducible refine' ev_add ?_ ?_) <;> walk_at "ev"
  | (with_reducible refine' ev_sub ?_ ?_) <;> walk_at "ev"
  | ((with_reducible refine' ev_mul ?m1 ?m2 ?m3); (case m1 => walk_at "ev"); (case m2 => walk_at "ev"); (case m3 => (refine' Bd.mulW ?b1 ?b2 ?b3; (case b1 => walk_at "bd"); (case b2 => walk_at "bd"); (case b3 => decide))))
  | ((with_reducible refine' ev_ix ?m1 ?m2); (case m1 => walk_at "ev"); (case m2 => rfl))
  | ((with_reducible refine' ev_tup ?m1 ?m2); (case m1 => walk_at "eva"); (case m2 => exact Nat.le_of_ble_eq_true rfl))
  | (with_reducible refine' ev_neg ?_) <;> walk_at "ev"
  | (with_reducible refine' ev_lt ?_ ?_) <;> walk_at "ev"
  | (with_reducible refine' ev_le ?_ ?_) <;> walk_at "ev"
  | (with_reducible refine' ev_gt ?_ ?_) <;> walk_at "ev"
  | (with_reducible refine' ev_ge ?_ ?_) <;> walk_at "ev"
  | (with_reducible refine' ev_eqI ?_ ?_) <;> walk_at "ev"
  | (with_reducible refine' ev_neI ?_ ?_) <;> walk_at "ev"
  | (with_reducible refine' ev_intI ?_) <;> walk_at "eva"
  | (with_reducible refine' ev_lenT ?_) <;> walk_at "eva"
  | walk_at "evx")
local macro_rules | `(tactic| walk_at "eva") => `(tactic| first
  | (with_reducible exact eva_nil)
  | ((with_reducible refine' eva_cons ?v1 ?v2); (case v1 => walk_at "ev"); (case v2 => walk_at "eva")))
local macro_rules | `(tactic| walk_at "evx") => `(tactic| first
  | ((with_reducible refine' ev_pget ?a ?b ?c); (case a => rfl); (case b => with_reducible assumption); (case c => first | (with_reducible exact p_at _) | (with_reducible exact p_dg _) | (with_reducible exact p_ct _) | (with_reducible exact p_fo _))))
local macro_rules | `(tactic| walk_at "sh") => `(tactic| first
  | (with_reducible assumption)
  | ((with_reducible refine' ShAt.same ?hh ?kk); (case kk => with_reducible assumption); (case hh => walk_at "sh"))
  | ((with_reducible refine' ShAt.kt ?hh ?kk); (case kk => with_reducible assumption); (case hh => walk_at "sh")))
local macro_rules | `(tactic| walk_at "evx") => `(tactic| first
  | ((with_reducible refine' ev_base ?e ?h ?c ?n); (case e => rfl); (case h => walk_at "sh"); (case c => with_reducible assumption); (case n => with_reducible assumption))
  | ((with_reducible refine' ev_price ?e ?h ?c ?n); (case e => rfl); (case h => walk_at "sh"); (case c => with_reducible assumption); (case n => with_reducible assumption))
  | ((with_reducible refine' ev_steps ?e ?h ?c ?n); (case e => rfl); (case h => walk_at "sh"); (case c => with_reducible assumption); (case n => with_reducible assumption))
  | ((with_reducible refine' ev_prices ?e ?h ?c ?n); (case e => rfl); (case h => walk_at "sh"); (case c => with_reducible assumption); (case n => with_reducible assumption)))
section
variable {P : Program} {w : World} {K : Fr} {mg : Str → Option Value} {base : Heap}
theorem ok_lcounts (T : Txt K mg) : FnOk P w K mg base CX0 2 T.a_lcounts T.f_lcounts ["_law_sheet", "_law_cell"] (spLcounts K) := by
  refine T.d_lcounts.F.ok sc_lcounts (fun vs H Q E h => ?_) (fun cdv A outer s H vs Q E hr h => ?_)
  · obtain ⟨ds, d, hv, ⟨S, c, rfl, _⟩, _⟩ := h
    exact hv.len
  · obtain ⟨ds, d, hv, ⟨S, c, rfl, ok, bc, rfl⟩, k⟩ := h
    obtain ⟨v1, v2, rfl, r1, r2⟩ := hv.inv2
    have hu64 : (A.deeper (PyProof.Rows.envOfC "_law_counts" (defScope s_lcounts) s.heap.objs.size T.a_lcounts cdv)).units + 64 < cLine := by
      have := hr.un
      omega
    rw [← lcounts_eq ok c] at k
    refine ⟨_, (pss_cons (ps_par (i := 2) (j := 3) rfl sc_lcounts.nd rfl rfl (by decide) rfl rfl (pa_cons (pe_ix (ix_tK K) (pv 0) pe_int (fun _ _ => rfl)) (pa_cons (pe_ix (ix_tK K) (pv 0) pe_int (fun _ _ => rfl)) pa_nil)) rfl)
    (pss_cons (ps_set (i := 4) sc_lcounts.nd rfl (Or.inl rfl) (pe_tup (pa_cons (pe_op op_sub (pe_ix (ix_tK K) (pv 1) pe_int (fun _ _ => rfl)) (pe_ix (ix_tK K) (pv 2) pe_int (fun _ _ => rfl))) (pa_cons (pe_op op_sub (pe_ix (ix_tK K) (pv 1) pe_int (fun _ _ => rfl)) (pe_ix (ix_tK K) (pv 2) pe_int (fun _ _ => rfl))) pa_nil))))
    (pss_cons (ps_if (pt_cmpR op_eq (pe_callB call_len_seq (by rfl) T.z_len (by decide +kernel) (pa_cons (pv 3) pa_nil)) pe_int (nomark _)) (pss_one (ps_ret (pe_ifExp (pt_cmpR (op_eqK K rfl hu64) (pv 4) (pe_tup (pa_cons pe_int (pa_cons pe_int pa_nil))) (nomark _)) (pe_tup pa_nil) pe_non))) pss_nil)
    (pss_cons (ps_if (pt_cmpR op_eq (pe_callB call_len_seq (by rfl) T.z_len (by decide +kernel) (pa_cons (pv 3) pa_nil)) pe_int (nomark _)) (pss_cons (ps_set (i := 5) sc_lcounts.nd rfl (Or.inl rfl) (pe_op op_add (pe_op op_powW (pe_ix (ix_tK K) (pe_ix (ix_tK K) (pv 3) pe_int (fun _ _ => rfl)) pe_int (fun _ _ => rfl)) pe_int) (pe_op op_powW (pe_ix (ix_tK K) (pe_ix (ix_tK K) (pv 3) pe_int (fun _ _ => rfl)) pe_int (fun _ _ => rfl)) pe_int)))
    (pss_cons (ps_set (i := 6) sc_lcounts.nd rfl (Or.inl rfl) (pe_op op_add (pe_op op_mulW (pe_ix (ix_tK K) (pv 4) pe_int (fun _ _ => rfl)) (pe_ix (ix_tK K) (pe_ix (ix_tK K) (pv 3) pe_int (fun _ _ => rfl)) pe_int (fun _ _ => rfl))) (pe_op op_mulW (pe_ix (ix_tK K) (pv 4) pe_int (fun _ _ => rfl)) (pe_ix (ix_tK K) (pe_ix (ix_tK K) (pv 3) pe_int (fun _ _ => rfl)) pe_int (fun _ _ => rfl)))))
    (pss_cons (ps_if (PW.pt (pw_or (pt_cmpR op_ne (pe_call (ok_lcross T) (hr.mono (by decide)) rfl T.d_lcross.m T.d_lcross.F.kp T.d_lcross.b .nil pass0 (pa_cons (pv 4) (pa_cons (pe_ix (ix_tK K) (pv 3) pe_int (fun _ _ => rfl)) pa_nil))) pe_int (nomark _)) (pw_or (pt_cmpR op_lt (pv 6) pe_int (nomark _)) (pw_or1 (pt_cmpR op_ne (pe_op op_mod (pe_callTy call_int1 (by rfl) T.z_int (by decide +kernel) (pa_cons (pv 6) pa_nil)) (pv 5)) pe_int (nomark _)))))) (pss_one (ps_ret pe_non)) pss_nil)
    (pss_one (ps_ret (pe_tup (pa_cons (pe_op op_fdivW (pv 6) (pv 5)) pa_nil))))))) pss_nil)
    (pss_cons (ps_set (i := 5) sc_lcounts.nd rfl (Or.inl rfl) (pe_call (ok_lcross T) (hr.mono (by decide)) rfl T.d_lcross.m T.d_lcross.F.kp T.d_lcross.b .nil pass0 (pa_cons (pe_ix (ix_tK K) (pv 3) pe_int (fun _ _ => rfl)) (pa_cons (pe_ix (ix_tK K) (pv 3) pe_int (fun _ _ => rfl)) pa_nil))))
    (pss_cons (ps_par (i := 7) (j := 8) rfl sc_lcounts.nd rfl rfl (by decide) rfl rfl (pa_cons (pe_call (ok_lcross T) (hr.mono (by decide)) rfl T.d_lcross.m T.d_lcross.F.kp T.d_lcross.b .nil pass0 (pa_cons (pv 4) (pa_cons (pe_ix (ix_tK K) (pv 3) pe_int (fun _ _ => rfl)) pa_nil))) (pa_cons (pe_call (ok_lcross T) (hr.mono (by decide)) rfl T.d_lcross.m T.d_lcross.F.kp T.d_lcross.b .nil pass0 (pa_cons (pe_ix (ix_tK K) (pv 3) pe_int (fun _ _ => rfl)) (pa_cons (pv 4) pa_nil))) pa_nil)) rfl)
    (pss_meet (ps_if (pt_cmpR op_lt (pv 5) pe_int (nomark _)) (pss_one (ps_par3 (i := 5) (j := 7) (l := 8) rfl sc_lcounts.nd rfl rfl rfl (by decide) (by decide) (by decide) rfl rfl rfl (pa_cons (pe_un un_neg (pv 5)) (pa_cons (pe_un un_neg (pv 7)) (pa_cons (pe_un un_neg (pv 8)) pa_nil))) rfl)) pss_nil)
    (pss_cons (ps_if (PW.pt (pw_or (pt_cmpR op_lt (pv 7) pe_int (nomark _)) (pw_or (pt_cmpR op_lt (pv 8) pe_int (nomark _)) (pw_or (pt_cmpR op_ne (pe_op op_mod (pe_callTy call_int1 (by rfl) T.z_int (by decide +kernel) (pa_cons (pv 7) pa_nil)) (pv 5)) pe_int (nomark _)) (pw_or1 (pt_cmpR op_ne (pe_op op_mod (pe_callTy call_int1 (by rfl) T.z_int (by decide +kernel) (pa_cons (pv 8) pa_nil)) (pv 5)) pe_int (nomark _))))))) (pss_one (ps_ret pe_non)) pss_nil)
    (pss_one (ps_ret (pe_tup (pa_cons (pe_op op_fdivW (pv 7) (pv 5)) (pa_cons (pe_op op_fdivW (pv 8) (pv 5)) pa_nil))))))))))))), ?_⟩
    try dsimp only [cxOf]
    rw [show L2.start N_lcounts [v1, v2] = [some v1, some v2, none, none, none, none, none, none, none] from rfl]
    with_reducible refine s_par (K := K) (d := dC S.base) (e := dCs S.steps) ?t ?_
    case t => walk_at "eva"
    intro vb vs H1 s1 rb rs
    rw [show (([some v1, some v2, none, none, none, none, none, none, none] : L2.St).set 2 (some vb)).set 3 (some vs) = [some v1, some v2, some vb, some vs, none, none, none, none, none] from rfl]
    with_reducible refine s_set (K := K) (d := dC (S.way c)) ?t ?_
    case t =>
      show Ev K _ _ _ (.tuple [.int (c.1 - S.base.1), .int (c.2 - S.base.2)])
      walk_at "ev"
    intro vw H2 s2 rw2
    rw [show ([some v1, some v2, some vb, some vs, none, none, none, none, none] : L2.St).set 4 (some vw) = [some v1, some v2, some vb, some vs, some vw, none, none, none, none] from rfl]
    have bw : BdC 2001 (S.way c) := way_bd ok bc
    have hb2 := ok.b2
    have hst := ok.st
    unfold lcountsF at k
    generalize S.way c = W at *
    generalize S.steps = st at *
    with_reducible refine s_ifr (c := decide ((((st.map dC).length : Nat) : Int) = 0)) (evb_test (K := K) (ev_eqI ?t1 ev_int)) (fun ht H3 s3 => ?_) (fun hf H3 s3 => ?_)
    case t1 => walk_at "ev"
    · have e0 : st = [] := by
        cases st with
        | nil => rfl
        | cons a l => simp at ht; omega
      subst e0
      with_reducible refine s_ret (K := K) (d := dO (if W = (0, 0) then some [] else none)) (ev_if (c := decide (W = (0, 0))) (evb_test (K := K) ?t) (fun h => ?a) (fun h => ?b)) ?_
      case t =>
        rw [← eqv_dC]
        with_reducible refine ev_eqD ?x ?y (shaped_dC _) (shaped_dC _)
        case x => walk_at "ev"
        case y => walk_at "ev"
      case a =>
        rw [if_pos (of_decide_eq_true h)]
        exact ev_tup eva_nil
      case b =>
        rw [if_neg (of_decide_eq_false h)]
        exact ev_non
      exact fun v H4 s4 r => k v H4 (((s1.trans s2).trans s3).trans s4) r
    with_reducible refine s_ifr (c := decide ((((st.map dC).length : Nat) : Int) = 1)) (evb_test (K := K) (ev_eqI ?t1 ev_int)) (fun ht H4 s4 => ?_) (fun hf2 H4 s4 => ?_)
    case t1 => walk_at "ev"
    · match st, hf, ht, hb2, hst, rs, k with
      | [], hf, _, _, _, _, _ => simp at hf
      | a :: b :: l, _, ht, _, _, _, _ => simp at ht; omega
      | [f], _, _, hb2, hst, rs, k =>
        obtain ⟨bf1, bf2⟩ := hb2 f (by simp)
        obtain ⟨bw1, bw2⟩ := bw
        have f0 : ¬ f = (0, 0) := by
          intro e
          simp [areSteps, e] at hst
        have sq := sq_pos f0
        have hf0 : 0 < f.1 * f.1 + f.2 * f.2 := sq_pos' f0
        have es : ∀ H σ, σ[3]? = some (some vs) → Rep K H vs (dCs [f]) → Ev K (tOp (rIxT K) (tVar 3) (tC (.int 0))) σ H (dC f) := fun H σ e r => ev_ix (ev_var e r) rfl
        with_reducible refine s_set (K := K) (d := .int (f.1 * f.1 + f.2 * f.2)) (ev_add (ev_sq ?t1 bf1 (by decide)) (ev_sq ?t2 bf2 (by decide))) ?_
        case t1 => walk_at "ev"
        case t2 => walk_at "ev"
        intro vz H5 s5 rz
        rw [show ([some v1, some v2, some vb, some vs, some vw, none, none, none, none] : L2.St).set 5 (some vz) = [some v1, some v2, some vb, some vs, some vw, some vz, none, none, none] from rfl]
        with_reducible refine s_set (K := K) (d := .int (W.1 * f.1 + W.2 * f.2)) ?t ?_
        case t => walk_at "ev"
        intro va H6 s6 ra
        rw [show ([some v1, some v2, some vb, some vs, some vw, some vz, none, none, none] : L2.St).set 6 (some va) = [some v1, some v2, some vb, some vs, some vw, some vz, some va, none, none] from rfl]
        with_reducible refine s_ifr (c := (!decide (cr W f = 0) || (decide (W.1 * f.1 + W.2 * f.2 < 0) || !decide ((W.1 * f.1 + W.2 * f.2) % (f.1 * f.1 + f.2 * f.2) = 0)))) (evb_or (evb_test (K := K) (ev_neI (ev_cross (a := W) (b := f) ?t1 ?t2 ?t3 ?t4) ev_int)) fun _ => evb_or (evb_test (K := K) (ev_lt ?t5 ev_int)) fun _ => evb_test (K := K) (ev_neI (ev_mod (ev_intI (eva_cons ?t6 eva_nil)) ?t7 hf0) ev_int)) (fun ht3 H7 s7 => ?_) (fun hf3 H7 s7 => ?_)
        case t1 => walk_at "ev"
        case t2 => walk_at "ev"
        case t3 => exact ⟨bw1.mono (by decide), bw2.mono (by decide)⟩
        case t4 => exact ⟨bf1.mono (by decide), bf2.mono (by decide)⟩
        case t5 => walk_at "ev"
        case t6 => walk_at "ev"
        case t7 => walk_at "ev"
        · have e : lone f W = none := if_pos ht3
          have k' : ∀ v H', Same H H' → Rep K H' v (dO (lone f W)) → Q v H' := k
          rw [e] at k'
          with_reducible refine s_ret (K := K) ev_non ?_
          exact fun v H8 s8 r => k' v H8 (((((((s1.trans s2).trans s3).trans s4).trans s5).trans s6).trans s7).trans s8) r
        · have e : lone f W = some [(W.1 * f.1 + W.2 * f.2) / (f.1 * f.1 + f.2 * f.2)] := if_neg (by rw [hf3]; exact Bool.false_ne_true)
          have k' : ∀ v H', Same H H' → Rep K H' v (dO (lone f W)) → Q v H' := k
          rw [e] at k'
          have bz : Bd 801 (f.1 * f.1 + f.2 * f.2) := Bd.mono (Bd.add (Bd.mul bf1 bf1) (Bd.mul bf2 bf2)) (by decide)
          refine s_ret (K := K) (d := .tuple [.int ((W.1 * f.1 + W.2 * f.2) / (f.1 * f.1 + f.2 * f.2))]) (ev_tup (eva_cons (ev_fdiv ?_ ?_ (bz.divW hf0 (by decide))) eva_nil)) ?_
          · walk_at "ev"
          · walk_at "ev"
          exact fun v H8 s8 r => k' v H8 (((((((s1.trans s2).trans s3).trans s4).trans s5).trans s6).trans s7).trans s8) r
    match st, hf, hf2, hb2, hst, rs, k with
    | [], hf, _, _, _, _, _ => simp at hf
    | [a], _, hf2, _, _, _, _ => simp at hf2
    | a :: b :: e :: l, _, _, _, hst, _, _ => exact absurd (areSteps_len hst) (by simp)
    | [f, g], _, _, hb2, hst, rs, k =>
      have bf := hb2 f (by simp)
      have bg := hb2 g (by simp)
      have b0 : cr f g ≠ 0 := by
        intro e
        simp [areSteps, e] at hst
      have bz := Bd.cr bf bg
      have b1 := Bd.cr bw bg
      have b2 := Bd.cr bf bw
      with_reducible refine s_set (K := K) (d := .int (cr f g)) (ev_cross (a := f) (b := g) ?t1 ?t2 (bf.mono (by decide)) (bg.mono (by decide))) ?_
      case t1 => walk_at "ev"
      case t2 => walk_at "ev"
      intro vz H5 s5 rz
      rw [show ([some v1, some v2, some vb, some vs, some vw, none, none, none, none] : L2.St).set 5 (some vz) = [some v1, some v2, some vb, some vs, some vw, some vz, none, none, none] from rfl]
      with_reducible refine s_par (K := K) (d := .int (cr W g)) (e := .int (cr f W)) (eva_cons (ev_cross (a := W) (b := g) ?t1 ?t2 (bw.mono (by decide)) (bg.mono (by decide))) (eva_cons (ev_cross (a := f) (b := W) ?t3 ?t4 (bf.mono (by decide)) (bw.mono (by decide))) eva_nil)) ?_
      case t1 => walk_at "ev"
      case t2 => walk_at "ev"
      case t3 => walk_at "ev"
      case t4 => walk_at "ev"
      intro vo vt H6 s6 ro rt
      rw [show (([some v1, some v2, some vb, some vs, some vw, some vz, none, none, none] : L2.St).set 7 (some vo)).set 8 (some vt) = [some v1, some v2, some vb, some vs, some vw, some vz, none, some vo, some vt] from rfl]
      have s06 : True ∧ Same H H6 := ⟨trivial, ((((s1.trans s2).trans s3).trans s4).trans s5).trans s6⟩
      have k' : ∀ v H', Same H H' → Rep K H' v (dO (if cr f g < 0 then ltwo (-cr f g) (-cr W g) (-cr f W) else ltwo (cr f g) (cr W g) (cr f W))) → Q v H' := k
      with_reducible refine s_meet (fun σ' H' => ∃ (z o t : Int) (vz vo vt : V), σ' = [some v1, some v2, some vb, some vs, some vw, some vz, none, some vo, some vt] ∧ Same H H' ∧ Rep K H' vz (.int z) ∧ Rep K H' vo (.int o) ∧ Rep K H' vt (.int t) ∧ 0 < z ∧ Bd 801 z ∧ Bd 2402 o ∧ Bd 2402 t ∧ (if cr f g < 0 then ltwo (-cr f g) (-cr W g) (-cr f W) else ltwo (cr f g) (cr W g) (cr f W)) = ltwo z o t) ?rest ?_
      case rest =>
        rintro σ' H7 ⟨z, o, t, vz, vo, vt, rfl, s7, rz, ro, rt, z0, bz, bo, bt, e⟩
        rw [e] at k'
        with_reducible refine s_ifr (c := (decide (o < 0) || (decide (t < 0) || (!decide (o % z = 0) || !decide (t % z = 0))))) (evb_or (evb_test (K := K) (ev_lt ?t1 ev_int)) fun _ => evb_or (evb_test (K := K) (ev_lt ?t2 ev_int)) fun _ => evb_or (evb_test (K := K) (ev_neI (ev_mod (ev_intI (eva_cons ?t3 eva_nil)) ?t4 z0) ev_int)) fun _ => evb_test (K := K) (ev_neI (ev_mod (ev_intI (eva_cons ?t5 eva_nil)) ?t6 z0) ev_int)) (fun ht3 H8 s8 => ?_) (fun hf3 H8 s8 => ?_)
        case t1 => walk_at "ev"
        case t2 => walk_at "ev"
        case t3 => walk_at "ev"
        case t4 => walk_at "ev"
        case t5 => walk_at "ev"
        case t6 => walk_at "ev"
        · have e : ltwo z o t = none := if_pos ht3
          rw [e] at k'
          with_reducible refine s_ret (K := K) ev_non ?_
          exact fun v H9 s9 r => k' v H9 ((s7.trans s8).trans s9) r
        · have e : ltwo z o t = some [o / z, t / z] := if_neg (by rw [hf3]; exact Bool.false_ne_true)
          rw [e] at k'
          refine s_ret (K := K) (d := .tuple [.int (o / z), .int (t / z)]) (ev_tup (eva_cons (ev_fdiv ?_ ?_ (bz.divW z0 (by decide))) (eva_cons (ev_fdiv ?_ ?_ (bz.divW z0 (by decide))) eva_nil))) ?_
          · walk_at "ev"
          · walk_at "ev"
          · walk_at "ev"
          · walk_at "ev"
          exact fun v H9 s9 r => k' v H9 ((s7.trans s8).trans s9) r
      with_reducible refine s_if (c := decide (cr f g < 0)) (evb_test (K := K) (ev_lt ?t ev_int)) (fun ht3 H7 s7 => ?_) (fun hf3 H7 s7 => s_next ?_)
      case t => walk_at "ev"
      · have zz := of_decide_eq_true ht3
        with_reducible refine s_par3_end (K := K) (d := .int (-cr f g)) (e := .int (-cr W g)) (f := .int (-cr f W)) ?t ?_
        case t => walk_at "eva"
        intro va vc ve H8 s8 ra rc re
        exact ⟨_, _, _, va, vc, ve, rfl, (s06.2.trans s7).trans s8, ra, rc, re, by omega, (bz.neg).mono (by decide), (b1.neg).mono (by decide), (b2.neg).mono (by decide), if_pos zz⟩
      · have zz := of_decide_eq_false hf3
        exact ⟨_, _, _, vz, vo, vt, rfl, s06.2.trans s7, (rz.same s6).same s7, ro.same s7, rt.same s7, by omega, bz.mono (by decide), b1.mono (by decide), b2.mono (by decide), if_neg zz⟩
end
end LW
namespace LW
open PySem L2 LB
local macro_rules | `(tactic| walk_at "hp") => `(tactic| first
  | (with_reducible assumption) | (with_reducible exact Rep.int _) | (with_reducible exact Rep.bl _) | (with_reducible exact Rep.non) | (with_reducible exact Rep.str _)
  | ((with_reducible refine' Rep.same ?kk ?hh); (case kk => with_reducible assumption); (case hh => walk_at "hp"))
  | ((with_reducible refine' Rep.kt ?kk ?hh); (case kk => with_reducible assumption); (case hh => walk_at "hp")))
local macro_rules | `(tactic| walk_at "bd") => `(tactic| first
  | (with_reducible assumption)
  | exact bd_lit (n := 64) (by decide)
  | (with_reducible refine' Bd.mul ?_ ?_) <;> walk_at "bd"
  | (with_reducible refine' Bd.add ?_ ?_) <;> walk_at "bd"
  | (with_reducible refine' Bd.sub ?_ ?_) <;> walk_at "bd"
  | (with_reducible refine' Bd.neg ?_) <;> walk_at "bd")
local macro_rules | `(tactic| walk_at "ev") => `(tactic| first
  | (with_reducible exact ev_int) | (with_reducible exact ev_bl) | (with_reducible exact ev_non) | (with_reducible exact ev_str)
  | ((with_reducible refine' ev_var ?e ?hh); (case e => rfl); (case hh => walk_at "hp"))
  | (with_reducible refine' ev_add ?_ ?_) <;> walk_at "ev"
  | (with_reducible refine' ev_sub ?_ ?_) <;> walk_at "ev"
  | ((with_reducible refine' ev_mul ?m1 ?m2 ?m3); (case m1 => walk_at "ev"); (case m2 => walk_at "ev"); (case m3 => (refine' Bd.mulW ?b1 ?b2 ?b3; (case b1 => walk_at "bd"); (case b2 => walk_at "bd"); (case b3 => decide))))
  | ((with_reducible refine' ev_ix ?m1 ?m2); (case m1 => walk_at "ev"); (case m2 => rfl))
  | ((with_reducible refine' ev_tup ?m1 ?m2); (case m1 => walk_at "eva"); (case m2 => exact Nat.le_of_ble_eq_true rfl))
  | (with_reducible refine' ev_neg ?_) <;> walk_at "ev"
  | (with_reducible refine' ev_lt ?_ ?_) <;> walk_at "ev"
  | (with_reducible refine' ev_le ?_ ?_) <;> walk_at "ev"
  | (with_reducible refine' ev_gt ?_ ?_) <;> walk_at "ev"
  | (with_reducible refine' ev_ge ?_ ?_) <;> walk_at "ev"
  | (with_reducible refine' ev_eqI ?_ ?_) <;> walk_at "ev"
  | (with_reducible refine' ev_neI ?_ ?_) <;> walk_at "ev"
  | (with_reducible refine' ev_intI ?_) <;> walk_at "eva"
  | (with_reducible refine' ev_lenT ?_) <;> walk_at "eva"
  | walk_at "evx")
local macro_rules | `(tactic| walk_at "eva") => `(tactic| first
  | (with_reducible exact eva_nil)
  | ((with_reducible refine' eva_cons ?v1 ?v2); (case v1 => walk_at "ev"); (case v2 => walk_at "eva")))
local macro_rules | `(tactic| walk_at "evx") => `(tactic| first
  | ((with_reducible refine' ev_pget ?a ?b ?c); (case a => rfl); (case b => with_reducible assumption); (case c => first | (with_reducible exact p_at _) | (with_reducible exact p_dg _) | (with_reducible exact p_ct _) | (with_reducible exact p_fo _))))
local macro_rules | `(tactic| walk_at "sh") => `(tactic| first
  | (with_reducible assumption)
  | ((with_reducible refine' ShAt.same ?hh ?kk); (case kk => with_reducible assumption); (case hh => walk_at "sh"))
  | ((with_reducible refine' ShAt.kt ?hh ?kk); (case kk => with_reducible assumption); (case hh => walk_at "sh")))
local macro_rules | `(tactic| walk_at "evx") => `(tactic| first
  | ((with_reducible refine' ev_base ?e ?h ?c ?n); (case e => rfl); (case h => walk_at "sh"); (case c => with_reducible assumption); (case n => with_reducible assumption))
  | ((with_reducible refine' ev_price ?e ?h ?c ?n); (case e => rfl); (case h => walk_at "sh"); (case c => with_reducible assumption); (case n => with_reducible assumption))
  | ((with_reducible refine' ev_steps ?e ?h ?c ?n); (case e => rfl); (case h => walk_at "sh"); (case c => with_reducible assumption); (case n => with_reducible assumption))
  | ((with_reducible refine' ev_prices ?e ?h ?c ?n); (case e => rfl); (case h => walk_at "sh"); (case c => with_reducible assumption); (case n => with_reducible assumption)))
section
variable {P : Program} {w : World} {K : Fr} {mg : Str → Option Value} {base : Heap}
theorem ok_lprice_at (T : Txt K mg) : FnOk P w K mg base CX0 3 T.a_lprice_at T.f_lprice_at ["_law_sheet", "_law_cell"] (spLprice K) := by
  refine T.d_lprice_at.F.ok sc_lprice_at (fun vs H Q E h => ?_) (fun cdv A outer s H vs Q E hr h => ?_)
  · obtain ⟨ds, d, hv, ⟨S, c, rfl, _⟩, _⟩ := h
    exact hv.len
  · obtain ⟨ds, d, hv, ⟨S, c, rfl, ok, bc, rfl⟩, k⟩ := h
    obtain ⟨v1, v2, rfl, r1, r2⟩ := hv.inv2
    refine ⟨_, (pss_cons (ps_set (i := 2) sc_lprice_at.nd rfl (Or.inl rfl) (pe_call (ok_lcounts T) (hr.mono (by decide)) rfl T.d_lcounts.m T.d_lcounts.F.kp T.d_lcounts.b .nil pass0 (pa_cons (pv 0) (pa_cons (pv 1) pa_nil))))
    (pss_cons (ps_if (pt_cmp (pc_isN (pv 2))) (pss_one (ps_ret pe_non)) pss_nil)
    (pss_one (ps_ret (pe_op op_add (pe_ix (ix_tK K) (pv 0) pe_int (fun _ _ => rfl)) (pe_callB (cr_sum rfl) (by rfl) T.z_sum (by decide +kernel) (pa_cons (pe_lc (own := [("_law_many", 3), ("_law_price", 4)]) (g := gTup _ 2 (gCons (gName 3) (gCons (gName 4) gNil))) rfl sc_lprice_at.nd (RZ.pi_zipA rfl T.z_zip (pa_cons (pv 2) (pa_cons (pe_ix (ix_tK K) (pv 0) pe_int (fun _ _ => rfl)) pa_nil))) (blkOk_by (N := N_lprice_at) (sc := defScope s_lprice_at) (by decide +kernel)) (fun _ _ _ _ _ => (pg_tup rfl (pgs_cons (pg_name (i := 3) sc_lprice_at.nd rfl (Or.inl rfl)) (pgs_cons (pg_name (i := 4) sc_lprice_at.nd rfl (Or.inl rfl)) pgs_nil)))) (fun _ _ _ _ _ => pts_nil) (fun _ _ _ _ _ => (pe_op op_mulW (pv 3) (pv 4)))) pa_nil))))))), ?_⟩
    try dsimp only [cxOf, List.map]
    rw [show L2.start N_lprice_at [v1, v2] = [some v1, some v2, none, none, none] from rfl]
    refine s_set (K := K) (d := dO (S.counts c)) (ev_call (eva_cons ?_ (eva_cons ?_ eva_nil)) ⟨S, c, rfl, ok, bc, rfl⟩) fun vn H1 s1 rn => ?_
    · walk_at "ev"
    · walk_at "ev"
    rw [show ([some v1, some v2, none, none, none] : L2.St).set 2 (some vn) = [some v1, some v2, some vn, none, none] from rfl]
    with_reducible refine s_ifr (c := isN (dO (S.counts c))) (evb_b (K := K) (ev_isN ?t)) (fun ht H2 s2 => ?_) (fun hf H2 s2 => ?_)
    case t => walk_at "ev"
    · cases e : S.counts c with
      | some n => rw [e] at ht; exact absurd ht (by simp [dO, isN])
      | none =>
        have e2 : S.priceAt c = none := by unfold Sh.priceAt; rw [e]; rfl
        rw [e2] at k
        with_reducible refine s_ret (K := K) ev_non ?_
        exact fun v H3 s3 r => k v H3 ((s1.trans s2).trans s3) r
    · cases e : S.counts c with
      | none => rw [e] at hf; exact absurd hf (by simp [dO, isN])
      | some n =>
        have bn := counts_bd ok bc e
        have e2 : S.priceAt c = some (S.priceOf n) := by unfold Sh.priceAt; rw [e]; rfl
        rw [e2] at k
        rw [e] at rn
        have rn' : Rep K H1 vn (dIs n) := rn
        have hb3 := ok.b3
        with_reducible refine s_ret (K := K) (d := .int (S.priceOf n)) (ev_add ?t1 (ev_sum (evl_zipmap .int .int (fun a b => a * b) (by decide) ?t2 ?t3 ?t4 ?t5))) ?_
        case t1 => walk_at "ev"
        case t2 => walk_at "ev"
        case t3 => walk_at "ev"
        case t4 => exact Nat.le_trans bn.1 (by decide)
        case t5 =>
          intro x hx y hy vx vy H3 s3 rx ry
          have b1 := bn.2 x hx
          have b2 := hb3 y hy
          walk_at "ev"
        exact fun v H3 s3 r => k v H3 ((s1.trans s2).trans s3) r
/-- sums of the first m -/
theorem ok_spot_of (T : Txt K mg) : FnOk P w K mg base CX0 1 T.a_spot_of T.f_spot_of ["_law_sheet", "_law_counts_here", "_law_is_way"] (spSpot K) := by
  refine T.d_spot_of.F.ok sc_spot_of (fun vs H Q E h => ?_) (fun cdv A outer s H vs Q E hr h => ?_)
  · obtain ⟨ds, d, hv, ⟨S, n, rfl, _⟩, _⟩ := h
    exact hv.len
  · obtain ⟨ds, d, hv, ⟨S, n, rfl, ok, ln, bn, rfl⟩, k⟩ := h
    obtain ⟨v1, v2, v3, rfl, r1, r2, r3⟩ := hv.inv3
    refine ⟨_, (pss_cons (ps_asg (pe_ifExp (pt_val (pv 2)) (pe_tup (pa_cons (pe_tup (pa_cons pe_int (pa_cons pe_int pa_nil))) (pa_cons pe_int pa_nil))) (pe_tup (pa_cons (pe_ix (ix_tK K) (pv 0) pe_int (fun _ _ => rfl)) (pa_cons (pe_ix (ix_tK K) (pv 0) pe_int (fun _ _ => rfl)) pa_nil)))) (pg_tup rfl (pgs_cons (pg_name (i := 3) sc_spot_of.nd rfl (Or.inl rfl)) (pgs_cons (pg_name (i := 4) sc_spot_of.nd rfl (Or.inl rfl)) pgs_nil))))
    (pss_cons (ps_for PassesOwn.never rfl (pi_zip3 rfl T.z_zip (pa_cons (pv 1) (pa_cons (pe_ix (ix_tK K) (pv 0) pe_int (fun _ _ => rfl)) (pa_cons (pe_ix (ix_tK K) (pv 0) pe_int (fun _ _ => rfl)) pa_nil)))) (pg_tup rfl (pgs_cons (pg_name (i := 5) sc_spot_of.nd rfl (Or.inl rfl)) (pgs_cons (pg_name (i := 6) sc_spot_of.nd rfl (Or.inl rfl)) (pgs_cons (pg_name (i := 7) sc_spot_of.nd rfl (Or.inl rfl)) pgs_nil))))
    (pss_one (ps_par (i := 3) (j := 4) rfl sc_spot_of.nd rfl rfl (by decide) rfl rfl (pa_cons (pe_tup (pa_cons (pe_op op_add (pe_ix (ix_tK K) (pv 3) pe_int (fun _ _ => rfl)) (pe_op op_mulW (pv 5) (pe_ix (ix_tK K) (pv 6) pe_int (fun _ _ => rfl)))) (pa_cons (pe_op op_add (pe_ix (ix_tK K) (pv 3) pe_int (fun _ _ => rfl)) (pe_op op_mulW (pv 5) (pe_ix (ix_tK K) (pv 6) pe_int (fun _ _ => rfl)))) pa_nil))) (pa_cons (pe_op op_add (pv 4) (pe_op op_mulW (pv 5) (pv 7))) pa_nil)) rfl)))
    (pss_one (ps_ret (pe_tup (pa_cons (pv 3) (pa_cons (pv 4) pa_nil))))))), ?_⟩
    try dsimp only [cxOf, List.map]
    rw [show L2.start N_spot_of [v1, v2, v3] = [some v1, some v2, some v3, none, none, none, none, none] from rfl]
    have hb2 := ok.b2
    have hb3 := ok.b3
    have ll := areSteps_len ok.st
    -- the base and its price
    refine (ev_if (K := K) (c := false) (d := .tuple [dC S.base, .int S.price]) (evb_b (K := K) ?_) (fun h => by cases h) (fun _ => ?_)) H (Same.refl H) _ fun v H1 s1 rv => ?_
    · walk_at "ev"
    · walk_at "ev"
    obtain ⟨p1, xs1, rfl, hp1, ra1⟩ := rv.tup_inv
    obtain ⟨vc, vp, rfl, rc, rp⟩ := ra1.inv2
    refine ⟨p1, _, rfl, hp1, rfl, vc, _, rfl, vp, _, rfl, rfl, ?_⟩
    rw [show (([some v1, some v2, some v3, none, none, none, none, none] : L2.St).set 3 (some vc)).set 4 (some vp) = [some v1, some v2, some v3, some vc, some vp, none, none, none] from rfl]
    -- the loop
    have e1 : EvA K (tCons (tVar 1) (tCons (tOp (rIxT K) (tVar 0) (tC (.int 2))) (tCons (tOp (rIxT K) (tVar 0) (tC (.int 3))) tNil))) [some v1, some v2, some v3, some vc, some vp, none, none, none] H1 [dIs n, dCs S.steps, dIs S.prices] := by
      walk_at "eva"
    dsimp only
    unfold tSeq tFor
    refine i_zip3 (K := K) e1 fun ws H2 s2 rs => ?_
    obtain ⟨w1, w2, w3, rfl, q1, q2, q3⟩ := rs.inv3
    obtain ⟨a1, xs, rfl, t1, g1⟩ := q1.tup_inv
    obtain ⟨a2, ys, rfl, t2, g2⟩ := q2.tup_inv
    obtain ⟨a3, zs, rfl, t3, g3⟩ := q3.tup_inv
    have l1 := g1.len
    have l2 := g2.len
    have l3 := g3.len
    rw [List.length_map] at l1 l2 l3
    have ep := ok.ln
    refine ⟨a1, a2, a3, xs, ys, zs, rfl, t1, t2, t3, ?_⟩
    refine for_zip3 (K := K) (xs := xs) (ys := ys) (zs := zs) (by omega) (by omega) (fun i σ H3 => ∃ (vc vp : V) (o1 o2 o3 : Option V), σ = [some v1, some v2, some v3, some vc, some vp, o1, o2, o3] ∧ Same H2 H3 ∧
        Rep K H3 vc (dC (S.base.1 + (((n.zip S.steps).take i).map fun p => p.1 * p.2.1).sum, S.base.2 + (((n.zip S.steps).take i).map fun p => p.1 * p.2.2).sum)) ∧ Rep K H3 vp (.int (S.price + (((n.zip S.prices).take i).map fun p => p.1 * p.2).sum)))
      ⟨vc, vp, none, none, none, rfl, Same.refl H2, ?_, ?_⟩ (fun i σ H3 _ ⟨_, _, _, _, _, _, s3, _⟩ => ⟨kt_sqt (kt_same s3) t1, kt_sqt (kt_same s3) t2, kt_sqt (kt_same s3) t3⟩) ?_ ?_
    · simpa using rc.same s2
    · simpa using rp.same s2
    · rintro i x y z Tp σ H3 hx hy hz ⟨vc, vp, o1, o2, o3, rfl, s3, rc, rp⟩ hT
      have s4 := same_upd (o := HO.tup [x, y, z]) hT
      generalize hH4 : upd H3 Tp (HO.tup [x, y, z]) = H4 at s4 ⊢
      have eT : H4 Tp = some (.tup [x, y, z]) := by subst hH4; exact upd_same
      obtain ⟨d1, hd1, rx⟩ := g1.getV hx
      obtain ⟨d2, hd2, ry⟩ := g2.getV hy
      obtain ⟨d3, hd3, rz⟩ := g3.getV hz
      rw [List.getElem?_map] at hd1 hd2 hd3
      cases en : n[i]? with
      | none => rw [en] at hd1; cases hd1
      | some m =>
      cases es : S.steps[i]? with
      | none => rw [es] at hd2; cases hd2
      | some g =>
      cases er : S.prices[i]? with
      | none => rw [er] at hd3; cases hd3
      | some r =>
      rw [en] at hd1
      rw [es] at hd2
      rw [er] at hd3
      cases hd1
      cases hd2
      cases hd3
      have bm := bn m (List.mem_of_getElem? en)
      obtain ⟨bg1, bg2⟩ := hb2 g (List.mem_of_getElem? es)
      have br := hb3 r (List.mem_of_getElem? er)
      have rx4 := ((rx.same s3).same s4)
      have ry4 := ((ry.same s3).same s4)
      have rz4 := ((rz.same s3).same s4)
      have rc4 := rc.same s4
      have rp4 := rp.same s4
      refine ⟨Tp, [x, y, z], rfl, SqT.of eT, rfl, x, _, rfl, y, _, rfl, z, _, rfl, rfl, ?_⟩
      rw [show ((([some v1, some v2, some v3, some vc, some vp, o1, o2, o3] : L2.St).set 5 (some x)).set 6 (some y)).set 7 (some z) = [some v1, some v2, some v3, some vc, some vp, some x, some y, some z] from rfl]
      generalize hA : S.base.1 + (((n.zip S.steps).take i).map fun p => p.1 * p.2.1).sum = A1 at rc4 rc
      generalize hB : S.base.2 + (((n.zip S.steps).take i).map fun p => p.1 * p.2.2).sum = B1 at rc4 rc
      generalize hC : S.price + (((n.zip S.prices).take i).map fun p => p.1 * p.2).sum = C1 at rp4 rp
      clear rc rp rx ry rz
      with_reducible refine s_par_end (K := K) (d := .tuple [.int (A1 + m * g.1), .int (B1 + m * g.2)]) (e := .int (C1 + m * r)) ?t ?_
      case t => walk_at "eva"
      intro v5 v6 H5 s5 r5 r6
      have z1 : (n.zip S.steps)[i]? = some (m, g) := List.getElem?_zip_eq_some |>.mpr ⟨en, es⟩
      have z2 : (n.zip S.prices)[i]? = some (m, r) := List.getElem?_zip_eq_some |>.mpr ⟨en, er⟩
      refine ⟨v5, v6, some x, some y, some z, rfl, (s3.trans s4).trans s5, ?_, ?_⟩
      · rw [List.take_succ, z1]
        simp only [Option.toList, List.map_append, List.sum_append, List.map_cons, List.map_nil, List.sum_cons, List.sum_nil]
        rw [show S.base.1 + ((((n.zip S.steps).take i).map fun p => p.1 * p.2.1).sum + (m * g.1 + 0)) = A1 + m * g.1 by omega, show S.base.2 + ((((n.zip S.steps).take i).map fun p => p.1 * p.2.2).sum + (m * g.2 + 0)) = B1 + m * g.2 by omega]
        exact r5
      · rw [List.take_succ, z2]
        simp only [Option.toList, List.map_append, List.sum_append, List.map_cons, List.map_nil, List.sum_cons, List.sum_nil]
        rw [show S.price + ((((n.zip S.prices).take i).map fun p => p.1 * p.2).sum + (m * r + 0)) = C1 + m * r by omega]
        exact r6
    · rintro σ H3 ⟨vc, vp, o1, o2, o3, rfl, s3, rc, rp⟩
      rw [List.take_of_length_le (by simp; omega)] at rc
      rw [List.take_of_length_le (by simp; omega)] at rp
      have rc' : Rep K H3 vc (dC (S.cellOf n)) := rc
      have rp' : Rep K H3 vp (.int (S.priceOf n)) := rp
      clear rc rp
      with_reducible refine s_ret (K := K) (d := .tuple [dC (S.cellOf n), .int (S.priceOf n)]) ?t ?_
      case t => walk_at "ev"
      exact fun v H4 s4 r => k v H4 (((s1.trans s2).trans s3).trans s4) r
end
end LW
namespace LW
open PySem L2 LB
local macro_rules | `(tactic| walk_at "hp") => `(tactic| first
  | (with_reducible assumption) | (with_reducible exact Rep.int _) | (with_reducible exact Rep.bl _) | (with_reducible exact Rep.non) | (with_reducible exact Rep.str _)
  | ((with_reducible refine' Rep.same ?kk ?hh); (case kk => with_reducible assumption); (case hh => walk_at "hp"))
  | ((with_reducible refine' Rep.kt ?kk ?hh); (case kk => with_reducible assumption); (case hh => walk_at "hp")))
local macro_rules | `(tactic| walk_at "bd") => `(tactic| first
  | (with_reducible assumption)
  | exact bd_lit (n := 64) (by decide)
  | (with_reducible refine' Bd.mul ?_ ?_) <;> walk_at "bd"
  | (with_reducible refine' Bd.add ?_ ?_) <;> walk_at "bd"
  | (with_reducible refine' Bd.sub ?_ ?_) <;> walk_at "bd"
  | (with_reducible refine' Bd.neg ?_) <;> walk_at "bd")
local macro_rules | `(tactic| walk_at "ev") => `(tactic| first
  | (with_reducible exact ev_int) | (with_reducible exact ev_bl) | (with_reducible exact ev_non) | (with_reducible exact ev_str)
  | ((with_reducible refine' ev_var ?e ?hh); (case e => rfl); (case hh => walk_at "hp"))
  | (with_reducible refine' ev_add ?_ ?_) <;> walk_at "ev"
  | (with_reducible refine' ev_sub ?_ ?_) <;> walk_at "ev"
  | ((with_reducible refine' ev_mul ?m1 ?m2 ?m3); (case m1 => walk_at "ev"); (case m2 => walk_at "ev"); (case m3 => (refine' Bd.mulW ?b1 ?b2 ?b3; (case b1 => walk_at "bd"); (case b2 => walk_at "bd"); (case b3 => decide))))
  | ((with_reducible refine' ev_ix ?m1 ?m2); (case m1 => walk_at "ev"); (case m2 => rfl))
  | ((with_reducible refine' ev_tup ?m1 ?m2); (case m1 => walk_at "eva"); (case m2 => exact Nat.le_of_ble_eq_true rfl))
  | (with_reducible refine' ev_neg ?_) <;> walk_at "ev"
  | (with_reducible refine' ev_lt ?_ ?_) <;> walk_at "ev"
  | (with_reducible refine' ev_le ?_ ?_) <;> walk_at "ev"
  | (with_reducible refine' ev_gt ?_ ?_) <;> walk_at "ev"
  | (with_reducible refine' ev_ge ?_ ?_) <;> walk_at "ev"
  | (with_reducible refine' ev_eqI ?_ ?_) <;> walk_at "ev"
  | (with_reducible refine' ev_neI ?_ ?_) <;> walk_at "ev"
  | (with_reducible refine' ev_intI ?_) <;> walk_at "eva"
  | (with_reducible refine' ev_lenT ?_) <;> walk_at "eva"
  | walk_at "evx")
local macro_rules | `(tactic| walk_at "eva") => `(tactic| first
  | (with_reducible exact eva_nil)
  | ((with_reducible refine' eva_cons ?v1 ?v2); (case v1 => walk_at "ev"); (case v2 => walk_at "eva")))
local macro_rules | `(tactic| walk_at "evx") => `(tactic| first
  | ((with_reducible refine' ev_pget ?a ?b ?c); (case a => rfl); (case b => with_reducible assumption); (case c => first | (with_reducible exact p_at _) | (with_reducible exact p_dg _) | (with_reducible exact p_ct _) | (with_reducible exact p_fo _))))
local macro_rules | `(tactic| walk_at "sh") => `(tactic| first
  | (with_reducible assumption)
  | ((with_reducible refine' ShAt.same ?hh ?kk); (case kk => with_reducible assumption); (case hh => walk_at "sh"))
  | ((with_reducible refine' ShAt.kt ?hh ?kk); (case kk => with_reducible assumption); (case hh => walk_at "sh")))
local macro_rules | `(tactic| walk_at "evx") => `(tactic| first
  | ((with_reducible refine' ev_base ?e ?h ?c ?n); (case e => rfl); (case h => walk_at "sh"); (case c => with_reducible assumption); (case n => with_reducible assumption))
  | ((with_reducible refine' ev_price ?e ?h ?c ?n); (case e => rfl); (case h => walk_at "sh"); (case c => with_reducible assumption); (case n => with_reducible assumption))
  | ((with_reducible refine' ev_steps ?e ?h ?c ?n); (case e => rfl); (case h => walk_at "sh"); (case c => with_reducible assumption); (case n => with_reducible assumption))
  | ((with_reducible refine' ev_prices ?e ?h ?c ?n); (case e => rfl); (case h => walk_at "sh"); (case c => with_reducible assumption); (case n => with_reducible assumption)))
section
variable {P : Program} {w : World} {K : Fr} {mg : Str → Option Value} {base : Heap}
/-! ### draws of numbers and cells -/
theorem ok_wide (T : Txt K mg) : FnOk P w K mg base CX0 3 T.a_wide T.f_wide ["_law_pen_here"] spWide := by
  refine T.d_wide.F.ok sc_wide (fun vs H Q E h => ?_) (fun cdv A outer s H vs Q E hr h => ?_)
  · obtain ⟨c, d, n, rfl, _⟩ := h
    rfl
  · obtain ⟨c, d, n, rfl, P0, hn, k⟩ := h
    refine ⟨_, (pss_cons (ps_set (i := 1) sc_wide.nd rfl (Or.inl rfl) pe_int)
    (pss_cons (ps_for PassesOwn.never rfl (pi_range1 rfl T.z_range (pa_cons (pe_call (ok_pick T) (hr.mono (by decide)) rfl T.d_pick.m T.d_pick.F.kp T.d_pick.b .nil pass0 (pa_cons (pv 0) (pa_cons (pe_lst (pa_cons pe_int (pa_cons pe_int (pa_cons pe_int (pa_cons pe_int (pa_cons pe_int pa_nil)))))) pa_nil))) pa_nil)) (pg_name (i := 2) sc_wide.nd rfl (Or.inl rfl))
    (pss_one (ps_set (i := 1) sc_wide.nd rfl (Or.inl rfl) (pe_op op_add (pe_op op_mulW (pv 1) (pe_op op_pow pe_int pe_int)) (pe_call (ok_draw T) (hr.mono (by decide)) rfl T.d_draw.m T.d_draw.F.kp T.d_draw.b .nil pass0 (pa_cons (pv 0) (pa_cons (pe_op op_pow pe_int pe_int) pa_nil)))))))
    (pss_one (ps_ret (pe_ifExp (pt_cmpR op_eq (pe_call (ok_draw T) (hr.mono (by decide)) rfl T.d_draw.m T.d_draw.F.kp T.d_draw.b .nil pass0 (pa_cons (pv 0) (pa_cons pe_int pa_nil))) pe_int (nomark _)) (pv 1) (pe_un un_neg (pv 1))))))), ?_⟩
    try dsimp only [cxOf, List.map]
    rw [show L2.start N_wide [V.ref d] = [some (V.ref d), none, none] from rfl]
    have eg : ∀ H σ, Ev K (tOp (rI CPow fun i j => .int (i ^ j.toNat)) (tC (.int 10)) (tC (.int 6))) σ H (.int 1000000) := fun _ _ => ev_pow ev_int ev_int ⟨by decide, by decide, by decide⟩ rfl
    refine s_set (K := K) ev_int fun v0 H0 s0 r0 => ?_
    cases r0.int_inv
    rw [show ([some (V.ref d), none, none] : L2.St).set 1 (some (V.int 0)) = [some (V.ref d), some (V.int 0), none] from rfl]
    try dsimp only
    unfold tSeq tFor
    refine c_pick (K := K) (ds := [.int 1, .int 1, .int 2, .int 5, .int 10]) rfl (P0.same s0) (by omega) ?_ (by decide) (by decide) fun v x H1 hx rx k1 P1 => ?_
    · refine evl_lst ?_ (Nat.le_of_ble_eq_true rfl)
      walk_at "eva"
    obtain ⟨j, hj, hj10, rfl⟩ : ∃ j : Nat, x = .int j ∧ j ≤ 10 ∧ v = .int j := by
      simp at hx
      rcases hx with rfl | rfl | rfl | rfl
      · exact ⟨1, rfl, by decide, rx.int_inv⟩
      · exact ⟨2, rfl, by decide, rx.int_inv⟩
      · exact ⟨5, rfl, by decide, rx.int_inv⟩
      · exact ⟨10, rfl, by decide, rx.int_inv⟩
    refine ⟨(j : Int), rfl, by omega, by omega, for_range (n := (j : Int).toNat) (fun i σ H2 => ∃ (x : Int) (o : Option V), σ = [some (V.ref d), some (V.int x), o] ∧ Kd d H H2 ∧ PenAt c H2 d (n + 1 + i) ∧ 0 ≤ x ∧ x < 10 ^ (6 * i)) ?_ ?_ ?_⟩
    · exact ⟨0, none, rfl, (kd_same s0).trans k1, P1, by decide, by decide⟩
    · rintro i σ H2 hi ⟨x, o, rfl, k2, P2, x0, x1⟩
      have hi' : i < j := by omega
      have bx := six_bd x0 x1 (by omega)
      refine (ev_mul (K := K) (H := H2) (x := x) (y := 1000000) (ev_var rfl (.int x)) (eg _ _) (Bd.mulW bx (bd_lit (n := 64) (by decide)) (by decide))) H2 (Same.refl H2) _ fun v H3 s3 r3 => ?_
      cases r3.int_inv
      refine c_draw (K := K) (m := 1000000) rfl (P2.same s3) (by omega) (by decide) (by decide) (eg _ _) fun r H4 r0 r1 k4 P4 => ?_
      refine ⟨_, _, rfl, rfl, ?_⟩
      obtain ⟨y0, y1⟩ := six_step x0 x1 r0 r1
      exact ⟨x * 1000000 + r, _, rfl, (k2.trans (kd_same s3)).trans k4, P4, y0, y1⟩
    · rintro σ H2 ⟨x, o, rfl, k2, P2, x0, x1⟩
      have bx := six_bd x0 x1 (by omega)
      refine c_draw (K := K) (m := 2) rfl P2 (by omega) (by decide) (by decide) ev_int fun r H4 r0 r1 k4 P4 => ?_
      have P5 : PenAt c H4 d (n + 12) := P4.mono (by omega)
      refine ⟨rfl, _, rfl, ?_⟩
      refine ite2 (fun _ => ?_) (fun _ => ?_)
      · exact ⟨_, rfl, k x H4 bx (k2.trans k4) P5⟩
      · exact ⟨_, rfl, _, rfl, k (-x) H4 bx.neg (k2.trans k4) P5⟩
theorem ok_near (T : Txt K mg) : FnOk P w K mg base CX0 2 T.a_near T.f_near ["_law_pen_here", "_law_wide_here"] (spNear K) := by
  refine T.d_near.F.ok sc_near (fun vs H Q E h => ?_) (fun cdv A outer s H vs Q E hr h => ?_)
  · obtain ⟨c, d, n, m, rfl, _⟩ := h
    rfl
  · obtain ⟨c, d, n, m, rfl, P0, hn, m0, m1, k⟩ := h
    refine ⟨_, (pss_cons (ps_set (i := 2) sc_near.nd rfl (Or.inl rfl) (pe_op op_sub (pe_call (ok_draw T) (hr.mono (by decide)) rfl T.d_draw.m T.d_draw.F.kp T.d_draw.b .nil pass0 (pa_cons (pv 0) (pa_cons (pe_op op_add (pe_op op_mulW pe_int (pv 1)) pe_int) pa_nil))) (pv 1)))
    (pss_one (ps_ret (pe_tup (pa_cons (pv 2) (pa_cons (pe_op op_sub (pe_call (ok_draw T) (hr.mono (by decide)) rfl T.d_draw.m T.d_draw.F.kp T.d_draw.b .nil pass0 (pa_cons (pv 0) (pa_cons (pe_op op_add (pe_op op_mulW pe_int (pv 1)) pe_int) pa_nil))) (pv 1)) pa_nil)))))), ?_⟩
    try dsimp only [cxOf, List.map]
    rw [show L2.start N_near [V.ref d, V.int m] = [some (V.ref d), some (V.int m), none] from rfl]
    have bm : Bd 10 m := Bd.of_range (lo := 0) (hi := 1000) (by omega) m1 (by decide) (by decide)
    have em : ∀ (H : Hp) (σ : L2.St), σ[1]? = some (some (V.int m)) → Ev K (tOp (rI0 fun i j => V.int (i + j)) (tOp (rI CMulW fun i j => V.int (i * j)) (tC (V.int 2)) (tVar 1)) (tC (V.int 1))) σ H (.int (2 * m + 1)) := fun H σ e =>
      ev_add (ev_mul ev_int (ev_var e (.int m)) (Bd.mulW (bd_lit (n := 64) (by decide)) bm (by decide))) ev_int
    unfold tSeq tAsg tOp
    refine c_draw (K := K) (m := 2 * m + 1) rfl P0 (by omega) (by omega) (by omega) (em _ _ rfl) fun r H1 r0 r1 k1 P1 => ?_
    refine ⟨_, rfl, _, _, rfl, rfl, ?_⟩
    refine ⟨_, rfl, ?_⟩
    refine c_draw (K := K) (m := 2 * m + 1) rfl P1 (by omega) (by omega) (by omega) (em _ _ rfl) fun r' H2 r0' r1' k2 P2 => ?_
    refine ⟨_, rfl, _, _, rfl, rfl, (by show 2 ≤ sizeLine; decide), fun p hp => ?_⟩
    have s3 := same_upd (o := HO.tup [V.int (r - m), V.int (r' - m)]) hp
    refine k (.ref p) (r - m, r' - m) _ ⟨?_, ?_⟩ (.tup (SqT.of upd_same) (.cons (.int _) (.cons (.int _) .nil))) ((k1.trans k2).trans (kd_same s3)) (P2.same s3)
    · exact Bd.of_range (lo := -1000) (hi := 1000) (by omega) (by omega) (by decide) (by decide)
    · exact Bd.of_range (lo := -1000) (hi := 1000) (by omega) (by omega) (by decide) (by decide)
theorem ok_count (T : Txt K mg) : FnOk P w K mg base CX0 4 T.a_count T.f_count ["_law_pen_here"] spCount := by
  refine T.d_count.F.ok sc_count (fun vs H Q E h => ?_) (fun cdv A outer s H vs Q E hr h => ?_)
  · obtain ⟨c, d, n, rfl, _⟩ := h
    rfl
  · obtain ⟨c, d, n, rfl, P0, hn, k⟩ := h
    refine ⟨_, (pss_one (ps_ret (pe_ifExp (pt_cmpR op_eq (pe_call (ok_draw T) (hr.mono (by decide)) rfl T.d_draw.m T.d_draw.F.kp T.d_draw.b .nil pass0 (pa_cons (pv 0) (pa_cons pe_int pa_nil))) pe_int (nomark _)) (pe_call (ok_draw T) (hr.mono (by decide)) rfl T.d_draw.m T.d_draw.F.kp T.d_draw.b .nil pass0 (pa_cons (pv 0) (pa_cons pe_int pa_nil))) (pe_callB call_abs (by rfl) T.z_abs (by decide +kernel) (pa_cons (pe_call (ok_wide T) (hr.mono (by decide)) rfl T.d_wide.m T.d_wide.F.kp T.d_wide.b .nil pass0 (pa_cons (pv 0) pa_nil)) pa_nil))))), ?_⟩
    try dsimp only [cxOf, List.map]
    rw [show L2.start N_count [V.ref d] = [some (V.ref d)] from rfl]
    unfold tRet tIf tTest tOp
    refine c_draw (K := K) (m := 2) rfl P0 (by omega) (by decide) (by decide) ev_int fun r H1 r0 r1 k1 P1 => ?_
    refine ⟨rfl, _, rfl, ?_⟩
    refine ite2 (fun _ => ?_) (fun _ => ?_)
    · refine c_draw (K := K) (m := 4) rfl P1 (by omega) (by decide) (by decide) ev_int fun r' H2 r0' r1' k2 P2 => ?_
      exact k r' H2 r0' (Bd.of_range (lo := 0) (hi := 4) r0' r1' (by decide) (by decide)) (k1.trans k2) (P2.mono (by omega))
    · refine c_wide (σ := [some (V.ref d)]) (i := 0) rfl P1 (by omega) fun x H2 bx k2 P2 => ?_
      refine ⟨x, rfl, ?_⟩
      by_cases h : x < 0
      · rw [if_pos h]
        exact k (-x) H2 (by omega) bx.neg (k1.trans k2) (P2.mono (by omega))
      · rw [if_neg h]
        exact k x H2 (by omega) bx (k1.trans k2) (P2.mono (by omega))
theorem ok_made (T : Txt K mg) : FnOk P w K mg base CX0 5 T.a_made T.f_made ["_law_row"] (spMade K T.C_Sheet) := by
  refine T.d_made.F.ok sc_made (fun vs H Q E h => ?_) (fun cdv A outer s H vs Q E hr h => ?_)
  · obtain ⟨S, v, rfl, _⟩ := h
    rfl
  · obtain ⟨S, v, rfl, ok, rv, k⟩ := h
    refine ⟨_, (pss_one (ps_ret (pe_make T.k_Sheet (ok_init T) (hr.mono (by decide)) rfl T.g_Sheet T.b_init .nil pass0 (pa_cons (pe_ix (ix_tK K) (pv 0) pe_int (fun _ _ => rfl)) (pa_cons (pe_ix (ix_tK K) (pv 0) pe_int (fun _ _ => rfl)) (pa_cons (pe_ix (ix_tK K) (pv 0) pe_int (fun _ _ => rfl)) (pa_cons (pe_ix (ix_tK K) (pv 0) pe_int (fun _ _ => rfl)) pa_nil))))))), ?_⟩
    try dsimp only [cxOf, List.map]
    rw [show L2.start N_made [v] = [some v] from rfl]
    have e : EvA K (tCons (tOp (rIxT K) (tVar 0) (tC (V.int 0))) (tCons (tOp (rIxT K) (tVar 0) (tC (V.int 1))) (tCons (tOp (rIxT K) (tVar 0) (tC (V.int 2))) (tCons (tOp (rIxT K) (tVar 0) (tC (V.int 3))) tNil)))) [some v] H [dC S.base, .int S.price, dCs S.steps, dIs S.prices] := by
      walk_at "eva"
    unfold tRet tMake
    refine e H (Same.refl H) _ fun ws H1 s1 rs => ?_
    obtain ⟨w1, w2, w3, w4, rfl, q1, q2, q3, q4⟩ := rs.inv4
    intro x dx nx ndx nex
    have sd := same_upd (o := HO.own x) ndx
    have nx' : upd H1 dx (.own x) x = none := by rw [upd_ne (Ne.symm nex)]; exact nx
    have sx := same_upd (o := HO.ins T.C_Sheet dx []) nx'
    have s2 := sd.trans sx
    refine ⟨x, dx, w1, w2, w3, w4, S, rfl, upd_same, ok, q1.same s2, q2.same s2, q3.same s2, q4.same s2, fun H' hS keep => ⟨rfl, k x H' hS fun b o hb => ?_⟩⟩
    have hb1 := s1 b o hb
    exact keep b o (s2 b o hb1) (ne_of_none hb1 nx)
end
end LW
namespace LW
open PySem L2 LB
local macro_rules | `(tactic| walk_at "hp") => `(tactic| first
  | (with_reducible assumption) | (with_reducible exact Rep.int _) | (with_reducible exact Rep.bl _) | (with_reducible exact Rep.non) | (with_reducible exact Rep.str _)
  | ((with_reducible refine' Rep.same ?kk ?hh); (case kk => with_reducible assumption); (case hh => walk_at "hp"))
  | ((with_reducible refine' Rep.kt ?kk ?hh); (case kk => with_reducible assumption); (case hh => walk_at "hp")))
local macro_rules | `(tactic| walk_at "bd") => `(tactic| first
  | (with_reducible assumption)
  | exact bd_lit (n := 64) (by decide)
  | (with_reducible refine' Bd.mul ?_ ?_) <;> walk_at "bd"
  | (with_reducible refine' Bd.add ?_ ?_) <;> walk_at "bd"
  | (with_reducible refine' Bd.sub ?_ ?_) <;> walk_at "bd"
  | (with_reducible refine' Bd.neg ?_) <;> walk_at "bd")
local macro_rules | `(tactic| walk_at "ev") => `(tactic| first
  | (with_reducible exact ev_int) | (with_reducible exact ev_bl) | (with_reducible exact ev_non) | (with_reducible exact ev_str)
  | ((with_reducible refine' ev_var ?e ?hh); (case e => rfl); (case hh => walk_at "hp"))
  | (with_reducible refine' ev_add ?_ ?_) <;> walk_at "ev"
  | (with_reducible refine' ev_sub ?_ ?_) <;> walk_at "ev"
  | ((with_reducible refine' ev_mul ?m1 ?m2 ?m3); (case m1 => walk_at "ev"); (case m2 => walk_at "ev"); (case m3 => (refine' Bd.mulW ?b1 ?b2 ?b3; (case b1 => walk_at "bd"); (case b2 => walk_at "bd"); (case b3 => decide))))
  | ((with_reducible refine' ev_ix ?m1 ?m2); (case m1 => walk_at "ev"); (case m2 => rfl))
  | ((with_reducible refine' ev_tup ?m1 ?m2); (case m1 => walk_at "eva"); (case m2 => exact Nat.le_of_ble_eq_true rfl))
  | (with_reducible refine' ev_neg ?_) <;> walk_at "ev"
  | (with_reducible refine' ev_lt ?_ ?_) <;> walk_at "ev"
  | (with_reducible refine' ev_le ?_ ?_) <;> walk_at "ev"
  | (with_reducible refine' ev_gt ?_ ?_) <;> walk_at "ev"
  | (with_reducible refine' ev_ge ?_ ?_) <;> walk_at "ev"
  | (with_reducible refine' ev_eqI ?_ ?_) <;> walk_at "ev"
  | (with_reducible refine' ev_neI ?_ ?_) <;> walk_at "ev"
  | (with_reducible refine' ev_intI ?_) <;> walk_at "eva"
  | (with_reducible refine' ev_lenT ?_) <;> walk_at "eva"
  | walk_at "evx")
local macro_rules | `(tactic| walk_at "eva") => `(tactic| first
  | (with_reducible exact eva_nil)
  | ((with_reducible refine' eva_cons ?v1 ?v2); (case v1 => walk_at "ev"); (case v2 => walk_at "eva")))
local macro_rules | `(tactic| walk_at "evx") => `(tactic| first
  | ((with_reducible refine' ev_pget ?a ?b ?c); (case a => rfl); (case b => with_reducible assumption); (case c => first | (with_reducible exact p_at _) | (with_reducible exact p_dg _) | (with_reducible exact p_ct _) | (with_reducible exact p_fo _))))
local macro_rules | `(tactic| walk_at "sh") => `(tactic| first
  | (with_reducible assumption)
  | ((with_reducible refine' ShAt.same ?hh ?kk); (case kk => with_reducible assumption); (case hh => walk_at "sh"))
  | ((with_reducible refine' ShAt.kt ?hh ?kk); (case kk => with_reducible assumption); (case hh => walk_at "sh")))
local macro_rules | `(tactic| walk_at "evx") => `(tactic| first
  | ((with_reducible refine' ev_base ?e ?h ?c ?n); (case e => rfl); (case h => walk_at "sh"); (case c => with_reducible assumption); (case n => with_reducible assumption))
  | ((with_reducible refine' ev_price ?e ?h ?c ?n); (case e => rfl); (case h => walk_at "sh"); (case c => with_reducible assumption); (case n => with_reducible assumption))
  | ((with_reducible refine' ev_steps ?e ?h ?c ?n); (case e => rfl); (case h => walk_at "sh"); (case c => with_reducible assumption); (case n => with_reducible assumption))
  | ((with_reducible refine' ev_prices ?e ?h ?c ?n); (case e => rfl); (case h => walk_at "sh"); (case c => with_reducible assumption); (case n => with_reducible assumption)))
section
variable {P : Program} {w : World} {K : Fr} {mg : Str → Option Value} {base : Heap}
theorem ok_steps (T : Txt K mg) : FnOk P w K mg base CX0 3 T.a_steps T.f_steps ["_law_pen_here", "_law_many", "_law_wide_here"] (spSteps K) := by
  refine T.d_steps.F.ok sc_steps (fun vs H Q E h => ?_) (fun cdv A outer s H vs Q E hr h => ?_)
  · obtain ⟨c, d, n, j, m, rfl, _⟩ := h
    rfl
  · obtain ⟨c, d, n, j, m, rfl, hj, P0, hn, m0, m1, k⟩ := h
    have hu64 : (A.deeper (PyProof.Rows.envOfC "_law_steps" (defScope s_steps) s.heap.objs.size T.a_steps cdv)).units + 64 < cLine := by
      have := hr.un
      omega
    refine ⟨_, (pss_cons (ps_setLc (i := 3) (own := [("_law_k", 4)]) (g := gName 4) rfl sc_steps.nd rfl rfl (sw_true rfl rfl rfl (by decide +kernel)) (pi_range1 rfl T.z_range (pa_cons (pv 1) pa_nil)) (blkOk_by (N := N_steps) (sc := defScope s_steps) (by decide +kernel)) (fun _ _ _ _ _ => (pg_name (i := 4) sc_steps.nd rfl (Or.inl rfl))) (fun _ _ _ _ _ => pts_nil) (fun _ _ _ _ _ => (pe_call (ok_near T) (hr.mono (by decide)) rfl T.d_near.m T.d_near.F.kp T.d_near.b .nil pass0 (pa_cons (pv 0) (pa_cons (pv 2) pa_nil)))))
    (pss_cons (ps_setLc (i := 3) (own := [("_law_step", 5)]) (g := gName 5) rfl sc_steps.nd rfl rfl (sw_true rfl rfl rfl (by decide +kernel)) (pi_list (pv 3)) (blkOk_by (N := N_steps) (sc := defScope s_steps) (by decide +kernel)) (fun _ _ _ _ _ => (pg_name (i := 5) sc_steps.nd rfl (Or.inl rfl))) (fun _ _ _ _ _ => pts_nil) (fun _ _ _ _ _ => (pe_ifExp (pt_cmpR (op_neK K rfl hu64) (pv 5) (pe_tup (pa_cons pe_int (pa_cons pe_int pa_nil))) (nomark _)) (pv 5) (pe_tup (pa_cons pe_int (pa_cons pe_int pa_nil))))))
    (pss_meet (ps_if (PW.pt (pw_and (pt_cmpR op_eq (pv 1) pe_int (nomark _)) (pw_and1 (pt_cmpR op_eq (pe_call (ok_lcross T) (hr.mono (by decide)) rfl T.d_lcross.m T.d_lcross.F.kp T.d_lcross.b .nil pass0 (pa_cons (pe_ix (ix_lK K) (pv 3) pe_int (fun _ _ => rfl)) (pa_cons (pe_ix (ix_lK K) (pv 3) pe_int (fun _ _ => rfl)) pa_nil))) pe_int (nomark _))))) (pss_one (ps_asg (pe_tup (pa_cons (pe_un un_neg (pe_ix (ix_tK K) (pe_ix (ix_lK K) (pv 3) pe_int (fun _ _ => rfl)) pe_int (fun _ _ => rfl))) (pa_cons (pe_ix (ix_tK K) (pe_ix (ix_lK K) (pv 3) pe_int (fun _ _ => rfl)) pe_int (fun _ _ => rfl)) pa_nil))) (pg_sub (pv 3) pe_int set_list))) pss_nil)
    (pss_one (ps_ret (pe_callTy call_tuple_of (by rfl) T.z_tuple (by decide +kernel) (pa_cons (pv 3) pa_nil))))))), ?_⟩
    try dsimp only [cxOf, List.map]
    rw [show L2.start N_steps [V.ref d, V.int j, V.int m] = [some (V.ref d), some (V.int j), some (V.int m), none, none, none] from rfl]
    have em : ∀ H, Rep K H (.int m) (.int m) := fun _ => .int m
    -- cells are drawn
    refine ⟨_, rfl, (j : Int), rfl, by omega, by omega, fun D1 hD1 => ?_⟩
    refine lc_pen (K := K) walk_range (c := c) (d := d) (n0 := n) (k := 2) (fun x => ∃ q, x = dC q ∧ BdC 20 q) (by omega) hD1 P0 (fun _ _ => trivial) (fun i H x H' y => y.1) ?_ ?_
    · intro v H1 n1 P1 hn1 k1 Q1 kk
      refine c_near (K := K) (m := m) rfl P1 (by omega) m0 m1 (ev_var rfl (.int m)) fun v x H2 bx rx k2 P2 => kk v (dC x) H2 ⟨x, rfl, bx⟩ rx k2 P2
    intro vs1 xs1 H1 hl1 hx1 k1 P1 hL1 rs1
    obtain ⟨cells1, rfl, bd1⟩ := cells_of hx1
    rw [List.length_map] at hl1
    have ln1 : cells1.length = j := by omega
    try dsimp only [gName]
    rw [show ([some (V.ref d), some (V.int j), some (V.int m), none, none, none] : L2.St).set 3 (some (V.ref D1)) = [some (V.ref d), some (V.int j), some (V.int m), some (V.ref D1), none, none] from rfl]
    -- no one is (0, 0)
    have ecl : EvL K (tLc (iList K (tVar 3)) (gName 5) tYes (tIf (tTest (tOp (rNeD K) (tVar 5) (tTup (tCons (tC (V.int 0)) (tCons (tC (V.int 0)) tNil))))) (tVar 5) (tTup (tCons (tC (V.int 0)) (tCons (tC (V.int 1)) tNil)))) [5])
        [some (V.ref d), some (V.int j), some (V.int m), some (V.ref D1), none, none] H1 ((cells1.map (fixC (0, 1))).map dC) := by
      refine evl_lcl rfl hL1 rs1 (by simp) (by simp; omega) fun i x v H2 hx s2 rv => ?_
      obtain ⟨q, hq, rfl⟩ := cell_of_list hx
      refine ⟨dC (fixC (0, 1) q), by simp [hq], ?_⟩
      refine ev_if (c := !decide (q = (0, 0))) (evb_test (K := K) ?_) (fun h => ?_) (fun h => ?_)
      · rw [← eqv_dC]
        with_reducible refine ev_neD ?x ?y (shaped_dC _) (shaped_dC _)
        case x => walk_at "ev"
        case y => walk_at "ev"
      · have e : fixC (0, 1) q = q := if_neg (by simpa using h)
        rw [e]
        walk_at "ev"
      · have e : fixC (0, 1) q = (0, 1) := if_pos (by simpa using h)
        rw [e]
        walk_at "ev"
    refine s_setL (K := K) ecl fun D2 vs2 H3 s3 hD2 hl2 rs2 => ?_
    rw [show ([some (V.ref d), some (V.int j), some (V.int m), some (V.ref D1), none, none] : L2.St).set 3 (some (V.ref D2)) = [some (V.ref d), some (V.int j), some (V.int m), some (V.ref D2), none, none] from rfl]
    have k3 : Kd d H H3 := k1.trans (kd_same s3)
    have P2 := P1
    have k2 := k1
    have P3 : PenAt c H3 d (n + 4) := (P1.same s3).mono (by omega)
    generalize hcells : cells1.map (fixC (0, 1)) = cells at rs2
    have ln : cells.length = j := by subst hcells; rw [List.length_map]; exact ln1
    have bd : ∀ q ∈ cells, BdC 210 q := by
      subst hcells
      intro q hq
      obtain ⟨q0, h0, rfl⟩ := List.mem_map.mp hq
      exact (fixC_bd ⟨bd_lit (by decide), bd_lit (by decide)⟩ (bd1 q0 h0)).mono (by decide)
    have nz : ∀ q ∈ cells, ¬ q = (0, 0) := by
      subst hcells
      intro q hq
      obtain ⟨q0, h0, rfl⟩ := List.mem_map.mp hq
      exact fixC_ne (by decide)
    clear hcells ecl
    have hfin : ∀ (H3 : Hp) (l : Addr) (vs : List V) (cells : List C2) (o1 o2 : Option V) (σ : L2.St), σ = [some (V.ref d), some (V.int j), some (V.int m), some (V.ref l), o1, o2] → Kd d H H3 → PenAt c H3 d (n + 4) → l ≠ d → H3 l = some (.lst vs) → RepAll K H3 vs (cells.map dC) → cells.length = j → areSteps cells = true → (∀ q ∈ cells, BdC 210 q) →
        tRet (tCB (rTupleOf K) (tCons (tVar 3) tNil)) { nx := fun _ H' => Q .non H', rt := Q } σ H3 := by
      rintro H3 l vs cells o1 o2 σ rfl k3 P3 nl hl rs ln st bd
      refine ⟨_, rfl, l, vs, rfl, .inl ⟨SqL.of hl, fun p hp => ?_⟩⟩
      have s4 := same_upd (o := HO.tup vs) hp
      exact k (.ref p) cells _ ln st bd (.tup (SqT.of upd_same) (rs.same s4)) (k3.trans (kd_same s4)) ((P3.same s4).mono (by omega))
    with_reducible refine s_meet (fun σ' H' => ∃ (l : Addr) (vs : List V) (cells : List C2) (o1 o2 : Option V), σ' = [some (V.ref d), some (V.int j), some (V.int m), some (V.ref l), o1, o2] ∧ Kd d H H' ∧ PenAt c H' d (n + 4) ∧ l ≠ d ∧ H' l = some (.lst vs) ∧ RepAll K H' vs (cells.map dC) ∧ cells.length = j ∧ areSteps cells = true ∧ ∀ q ∈ cells, BdC 210 q) ?rest ?_
    case rest =>
      rintro σ' H3 ⟨l, vs, cells, o1, o2, rfl, k3, P3, nl, hl, rs, ln, st, bd⟩
      exact hfin H3 l vs cells o1 o2 _ rfl k3 P3 nl hl rs ln st bd
    have nD2 : D2 ≠ d := (P2.ned hD2).1
    match cells, ln, bd, nz, rs2 with
    | [], ln, bd, nz, rs2 =>
      have hj0 : j = 0 := by simpa using ln.symm
      with_reducible refine s_if (c := decide ((j : Int) = 2) && false) (evb_and (evb_test (K := K) (ev_eqI ?t1 ev_int)) fun h => ?t2) (fun ht _ _ => ?_) (fun hf H4 s4 => s_next ?_)
      case t1 => walk_at "ev"
      case t2 => have := of_decide_eq_true h; omega
      · simp at ht
      · exact ⟨D2, vs2, [], none, none, rfl, k3.trans (kd_same s4), P3.same s4, nD2, s4 _ _ hl2, rs2.same s4, ln, rfl, bd⟩
    | [a], ln, bd, nz, rs2 =>
      have hj0 : j = 1 := by simpa using ln.symm
      have a0 := nz a (by simp)
      with_reducible refine s_if (c := decide ((j : Int) = 2) && false) (evb_and (evb_test (K := K) (ev_eqI ?t1 ev_int)) fun h => ?t2) (fun ht _ _ => ?_) (fun hf H4 s4 => s_next ?_)
      case t1 => walk_at "ev"
      case t2 => have := of_decide_eq_true h; omega
      · simp at ht
      · exact ⟨D2, vs2, [a], none, none, rfl, k3.trans (kd_same s4), P3.same s4, nD2, s4 _ _ hl2, rs2.same s4, ln, by simp [areSteps, a0], bd⟩
    | [a, b], ln, bd, nz, rs2 =>
      have hj0 : j = 2 := by simpa using ln.symm
      have a0 := nz a (by simp)
      have b0 := nz b (by simp)
      have ba := bd a (by simp)
      have bb := bd b (by simp)
      have x0 : ∀ H4, Same H3 H4 → Ev K (tOp (rIxL K) (tVar 3) (tC (.int 0))) [some (V.ref d), some (V.int j), some (V.int m), some (V.ref D2), none, none] H4 (dC a) := fun H4 s4 => ev_ixL rfl (s4 _ _ hl2) (rs2.same s4) rfl
      have x1 : ∀ H4, Same H3 H4 → Ev K (tOp (rIxL K) (tVar 3) (tC (.int 1))) [some (V.ref d), some (V.int j), some (V.int m), some (V.ref D2), none, none] H4 (dC b) := fun H4 s4 => ev_ixL rfl (s4 _ _ hl2) (rs2.same s4) rfl
      with_reducible refine s_if (c := decide ((j : Int) = 2) && decide (cr a b = 0)) (evb_and (evb_test (K := K) (ev_eqI ?t1 ev_int)) fun h => evb_test (K := K) (ev_eqI (ev_cross (x0 H3 (Same.refl H3)) (x1 H3 (Same.refl H3)) (ba.mono (by decide)) (bb.mono (by decide))) ev_int)) (fun ht H4 s4 => ?_) (fun hf H4 s4 => s_next ?_)
      case t1 => walk_at "ev"
      · -- the second one is put across
        refine (ev_tup (K := K) (eva_cons (ev_neg (ev_ix (x0 H4 s4) (atI_nat (j := 1) rfl))) (eva_cons (ev_ix (x0 H4 s4) (atI_nat (j := 0) rfl)) eva_nil)) (Nat.le_of_ble_eq_true rfl)) H4 (Same.refl H4) _ fun vq H5 s5 rq => ?_
        obtain ⟨va, vb, rfl, ra, rb⟩ := rs2.inv2
        have hl5 : H5 D2 = some (.lst [va, vb]) := s5 _ _ (s4 _ _ hl2)
        refine ⟨_, rfl, D2, [va, vb], 1, 1, rfl, rfl, hl5, rfl, ?_⟩
        have k5 : Kd d H H5 := k3.trans (kd_same (s4.trans s5))
        have P5 := (P3.same s4).same s5
        have nc := (P2.ned hD2).2
        refine ⟨D2, [va, vq], [a, quarter a], none, none, rfl, fun b o hb ne => ?_, P5.upd nD2 nc, nD2, upd_same, ?_, hj0.symm, quarter_ok a0, ?_⟩
        · have e : b ≠ D2 := fun z => by
            subst z
            have := k2 _ _ hb ne
            rw [hD2] at this
            cases this
          rw [upd_ne e]
          exact k5 b o hb ne
        · have kt := kt_lst (b := [va, vq]) hl5
          exact .cons (((ra.same s4).same s5).kt kt) (.cons (rq.kt kt) .nil)
        · intro q hq
          simp at hq
          rcases hq with rfl | rfl
          · exact ba
          · exact ⟨ba.2.neg, ba.1⟩
      · refine ⟨D2, vs2, [a, b], none, none, rfl, k3.trans (kd_same s4), P3.same s4, nD2, s4 _ _ hl2, rs2.same s4, ln, ?_, bd⟩
        rw [hj0] at hf
        simp at hf
        simp [areSteps, a0, b0, hf]
    | a :: b :: e :: r, ln, _, _, _ => exact absurd ln (by simp; omega)
end
end LW
namespace LW
open PySem L2 LB
local macro_rules | `(tactic| walk_at "hp") => `(tactic| first
  | (with_reducible assumption) | (with_reducible exact Rep.int _) | (with_reducible exact Rep.bl _) | (with_reducible exact Rep.non) | (with_reducible exact Rep.str _)
  | ((with_reducible refine' Rep.same ?kk ?hh); (case kk => with_reducible assumption); (case hh => walk_at "hp"))
  | ((with_reducible refine' Rep.kt ?kk ?hh); (case kk => with_reducible assumption); (case hh => walk_at "hp")))
local macro_rules | `(tactic| walk_at "bd") => `(tactic| first
  | (with_reducible assumption)
  | exact bd_lit (n := 64) (by decide)
  | (with_reducible refine' Bd.mul ?_ ?_) <;> walk_at "bd"
  | (with_reducible refine' Bd.add ?_ ?_) <;> walk_at "bd"
  | (with_reducible refine' Bd.sub ?_ ?_) <;> walk_at "bd"
  | (with_reducible refine' Bd.neg ?_) <;> walk_at "bd")
local macro_rules | `(tactic| walk_at "ev") => `(tactic| first
  | (with_reducible exact ev_int) | (with_reducible exact ev_bl) | (with_reducible exact ev_non) | (with_reducible exact ev_str)
  | ((with_reducible refine' ev_var ?e ?hh); (case e => rfl); (case hh => walk_at "hp"))
  | (with_reducible refine' ev_add ?_ ?_) <;> walk_at "ev"
  | (with_reducible refine' ev_sub ?_ ?_) <;> walk_at "ev"
  | ((with_reducible refine' ev_mul ?m1 ?m2 ?m3); (case m1 => walk_at "ev"); (case m2 => walk_at "ev"); (case m3 => (refine' Bd.mulW ?b1 ?b2 ?b3; (case b1 => walk_at "bd"); (case b2 => walk_at "bd"); (case b3 => decide))))
  | ((with_reducible refine' ev_ix ?m1 ?m2); (case m1 => walk_at "ev"); (case m2 => rfl))
  | ((with_reducible refine' ev_tup ?m1 ?m2); (case m1 => walk_at "eva"); (case m2 => exact Nat.le_of_ble_eq_true rfl))
  | (with_reducible refine' ev_neg ?_) <;> walk_at "ev"
  | (with_reducible refine' ev_lt ?_ ?_) <;> walk_at "ev"
  | (with_reducible refine' ev_le ?_ ?_) <;> walk_at "ev"
  | (with_reducible refine' ev_gt ?_ ?_) <;> walk_at "ev"
  | (with_reducible refine' ev_ge ?_ ?_) <;> walk_at "ev"
  | (with_reducible refine' ev_eqI ?_ ?_) <;> walk_at "ev"
  | (with_reducible refine' ev_neI ?_ ?_) <;> walk_at "ev"
  | (with_reducible refine' ev_intI ?_) <;> walk_at "eva"
  | (with_reducible refine' ev_lenT ?_) <;> walk_at "eva"
  | walk_at "evx")
local macro_rules | `(tactic| walk_at "eva") => `(tactic| first
  | (with_reducible exact eva_nil)
  | ((with_reducible refine' eva_cons ?v1 ?v2); (case v1 => walk_at "ev"); (case v2 => walk_at "eva")))
local macro_rules | `(tactic| walk_at "evx") => `(tactic| first
  | ((with_reducible refine' ev_pget ?a ?b ?c); (case a => rfl); (case b => with_reducible assumption); (case c => first | (with_reducible exact p_at _) | (with_reducible exact p_dg _) | (with_reducible exact p_ct _) | (with_reducible exact p_fo _))))
local macro_rules | `(tactic| walk_at "sh") => `(tactic| first
  | (with_reducible assumption)
  | ((with_reducible refine' ShAt.same ?hh ?kk); (case kk => with_reducible assumption); (case hh => walk_at "sh"))
  | ((with_reducible refine' ShAt.kt ?hh ?kk); (case kk => with_reducible assumption); (case hh => walk_at "sh")))
local macro_rules | `(tactic| walk_at "evx") => `(tactic| first
  | ((with_reducible refine' ev_base ?e ?h ?c ?n); (case e => rfl); (case h => walk_at "sh"); (case c => with_reducible assumption); (case n => with_reducible assumption))
  | ((with_reducible refine' ev_price ?e ?h ?c ?n); (case e => rfl); (case h => walk_at "sh"); (case c => with_reducible assumption); (case n => with_reducible assumption))
  | ((with_reducible refine' ev_steps ?e ?h ?c ?n); (case e => rfl); (case h => walk_at "sh"); (case c => with_reducible assumption); (case n => with_reducible assumption))
  | ((with_reducible refine' ev_prices ?e ?h ?c ?n); (case e => rfl); (case h => walk_at "sh"); (case c => with_reducible assumption); (case n => with_reducible assumption)))
section
variable {P : Program} {w : World} {K : Fr} {mg : Str → Option Value} {base : Heap}
theorem ok_great_steps (T : Txt K mg) : FnOk P w K mg base CX0 4 T.a_great_steps T.f_great_steps ["_law_pen_here", "_law_many"] (spGreat K) := by
  refine T.d_great_steps.F.ok sc_great_steps (fun vs H Q E h => ?_) (fun cdv A outer s H vs Q E hr h => ?_)
  · obtain ⟨c, d, n, j, rfl, _⟩ := h
    rfl
  · obtain ⟨c, d, n, j, rfl, hj, P0, hn, k⟩ := h
    have hu64 : (A.deeper (PyProof.Rows.envOfC "_law_great_steps" (defScope s_great_steps) s.heap.objs.size T.a_great_steps cdv)).units + 64 < cLine := by
      have := hr.un
      omega
    refine ⟨_, (pss_cons (ps_if (pt_cmpR op_eq (pe_call (ok_draw T) (hr.mono (by decide)) rfl T.d_draw.m T.d_draw.F.kp T.d_draw.b .nil pass0 (pa_cons (pv 0) (pa_cons pe_int pa_nil))) pe_int (nomark _)) (pss_one (ps_ret (pe_call (ok_steps T) (hr.mono (by decide)) rfl T.d_steps.m T.d_steps.F.kp T.d_steps.b .nil pass0 (pa_cons (pv 0) (pa_cons (pv 1) (pa_cons (pe_call (ok_pick T) (hr.mono (by decide)) rfl T.d_pick.m T.d_pick.F.kp T.d_pick.b .nil pass0 (pa_cons (pv 0) (pa_cons (pe_lst (pa_cons pe_int (pa_cons pe_int (pa_cons pe_int pa_nil)))) pa_nil))) pa_nil)))))) pss_nil)
    (pss_cons (ps_setLc (i := 2) (own := [("_law_k", 3)]) (g := gName 3) rfl sc_great_steps.nd rfl rfl (sw_true rfl rfl rfl (by decide +kernel)) (pi_range1 rfl T.z_range (pa_cons (pv 1) pa_nil)) (blkOk_by (N := N_great_steps) (sc := defScope s_great_steps) (by decide +kernel)) (fun _ _ _ _ _ => (pg_name (i := 3) sc_great_steps.nd rfl (Or.inl rfl))) (fun _ _ _ _ _ => pts_nil) (fun _ _ _ _ _ => (pe_tup (pa_cons (pe_call (ok_wide T) (hr.mono (by decide)) rfl T.d_wide.m T.d_wide.F.kp T.d_wide.b .nil pass0 (pa_cons (pv 0) pa_nil)) (pa_cons (pe_call (ok_wide T) (hr.mono (by decide)) rfl T.d_wide.m T.d_wide.F.kp T.d_wide.b .nil pass0 (pa_cons (pv 0) pa_nil)) pa_nil)))))
    (pss_cons (ps_setLc (i := 2) (own := [("_law_step", 4)]) (g := gName 4) rfl sc_great_steps.nd rfl rfl (sw_true rfl rfl rfl (by decide +kernel)) (pi_list (pv 2)) (blkOk_by (N := N_great_steps) (sc := defScope s_great_steps) (by decide +kernel)) (fun _ _ _ _ _ => (pg_name (i := 4) sc_great_steps.nd rfl (Or.inl rfl))) (fun _ _ _ _ _ => pts_nil) (fun _ _ _ _ _ => (pe_ifExp (pt_cmpR (op_neK K rfl hu64) (pv 4) (pe_tup (pa_cons pe_int (pa_cons pe_int pa_nil))) (nomark _)) (pv 4) (pe_tup (pa_cons pe_int (pa_cons pe_int pa_nil))))))
    (pss_meet (ps_if (PW.pt (pw_and (pt_cmpR op_eq (pv 1) pe_int (nomark _)) (pw_and1 (pt_cmpR op_eq (pe_call (ok_lcross T) (hr.mono (by decide)) rfl T.d_lcross.m T.d_lcross.F.kp T.d_lcross.b .nil pass0 (pa_cons (pe_ix (ix_lK K) (pv 2) pe_int (fun _ _ => rfl)) (pa_cons (pe_ix (ix_lK K) (pv 2) pe_int (fun _ _ => rfl)) pa_nil))) pe_int (nomark _))))) (pss_one (ps_asg (pe_tup (pa_cons (pe_un un_neg (pe_ix (ix_tK K) (pe_ix (ix_lK K) (pv 2) pe_int (fun _ _ => rfl)) pe_int (fun _ _ => rfl))) (pa_cons (pe_ix (ix_tK K) (pe_ix (ix_lK K) (pv 2) pe_int (fun _ _ => rfl)) pe_int (fun _ _ => rfl)) pa_nil))) (pg_sub (pv 2) pe_int set_list))) pss_nil)
    (pss_one (ps_ret (pe_callTy call_tuple_of (by rfl) T.z_tuple (by decide +kernel) (pa_cons (pv 2) pa_nil)))))))), ?_⟩
    try dsimp only [cxOf, List.map]
    rw [show L2.start N_great_steps [V.ref d, V.int j] = [some (V.ref d), some (V.int j), none, none, none] from rfl]
    have g0 : ∀ (r : Int) (H0 : Hp), Kd d H H0 → PenAt c H0 d (n + 1) → ∀ (t1 t2 : TS) (D : Ends), (r = 0 → t1 D [some (V.ref d), some (V.int j), none, none, none] H0) → (¬ r = 0 → t2 D [some (V.ref d), some (V.int j), none, none, none] H0) →
        (if decide (V.int r = V.int 0) = true then t1 D [some (V.ref d), some (V.int j), none, none, none] H0 else t2 D [some (V.ref d), some (V.int j), none, none, none] H0) := by
      intro r H0 _ _ t1 t2 D h1 h2
      refine ite2 (fun h => h1 ?_) (fun h => h2 ?_)
      · exact V.int.inj (of_decide_eq_true h)
      · intro e
        exact h (decide_eq_true (by rw [e]))
    refine c_draw (K := K) (σ := [some (V.ref d), some (V.int j), none, none, none]) (i := 0) (m := 2) rfl P0 (by omega) (by decide) (by decide) ev_int fun r H0 r0 r1 k0 P0' => ?_
    refine ⟨rfl, _, rfl, ?_⟩
    refine g0 r H0 k0 P0' _ _ _ (fun _ => ?_) (fun _ => ?_)
    · -- small ones
      refine ⟨_, rfl, _, rfl, ?_⟩
      refine c_pick (K := K) (σ := [some (V.ref d), some (V.int j), none, none, none]) (i := 0) (ds := [.int 1, .int 2, .int 9]) rfl P0' (by omega) ?_ (by decide) (by decide) fun v x H1 hx rx k1 P1 => ?_
      · refine evl_lst ?_ (Nat.le_of_ble_eq_true rfl)
        walk_at "eva"
      obtain ⟨m, hm0, hm1, rfl⟩ : ∃ m : Int, 0 < m ∧ m < 1000 ∧ v = .int m := by
        simp at hx
        rcases hx with rfl | rfl | rfl
        · exact ⟨1, by decide, by decide, rx.int_inv⟩
        · exact ⟨2, by decide, by decide, rx.int_inv⟩
        · exact ⟨9, by decide, by decide, rx.int_inv⟩
      refine ⟨c, d, n + 1 + 1, j, m, rfl, hj, P1, by omega, hm0, hm1, fun v l H2 h1 h2 h3 h4 h5 h6 => ?_⟩
      exact k v l H2 h1 h2 h3 h4 ((k0.trans k1).trans h5) (h6.mono (by omega))
    -- great ones
    refine ⟨_, rfl, (j : Int), rfl, by omega, by omega, fun D1 hD1 => ?_⟩
    refine lc_pen (K := K) walk_range (c := c) (d := d) (n0 := n + 1) (k := 24) (fun x => ∃ q, x = dC q ∧ BdC 210 q) (by omega) hD1 P0' (fun _ _ => trivial) (fun i H x H' y => y.1) ?_ ?_
    · intro v H1 n1 P1 hn1 k1 Q1 kk
      refine c_wide (σ := (wipe [some (V.ref d), some (V.int j), none, none, none] [3]).set 3 (some v)) (i := 0) rfl P1 (by omega) fun x H2 bx k2 P2 => ?_
      refine c_wide (σ := (wipe [some (V.ref d), some (V.int j), none, none, none] [3]).set 3 (some v)) (i := 0) rfl P2 (by omega) fun y H3 by_ k3 P3 => ?_
      refine ⟨(by show 2 ≤ sizeLine; decide), fun p hp => ?_⟩
      have s4 := same_upd (o := HO.tup [V.int x, V.int y]) hp
      exact kk (.ref p) (dC (x, y)) _ ⟨(x, y), rfl, bx, by_⟩ (.tup (SqT.of upd_same) (.cons (.int _) (.cons (.int _) .nil))) ((k2.trans k3).trans (kd_same s4)) (P3.same s4)
    intro vs1 xs1 H1 hl1 hx1 k01 P1 hL1 rs1
    have k1 : Kd d H H1 := k0.trans k01
    obtain ⟨cells1, rfl, bd1⟩ := cells_of hx1
    rw [List.length_map] at hl1
    have ln1 : cells1.length = j := by omega
    try dsimp only [gName]
    rw [show ([some (V.ref d), some (V.int j), none, none, none] : L2.St).set 2 (some (V.ref D1)) = [some (V.ref d), some (V.int j), some (V.ref D1), none, none] from rfl]
    -- no one is (0, 0)
    have ecl : EvL K (tLc (iList K (tVar 2)) (gName 4) tYes (tIf (tTest (tOp (rNeD K) (tVar 4) (tTup (tCons (tC (V.int 0)) (tCons (tC (V.int 0)) tNil))))) (tVar 4) (tTup (tCons (tC (V.int 1)) (tCons (tC (V.int 0)) tNil)))) [4])
        [some (V.ref d), some (V.int j), some (V.ref D1), none, none] H1 ((cells1.map (fixC (1, 0))).map dC) := by
      refine evl_lcl rfl hL1 rs1 (by simp) (by simp; omega) fun i x v H2 hx s2 rv => ?_
      obtain ⟨q, hq, rfl⟩ := cell_of_list hx
      refine ⟨dC (fixC (1, 0) q), by simp [hq], ?_⟩
      refine ev_if (c := !decide (q = (0, 0))) (evb_test (K := K) ?_) (fun h => ?_) (fun h => ?_)
      · rw [← eqv_dC]
        with_reducible refine ev_neD ?x ?y (shaped_dC _) (shaped_dC _)
        case x => walk_at "ev"
        case y => walk_at "ev"
      · have e : fixC (1, 0) q = q := if_neg (by simpa using h)
        rw [e]
        walk_at "ev"
      · have e : fixC (1, 0) q = (1, 0) := if_pos (by simpa using h)
        rw [e]
        walk_at "ev"
    refine s_setL (K := K) ecl fun D2 vs2 H3 s3 hD2 hl2 rs2 => ?_
    rw [show ([some (V.ref d), some (V.int j), some (V.ref D1), none, none] : L2.St).set 2 (some (V.ref D2)) = [some (V.ref d), some (V.int j), some (V.ref D2), none, none] from rfl]
    have k3 : Kd d H H3 := k1.trans (kd_same s3)
    have P2 := P1
    have k2 := k1
    have P3 : PenAt c H3 d (n + 49) := (P1.same s3).mono (by omega)
    generalize hcells : cells1.map (fixC (1, 0)) = cells at rs2
    have ln : cells.length = j := by subst hcells; rw [List.length_map]; exact ln1
    have bd : ∀ q ∈ cells, BdC 210 q := by
      subst hcells
      intro q hq
      obtain ⟨q0, h0, rfl⟩ := List.mem_map.mp hq
      exact fixC_bd ⟨bd_lit (by decide), bd_lit (by decide)⟩ (bd1 q0 h0)
    have nz : ∀ q ∈ cells, ¬ q = (0, 0) := by
      subst hcells
      intro q hq
      obtain ⟨q0, h0, rfl⟩ := List.mem_map.mp hq
      exact fixC_ne (by decide)
    clear hcells ecl
    have hfin : ∀ (H3 : Hp) (l : Addr) (vs : List V) (cells : List C2) (o1 o2 : Option V) (σ : L2.St), σ = [some (V.ref d), some (V.int j), some (V.ref l), o1, o2] → Kd d H H3 → PenAt c H3 d (n + 49) → l ≠ d → H3 l = some (.lst vs) → RepAll K H3 vs (cells.map dC) → cells.length = j → areSteps cells = true → (∀ q ∈ cells, BdC 210 q) →
        tRet (tCB (rTupleOf K) (tCons (tVar 2) tNil)) { nx := fun _ H' => Q .non H', rt := Q } σ H3 := by
      rintro H3 l vs cells o1 o2 σ rfl k3 P3 nl hl rs ln st bd
      refine ⟨_, rfl, l, vs, rfl, .inl ⟨SqL.of hl, fun p hp => ?_⟩⟩
      have s4 := same_upd (o := HO.tup vs) hp
      exact k (.ref p) cells _ ln st bd (.tup (SqT.of upd_same) (rs.same s4)) (k3.trans (kd_same s4)) ((P3.same s4).mono (by omega))
    with_reducible refine s_meet (fun σ' H' => ∃ (l : Addr) (vs : List V) (cells : List C2) (o1 o2 : Option V), σ' = [some (V.ref d), some (V.int j), some (V.ref l), o1, o2] ∧ Kd d H H' ∧ PenAt c H' d (n + 49) ∧ l ≠ d ∧ H' l = some (.lst vs) ∧ RepAll K H' vs (cells.map dC) ∧ cells.length = j ∧ areSteps cells = true ∧ ∀ q ∈ cells, BdC 210 q) ?rest ?_
    case rest =>
      rintro σ' H3 ⟨l, vs, cells, o1, o2, rfl, k3, P3, nl, hl, rs, ln, st, bd⟩
      exact hfin H3 l vs cells o1 o2 _ rfl k3 P3 nl hl rs ln st bd
    have nD2 : D2 ≠ d := (P2.ned hD2).1
    match cells, ln, bd, nz, rs2 with
    | [], ln, bd, nz, rs2 =>
      have hj0 : j = 0 := by simpa using ln.symm
      with_reducible refine s_if (c := decide ((j : Int) = 2) && false) (evb_and (evb_test (K := K) (ev_eqI ?t1 ev_int)) fun h => ?t2) (fun ht _ _ => ?_) (fun hf H4 s4 => s_next ?_)
      case t1 => walk_at "ev"
      case t2 => have := of_decide_eq_true h; omega
      · simp at ht
      · exact ⟨D2, vs2, [], none, none, rfl, k3.trans (kd_same s4), P3.same s4, nD2, s4 _ _ hl2, rs2.same s4, ln, rfl, bd⟩
    | [a], ln, bd, nz, rs2 =>
      have hj0 : j = 1 := by simpa using ln.symm
      have a0 := nz a (by simp)
      with_reducible refine s_if (c := decide ((j : Int) = 2) && false) (evb_and (evb_test (K := K) (ev_eqI ?t1 ev_int)) fun h => ?t2) (fun ht _ _ => ?_) (fun hf H4 s4 => s_next ?_)
      case t1 => walk_at "ev"
      case t2 => have := of_decide_eq_true h; omega
      · simp at ht
      · exact ⟨D2, vs2, [a], none, none, rfl, k3.trans (kd_same s4), P3.same s4, nD2, s4 _ _ hl2, rs2.same s4, ln, by simp [areSteps, a0], bd⟩
    | [a, b], ln, bd, nz, rs2 =>
      have hj0 : j = 2 := by simpa using ln.symm
      have a0 := nz a (by simp)
      have b0 := nz b (by simp)
      have ba := bd a (by simp)
      have bb := bd b (by simp)
      have x0 : ∀ H4, Same H3 H4 → Ev K (tOp (rIxL K) (tVar 2) (tC (.int 0))) [some (V.ref d), some (V.int j), some (V.ref D2), none, none] H4 (dC a) := fun H4 s4 => ev_ixL rfl (s4 _ _ hl2) (rs2.same s4) rfl
      have x1 : ∀ H4, Same H3 H4 → Ev K (tOp (rIxL K) (tVar 2) (tC (.int 1))) [some (V.ref d), some (V.int j), some (V.ref D2), none, none] H4 (dC b) := fun H4 s4 => ev_ixL rfl (s4 _ _ hl2) (rs2.same s4) rfl
      with_reducible refine s_if (c := decide ((j : Int) = 2) && decide (cr a b = 0)) (evb_and (evb_test (K := K) (ev_eqI ?t1 ev_int)) fun h => evb_test (K := K) (ev_eqI (ev_cross (x0 H3 (Same.refl H3)) (x1 H3 (Same.refl H3)) (ba.mono (by decide)) (bb.mono (by decide))) ev_int)) (fun ht H4 s4 => ?_) (fun hf H4 s4 => s_next ?_)
      case t1 => walk_at "ev"
      · -- the second one is put across
        refine (ev_tup (K := K) (eva_cons (ev_neg (ev_ix (x0 H4 s4) (atI_nat (j := 1) rfl))) (eva_cons (ev_ix (x0 H4 s4) (atI_nat (j := 0) rfl)) eva_nil)) (Nat.le_of_ble_eq_true rfl)) H4 (Same.refl H4) _ fun vq H5 s5 rq => ?_
        obtain ⟨va, vb, rfl, ra, rb⟩ := rs2.inv2
        have hl5 : H5 D2 = some (.lst [va, vb]) := s5 _ _ (s4 _ _ hl2)
        refine ⟨_, rfl, D2, [va, vb], 1, 1, rfl, rfl, hl5, rfl, ?_⟩
        have k5 : Kd d H H5 := k3.trans (kd_same (s4.trans s5))
        have P5 := (P3.same s4).same s5
        have nc := (P2.ned hD2).2
        refine ⟨D2, [va, vq], [a, quarter a], none, none, rfl, fun b o hb ne => ?_, P5.upd nD2 nc, nD2, upd_same, ?_, hj0.symm, quarter_ok a0, ?_⟩
        · have e : b ≠ D2 := fun z => by
            subst z
            have := k2 _ _ hb ne
            rw [hD2] at this
            cases this
          rw [upd_ne e]
          exact k5 b o hb ne
        · have kt := kt_lst (b := [va, vq]) hl5
          exact .cons (((ra.same s4).same s5).kt kt) (.cons (rq.kt kt) .nil)
        · intro q hq
          simp at hq
          rcases hq with rfl | rfl
          · exact ba
          · exact ⟨ba.2.neg, ba.1⟩
      · refine ⟨D2, vs2, [a, b], none, none, rfl, k3.trans (kd_same s4), P3.same s4, nD2, s4 _ _ hl2, rs2.same s4, ln, ?_, bd⟩
        rw [hj0] at hf
        simp at hf
        simp [areSteps, a0, b0, hf]
    | a :: b :: e :: r, ln, _, _, _ => exact absurd ln (by simp; omega)
end
end LW
namespace LW
open PySem L2 LB
local macro_rules | `(tactic| walk_at "hp") => `(tactic| first
  | (with_reducible assumption) | (with_reducible exact Rep.int _) | (with_reducible exact Rep.bl _) | (with_reducible exact Rep.non) | (with_reducible exact Rep.str _)
  | ((with_reducible refine' Rep.same ?kk ?hh); (case kk => with_reducible assumption); (case hh => walk_at "hp"))
  | ((with_reducible refine' Rep.kt ?kk ?hh); (case kk => with_reducible assumption); (case hh => walk_at "hp")))
local macro_rules | `(tactic| walk_at "bd") => `(tactic| first
  | (with_reducible assumption)
  | exact bd_lit (n := 64) (by decide)
  | (with_reducible refine' Bd.mul ?_ ?_) <;> walk_at "bd"
  | (with_reducible refine' Bd.add ?_ ?_) <;> walk_at "bd"
  | (with_reducible refine' Bd.sub ?_ ?_) <;> walk_at "bd"
  | (with_reducible refine' Bd.neg ?_) <;> walk_at "bd")
local macro_rules | `(tactic| walk_at "ev") => `(tactic| first
  | (with_reducible exact ev_int) | (with_reducible exact ev_bl) | (with_reducible exact ev_non) | (with_reducible exact ev_str)
  | ((with_reducible refine' ev_var ?e ?hh); (case e => rfl); (case hh => walk_at "hp"))
  | (with_reducible refine' ev_add ?_ ?_) <;> walk_at "ev"
  | (with_reducible refine' ev_sub ?_ ?_) <;> walk_at "ev"
  | ((with_reducible refine' ev_mul ?m1 ?m2 ?m3); (case m1 => walk_at "ev"); (case m2 => walk_at "ev"); (case m3 => (refine' Bd.mulW ?b1 ?b2 ?b3; (case b1 => walk_at "bd"); (case b2 => walk_at "bd"); (case b3 => decide))))
  | ((with_reducible refine' ev_ix ?m1 ?m2); (case m1 => walk_at "ev"); (case m2 => rfl))
  | ((with_reducible refine' ev_tup ?m1 ?m2); (case m1 => walk_at "eva"); (case m2 => exact Nat.le_of_ble_eq_true rfl))
  | (with_reducible refine' ev_neg ?_) <;> walk_at "ev"
  | (with_reducible refine' ev_lt ?_ ?_) <;> walk_at "ev"
  | (with_reducible refine' ev_le ?_ ?_) <;> walk_at "ev"
  | (with_reducible refine' ev_gt ?_ ?_) <;> walk_at "ev"
  | (with_reducible refine' ev_ge ?_ ?_) <;> walk_at "ev"
  | (with_reducible refine' ev_eqI ?_ ?_) <;> walk_at "ev"
  | (with_reducible refine' ev_neI ?_ ?_) <;> walk_at "ev"
  | (with_reducible refine' ev_intI ?_) <;> walk_at "eva"
  | (with_reducible refine' ev_lenT ?_) <;> walk_at "eva"
  | walk_at "evx")
local macro_rules | `(tactic| walk_at "eva") => `(tactic| first
  | (with_reducible exact eva_nil)
  | ((with_reducible refine' eva_cons ?v1 ?v2); (case v1 => walk_at "ev"); (case v2 => walk_at "eva")))
local macro_rules | `(tactic| walk_at "evx") => `(tactic| first
  | ((with_reducible refine' ev_pget ?a ?b ?c); (case a => rfl); (case b => with_reducible assumption); (case c => first | (with_reducible exact p_at _) | (with_reducible exact p_dg _) | (with_reducible exact p_ct _) | (with_reducible exact p_fo _))))
local macro_rules | `(tactic| walk_at "sh") => `(tactic| first
  | (with_reducible assumption)
  | ((with_reducible refine' ShAt.same ?hh ?kk); (case kk => with_reducible assumption); (case hh => walk_at "sh"))
  | ((with_reducible refine' ShAt.kt ?hh ?kk); (case kk => with_reducible assumption); (case hh => walk_at "sh")))
local macro_rules | `(tactic| walk_at "evx") => `(tactic| first
  | ((with_reducible refine' ev_base ?e ?h ?c ?n); (case e => rfl); (case h => walk_at "sh"); (case c => with_reducible assumption); (case n => with_reducible assumption))
  | ((with_reducible refine' ev_price ?e ?h ?c ?n); (case e => rfl); (case h => walk_at "sh"); (case c => with_reducible assumption); (case n => with_reducible assumption))
  | ((with_reducible refine' ev_steps ?e ?h ?c ?n); (case e => rfl); (case h => walk_at "sh"); (case c => with_reducible assumption); (case n => with_reducible assumption))
  | ((with_reducible refine' ev_prices ?e ?h ?c ?n); (case e => rfl); (case h => walk_at "sh"); (case c => with_reducible assumption); (case n => with_reducible assumption)))
section
variable {P : Program} {w : World} {K : Fr} {mg : Str → Option Value} {base : Heap}
theorem ok_other_cell (T : Txt K mg) : FnOk P w K mg base CX0 4 T.a_other_cell T.f_other_cell ["_law_pen_here", "_law_row", "_law_cell"] (spOther K) := by
  refine T.d_other_cell.F.ok sc_other_cell (fun vs H Q E h => ?_) (fun cdv A outer s H vs Q E hr h => ?_)
  · obtain ⟨c, d, n, S, x, v, w, rfl, _⟩ := h
    rfl
  · obtain ⟨c, d, n, S, x, v, u, rfl, P0, hn, ok, rv, rw', bx, k⟩ := h
    have hu64 : (A.deeper (PyProof.Rows.envOfC "_law_other_cell" (defScope s_other_cell) s.heap.objs.size T.a_other_cell cdv)).units + 64 < cLine := by
      have := hr.un
      omega
    refine ⟨_, (pss_cons (ps_par (i := 3) (j := 4) rfl sc_other_cell.nd rfl rfl (by decide) rfl rfl (pa_cons (pe_call (ok_draw T) (hr.mono (by decide)) rfl T.d_draw.m T.d_draw.F.kp T.d_draw.b .nil pass0 (pa_cons (pv 0) (pa_cons pe_int pa_nil))) (pa_cons (pe_call (ok_near T) (hr.mono (by decide)) rfl T.d_near.m T.d_near.F.kp T.d_near.b .nil pass0 (pa_cons (pv 0) (pa_cons pe_int pa_nil))) pa_nil)) rfl)
    (pss_meet (ps_if (PW.pt (pw_and (pt_cmpR op_lt (pv 3) pe_int (nomark _)) (pw_and1 (pt_cmpR (op_neK K rfl hu64) (pe_ix (ix_tK K) (pv 1) pe_int (fun _ _ => rfl)) (pe_tup pa_nil) (nomark _))))) (pss_one (ps_set (i := 4) sc_other_cell.nd rfl (Or.inl rfl) (pe_call (ok_pick T) (hr.mono (by decide)) rfl T.d_pick.m T.d_pick.F.kp T.d_pick.b .nil pass0 (pa_cons (pv 0) (pa_cons (pe_callTy call_list_of (by rfl) T.z_list (by decide +kernel) (pa_cons (pe_ix (ix_tK K) (pv 1) pe_int (fun _ _ => rfl)) pa_nil)) pa_nil))))) pss_nil)
    (pss_cons (ps_if (PW.pt (pw_and (pt_cmpR op_eq (pv 3) pe_int (nomark _)) (pw_and1 (pt_cmpR (op_neK K rfl hu64) (pe_ix (ix_tK K) (pv 1) pe_int (fun _ _ => rfl)) (pe_tup pa_nil) (nomark _))))) (pss_cons (ps_set (i := 4) sc_other_cell.nd rfl (Or.inl rfl) (pe_call (ok_pick T) (hr.mono (by decide)) rfl T.d_pick.m T.d_pick.F.kp T.d_pick.b .nil pass0 (pa_cons (pv 0) (pa_cons (pe_callTy call_list_of (by rfl) T.z_list (by decide +kernel) (pa_cons (pe_ix (ix_tK K) (pv 1) pe_int (fun _ _ => rfl)) pa_nil)) pa_nil))))
    (pss_one (ps_ret (pe_tup (pa_cons (pe_op op_sub (pe_ix (ix_tK K) (pe_ix (ix_tK K) (pv 1) pe_int (fun _ _ => rfl)) pe_int (fun _ _ => rfl)) (pe_ix (ix_tK K) (pv 4) pe_int (fun _ _ => rfl))) (pa_cons (pe_op op_sub (pe_ix (ix_tK K) (pe_ix (ix_tK K) (pv 1) pe_int (fun _ _ => rfl)) pe_int (fun _ _ => rfl)) (pe_ix (ix_tK K) (pv 4) pe_int (fun _ _ => rfl))) pa_nil)))))) pss_nil)
    (pss_cons (ps_if (pt_cmpR op_eq (pv 3) pe_int (nomark _)) (pss_one (ps_ret (pe_tup (pa_cons (pe_call (ok_wide T) (hr.mono (by decide)) rfl T.d_wide.m T.d_wide.F.kp T.d_wide.b .nil pass0 (pa_cons (pv 0) pa_nil)) (pa_cons (pe_call (ok_wide T) (hr.mono (by decide)) rfl T.d_wide.m T.d_wide.F.kp T.d_wide.b .nil pass0 (pa_cons (pv 0) pa_nil)) pa_nil))))) pss_nil)
    (pss_cons (ps_if (pt_cmpR op_eq (pv 3) pe_int (nomark _)) (pss_one (ps_ret (pe_ix (ix_tK K) (pv 1) pe_int (fun _ _ => rfl)))) pss_nil)
    (pss_one (ps_ret (pe_ifExp (pt_cmpR op_ne (pv 3) pe_int (nomark _)) (pe_tup (pa_cons (pe_op op_add (pe_ix (ix_tK K) (pv 2) pe_int (fun _ _ => rfl)) (pe_ix (ix_tK K) (pv 4) pe_int (fun _ _ => rfl))) (pa_cons (pe_op op_add (pe_ix (ix_tK K) (pv 2) pe_int (fun _ _ => rfl)) (pe_ix (ix_tK K) (pv 4) pe_int (fun _ _ => rfl))) pa_nil))) (pe_tup (pa_cons (pe_op op_sub (pe_ix (ix_tK K) (pv 2) pe_int (fun _ _ => rfl)) (pe_ix (ix_tK K) (pv 4) pe_int (fun _ _ => rfl))) (pa_cons (pe_op op_sub (pe_ix (ix_tK K) (pv 2) pe_int (fun _ _ => rfl)) (pe_ix (ix_tK K) (pv 4) pe_int (fun _ _ => rfl))) pa_nil))))))))))), ?_⟩
    try dsimp only [cxOf, List.map]
    rw [show L2.start N_other_cell [V.ref d, v, u] = [some (V.ref d), some v, some u, none, none] from rfl]
    have hb2 := ok.b2
    have ll := areSteps_len ok.st
    -- which way, a step
    refine c_draw (K := K) (σ := [some (V.ref d), some v, some u, none, none]) (i := 0) (m := 7) rfl P0 (by omega) (by decide) (by decide) ev_int fun a H1 a0 a1 k1 P1 => ?_
    refine c_near (K := K) (σ := [some (V.ref d), some v, some u, none, none]) (i := 0) (m := 2) rfl P1 (by omega) (by decide) (by decide) ev_int fun vz z H2 bz rz k2 P2 => ?_
    refine ⟨_, _, rfl, ?_⟩
    rw [show (([some (V.ref d), some v, some u, none, none] : L2.St).set 3 (some (V.int a))).set 4 (some vz) = [some (V.ref d), some v, some u, some (V.int a), some vz] from rfl]
    have k02 : True ∧ Kd d H H2 := ⟨trivial, k1.trans k2⟩
    have t02 := P0.kt k02.2
    have rv2 := rv.kt t02
    have ru2 := rw'.kt t02
    have ea : ∀ (H : Hp) (x : Option V), Ev K (tVar 3) [some (V.ref d), some v, some u, some (V.int a), x] H (.int a) := fun H x => ev_var rfl (.int a)
    have pick : ∀ (H3 : Hp) (m : Nat) (x : Option V) (Q' : VK), Rep K H3 v (dR S) → PenAt c H3 d m → m < 900000000 → (!S.steps.isEmpty) = true → (∀ (w : V) (q : C2) (H4 : Hp), BdC 400 q → Rep K H4 w (dC q) → Kd d H3 H4 → PenAt c H4 d (m + 1) → Q' w H4) →
        tCall spPick [] E0 (tCons (tVar 0) (tCons (tCB (rListOf K) (tCons (tOp (rIxT K) (tVar 1) (tC (V.int 2))) tNil)) tNil)) [some (V.ref d), some v, some u, some (V.int a), x] H3 Q' := by
      intro H3 m x Q' r3 P3 hm ne kk
      refine c_pick (K := K) (i := 0) (ds := S.steps.map dC) rfl P3 (by omega) (evl_listT ?_) ?_ ?_ fun w y H4 hy ry k4 P4 => ?_
      · walk_at "ev"
      · cases e : S.steps with
        | nil => rw [e] at ne; simp at ne
        | cons a l => simp
      · rw [List.length_map]; omega
      · obtain ⟨q, hq, rfl⟩ := List.mem_map.mp hy
        exact kk w q H4 (hb2 q hq) ry k4 P4
    with_reducible refine s_meet (fun σ' H' => ∃ (vz : V) (z : C2), σ' = [some (V.ref d), some v, some u, some (V.int a), some vz] ∧ Kd d H2 H' ∧ PenAt c H' d (n + 4) ∧ Rep K H' vz (dC z) ∧ BdC 400 z) ?rest ?_
    case rest =>
      rintro σ' H3 ⟨vz, z, rfl, k3, P3, rz, bz⟩
      have t3 := P2.kt k3
      have rv3 := rv2.kt t3
      have ru3 := ru2.kt t3
      clear rv2 ru2 rv rw' t02 t3
      obtain ⟨bx1, bx2⟩ := bx
      obtain ⟨bz1, bz2⟩ := bz
      obtain ⟨bb1, bb2⟩ := ok.b0
      have k03 : True ∧ Kd d H H3 := ⟨trivial, k02.2.trans k3⟩
      with_reducible refine s_ifr (c := decide (a = 2) && !S.steps.isEmpty) (evb_and (evb_test (K := K) (ev_eqI (ea _ _) ev_int)) fun _ => evb_test (K := K) ?t) (fun ht H4 s4 => ?_) (fun hf H4 s4 => ?_)
      case t =>
        rw [← eqv_nil]
        with_reducible refine ev_neD ?x ?y (shaped_dCs _) ?z
        case x => walk_at "ev"
        case y => exact ev_tup eva_nil
        case z => exact shaped_dCs []
      · refine pick H4 (n + 4) _ _ (rv3.same s4) (P3.same s4) (by omega) (Bool.and_eq_true_iff.mp ht).2 fun w q H5 bq rq k5 P5 => ?_
        obtain ⟨bq1, bq2⟩ := bq
        try dsimp only [gName]
        rw [show ([some (V.ref d), some v, some u, some (V.int a), some vz] : L2.St).set 4 (some w) = [some (V.ref d), some v, some u, some (V.int a), some w] from rfl]
        have rv5 := (rv3.same s4).kt ((P3.same s4).kt k5)
        clear rv3 ru3 rz
        with_reducible refine s_ret (K := K) (d := .tuple [.int (S.base.1 - q.1), .int (S.base.2 - q.2)]) ?t ?_
        case t => walk_at "ev"
        intro u' H6 s6 r6
        exact k u' (S.base.1 - q.1, S.base.2 - q.2) H6 ⟨(bb1.sub bq1).mono (by decide), (bb2.sub bq2).mono (by decide)⟩ r6 ((k03.2.trans (kd_same s4)).trans (k5.trans (kd_same s6))) ((P5.same s6).mono (by omega))
      with_reducible refine s_ifr (c := decide (a = 3)) (evb_test (K := K) (ev_eqI (ea _ _) ev_int)) (fun ht H5 s5 => ?_) (fun hf2 H5 s5 => ?_)
      · have P5 := (P3.same s4).same s5
        refine c_wide (σ := [some (V.ref d), some v, some u, some (V.int a), some vz]) (i := 0) rfl P5 (by omega) fun y1 H6 b1 k6 P6 => ?_
        refine c_wide (σ := [some (V.ref d), some v, some u, some (V.int a), some vz]) (i := 0) rfl P6 (by omega) fun y2 H7 b2 k7 P7 => ?_
        refine ⟨(by show 2 ≤ sizeLine; decide), fun p hp => ?_⟩
        have s8 := same_upd (o := HO.tup [V.int y1, V.int y2]) hp
        exact k (.ref p) (y1, y2) _ ⟨b1.mono (by decide), b2.mono (by decide)⟩ (.tup (SqT.of upd_same) (.cons (.int _) (.cons (.int _) .nil))) (((k03.2.trans (kd_same (s4.trans s5))).trans (k6.trans k7)).trans (kd_same s8)) ((P7.same s8).mono (by omega))
      with_reducible refine s_ifr (c := decide (a = 4)) (evb_test (K := K) (ev_eqI (ea _ _) ev_int)) (fun ht H6 s6 => ?_) (fun hf3 H6 s6 => ?_)
      · with_reducible refine s_ret (K := K) (d := dC S.base) ?t ?_
        case t => walk_at "ev"
        intro u' H7 s7 r7
        exact k u' S.base H7 ⟨bb1.mono (by decide), bb2.mono (by decide)⟩ r7 (k03.2.trans (kd_same (((s4.trans s5).trans s6).trans s7))) (((((P3.same s4).same s5).same s6).same s7).mono (by omega))
      · by_cases h5 : a = 5
        · refine s_ret (K := K) (d := .tuple [.int (x.1 - z.1), .int (x.2 - z.2)]) (ev_if (c := !decide (a = 5)) (evb_test (K := K) (ev_neI (ea _ _) ev_int)) (fun h => by simp [h5] at h) (fun _ => ?_)) ?_
          · walk_at "ev"
          intro u' H7 s7 r7
          exact k u' (x.1 - z.1, x.2 - z.2) H7 ⟨(bx1.sub bz1).mono (by decide), (bx2.sub bz2).mono (by decide)⟩ r7 (k03.2.trans (kd_same (((s4.trans s5).trans s6).trans s7))) (((((P3.same s4).same s5).same s6).same s7).mono (by omega))
        · refine s_ret (K := K) (d := .tuple [.int (x.1 + z.1), .int (x.2 + z.2)]) (ev_if (c := !decide (a = 5)) (evb_test (K := K) (ev_neI (ea _ _) ev_int)) (fun _ => ?_) (fun h => by simp [h5] at h)) ?_
          · walk_at "ev"
          intro u' H7 s7 r7
          exact k u' (x.1 + z.1, x.2 + z.2) H7 ⟨(bx1.add bz1).mono (by decide), (bx2.add bz2).mono (by decide)⟩ r7 (k03.2.trans (kd_same (((s4.trans s5).trans s6).trans s7))) (((((P3.same s4).same s5).same s6).same s7).mono (by omega))
    with_reducible refine s_if (c := decide (a < 2) && !S.steps.isEmpty) (evb_and (evb_test (K := K) (ev_lt (ea _ _) ev_int)) fun _ => evb_test (K := K) ?t) (fun ht H3 s3 => ?_) (fun hf H3 s3 => s_next ?_)
    case t =>
      rw [← eqv_nil]
      with_reducible refine ev_neD ?x ?y (shaped_dCs _) ?z
      case x => walk_at "ev"
      case y => exact ev_tup eva_nil
      case z => exact shaped_dCs []
    · refine pick H3 (n + 1 + 2) _ _ (rv2.same s3) (P2.same s3) (by omega) (Bool.and_eq_true_iff.mp ht).2 fun w q H4 bq rq k4 P4 => ?_
      exact ⟨w, q, rfl, (kd_same s3).trans k4, P4, rq, bq⟩
    · exact ⟨vz, z, rfl, kd_same s3, (P2.same s3).mono (by omega), rz.same s3, bz.mono (by decide)⟩
theorem ok_asked (T : Txt K mg) : FnOk P w K mg base CX0 6 T.a_asked T.f_asked ["_law_sheet", "_law_row", "_law_cell"] (spAsked K T.C_Sheet) := by
  refine T.d_asked.F.ok sc_asked (fun vs H Q E h => ?_) (fun cdv A outer s H vs Q E hr h => ?_)
  · obtain ⟨S, x, p, v, u, rfl, _⟩ := h
    rfl
  · obtain ⟨S, x, p, v, u, rfl, ok, hS, rv, ru, bx, k⟩ := h
    refine ⟨_, (pss_cons (ps_par (i := 3) (j := 4) rfl sc_asked.nd rfl rfl (by decide) rfl rfl (pa_cons (pe_call (ok_lcounts T) (hr.mono (by decide)) rfl T.d_lcounts.m T.d_lcounts.F.kp T.d_lcounts.b .nil pass0 (pa_cons (pv 1) (pa_cons (pv 2) pa_nil))) (pa_cons (pe_call (ok_lprice_at T) (hr.mono (by decide)) rfl T.d_lprice_at.m T.d_lprice_at.F.kp T.d_lprice_at.b .nil pass0 (pa_cons (pv 1) (pa_cons (pv 2) pa_nil))) pa_nil)) rfl)
    (pss_cons (ps_if (pt_cmp (pc_isN (pv 3))) (pss_one (ps_ret (pe_and (pe_cmp (pc_isN (pe_meth (pv 0) T.c_Sheet T.d_counts.m (ok_counts T) (hr.mono (by decide)) T.b_counts .nil pass0 (pa_cons (pv 2) pa_nil)))) (pe_and (pe_cmp (pc_isN (pe_meth (pv 0) T.c_Sheet T.d_price_at.m (ok_price_at T) (hr.mono (by decide)) T.b_price_at .nil pass0 (pa_cons (pv 2) pa_nil)))) (pe_one (pe_cmpR op_isBl (pe_cmpR (op_inOwn T.d_contains.m (ok_contains T) (hr.mono (by decide)) T.b_contains pass0) (pv 2) (pv 0) rfl) pe_bl (nomark _))))))) pss_nil)
    (pss_cons (ps_if (PW.pt (pw_or (pt_not (pt_val (pe_call (ok_lexact T) (hr.mono (by decide)) rfl T.d_lexact.m T.d_lexact.F.kp T.d_lexact.b .nil pass0 (pa_cons (pe_meth (pv 0) T.c_Sheet T.d_counts.m (ok_counts T) (hr.mono (by decide)) T.b_counts .nil pass0 (pa_cons (pv 2) pa_nil)) (pa_cons (pv 3) pa_nil))))) (pw_or1 (pt_not (pt_val (pe_call (ok_lexact T) (hr.mono (by decide)) rfl T.d_lexact.m T.d_lexact.F.kp T.d_lexact.b .nil pass0 (pa_cons (pe_meth (pv 0) T.c_Sheet T.d_price_at.m (ok_price_at T) (hr.mono (by decide)) T.b_price_at .nil pass0 (pa_cons (pv 2) pa_nil)) (pa_cons (pv 4) pa_nil)))))))) (pss_one (ps_ret pe_bl)) pss_nil)
    (pss_one (ps_ret (pe_and (pe_cmpR op_isBl (pe_cmpR (op_inOwn T.d_contains.m (ok_contains T) (hr.mono (by decide)) T.b_contains pass0) (pv 2) (pv 0) rfl) pe_bl (nomark _)) (pe_one (pe_call (ok_lexact T) (hr.mono (by decide)) rfl T.d_lexact.m T.d_lexact.F.kp T.d_lexact.b .nil pass0 (pa_cons (pe_meth (pv 0) T.c_Sheet T.d_cell_of.m (ok_cell_of T) (hr.mono (by decide)) T.b_cell_of .nil pass0 (pa_cons (pv 3) pa_nil)) (pa_cons (pv 2) pa_nil)))))))))), ?_⟩
    try dsimp only [cxOf, List.map]
    rw [show L2.start N_asked [V.ref p, v, u] = [some (V.ref p), some v, some u, none, none] from rfl]
    have bx2 : BdC 2000 x := bx.mono (by decide)
    have nm : ∀ m : Str, (¬ m = "prices" ∧ ¬ m = "steps" ∧ ¬ m = "price" ∧ ¬ m = "base") → (¬ m = "prices" ∧ ¬ m = "steps" ∧ ¬ m = "price" ∧ ¬ m = "base") := fun _ h => h
    refine s_par (K := K) (d := dO (S.counts x)) (e := dOI (S.priceAt x)) (eva_cons (ev_call (eva_cons ?_ (eva_cons ?_ eva_nil)) ⟨S, x, rfl, ok, bx2, rfl⟩) (eva_cons (ev_call (eva_cons ?_ (eva_cons ?_ eva_nil)) ⟨S, x, rfl, ok, bx2, rfl⟩) eva_nil)) fun vc vp H1 s1 rc rp => ?_
    · walk_at "ev"
    · walk_at "ev"
    · walk_at "ev"
    · walk_at "ev"
    rw [show (([some (V.ref p), some v, some u, none, none] : L2.St).set 3 (some vc)).set 4 (some vp) = [some (V.ref p), some v, some u, some vc, some vp] from rfl]
    have hS1 := hS.same s1
    have ru1 := ru.same s1
    clear hS ru
    have ex : ∀ H, Same H1 H → Ev K (tVar 2) [some (V.ref p), some v, some u, some vc, some vp] H (dC x) := fun H s => ev_var rfl (ru1.same s)
    have ec : ∀ H, Same H1 H → Ev K (tMeth T.C_Sheet "counts" (spCounts K T.C_Sheet) [] E0 (tVar 0) (tCons (tVar 2) tNil)) [some (V.ref p), some v, some u, some vc, some vp] H (dO (S.counts x)) := fun H s =>
      ev_meth (x := dC x) rfl (hS1.same s) ok (ex H s) ⟨x, rfl, bx2, rfl⟩ (by decide +kernel)
    have epr : ∀ H, Same H1 H → Ev K (tMeth T.C_Sheet "price_at" (spPriceAt K T.C_Sheet) [] E0 (tVar 0) (tCons (tVar 2) tNil)) [some (V.ref p), some v, some u, some vc, some vp] H (dOI (S.priceAt x)) := fun H s =>
      ev_meth (x := dC x) rfl (hS1.same s) ok (ex H s) ⟨x, rfl, bx2, rfl⟩ (by decide +kernel)
    have ein : ∀ H, Same H1 H → Ev K (tOp (tInOwn T.C_Sheet (spContains K T.C_Sheet) E0) (tVar 2) (tVar 0)) [some (V.ref p), some v, some u, some vc, some vp] H (.bool (S.counts x).isSome) := fun H s =>
      ev_inSh (x := dC x) rfl (hS1.same s) ok (ex H s) ⟨x, rfl, bx2, rfl⟩
    cases e : S.counts x with
    | none =>
      have e2 : S.priceAt x = none := by unfold Sh.priceAt; rw [e]; rfl
      rw [e] at ec ein rc
      rw [e2] at epr rp
      refine s_ifr (c := true) (evb_b (K := K) (ev_isN (d := .none) (ev_var rfl rc))) (fun _ H2 s2 => ?_) (fun h => by cases h)
      refine s_ret (K := K) (d := .bool (true && (true && decide (false = false)))) (ev_andV (ev_isN (d := .none) (ec H2 s2)) fun _ => ev_andV (ev_isN (d := .none) (epr H2 s2)) fun _ => ev_isB (ein H2 s2) ev_bl) fun v H3 s3 r => ?_
      have := r.bl_inv
      subst this
      exact k H3 ((s1.trans s2).trans s3)
    | some n =>
      have bn := counts_bd ok bx2 e
      obtain ⟨q1, q2⟩ := cellOf_counts ok e
      have e2 : S.priceAt x = some (S.priceOf n) := by unfold Sh.priceAt; rw [e]; rfl
      rw [e] at ec ein rc
      rw [e2] at epr rp
      have en : ∀ H, Same H1 H → Ev K (tVar 3) [some (V.ref p), some v, some u, some vc, some vp] H (dIs n) := fun H s => ev_var rfl (rc.same s)
      have eq : ∀ H, Same H1 H → Ev K (tVar 4) [some (V.ref p), some v, some u, some vc, some vp] H (.int (S.priceOf n)) := fun H s => ev_var rfl (rp.same s)
      have hl : n.length ≤ 1000 := Nat.le_trans bn.1 (by decide)
      have ecl : ∀ H, Same H1 H → Ev K (tMeth T.C_Sheet "cell_of" (spCellOf K T.C_Sheet) [] E0 (tVar 0) (tCons (tVar 3) tNil)) [some (V.ref p), some v, some u, some vc, some vp] H (dC x) := fun H s =>
        ev_meth (x := dIs n) rfl (hS1.same s) ok (en H s) ⟨n, rfl, q2, fun k hk => (bn.2 k hk).mono (by decide), by rw [q1]⟩ (by decide +kernel)
      refine s_ifr (c := false) (evb_b (K := K) (ev_isN (d := dIs n) (en H1 (Same.refl H1)))) (fun h => by cases h) (fun _ H2 s2 => ?_)
      refine s_ifr (c := (!true) || (!true)) (evb_or (evb_not (evb_b (K := K) (ev_exL hl (ec H2 s2) (en H2 s2)))) fun _ => evb_not (evb_b (K := K) (ev_exI (epr H2 s2) (eq H2 s2)))) (fun h => by cases h) (fun _ H3 s3 => ?_)
      refine s_ret (K := K) (d := .bool (decide (true = true) && true)) (ev_andV (ev_isB (ein H3 (s2.trans s3)) ev_bl) fun _ => ev_exC (ecl H3 (s2.trans s3)) (ex H3 (s2.trans s3))) fun v H4 s4 r => ?_
      have := r.bl_inv
      subst this
      exact k H4 (((s1.trans s2).trans s3).trans s4)
end
end LW
namespace LW
open PySem L2 LB
local macro_rules | `(tactic| walk_at "hp") => `(tactic| first
  | (with_reducible assumption) | (with_reducible exact Rep.int _) | (with_reducible exact Rep.bl _) | (with_reducible exact Rep.non) | (with_reducible exact Rep.str _)
  | ((with_reducible refine' Rep.same ?kk ?hh); (case kk => with_reducible assumption); (case hh => walk_at "hp"))
  | ((with_reducible refine' Rep.kt ?kk ?hh); (case kk => with_reducible assumption); (case hh => walk_at "hp")))
local macro_rules | `(tactic| walk_at "bd") => `(tactic| first
  | (with_reducible assumption)
  | exact bd_lit (n := 64) (by decide)
  | (with_reducible refine' Bd.mul ?_ ?_) <;> walk_at "bd"
  | (with_reducible refine' Bd.add ?_ ?_) <;> walk_at "bd"
  | (with_reducible refine' Bd.sub ?_ ?_) <;> walk_at "bd"
  | (with_reducible refine' Bd.neg ?_) <;> walk_at "bd")
local macro_rules | `(tactic| walk_at "ev") => `(tactic| first
  | (with_reducible exact ev_int) | (with_reducible exact ev_bl) | (with_reducible exact ev_non) | (with_reducible exact ev_str)
  | ((with_reducible refine' ev_var ?e ?hh); (case e => rfl); (case hh => walk_at "hp"))
  | (with_reducible refine' ev_add ?_ ?_) <;> walk_at "ev"
  | (with_reducible refine' ev_sub ?_ ?_) <;> walk_at "ev"
  | ((with_reducible refine' ev_mul ?m1 ?m2 ?m3); (case m1 => walk_at "ev"); (case m2 => walk_at "ev"); (case m3 => (refine' Bd.mulW ?b1 ?b2 ?b3; (case b1 => walk_at "bd"); (case b2 => walk_at "bd"); (case b3 => decide))))
  | ((with_reducible refine' ev_ix ?m1 ?m2); (case m1 => walk_at "ev"); (case m2 => rfl))
  | ((with_reducible refine' ev_tup ?m1 ?m2); (case m1 => walk_at "eva"); (case m2 => exact Nat.le_of_ble_eq_true rfl))
  | (with_reducible refine' ev_neg ?_) <;> walk_at "ev"
  | (with_reducible refine' ev_lt ?_ ?_) <;> walk_at "ev"
  | (with_reducible refine' ev_le ?_ ?_) <;> walk_at "ev"
  | (with_reducible refine' ev_gt ?_ ?_) <;> walk_at "ev"
  | (with_reducible refine' ev_ge ?_ ?_) <;> walk_at "ev"
  | (with_reducible refine' ev_eqI ?_ ?_) <;> walk_at "ev"
  | (with_reducible refine' ev_neI ?_ ?_) <;> walk_at "ev"
  | (with_reducible refine' ev_intI ?_) <;> walk_at "eva"
  | (with_reducible refine' ev_lenT ?_) <;> walk_at "eva"
  | walk_at "evx")
local macro_rules | `(tactic| walk_at "eva") => `(tactic| first
  | (with_reducible exact eva_nil)
  | ((with_reducible refine' eva_cons ?v1 ?v2); (case v1 => walk_at "ev"); (case v2 => walk_at "eva")))
local macro_rules | `(tactic| walk_at "evx") => `(tactic| first
  | ((with_reducible refine' ev_pget ?a ?b ?c); (case a => rfl); (case b => with_reducible assumption); (case c => first | (with_reducible exact p_at _) | (with_reducible exact p_dg _) | (with_reducible exact p_ct _) | (with_reducible exact p_fo _))))
local macro_rules | `(tactic| walk_at "sh") => `(tactic| first
  | (with_reducible assumption)
  | ((with_reducible refine' ShAt.same ?hh ?kk); (case kk => with_reducible assumption); (case hh => walk_at "sh"))
  | ((with_reducible refine' ShAt.kt ?hh ?kk); (case kk => with_reducible assumption); (case hh => walk_at "sh")))
local macro_rules | `(tactic| walk_at "evx") => `(tactic| first
  | ((with_reducible refine' ev_base ?e ?h ?c ?n); (case e => rfl); (case h => walk_at "sh"); (case c => with_reducible assumption); (case n => with_reducible assumption))
  | ((with_reducible refine' ev_price ?e ?h ?c ?n); (case e => rfl); (case h => walk_at "sh"); (case c => with_reducible assumption); (case n => with_reducible assumption))
  | ((with_reducible refine' ev_steps ?e ?h ?c ?n); (case e => rfl); (case h => walk_at "sh"); (case c => with_reducible assumption); (case n => with_reducible assumption))
  | ((with_reducible refine' ev_prices ?e ?h ?c ?n); (case e => rfl); (case h => walk_at "sh"); (case c => with_reducible assumption); (case n => with_reducible assumption)))
section
variable {P : Program} {w : World} {K : Fr} {mg : Str → Option Value} {base : Heap}
theorem ok_law (T : Txt K mg) : FnOk P w K mg base CX0 20 T.a_law T.f_law ["_law_script"] (spLaw K) := by
  refine T.d_law.F.ok sc_law (fun vs H Q E h => ?_) (fun cdv A outer s H vs Q E hr h => ?_)
  · obtain ⟨a, ns, rfl, _⟩ := h
    rfl
  · obtain ⟨a, ns, rfl, hS, hlen, k⟩ := h
    refine ⟨_, (pss_cons (ps_set (i := 1) sc_law.nd rfl (Or.inr rfl) (pe_call (ok_pen T) (hr.mono (by decide)) rfl T.d_pen.m T.d_pen.F.kp T.d_pen.b .nil pass0 (pa_cons (pv 0) pa_nil)))
    (pss_cons (ps_for PassesOwn.never rfl (pi_range1 rfl T.z_range (pa_cons pe_int pa_nil)) (pg_name (i := 2) sc_law.nd rfl (Or.inl rfl))
    (pss_cons (ps_set (i := 3) sc_law.nd rfl (Or.inl rfl) (pe_call (ok_great_steps T) (hr.mono (by decide)) rfl T.d_great_steps.m T.d_great_steps.F.kp T.d_great_steps.b .nil pass0 (pa_cons (pv 1) (pa_cons (pv 2) pa_nil))))
    (pss_cons (ps_set (i := 4) sc_law.nd rfl (Or.inl rfl) (pe_callTy call_tuple_of (by rfl) T.z_tuple (by decide +kernel) (pa_cons (pe_lc (own := [("_law_step", 11)]) (g := gName 11) rfl sc_law.nd (pi_tup (pv 3)) (blkOk_by (N := N_law) (sc := defScope s_law) (by decide +kernel)) (fun _ _ _ _ _ => (pg_name (i := 11) sc_law.nd rfl (Or.inl rfl))) (fun _ _ _ _ _ => pts_nil) (fun _ _ _ _ _ => (pe_call (ok_wide T) (hr.mono (by decide)) rfl T.d_wide.m T.d_wide.F.kp T.d_wide.b .nil pass0 (pa_cons (pv 1) pa_nil)))) pa_nil)))
    (pss_cons (ps_set (i := 5) sc_law.nd rfl (Or.inl rfl) (pe_tup (pa_cons (pe_tup (pa_cons (pe_call (ok_wide T) (hr.mono (by decide)) rfl T.d_wide.m T.d_wide.F.kp T.d_wide.b .nil pass0 (pa_cons (pv 1) pa_nil)) (pa_cons (pe_call (ok_wide T) (hr.mono (by decide)) rfl T.d_wide.m T.d_wide.F.kp T.d_wide.b .nil pass0 (pa_cons (pv 1) pa_nil)) pa_nil))) (pa_cons (pe_call (ok_wide T) (hr.mono (by decide)) rfl T.d_wide.m T.d_wide.F.kp T.d_wide.b .nil pass0 (pa_cons (pv 1) pa_nil)) (pa_cons (pv 3) (pa_cons (pv 4) pa_nil))))))
    (pss_cons (ps_set (i := 6) sc_law.nd rfl (Or.inl rfl) (pe_call (ok_made T) (hr.mono (by decide)) rfl T.d_made.m T.d_made.F.kp T.d_made.b .nil pass0 (pa_cons (pv 5) pa_nil)))
    (pss_one (ps_for PassesOwn.never rfl (pi_range1 rfl T.z_range (pa_cons pe_int pa_nil)) (pg_name (i := 7) sc_law.nd rfl (Or.inl rfl))
    (pss_cons (ps_set (i := 8) sc_law.nd rfl (Or.inl rfl) (pe_callTy call_tuple_of (by rfl) T.z_tuple (by decide +kernel) (pa_cons (pe_lc (own := [("_law_step", 11)]) (g := gName 11) rfl sc_law.nd (pi_tup (pv 3)) (blkOk_by (N := N_law) (sc := defScope s_law) (by decide +kernel)) (fun _ _ _ _ _ => (pg_name (i := 11) sc_law.nd rfl (Or.inl rfl))) (fun _ _ _ _ _ => pts_nil) (fun _ _ _ _ _ => (pe_call (ok_count T) (hr.mono (by decide)) rfl T.d_count.m T.d_count.F.kp T.d_count.b .nil pass0 (pa_cons (pv 1) pa_nil)))) pa_nil)))
    (pss_cons (ps_asg (pe_call (ok_spot_of T) (hr.mono (by decide)) rfl T.d_spot_of.m T.d_spot_of.F.kp T.d_spot_of.b .nil pass0 (pa_cons (pv 5) (pa_cons (pv 8) (pa_cons pe_bl pa_nil)))) (pg_tup rfl (pgs_cons (pg_name (i := 9) sc_law.nd rfl (Or.inl rfl)) (pgs_cons (pg_name (i := 10) sc_law.nd rfl (Or.inl rfl)) pgs_nil))))
    (pss_cons (ps_if (PW.pt (pw_or (pt_not (pt_val (pe_call (ok_lexact T) (hr.mono (by decide)) rfl T.d_lexact.m T.d_lexact.F.kp T.d_lexact.b .nil pass0 (pa_cons (pe_meth (pv 6) T.c_Sheet T.d_cell_of.m (ok_cell_of T) (hr.mono (by decide)) T.b_cell_of .nil pass0 (pa_cons (pv 8) pa_nil)) (pa_cons (pv 9) pa_nil))))) (pw_or1 (pt_not (pt_val (pe_call (ok_lexact T) (hr.mono (by decide)) rfl T.d_lexact.m T.d_lexact.F.kp T.d_lexact.b .nil pass0 (pa_cons (pe_meth (pv 6) T.c_Sheet T.d_counts.m (ok_counts T) (hr.mono (by decide)) T.b_counts .nil pass0 (pa_cons (pv 9) pa_nil)) (pa_cons (pv 8) pa_nil)))))))) (pss_one (ps_ret pe_bl)) pss_nil)
    (pss_cons (ps_if (PW.pt (pw_or (pt_not (pt_val (pe_call (ok_lexact T) (hr.mono (by decide)) rfl T.d_lexact.m T.d_lexact.F.kp T.d_lexact.b .nil pass0 (pa_cons (pe_meth (pv 6) T.c_Sheet T.d_price_at.m (ok_price_at T) (hr.mono (by decide)) T.b_price_at .nil pass0 (pa_cons (pv 9) pa_nil)) (pa_cons (pv 10) pa_nil))))) (pw_or1 (pt_cmpR op_notBl (pe_cmpR (op_inOwn T.d_contains.m (ok_contains T) (hr.mono (by decide)) T.b_contains pass0) (pv 9) (pv 6) rfl) pe_bl (nomark _))))) (pss_one (ps_ret pe_bl)) pss_nil)
    (pss_one (ps_if (pt_not (pt_val (pe_call (ok_asked T) (hr.mono (by decide)) rfl T.d_asked.m T.d_asked.F.kp T.d_asked.b .nil pass0 (pa_cons (pv 6) (pa_cons (pv 5) (pa_cons (pe_call (ok_other_cell T) (hr.mono (by decide)) rfl T.d_other_cell.m T.d_other_cell.F.kp T.d_other_cell.b .nil pass0 (pa_cons (pv 1) (pa_cons (pv 5) (pa_cons (pv 9) pa_nil)))) pa_nil)))))) (pss_one (ps_ret pe_bl)) pss_nil)))))))))))))
    (pss_one (ps_ret pe_bl)))), ?_⟩
    try dsimp only [cxOf, List.map]
    rw [show L2.start N_law [V.ref a] = [some (V.ref a), none, none, none, none, none, none, none, none, none, none, none] from rfl]
    -- the pen
    refine ⟨_, rfl, a, ns, rfl, hS, fun c d H1 s1 P1 => ?_⟩
    try dsimp only [gName]
    rw [show ([some (V.ref a), none, none, none, none, none, none, none, none, none, none, none] : L2.St).set 1 (some (V.ref d)) = [some (V.ref a), some (V.ref d), none, none, none, none, none, none, none, none, none, none] from rfl]
    refine s_range (K := K) (m := 3) ev_int (by decide) (fun i σ H2 => ∃ (o2 o3 o4 o5 o6 o7 o8 o9 o10 o11 : Option V), σ = [some (V.ref a), some (V.ref d), o2, o3, o4, o5, o6, o7, o8, o9, o10, o11] ∧ PenAt c H2 d (i * 1000)) ?_ ?_ ?_
    · exact fun H2 s2 => ⟨none, none, none, none, none, none, none, none, none, none, rfl, P1.same s2⟩
    · rintro i σ H2 hi ⟨o2, o3, o4, o5, o6, o7, o8, o9, o10, o11, rfl, P2⟩
      try dsimp only [gName]
      rw [show ([some (V.ref a), some (V.ref d), o2, o3, o4, o5, o6, o7, o8, o9, o10, o11] : L2.St).set 2 (some (V.int (i : Int))) = [some (V.ref a), some (V.ref d), some (V.int (i : Int)), o3, o4, o5, o6, o7, o8, o9, o10, o11] from rfl]
      -- the steps
      refine ⟨_, rfl, _, rfl, c, d, i * 1000, i, rfl, by omega, P2, by omega, fun v3 st H3 ln3 ok3 bd3 r3 k3 P3 => ?_⟩
      try dsimp only [gName]
      rw [show ([some (V.ref a), some (V.ref d), some (V.int (i : Int)), o3, o4, o5, o6, o7, o8, o9, o10, o11] : L2.St).set 3 (some v3) = [some (V.ref a), some (V.ref d), some (V.int (i : Int)), some v3, o4, o5, o6, o7, o8, o9, o10, o11] from rfl]
      -- the prices
      have r3' := r3
      obtain ⟨p3, xs3, rfl, hp3, ra3⟩ := r3'.tup_inv
      have lx3 : xs3.length = st.length := by have := ra3.len; simpa using this
      refine ⟨_, rfl, p3, rfl, ⟨xs3, hp3⟩, fun D hD => ?_⟩
      refine lc_pen (K := K) (walk_tup (K := K) (a := p3) (xs := xs3)) (c := c) (d := d) (n0 := i * 1000 + 100) (k := 12) (fun x => ∃ q, x = .int q ∧ Bd 210 q) (by omega) hD P3 (fun H kd => kt_sqt (P3.kt kd) hp3) (fun i H x H' y => y.1) ?_ ?_
      · intro v H4 n4 P4 hn4 k4 Q4 kk
        refine c_wide (σ := (wipe [some (V.ref a), some (V.ref d), some (V.int (i : Int)), some (V.ref p3), o4, o5, o6, o7, o8, o9, o10, o11] [11]).set 11 (some v)) (i := 1) rfl P4 (by omega) fun x H5 bx k5 P5 => ?_
        exact kk (.int x) (.int x) H5 ⟨x, rfl, bx⟩ (.int x) k5 P5
      intro ws xs4 H4 hl4 hx4 k4 P4 hD4 ra4
      obtain ⟨pr, rfl, bp⟩ := ints_of hx4
      rw [List.length_map] at hl4
      refine ⟨D, ws, rfl, .inl ⟨SqL.of hD4, fun q4 hq4 => ?_⟩⟩
      have s5 := same_upd (o := HO.tup ws) hq4
      have r4 : Rep K (upd H4 q4 (HO.tup ws)) (.ref q4) (dIs pr) := .tup (SqT.of upd_same) (ra4.same s5)
      generalize upd H4 q4 (HO.tup ws) = H5 at s5 r4
      try dsimp only [gName]
      rw [show ([some (V.ref a), some (V.ref d), some (V.int (i : Int)), some (V.ref p3), o4, o5, o6, o7, o8, o9, o10, o11] : L2.St).set 4 (some (V.ref q4)) = [some (V.ref a), some (V.ref d), some (V.int (i : Int)), some (V.ref p3), some (V.ref q4), o5, o6, o7, o8, o9, o10, o11] from rfl]
      have r35 : Rep K H5 (.ref p3) (dCs st) := (r3.kt (P3.kt k4)).same s5
      have P5 : PenAt c H5 d (i * 1000 + 124) := (P4.same s5).mono (by omega)
      -- the row
      refine c_wide (i := 1) (σ := [some (V.ref a), some (V.ref d), some (V.int (i : Int)), some (V.ref p3), some (V.ref q4), o5, o6, o7, o8, o9, o10, o11]) rfl P5 (by omega) fun x1 H6 b1 k6 P6 => ?_
      refine c_wide (i := 1) (σ := [some (V.ref a), some (V.ref d), some (V.int (i : Int)), some (V.ref p3), some (V.ref q4), o5, o6, o7, o8, o9, o10, o11]) rfl P6 (by omega) fun x2 H7 b2 k7 P7 => ?_
      refine ⟨(by show 2 ≤ sizeLine; decide), fun pb hpb => ?_⟩
      have s8 := same_upd (o := HO.tup [V.int x1, V.int x2]) hpb
      have rb8 : Rep K (upd H7 pb (HO.tup [V.int x1, V.int x2])) (.ref pb) (dC (x1, x2)) := .tup (SqT.of upd_same) (.cons (.int _) (.cons (.int _) .nil))
      generalize upd H7 pb (HO.tup [V.int x1, V.int x2]) = H8 at s8 rb8
      have P8 := P7.same s8
      refine c_wide (i := 1) (σ := [some (V.ref a), some (V.ref d), some (V.int (i : Int)), some (V.ref p3), some (V.ref q4), o5, o6, o7, o8, o9, o10, o11]) rfl P8 (by omega) fun x3 H9 b3 k9 P9 => ?_
      have rb9 := rb8.kt (P8.kt k9)
      have r39 := (((r35.kt (P5.kt k6)).kt (P6.kt k7)).same s8).kt (P8.kt k9)
      have r49 := (((r4.kt (P5.kt k6)).kt (P6.kt k7)).same s8).kt (P8.kt k9)
      refine ⟨_, rfl, _, rfl, (by show 4 ≤ sizeLine; decide), fun pr5 hpr5 => ?_⟩
      have s10 := same_upd (o := HO.tup [V.ref pb, V.int x3, V.ref p3, V.ref q4]) hpr5
      have r10 : Rep K (upd H9 pr5 (HO.tup [V.ref pb, V.int x3, V.ref p3, V.ref q4])) (.ref pr5) (dR ⟨(x1, x2), x3, st, pr⟩) := .tup (SqT.of upd_same) (.cons (rb9.same s10) (.cons (.int _) (.cons (r39.same s10) (.cons (r49.same s10) .nil))))
      generalize upd H9 pr5 (HO.tup [V.ref pb, V.int x3, V.ref p3, V.ref q4]) = H10 at s10 r10
      have P10 := P9.same s10
      have r3_10 := r39.same s10
      have ok : Sh.Ok ⟨(x1, x2), x3, st, pr⟩ := ⟨ok3, by show pr.length = st.length; omega, ⟨b1.mono (by decide), b2.mono (by decide)⟩, b3.mono (by decide), fun s hs => (bd3 s hs).mono (by decide), fun s hs => (bp s hs).mono (by decide)⟩
      have hsl : (Sh.mk (x1, x2) x3 st pr).steps.length = st.length := rfl
      generalize hSd : Sh.mk (x1, x2) x3 st pr = S at r10 ok hsl
      try dsimp only [gName]
      rw [show ([some (V.ref a), some (V.ref d), some (V.int (i : Int)), some (V.ref p3), some (V.ref q4), o5, o6, o7, o8, o9, o10, o11] : L2.St).set 5 (some (V.ref pr5)) = [some (V.ref a), some (V.ref d), some (V.int (i : Int)), some (V.ref p3), some (V.ref q4), some (V.ref pr5), o6, o7, o8, o9, o10, o11] from rfl]
      -- the sheet
      refine ⟨_, rfl, S, _, rfl, ok, r10, fun sh H11 hS11 s11 => ?_⟩
      have P11 : PenAt c H11 d (i * 1000 + 200) := (P10.same s11).mono (by omega)
      have r11 := r10.same s11
      have r3_11 := r3_10.same s11
      obtain ⟨_, xs11, e11, hp11, ra11⟩ := r3_11.tup_inv
      cases e11
      have lx11 : xs11.length = st.length := by have := ra11.len; simpa using this
      try dsimp only [gName]
      rw [show ([some (V.ref a), some (V.ref d), some (V.int (i : Int)), some (V.ref p3), some (V.ref q4), some (V.ref pr5), o6, o7, o8, o9, o10, o11] : L2.St).set 6 (some (V.ref sh)) = [some (V.ref a), some (V.ref d), some (V.int (i : Int)), some (V.ref p3), some (V.ref q4), some (V.ref pr5), some (V.ref sh), o7, o8, o9, o10, o11] from rfl]
      -- three cells
      refine s_range_end (K := K) (m := 3) ev_int (by decide) (fun j σ H12 => ∃ (o7 o8 o9 o10 o11 : Option V), σ = [some (V.ref a), some (V.ref d), some (V.int (i : Int)), some (V.ref p3), some (V.ref q4), some (V.ref pr5), some (V.ref sh), o7, o8, o9, o10, o11] ∧ Kd d H11 H12 ∧ PenAt c H12 d (i * 1000 + 200 + j * 150)) ?_ ?_ ?_
      · exact fun H2 s2 => ⟨o7, o8, o9, o10, o11, rfl, kd_same s2, P11.same s2⟩
      · rintro j σ H12 hj ⟨o7, o8, o9, o10, o11, rfl, k12, P12⟩
        have t12 := P11.kt k12
        try dsimp only [gName]
        rw [show ([some (V.ref a), some (V.ref d), some (V.int (i : Int)), some (V.ref p3), some (V.ref q4), some (V.ref pr5), some (V.ref sh), o7, o8, o9, o10, o11] : L2.St).set 7 (some (V.int (j : Int))) = [some (V.ref a), some (V.ref d), some (V.int (i : Int)), some (V.ref p3), some (V.ref q4), some (V.ref pr5), some (V.ref sh), some (V.int (j : Int)), o8, o9, o10, o11] from rfl]
        -- the counts
        refine ⟨_, rfl, p3, rfl, ⟨xs11, kt_sqt t12 hp11⟩, fun D hD => ?_⟩
        refine lc_pen (K := K) (walk_tup (K := K) (a := p3) (xs := xs11)) (c := c) (d := d) (n0 := i * 1000 + 200 + j * 150) (k := 13) (fun x => ∃ q, x = .int q ∧ (0 ≤ q ∧ Bd 210 q)) (by omega) hD P12 (fun H kd => kt_sqt (P12.kt kd) (kt_sqt t12 hp11)) (fun i H x H' y => y.1) ?_ ?_
        · intro v H4 n4 P4 hn4 k4 Q4 kk
          refine c_count (σ := (wipe [some (V.ref a), some (V.ref d), some (V.int (i : Int)), some (V.ref p3), some (V.ref q4), some (V.ref pr5), some (V.ref sh), some (V.int (j : Int)), o8, o9, o10, o11] [11]).set 11 (some v)) (i := 1) rfl P4 (by omega) fun x H5 x0 bx k5 P5 => ?_
          exact kk (.int x) (.int x) H5 ⟨x, rfl, x0, bx⟩ (.int x) k5 P5
        intro ws xs13 H13 hl13 hx13 k13 P13 hD13 ra13
        obtain ⟨n, rfl, bn⟩ := ints_of hx13
        rw [List.length_map] at hl13
        refine ⟨D, ws, rfl, .inl ⟨SqL.of hD13, fun q8 hq8 => ?_⟩⟩
        have s14 := same_upd (o := HO.tup ws) hq8
        have r8 : Rep K (upd H13 q8 (HO.tup ws)) (.ref q8) (dIs n) := .tup (SqT.of upd_same) (ra13.same s14)
        generalize upd H13 q8 (HO.tup ws) = H14 at s14 r8
        try dsimp only [gName]
        rw [show ([some (V.ref a), some (V.ref d), some (V.int (i : Int)), some (V.ref p3), some (V.ref q4), some (V.ref pr5), some (V.ref sh), some (V.int (j : Int)), o8, o9, o10, o11] : L2.St).set 8 (some (V.ref q8)) = [some (V.ref a), some (V.ref d), some (V.int (i : Int)), some (V.ref p3), some (V.ref q4), some (V.ref pr5), some (V.ref sh), some (V.int (j : Int)), some (V.ref q8), o9, o10, o11] from rfl]
        have k14 : Kd d H11 H14 := (k12.trans k13).trans (kd_same s14)
        have t14 := P11.kt k14
        have P14 : PenAt c H14 d (i * 1000 + 200 + j * 150 + 26) := (P13.same s14).mono (by omega)
        have r14 := r11.kt t14
        have hS14 := hS11.kt t14
        have ln : n.length = S.steps.length := by omega
        have hl : n.length ≤ 1000 := by omega
        have cc := counts_cellOf ok ln (fun q hq => (bn q hq).1)
        have cb := cellOf_bd ok ln (fun q hq => (bn q hq).2.mono (by decide))
        have cp : S.priceAt (S.cellOf n) = some (S.priceOf n) := by unfold Sh.priceAt; rw [cc]; rfl
        -- the cell and its price
        refine (ev_call (K := K) (ds := [dR S, dIs n, .bool false]) (d := .tuple [dC (S.cellOf n), .int (S.priceOf n)]) (eva_cons ?_ (eva_cons ?_ (eva_cons ev_bl eva_nil))) ⟨S, n, rfl, ok, ln, fun q hq => (bn q hq).2.mono (by decide), rfl⟩) H14 (Same.refl H14) _ fun vt H15 s15 rt => ?_
        · exact ev_var rfl r14
        · exact ev_var rfl r8
        obtain ⟨pt, xt, rfl, hpt, rat⟩ := rt.tup_inv
        obtain ⟨vc, vp, rfl, rc, rp⟩ := rat.inv2
        refine ⟨pt, _, rfl, hpt, rfl, vc, _, rfl, vp, _, rfl, rfl, ?_⟩
        rw [show (([some (V.ref a), some (V.ref d), some (V.int (i : Int)), some (V.ref p3), some (V.ref q4), some (V.ref pr5), some (V.ref sh), some (V.int (j : Int)), some (V.ref q8), o9, o10, o11] : L2.St).set 9 (some vc)).set 10 (some vp) = [some (V.ref a), some (V.ref d), some (V.int (i : Int)), some (V.ref p3), some (V.ref q4), some (V.ref pr5), some (V.ref sh), some (V.int (j : Int)), some (V.ref q8), some vc, some vp, o11] from rfl]
        have hS15 := hS14.same s15
        have r15 := r14.same s15
        have r8_15 := r8.same s15
        have P15 := P14.same s15
        generalize hσ : ([some (V.ref a), some (V.ref d), some (V.int (i : Int)), some (V.ref p3), some (V.ref q4), some (V.ref pr5), some (V.ref sh), some (V.int (j : Int)), some (V.ref q8), some vc, some vp, o11] : L2.St) = σ
        have g1 : σ[1]? = some (some (V.ref d)) := by subst hσ; rfl
        have g5 : σ[5]? = some (some (V.ref pr5)) := by subst hσ; rfl
        have g6 : σ[6]? = some (some (V.ref sh)) := by subst hσ; rfl
        have g8 : σ[8]? = some (some (V.ref q8)) := by subst hσ; rfl
        have g9 : σ[9]? = some (some vc) := by subst hσ; rfl
        have g10 : σ[10]? = some (some vp) := by subst hσ; rfl
        have e8 : ∀ H, Same H15 H → Ev K (tVar 8) σ H (dIs n) := fun H s => ev_var g8 (r8_15.same s)
        have e9 : ∀ H, Same H15 H → Ev K (tVar 9) σ H (dC (S.cellOf n)) := fun H s => ev_var g9 (rc.same s)
        have e10 : ∀ H, Same H15 H → Ev K (tVar 10) σ H (.int (S.priceOf n)) := fun H s => ev_var g10 (rp.same s)
        have ecell : ∀ H, Same H15 H → Ev K (tMeth T.C_Sheet "cell_of" (spCellOf K T.C_Sheet) [] E0 (tVar 6) (tCons (tVar 8) tNil)) σ H (dC (S.cellOf n)) := fun H s =>
          ev_meth (x := dIs n) g6 (hS15.same s) ok (e8 H s) ⟨n, rfl, ln, fun q hq => (bn q hq).2.mono (by decide), rfl⟩ (by decide +kernel)
        have ecounts : ∀ H, Same H15 H → Ev K (tMeth T.C_Sheet "counts" (spCounts K T.C_Sheet) [] E0 (tVar 6) (tCons (tVar 9) tNil)) σ H (dIs n) := fun H s =>
          ev_meth (x := dC (S.cellOf n)) g6 (hS15.same s) ok (e9 H s) ⟨S.cellOf n, rfl, cb.mono (by decide), by rw [cc]; rfl⟩ (by decide +kernel)
        have eprice : ∀ H, Same H15 H → Ev K (tMeth T.C_Sheet "price_at" (spPriceAt K T.C_Sheet) [] E0 (tVar 6) (tCons (tVar 9) tNil)) σ H (.int (S.priceOf n)) := fun H s =>
          ev_meth (x := dC (S.cellOf n)) g6 (hS15.same s) ok (e9 H s) ⟨S.cellOf n, rfl, cb.mono (by decide), by rw [cp]; rfl⟩ (by decide +kernel)
        have ein : ∀ H, Same H15 H → Ev K (tOp (tInOwn T.C_Sheet (spContains K T.C_Sheet) E0) (tVar 9) (tVar 6)) σ H (.bool true) := fun H s =>
          ev_inSh (x := dC (S.cellOf n)) g6 (hS15.same s) ok (e9 H s) ⟨S.cellOf n, rfl, cb.mono (by decide), by rw [cc]; rfl⟩
        refine s_ifr (c := (!true) || (!true)) (evb_or (evb_not (evb_b (K := K) (ev_exC (ecell H15 (Same.refl H15)) (e9 H15 (Same.refl H15))))) fun _ => evb_not (evb_b (K := K) (ev_exL hl (ecounts H15 (Same.refl H15)) (e8 H15 (Same.refl H15))))) (fun h => by cases h) (fun _ H16 s16 => ?_)
        refine s_ifr (c := (!true) || (!decide (true = true))) (evb_or (evb_not (evb_b (K := K) (ev_exI (eprice H16 s16) (e10 H16 s16)))) fun _ => evb_test (K := K) (ev_isNB (ein H16 s16) ev_bl)) (fun h => by simp at h) (fun _ H17 s17 => ?_)
        have P17 := (P15.same s16).same s17
        refine ⟨_, g6, _, g5, ?_⟩
        refine ⟨_, g1, _, g5, _, g9, c, d, _, S, S.cellOf n, _, _, rfl, P17, by omega, ok, (r15.same s16).same s17, (rc.same s16).same s17, cb, fun vo y H18 by_ ry k18 P18 => ?_⟩
        have t18 := P17.kt k18
        refine ⟨S, y, sh, _, _, rfl, ok, ((hS15.same s16).same s17).kt t18, ((r15.same s16).same s17).kt t18, ry, by_, fun H19 s19 => ?_⟩
        refine ⟨true, rfl, ?_⟩
        refine iteF ?_
        refine ⟨_, _, _, _, _, hσ.symm, ((k14.trans (kd_same ((s15.trans s16).trans s17))).trans k18).trans (kd_same s19), (P18.same s19).mono (by omega)⟩
      · rintro σ H12 ⟨o7, o8, o9, o10, o11, rfl, k12, P12⟩
        exact ⟨_, _, _, _, _, _, _, _, _, _, rfl, P12.mono (by omega)⟩
    · rintro σ H2 ⟨o2, o3, o4, o5, o6, o7, o8, o9, o10, o11, rfl, P2⟩
      exact k H2
end
end LW
namespace LW
open PySem L2 LB
section
theorem all_mk {l : PySem.W.OpenLaw} {w : World} {K : Fr} {h : Heap} {mg : Str → Option Value} {fa : Addr} (X : K.In h) (G : h.Ns mainGlobals mg) (hfa : mg "law" = some (.ref fa))
    {a_pcross : Addr} {od_pcross an_pcross : Option Addr} {sl_pcross : Array (Option Value)} {oc_pcross kV_pcross dc_pcross pm_pcross cd_pcross ct_pcross : Value}
    {a_are_steps : Addr} {od_are_steps an_are_steps : Option Addr} {sl_are_steps : Array (Option Value)} {oc_are_steps kV_are_steps dc_are_steps pm_are_steps cd_are_steps ct_are_steps : Value}
    {a_pexact : Addr} {od_pexact an_pexact : Option Addr} {sl_pexact : Array (Option Value)} {oc_pexact kV_pexact dc_pexact pm_pexact cd_pexact ct_pexact : Value}
    {a_pen : Addr} {od_pen an_pen : Option Addr} {sl_pen : Array (Option Value)} {oc_pen kV_pen dc_pen pm_pen cd_pen ct_pen : Value}
    {a_draw : Addr} {od_draw an_draw : Option Addr} {sl_draw : Array (Option Value)} {oc_draw kV_draw dc_draw pm_draw cd_draw ct_draw : Value}
    {a_pick : Addr} {od_pick an_pick : Option Addr} {sl_pick : Array (Option Value)} {oc_pick kV_pick dc_pick pm_pick cd_pick ct_pick : Value}
    {a_lcross : Addr} {od_lcross an_lcross : Option Addr} {sl_lcross : Array (Option Value)} {oc_lcross kV_lcross dc_lcross pm_lcross cd_lcross ct_lcross : Value}
    {a_lcounts : Addr} {od_lcounts an_lcounts : Option Addr} {sl_lcounts : Array (Option Value)} {oc_lcounts kV_lcounts dc_lcounts pm_lcounts cd_lcounts ct_lcounts : Value}
    {a_lprice_at : Addr} {od_lprice_at an_lprice_at : Option Addr} {sl_lprice_at : Array (Option Value)} {oc_lprice_at kV_lprice_at dc_lprice_at pm_lprice_at cd_lprice_at ct_lprice_at : Value}
    {a_spot_of : Addr} {od_spot_of an_spot_of : Option Addr} {sl_spot_of : Array (Option Value)} {oc_spot_of kV_spot_of dc_spot_of pm_spot_of cd_spot_of ct_spot_of : Value}
    {a_wide : Addr} {od_wide an_wide : Option Addr} {sl_wide : Array (Option Value)} {oc_wide kV_wide dc_wide pm_wide cd_wide ct_wide : Value}
    {a_lexact : Addr} {od_lexact an_lexact : Option Addr} {sl_lexact : Array (Option Value)} {oc_lexact kV_lexact dc_lexact pm_lexact cd_lexact ct_lexact : Value}
    {a_near : Addr} {od_near an_near : Option Addr} {sl_near : Array (Option Value)} {oc_near kV_near dc_near pm_near cd_near ct_near : Value}
    {a_steps : Addr} {od_steps an_steps : Option Addr} {sl_steps : Array (Option Value)} {oc_steps kV_steps dc_steps pm_steps cd_steps ct_steps : Value}
    {a_made : Addr} {od_made an_made : Option Addr} {sl_made : Array (Option Value)} {oc_made kV_made dc_made pm_made cd_made ct_made : Value}
    {a_great_steps : Addr} {od_great_steps an_great_steps : Option Addr} {sl_great_steps : Array (Option Value)} {oc_great_steps kV_great_steps dc_great_steps pm_great_steps cd_great_steps ct_great_steps : Value}
    {a_count : Addr} {od_count an_count : Option Addr} {sl_count : Array (Option Value)} {oc_count kV_count dc_count pm_count cd_count ct_count : Value}
    {a_other_cell : Addr} {od_other_cell an_other_cell : Option Addr} {sl_other_cell : Array (Option Value)} {oc_other_cell kV_other_cell dc_other_cell pm_other_cell cd_other_cell ct_other_cell : Value}
    {a_asked : Addr} {od_asked an_asked : Option Addr} {sl_asked : Array (Option Value)} {oc_asked kV_asked dc_asked pm_asked cd_asked ct_asked : Value}
    {a_law : Addr} {od_law an_law : Option Addr} {sl_law : Array (Option Value)} {oc_law kV_law dc_law pm_law cd_law ct_law : Value}
    {C_Sheet : Addr}
    {a_init : Addr} {od_init an_init : Option Addr} {sl_init : Array (Option Value)} {oc_init kV_init dc_init pm_init cd_init ct_init : Value}
    {T_init : Addr} {tc_init : Value} {td_init : Option Addr} {tn_init : Nat} {ts_init : Array (Option Value)} {y0_init y1_init : Value}
    {a_contains : Addr} {od_contains an_contains : Option Addr} {sl_contains : Array (Option Value)} {oc_contains kV_contains dc_contains pm_contains cd_contains ct_contains : Value}
    {a_counts : Addr} {od_counts an_counts : Option Addr} {sl_counts : Array (Option Value)} {oc_counts kV_counts dc_counts pm_counts cd_counts ct_counts : Value}
    {a_price_at : Addr} {od_price_at an_price_at : Option Addr} {sl_price_at : Array (Option Value)} {oc_price_at kV_price_at dc_price_at pm_price_at cd_price_at ct_price_at : Value}
    {a_cell_of : Addr} {od_cell_of an_cell_of : Option Addr} {sl_cell_of : Array (Option Value)} {oc_cell_of kV_cell_of dc_cell_of pm_cell_of cd_cell_of ct_cell_of : Value}
    (m_pcross : PySem.W.nsIn K mainGlobals "cross" = some (some (.ref a_pcross)))
    (l_pcross : K.lookup a_pcross = some ⟨oc_pcross, od_pcross, .func (PySem.W.fnOf "cross" "cross" (defArgs s_pcross) (defBody s_pcross) (defScope s_pcross) .none kV_pcross dc_pcross pm_pcross an_pcross cd_pcross ct_pcross), sl_pcross⟩)
    (o_pcross : PySem.W.codeIn K cd_pcross "cross" = true)
    (k_pcross : PySem.W.keepIn K (.ref a_pcross) = true)
    (m_are_steps : PySem.W.nsIn K mainGlobals "_are_steps" = some (some (.ref a_are_steps)))
    (l_are_steps : K.lookup a_are_steps = some ⟨oc_are_steps, od_are_steps, .func (PySem.W.fnOf "_are_steps" "_are_steps" (defArgs s_are_steps) (defBody s_are_steps) (defScope s_are_steps) .none kV_are_steps dc_are_steps pm_are_steps an_are_steps cd_are_steps ct_are_steps), sl_are_steps⟩)
    (o_are_steps : PySem.W.codeIn K cd_are_steps "_are_steps" = true)
    (k_are_steps : PySem.W.keepIn K (.ref a_are_steps) = true)
    (m_pexact : PySem.W.nsIn K mainGlobals "_exact" = some (some (.ref a_pexact)))
    (l_pexact : K.lookup a_pexact = some ⟨oc_pexact, od_pexact, .func (PySem.W.fnOf "_exact" "_exact" (defArgs s_pexact) (defBody s_pexact) (defScope s_pexact) .none kV_pexact dc_pexact pm_pexact an_pexact cd_pexact ct_pexact), sl_pexact⟩)
    (o_pexact : PySem.W.codeIn K cd_pexact "_exact" = true)
    (k_pexact : PySem.W.keepIn K (.ref a_pexact) = true)
    (m_pen : PySem.W.nsIn K mainGlobals "_law_pen" = some (some (.ref a_pen)))
    (l_pen : K.lookup a_pen = some ⟨oc_pen, od_pen, .func (PySem.W.fnOf "_law_pen" "_law_pen" (defArgs s_pen) (defBody s_pen) (defScope s_pen) .none kV_pen dc_pen pm_pen an_pen cd_pen ct_pen), sl_pen⟩)
    (o_pen : PySem.W.codeIn K cd_pen "_law_pen" = true)
    (k_pen : PySem.W.keepIn K (.ref a_pen) = true)
    (m_draw : PySem.W.nsIn K mainGlobals "_law_draw" = some (some (.ref a_draw)))
    (l_draw : K.lookup a_draw = some ⟨oc_draw, od_draw, .func (PySem.W.fnOf "_law_draw" "_law_draw" (defArgs s_draw) (defBody s_draw) (defScope s_draw) .none kV_draw dc_draw pm_draw an_draw cd_draw ct_draw), sl_draw⟩)
    (o_draw : PySem.W.codeIn K cd_draw "_law_draw" = true)
    (k_draw : PySem.W.keepIn K (.ref a_draw) = true)
    (m_pick : PySem.W.nsIn K mainGlobals "_law_pick" = some (some (.ref a_pick)))
    (l_pick : K.lookup a_pick = some ⟨oc_pick, od_pick, .func (PySem.W.fnOf "_law_pick" "_law_pick" (defArgs s_pick) (defBody s_pick) (defScope s_pick) .none kV_pick dc_pick pm_pick an_pick cd_pick ct_pick), sl_pick⟩)
    (o_pick : PySem.W.codeIn K cd_pick "_law_pick" = true)
    (k_pick : PySem.W.keepIn K (.ref a_pick) = true)
    (m_lcross : PySem.W.nsIn K mainGlobals "_law_cross" = some (some (.ref a_lcross)))
    (l_lcross : K.lookup a_lcross = some ⟨oc_lcross, od_lcross, .func (PySem.W.fnOf "_law_cross" "_law_cross" (defArgs s_lcross) (defBody s_lcross) (defScope s_lcross) .none kV_lcross dc_lcross pm_lcross an_lcross cd_lcross ct_lcross), sl_lcross⟩)
    (o_lcross : PySem.W.codeIn K cd_lcross "_law_cross" = true)
    (k_lcross : PySem.W.keepIn K (.ref a_lcross) = true)
    (m_lcounts : PySem.W.nsIn K mainGlobals "_law_counts" = some (some (.ref a_lcounts)))
    (l_lcounts : K.lookup a_lcounts = some ⟨oc_lcounts, od_lcounts, .func (PySem.W.fnOf "_law_counts" "_law_counts" (defArgs s_lcounts) (defBody s_lcounts) (defScope s_lcounts) .none kV_lcounts dc_lcounts pm_lcounts an_lcounts cd_lcounts ct_lcounts), sl_lcounts⟩)
    (o_lcounts : PySem.W.codeIn K cd_lcounts "_law_counts" = true)
    (k_lcounts : PySem.W.keepIn K (.ref a_lcounts) = true)
    (m_lprice_at : PySem.W.nsIn K mainGlobals "_law_price_at" = some (some (.ref a_lprice_at)))
    (l_lprice_at : K.lookup a_lprice_at = some ⟨oc_lprice_at, od_lprice_at, .func (PySem.W.fnOf "_law_price_at" "_law_price_at" (defArgs s_lprice_at) (defBody s_lprice_at) (defScope s_lprice_at) .none kV_lprice_at dc_lprice_at pm_lprice_at an_lprice_at cd_lprice_at ct_lprice_at), sl_lprice_at⟩)
    (o_lprice_at : PySem.W.codeIn K cd_lprice_at "_law_price_at" = true)
    (k_lprice_at : PySem.W.keepIn K (.ref a_lprice_at) = true)
    (m_spot_of : PySem.W.nsIn K mainGlobals "_law_spot_of" = some (some (.ref a_spot_of)))
    (l_spot_of : K.lookup a_spot_of = some ⟨oc_spot_of, od_spot_of, .func (PySem.W.fnOf "_law_spot_of" "_law_spot_of" (defArgs s_spot_of) (defBody s_spot_of) (defScope s_spot_of) .none kV_spot_of dc_spot_of pm_spot_of an_spot_of cd_spot_of ct_spot_of), sl_spot_of⟩)
    (o_spot_of : PySem.W.codeIn K cd_spot_of "_law_spot_of" = true)
    (k_spot_of : PySem.W.keepIn K (.ref a_spot_of) = true)
    (m_wide : PySem.W.nsIn K mainGlobals "_law_wide" = some (some (.ref a_wide)))
    (l_wide : K.lookup a_wide = some ⟨oc_wide, od_wide, .func (PySem.W.fnOf "_law_wide" "_law_wide" (defArgs s_wide) (defBody s_wide) (defScope s_wide) .none kV_wide dc_wide pm_wide an_wide cd_wide ct_wide), sl_wide⟩)
    (o_wide : PySem.W.codeIn K cd_wide "_law_wide" = true)
    (k_wide : PySem.W.keepIn K (.ref a_wide) = true)
    (m_lexact : PySem.W.nsIn K mainGlobals "_law_exact" = some (some (.ref a_lexact)))
    (l_lexact : K.lookup a_lexact = some ⟨oc_lexact, od_lexact, .func (PySem.W.fnOf "_law_exact" "_law_exact" (defArgs s_lexact) (defBody s_lexact) (defScope s_lexact) .none kV_lexact dc_lexact pm_lexact an_lexact cd_lexact ct_lexact), sl_lexact⟩)
    (o_lexact : PySem.W.codeIn K cd_lexact "_law_exact" = true)
    (k_lexact : PySem.W.keepIn K (.ref a_lexact) = true)
    (m_near : PySem.W.nsIn K mainGlobals "_law_near" = some (some (.ref a_near)))
    (l_near : K.lookup a_near = some ⟨oc_near, od_near, .func (PySem.W.fnOf "_law_near" "_law_near" (defArgs s_near) (defBody s_near) (defScope s_near) .none kV_near dc_near pm_near an_near cd_near ct_near), sl_near⟩)
    (o_near : PySem.W.codeIn K cd_near "_law_near" = true)
    (k_near : PySem.W.keepIn K (.ref a_near) = true)
    (m_steps : PySem.W.nsIn K mainGlobals "_law_steps" = some (some (.ref a_steps)))
    (l_steps : K.lookup a_steps = some ⟨oc_steps, od_steps, .func (PySem.W.fnOf "_law_steps" "_law_steps" (defArgs s_steps) (defBody s_steps) (defScope s_steps) .none kV_steps dc_steps pm_steps an_steps cd_steps ct_steps), sl_steps⟩)
    (o_steps : PySem.W.codeIn K cd_steps "_law_steps" = true)
    (k_steps : PySem.W.keepIn K (.ref a_steps) = true)
    (m_made : PySem.W.nsIn K mainGlobals "_law_made" = some (some (.ref a_made)))
    (l_made : K.lookup a_made = some ⟨oc_made, od_made, .func (PySem.W.fnOf "_law_made" "_law_made" (defArgs s_made) (defBody s_made) (defScope s_made) .none kV_made dc_made pm_made an_made cd_made ct_made), sl_made⟩)
    (o_made : PySem.W.codeIn K cd_made "_law_made" = true)
    (k_made : PySem.W.keepIn K (.ref a_made) = true)
    (m_great_steps : PySem.W.nsIn K mainGlobals "_law_great_steps" = some (some (.ref a_great_steps)))
    (l_great_steps : K.lookup a_great_steps = some ⟨oc_great_steps, od_great_steps, .func (PySem.W.fnOf "_law_great_steps" "_law_great_steps" (defArgs s_great_steps) (defBody s_great_steps) (defScope s_great_steps) .none kV_great_steps dc_great_steps pm_great_steps an_great_steps cd_great_steps ct_great_steps), sl_great_steps⟩)
    (o_great_steps : PySem.W.codeIn K cd_great_steps "_law_great_steps" = true)
    (k_great_steps : PySem.W.keepIn K (.ref a_great_steps) = true)
    (m_count : PySem.W.nsIn K mainGlobals "_law_count" = some (some (.ref a_count)))
    (l_count : K.lookup a_count = some ⟨oc_count, od_count, .func (PySem.W.fnOf "_law_count" "_law_count" (defArgs s_count) (defBody s_count) (defScope s_count) .none kV_count dc_count pm_count an_count cd_count ct_count), sl_count⟩)
    (o_count : PySem.W.codeIn K cd_count "_law_count" = true)
    (k_count : PySem.W.keepIn K (.ref a_count) = true)
    (m_other_cell : PySem.W.nsIn K mainGlobals "_law_other_cell" = some (some (.ref a_other_cell)))
    (l_other_cell : K.lookup a_other_cell = some ⟨oc_other_cell, od_other_cell, .func (PySem.W.fnOf "_law_other_cell" "_law_other_cell" (defArgs s_other_cell) (defBody s_other_cell) (defScope s_other_cell) .none kV_other_cell dc_other_cell pm_other_cell an_other_cell cd_other_cell ct_other_cell), sl_other_cell⟩)
    (o_other_cell : PySem.W.codeIn K cd_other_cell "_law_other_cell" = true)
    (k_other_cell : PySem.W.keepIn K (.ref a_other_cell) = true)
    (m_asked : PySem.W.nsIn K mainGlobals "_law_asked" = some (some (.ref a_asked)))
    (l_asked : K.lookup a_asked = some ⟨oc_asked, od_asked, .func (PySem.W.fnOf "_law_asked" "_law_asked" (defArgs s_asked) (defBody s_asked) (defScope s_asked) .none kV_asked dc_asked pm_asked an_asked cd_asked ct_asked), sl_asked⟩)
    (o_asked : PySem.W.codeIn K cd_asked "_law_asked" = true)
    (k_asked : PySem.W.keepIn K (.ref a_asked) = true)
    (m_law : PySem.W.nsIn K mainGlobals "law" = some (some (.ref a_law)))
    (l_law : K.lookup a_law = some ⟨oc_law, od_law, .func (PySem.W.fnOf "law" "law" (defArgs s_law) (defBody s_law) (defScope s_law) .none kV_law dc_law pm_law an_law cd_law ct_law), sl_law⟩)
    (o_law : PySem.W.codeIn K cd_law "law" = true)
    (k_law : PySem.W.keepIn K (.ref a_law) = true)
    (g_Sheet : PySem.W.nsIn K mainGlobals "Sheet" = some (some (.ref C_Sheet)))
    (pg_Sheet : PySem.W.plainGet K C_Sheet Str.empty = true)
    (hd_Sheet : PySem.W.hasDictIn K C_Sheet = true)
    (po_Sheet : PySem.W.plainOver K C_Sheet = true)
    (sa_Sheet : PySem.W.findIn K (.ref C_Sheet) "__setattr__" = some (some (.builtin "object.__setattr__")))
    (n_Sheet_base : PySem.W.findIn K (.ref C_Sheet) "base" = some none)
    (n_Sheet_price : PySem.W.findIn K (.ref C_Sheet) "price" = some none)
    (n_Sheet_steps : PySem.W.findIn K (.ref C_Sheet) "steps" = some none)
    (n_Sheet_prices : PySem.W.findIn K (.ref C_Sheet) "prices" = some none)
    (mk_Sheet : PySem.W.makesIn K C_Sheet = true)
    (kc_Sheet : PySem.W.keepIn K (.ref C_Sheet) = true)
    (m_init : PySem.W.findIn K (.ref C_Sheet) "__init__" = some (some (.ref a_init)))
    (i_init : PySem.W.isFn K (.ref a_init) = true)
    (l_init : K.lookup a_init = some ⟨oc_init, od_init, .func (PySem.W.fnOf "__init__" "Sheet.__init__" (defArgs s_init) (defBody s_init) (defScope s_init) (.ref T_init) kV_init dc_init pm_init an_init cd_init ct_init), sl_init⟩)
    (o_init : PySem.W.codeIn K cd_init "Sheet.__init__" = true)
    (k_init : PySem.W.keepIn K (.ref a_init) = true)
    (t_init : K.lookup T_init = some ⟨tc_init, td_init, .seq #[y0_init, y1_init] tn_init, ts_init⟩)
    (m_contains : PySem.W.findIn K (.ref C_Sheet) "__contains__" = some (some (.ref a_contains)))
    (i_contains : PySem.W.isFn K (.ref a_contains) = true)
    (l_contains : K.lookup a_contains = some ⟨oc_contains, od_contains, .func (PySem.W.fnOf "__contains__" "Sheet.__contains__" (defArgs s_contains) (defBody s_contains) (defScope s_contains) .none kV_contains dc_contains pm_contains an_contains cd_contains ct_contains), sl_contains⟩)
    (o_contains : PySem.W.codeIn K cd_contains "Sheet.__contains__" = true)
    (k_contains : PySem.W.keepIn K (.ref a_contains) = true)
    (m_counts : PySem.W.findIn K (.ref C_Sheet) "counts" = some (some (.ref a_counts)))
    (i_counts : PySem.W.isFn K (.ref a_counts) = true)
    (l_counts : K.lookup a_counts = some ⟨oc_counts, od_counts, .func (PySem.W.fnOf "counts" "Sheet.counts" (defArgs s_counts) (defBody s_counts) (defScope s_counts) .none kV_counts dc_counts pm_counts an_counts cd_counts ct_counts), sl_counts⟩)
    (o_counts : PySem.W.codeIn K cd_counts "Sheet.counts" = true)
    (k_counts : PySem.W.keepIn K (.ref a_counts) = true)
    (m_price_at : PySem.W.findIn K (.ref C_Sheet) "price_at" = some (some (.ref a_price_at)))
    (i_price_at : PySem.W.isFn K (.ref a_price_at) = true)
    (l_price_at : K.lookup a_price_at = some ⟨oc_price_at, od_price_at, .func (PySem.W.fnOf "price_at" "Sheet.price_at" (defArgs s_price_at) (defBody s_price_at) (defScope s_price_at) .none kV_price_at dc_price_at pm_price_at an_price_at cd_price_at ct_price_at), sl_price_at⟩)
    (o_price_at : PySem.W.codeIn K cd_price_at "Sheet.price_at" = true)
    (k_price_at : PySem.W.keepIn K (.ref a_price_at) = true)
    (m_cell_of : PySem.W.findIn K (.ref C_Sheet) "cell_of" = some (some (.ref a_cell_of)))
    (i_cell_of : PySem.W.isFn K (.ref a_cell_of) = true)
    (l_cell_of : K.lookup a_cell_of = some ⟨oc_cell_of, od_cell_of, .func (PySem.W.fnOf "cell_of" "Sheet.cell_of" (defArgs s_cell_of) (defBody s_cell_of) (defScope s_cell_of) .none kV_cell_of dc_cell_of pm_cell_of an_cell_of cd_cell_of ct_cell_of), sl_cell_of⟩)
    (o_cell_of : PySem.W.codeIn K cd_cell_of "Sheet.cell_of" = true)
    (k_cell_of : PySem.W.keepIn K (.ref a_cell_of) = true)
    (z_len : PySem.W.nsIn K mainGlobals "len" = some none)
    (z_any : PySem.W.nsIn K mainGlobals "any" = some none)
    (z_tuple : PySem.W.nsIn K mainGlobals "tuple" = some none)
    (z_int : PySem.W.nsIn K mainGlobals "int" = some none)
    (z_list : PySem.W.nsIn K mainGlobals "list" = some none)
    (z_sum : PySem.W.nsIn K mainGlobals "sum" = some none)
    (z_zip : PySem.W.nsIn K mainGlobals "zip" = some none)
    (z_range : PySem.W.nsIn K mainGlobals "range" = some none)
    (z_all : PySem.W.nsIn K mainGlobals "all" = some none)
    (z_isinstance : PySem.W.nsIn K mainGlobals "isinstance" = some none)
    (z_bool : PySem.W.nsIn K mainGlobals "bool" = some none)
    (z_abs : PySem.W.nsIn K mainGlobals "abs" = some none) :
    ∃ fd : FuncData, (∀ (s : Shared) (v : Value), BindsTo s fd ⟨[v], []⟩ [("_law_script", v)]) ∧ ∀ base : Heap, K.In base → base.Ns mainGlobals mg → FnOk l.prog w K mg base CX0 20 fa fd ["_law_script"] (spLaw K) := by
  have e := hfa.symm.trans (PySem.W.mg_of X G m_law)
  cases e
  have F_pcross := fun_mkD (st := s_pcross) l_pcross o_pcross k_pcross
  have b_pcross : Binds K (PySem.W.fnOf "cross" "cross" (defArgs s_pcross) (defBody s_pcross) (defScope s_pcross) .none kV_pcross dc_pcross pm_pcross an_pcross cd_pcross ct_pcross) ["one", "other"] [] := .all fun us hl => match us, hl with | [_, _], _ => rfl
  have F_are_steps := fun_mkD (st := s_are_steps) l_are_steps o_are_steps k_are_steps
  have b_are_steps : Binds K (PySem.W.fnOf "_are_steps" "_are_steps" (defArgs s_are_steps) (defBody s_are_steps) (defScope s_are_steps) .none kV_are_steps dc_are_steps pm_are_steps an_are_steps cd_are_steps ct_are_steps) ["steps"] [] := .all fun us hl => match us, hl with | [_], _ => rfl
  have F_pexact := fun_mkD (st := s_pexact) l_pexact o_pexact k_pexact
  have b_pexact : Binds K (PySem.W.fnOf "_exact" "_exact" (defArgs s_pexact) (defBody s_pexact) (defScope s_pexact) .none kV_pexact dc_pexact pm_pexact an_pexact cd_pexact ct_pexact) ["tops", "bottom"] [] := .all fun us hl => match us, hl with | [_, _], _ => rfl
  have F_pen := fun_mkD (st := s_pen) l_pen o_pen k_pen
  have b_pen : Binds K (PySem.W.fnOf "_law_pen" "_law_pen" (defArgs s_pen) (defBody s_pen) (defScope s_pen) .none kV_pen dc_pen pm_pen an_pen cd_pen ct_pen) ["_law_script"] [] := .all fun us hl => match us, hl with | [_], _ => rfl
  have F_draw := fun_mkD (st := s_draw) l_draw o_draw k_draw
  have b_draw : Binds K (PySem.W.fnOf "_law_draw" "_law_draw" (defArgs s_draw) (defBody s_draw) (defScope s_draw) .none kV_draw dc_draw pm_draw an_draw cd_draw ct_draw) ["_law_pen_here", "_law_many"] [] := .all fun us hl => match us, hl with | [_, _], _ => rfl
  have F_pick := fun_mkD (st := s_pick) l_pick o_pick k_pick
  have b_pick : Binds K (PySem.W.fnOf "_law_pick" "_law_pick" (defArgs s_pick) (defBody s_pick) (defScope s_pick) .none kV_pick dc_pick pm_pick an_pick cd_pick ct_pick) ["_law_pen_here", "_law_some"] [] := .all fun us hl => match us, hl with | [_, _], _ => rfl
  have F_lcross := fun_mkD (st := s_lcross) l_lcross o_lcross k_lcross
  have b_lcross : Binds K (PySem.W.fnOf "_law_cross" "_law_cross" (defArgs s_lcross) (defBody s_lcross) (defScope s_lcross) .none kV_lcross dc_lcross pm_lcross an_lcross cd_lcross ct_lcross) ["_law_one", "_law_two"] [] := .all fun us hl => match us, hl with | [_, _], _ => rfl
  have F_lcounts := fun_mkD (st := s_lcounts) l_lcounts o_lcounts k_lcounts
  have b_lcounts : Binds K (PySem.W.fnOf "_law_counts" "_law_counts" (defArgs s_lcounts) (defBody s_lcounts) (defScope s_lcounts) .none kV_lcounts dc_lcounts pm_lcounts an_lcounts cd_lcounts ct_lcounts) ["_law_sheet", "_law_cell"] [] := .all fun us hl => match us, hl with | [_, _], _ => rfl
  have F_lprice_at := fun_mkD (st := s_lprice_at) l_lprice_at o_lprice_at k_lprice_at
  have b_lprice_at : Binds K (PySem.W.fnOf "_law_price_at" "_law_price_at" (defArgs s_lprice_at) (defBody s_lprice_at) (defScope s_lprice_at) .none kV_lprice_at dc_lprice_at pm_lprice_at an_lprice_at cd_lprice_at ct_lprice_at) ["_law_sheet", "_law_cell"] [] := .all fun us hl => match us, hl with | [_, _], _ => rfl
  have F_spot_of := fun_mkD (st := s_spot_of) l_spot_of o_spot_of k_spot_of
  have b_spot_of : Binds K (PySem.W.fnOf "_law_spot_of" "_law_spot_of" (defArgs s_spot_of) (defBody s_spot_of) (defScope s_spot_of) .none kV_spot_of dc_spot_of pm_spot_of an_spot_of cd_spot_of ct_spot_of) ["_law_sheet", "_law_counts_here", "_law_is_way"] [] := .all fun us hl => match us, hl with | [_, _, _], _ => rfl
  have F_wide := fun_mkD (st := s_wide) l_wide o_wide k_wide
  have b_wide : Binds K (PySem.W.fnOf "_law_wide" "_law_wide" (defArgs s_wide) (defBody s_wide) (defScope s_wide) .none kV_wide dc_wide pm_wide an_wide cd_wide ct_wide) ["_law_pen_here"] [] := .all fun us hl => match us, hl with | [_], _ => rfl
  have F_lexact := fun_mkD (st := s_lexact) l_lexact o_lexact k_lexact
  have b_lexact : Binds K (PySem.W.fnOf "_law_exact" "_law_exact" (defArgs s_lexact) (defBody s_lexact) (defScope s_lexact) .none kV_lexact dc_lexact pm_lexact an_lexact cd_lexact ct_lexact) ["_law_told", "_law_due"] [] := .all fun us hl => match us, hl with | [_, _], _ => rfl
  have F_near := fun_mkD (st := s_near) l_near o_near k_near
  have b_near : Binds K (PySem.W.fnOf "_law_near" "_law_near" (defArgs s_near) (defBody s_near) (defScope s_near) .none kV_near dc_near pm_near an_near cd_near ct_near) ["_law_pen_here", "_law_wide_here"] [] := .all fun us hl => match us, hl with | [_, _], _ => rfl
  have F_steps := fun_mkD (st := s_steps) l_steps o_steps k_steps
  have b_steps : Binds K (PySem.W.fnOf "_law_steps" "_law_steps" (defArgs s_steps) (defBody s_steps) (defScope s_steps) .none kV_steps dc_steps pm_steps an_steps cd_steps ct_steps) ["_law_pen_here", "_law_many", "_law_wide_here"] [] := .all fun us hl => match us, hl with | [_, _, _], _ => rfl
  have F_made := fun_mkD (st := s_made) l_made o_made k_made
  have b_made : Binds K (PySem.W.fnOf "_law_made" "_law_made" (defArgs s_made) (defBody s_made) (defScope s_made) .none kV_made dc_made pm_made an_made cd_made ct_made) ["_law_row"] [] := .all fun us hl => match us, hl with | [_], _ => rfl
  have F_great_steps := fun_mkD (st := s_great_steps) l_great_steps o_great_steps k_great_steps
  have b_great_steps : Binds K (PySem.W.fnOf "_law_great_steps" "_law_great_steps" (defArgs s_great_steps) (defBody s_great_steps) (defScope s_great_steps) .none kV_great_steps dc_great_steps pm_great_steps an_great_steps cd_great_steps ct_great_steps) ["_law_pen_here", "_law_many"] [] := .all fun us hl => match us, hl with | [_, _], _ => rfl
  have F_count := fun_mkD (st := s_count) l_count o_count k_count
  have b_count : Binds K (PySem.W.fnOf "_law_count" "_law_count" (defArgs s_count) (defBody s_count) (defScope s_count) .none kV_count dc_count pm_count an_count cd_count ct_count) ["_law_pen_here"] [] := .all fun us hl => match us, hl with | [_], _ => rfl
  have F_other_cell := fun_mkD (st := s_other_cell) l_other_cell o_other_cell k_other_cell
  have b_other_cell : Binds K (PySem.W.fnOf "_law_other_cell" "_law_other_cell" (defArgs s_other_cell) (defBody s_other_cell) (defScope s_other_cell) .none kV_other_cell dc_other_cell pm_other_cell an_other_cell cd_other_cell ct_other_cell) ["_law_pen_here", "_law_row", "_law_cell"] [] := .all fun us hl => match us, hl with | [_, _, _], _ => rfl
  have F_asked := fun_mkD (st := s_asked) l_asked o_asked k_asked
  have b_asked : Binds K (PySem.W.fnOf "_law_asked" "_law_asked" (defArgs s_asked) (defBody s_asked) (defScope s_asked) .none kV_asked dc_asked pm_asked an_asked cd_asked ct_asked) ["_law_sheet", "_law_row", "_law_cell"] [] := .all fun us hl => match us, hl with | [_, _, _], _ => rfl
  have F_law := fun_mkD (st := s_law) l_law o_law k_law
  have b_law : Binds K (PySem.W.fnOf "law" "law" (defArgs s_law) (defBody s_law) (defScope s_law) .none kV_law dc_law pm_law an_law cd_law ct_law) ["_law_script"] [] := .all fun us hl => match us, hl with | [_], _ => rfl
  have F_init := fun_mkD (st := s_init) l_init o_init k_init
  have b_init : Binds K (PySem.W.fnOf "__init__" "Sheet.__init__" (defArgs s_init) (defBody s_init) (defScope s_init) (.ref T_init) kV_init dc_init pm_init an_init cd_init ct_init) ["self", "base", "price", "steps", "prices"] [] := bnd_dflt t_init rfl fun us hl => match us, hl with | [_, _, _, _, _], _ => ⟨_, rfl, rfl⟩
  have F_contains := fun_mkD (st := s_contains) l_contains o_contains k_contains
  have b_contains : Binds K (PySem.W.fnOf "__contains__" "Sheet.__contains__" (defArgs s_contains) (defBody s_contains) (defScope s_contains) .none kV_contains dc_contains pm_contains an_contains cd_contains ct_contains) ["self", "cell"] [] := .all fun us hl => match us, hl with | [_, _], _ => rfl
  have F_counts := fun_mkD (st := s_counts) l_counts o_counts k_counts
  have b_counts : Binds K (PySem.W.fnOf "counts" "Sheet.counts" (defArgs s_counts) (defBody s_counts) (defScope s_counts) .none kV_counts dc_counts pm_counts an_counts cd_counts ct_counts) ["self", "cell"] [] := .all fun us hl => match us, hl with | [_, _], _ => rfl
  have F_price_at := fun_mkD (st := s_price_at) l_price_at o_price_at k_price_at
  have b_price_at : Binds K (PySem.W.fnOf "price_at" "Sheet.price_at" (defArgs s_price_at) (defBody s_price_at) (defScope s_price_at) .none kV_price_at dc_price_at pm_price_at an_price_at cd_price_at ct_price_at) ["self", "cell"] [] := .all fun us hl => match us, hl with | [_, _], _ => rfl
  have F_cell_of := fun_mkD (st := s_cell_of) l_cell_of o_cell_of k_cell_of
  have b_cell_of : Binds K (PySem.W.fnOf "cell_of" "Sheet.cell_of" (defArgs s_cell_of) (defBody s_cell_of) (defScope s_cell_of) .none kV_cell_of dc_cell_of pm_cell_of an_cell_of cd_cell_of ct_cell_of) ["self", "counts"] [] := .all fun us hl => match us, hl with | [_, _], _ => rfl
  exact ⟨PySem.W.fnOf "law" "law" (defArgs s_law) (defBody s_law) (defScope s_law) .none kV_law dc_law pm_law an_law cd_law ct_law, fun s v => .of_eq rfl, fun base _ _ => ok_law { a_pcross := a_pcross, f_pcross := _, d_pcross := ⟨F_pcross, PySem.W.mg_of X G m_pcross, b_pcross⟩, a_are_steps := a_are_steps, f_are_steps := _, d_are_steps := ⟨F_are_steps, PySem.W.mg_of X G m_are_steps, b_are_steps⟩, a_pexact := a_pexact, f_pexact := _, d_pexact := ⟨F_pexact, PySem.W.mg_of X G m_pexact, b_pexact⟩, a_pen := a_pen, f_pen := _, d_pen := ⟨F_pen, PySem.W.mg_of X G m_pen, b_pen⟩, a_draw := a_draw, f_draw := _, d_draw := ⟨F_draw, PySem.W.mg_of X G m_draw, b_draw⟩, a_pick := a_pick, f_pick := _, d_pick := ⟨F_pick, PySem.W.mg_of X G m_pick, b_pick⟩, a_lcross := a_lcross, f_lcross := _, d_lcross := ⟨F_lcross, PySem.W.mg_of X G m_lcross, b_lcross⟩, a_lcounts := a_lcounts, f_lcounts := _, d_lcounts := ⟨F_lcounts, PySem.W.mg_of X G m_lcounts, b_lcounts⟩, a_lprice_at := a_lprice_at, f_lprice_at := _, d_lprice_at := ⟨F_lprice_at, PySem.W.mg_of X G m_lprice_at, b_lprice_at⟩, a_spot_of := a_spot_of, f_spot_of := _, d_spot_of := ⟨F_spot_of, PySem.W.mg_of X G m_spot_of, b_spot_of⟩, a_wide := a_wide, f_wide := _, d_wide := ⟨F_wide, PySem.W.mg_of X G m_wide, b_wide⟩, a_lexact := a_lexact, f_lexact := _, d_lexact := ⟨F_lexact, PySem.W.mg_of X G m_lexact, b_lexact⟩, a_near := a_near, f_near := _, d_near := ⟨F_near, PySem.W.mg_of X G m_near, b_near⟩, a_steps := a_steps, f_steps := _, d_steps := ⟨F_steps, PySem.W.mg_of X G m_steps, b_steps⟩, a_made := a_made, f_made := _, d_made := ⟨F_made, PySem.W.mg_of X G m_made, b_made⟩, a_great_steps := a_great_steps, f_great_steps := _, d_great_steps := ⟨F_great_steps, PySem.W.mg_of X G m_great_steps, b_great_steps⟩, a_count := a_count, f_count := _, d_count := ⟨F_count, PySem.W.mg_of X G m_count, b_count⟩, a_other_cell := a_other_cell, f_other_cell := _, d_other_cell := ⟨F_other_cell, PySem.W.mg_of X G m_other_cell, b_other_cell⟩, a_asked := a_asked, f_asked := _, d_asked := ⟨F_asked, PySem.W.mg_of X G m_asked, b_asked⟩, a_law := _, f_law := _, d_law := ⟨F_law, PySem.W.mg_of X G m_law, b_law⟩, C_Sheet := C_Sheet, c_Sheet := ⟨pg_Sheet, hd_Sheet, po_Sheet, sa_Sheet⟩, g_Sheet := PySem.W.mg_of X G g_Sheet, n_Sheet_base := n_Sheet_base, n_Sheet_price := n_Sheet_price, n_Sheet_steps := n_Sheet_steps, n_Sheet_prices := n_Sheet_prices, a_init := a_init, f_init := _, d_init := ⟨F_init, ⟨m_init, i_init, k_init⟩⟩, b_init := b_init, k_Sheet := ⟨mk_Sheet, m_init, i_init, kc_Sheet⟩, a_contains := a_contains, f_contains := _, d_contains := ⟨F_contains, ⟨m_contains, i_contains, k_contains⟩⟩, b_contains := b_contains, a_counts := a_counts, f_counts := _, d_counts := ⟨F_counts, ⟨m_counts, i_counts, k_counts⟩⟩, b_counts := b_counts, a_price_at := a_price_at, f_price_at := _, d_price_at := ⟨F_price_at, ⟨m_price_at, i_price_at, k_price_at⟩⟩, b_price_at := b_price_at, a_cell_of := a_cell_of, f_cell_of := _, d_cell_of := ⟨F_cell_of, ⟨m_cell_of, i_cell_of, k_cell_of⟩⟩, b_cell_of := b_cell_of, z_len := PySem.W.mg_none_of X G z_len, z_any := PySem.W.mg_none_of X G z_any, z_tuple := PySem.W.mg_none_of X G z_tuple, z_int := PySem.W.mg_none_of X G z_int, z_list := PySem.W.mg_none_of X G z_list, z_sum := PySem.W.mg_none_of X G z_sum, z_zip := PySem.W.mg_none_of X G z_zip, z_range := PySem.W.mg_none_of X G z_range, z_all := PySem.W.mg_none_of X G z_all, z_isinstance := PySem.W.mg_none_of X G z_isinstance, z_bool := PySem.W.mg_none_of X G z_bool, z_abs := PySem.W.mg_none_of X G z_abs }⟩
theorem walk {l : PySem.W.OpenLaw} {q : Program} {loose : List Str} {XP : (Str → Option Value) → Heap → Prop} {YP : World → Heap → Prop} {d : DefRec} {K : Params → Fr} (hn : l.most = some 63) (hdf : d.params.defaults = [])
    (hY : ∀ (w : World) (h : Heap), YP w h → (K w.params).In h)
    (F : ∀ (w : World) (mg : Str → Option Value) (fa : Addr) (h : Heap), (K w.params).In h → h.Ns mainGlobals mg → mg d.name = some (.ref fa) →
      ∃ fd : FuncData, (∀ (s : Shared) (u : Value), BindsTo s fd ⟨[u], []⟩ [("_law_script", u)]) ∧ ∀ base : Heap, (K w.params).In base → base.Ns mainGlobals mg → FnOk l.prog w (K w.params) mg base CX0 20 fa fd ["_law_script"] (spLaw (K w.params))) :
    PySem.W.WalkO q loose XP YP l.row.toRowW d [] (fun f vs => PySem.call f vs) :=
  L2.walk_of (n := 63) (k := 20) (x := "_law_script") (CX := fun _ => CX0) (sp := fun w => spLaw (K w.params)) hn (by decide) hdf ⟨rfl, by decide, by decide⟩ hY F (fun _ _ a ns hl _ hS => ⟨a, ns, rfl, hS, hl, fun _ => rfl⟩) fun _ _ _ _ _ z => z
end
end LW
open PySem PySem.W PyProof.Rows
set_option maxRecDepth 100000 in
set_option maxHeartbeats 0 in
theorem PySem.Challenge.cw_alljourneys_k02_cells_and_counts_of_shee_holds : PySem.Challenge.rw_alljourneys_k02_cells_and_counts_of_shee.Holds := by
  w_on; o_law; k_head; (case hw => w_witness2)
  k_fill
  refine LW.walk (l := PySem.Challenge.rw_alljourneys_k02_cells_and_counts_of_shee) rfl rfl (fun w h Y => PySem.W.kIn_of Y) ?F
  case F =>
    intro w mg fa h KX G hmg
    refine' LW.all_mk KX G hmg ?m_pcross ?l_pcross ?o_pcross ?k_pcross ?m_are_steps ?l_are_steps ?o_are_steps ?k_are_steps ?m_pexact ?l_pexact ?o_pexact ?k_pexact ?m_pen ?l_pen ?o_pen ?k_pen ?m_draw ?l_draw ?o_draw ?k_draw ?m_pick ?l_pick ?o_pick ?k_pick ?m_lcross ?l_lcross ?o_lcross ?k_lcross ?m_lcounts ?l_lcounts ?o_lcounts ?k_lcounts ?m_lprice_at ?l_lprice_at ?o_lprice_at ?k_lprice_at ?m_spot_of ?l_spot_of ?o_spot_of ?k_spot_of ?m_wide ?l_wide ?o_wide ?k_wide ?m_lexact ?l_lexact ?o_lexact ?k_lexact ?m_near ?l_near ?o_near ?k_near ?m_steps ?l_steps ?o_steps ?k_steps ?m_made ?l_made ?o_made ?k_made ?m_great_steps ?l_great_steps ?o_great_steps ?k_great_steps ?m_count ?l_count ?o_count ?k_count ?m_other_cell ?l_other_cell ?o_other_cell ?k_other_cell ?m_asked ?l_asked ?o_asked ?k_asked ?m_law ?l_law ?o_law ?k_law ?g_Sheet ?pg_Sheet ?hd_Sheet ?po_Sheet ?sa_Sheet ?n_Sheet_base ?n_Sheet_price ?n_Sheet_steps ?n_Sheet_prices ?mk_Sheet ?kc_Sheet ?m_init ?i_init ?l_init ?o_init ?k_init ?t_init ?m_contains ?i_contains ?l_contains ?o_contains ?k_contains ?m_counts ?i_counts ?l_counts ?o_counts ?k_counts ?m_price_at ?i_price_at ?l_price_at ?o_price_at ?k_price_at ?m_cell_of ?i_cell_of ?l_cell_of ?o_cell_of ?k_cell_of ?z_len ?z_any ?z_tuple ?z_int ?z_list ?z_sum ?z_zip ?z_range ?z_all ?z_isinstance ?z_bool ?z_abs
    (case m_pcross => k_is); (case l_pcross => k_is); (case o_pcross => k_is); (case k_pcross => k_is); (case m_are_steps => k_is); (case l_are_steps => k_is); (case o_are_steps => k_is); (case k_are_steps => k_is)
    (case m_pexact => k_is); (case l_pexact => k_is); (case o_pexact => k_is); (case k_pexact => k_is); (case m_pen => k_is); (case l_pen => k_is); (case o_pen => k_is); (case k_pen => k_is)
    (case m_draw => k_is); (case l_draw => k_is); (case o_draw => k_is); (case k_draw => k_is); (case m_pick => k_is); (case l_pick => k_is); (case o_pick => k_is); (case k_pick => k_is)
    (case m_lcross => k_is); (case l_lcross => k_is); (case o_lcross => k_is); (case k_lcross => k_is); (case m_lcounts => k_is); (case l_lcounts => k_is); (case o_lcounts => k_is); (case k_lcounts => k_is)
    (case m_lprice_at => k_is); (case l_lprice_at => k_is); (case o_lprice_at => k_is); (case k_lprice_at => k_is); (case m_spot_of => k_is); (case l_spot_of => k_is); (case o_spot_of => k_is); (case k_spot_of => k_is)
    (case m_wide => k_is); (case l_wide => k_is); (case o_wide => k_is); (case k_wide => k_is); (case m_lexact => k_is); (case l_lexact => k_is); (case o_lexact => k_is); (case k_lexact => k_is)
    (case m_near => k_is); (case l_near => k_is); (case o_near => k_is); (case k_near => k_is); (case m_steps => k_is); (case l_steps => k_is); (case o_steps => k_is); (case k_steps => k_is)
    (case m_made => k_is); (case l_made => k_is); (case o_made => k_is); (case k_made => k_is); (case m_great_steps => k_is); (case l_great_steps => k_is); (case o_great_steps => k_is); (case k_great_steps => k_is)
    (case m_count => k_is); (case l_count => k_is); (case o_count => k_is); (case k_count => k_is); (case m_other_cell => k_is); (case l_other_cell => k_is); (case o_other_cell => k_is); (case k_other_cell => k_is)
    (case m_asked => k_is); (case l_asked => k_is); (case o_asked => k_is); (case k_asked => k_is); (case m_law => k_is); (case l_law => k_is); (case o_law => k_is); (case k_law => k_is)
    (case g_Sheet => k_is); (case pg_Sheet => k_is); (case hd_Sheet => k_is); (case po_Sheet => k_is); (case sa_Sheet => k_is); (case n_Sheet_base => k_is); (case n_Sheet_price => k_is); (case n_Sheet_steps => k_is)
    (case n_Sheet_prices => k_is); (case mk_Sheet => k_is); (case kc_Sheet => k_is); (case m_init => k_is); (case i_init => k_is); (case l_init => k_is); (case o_init => k_is); (case k_init => k_is)
    (case t_init => k_is); (case m_contains => k_is); (case i_contains => k_is); (case l_contains => k_is); (case o_contains => k_is); (case k_contains => k_is); (case m_counts => k_is); (case i_counts => k_is)
    (case l_counts => k_is); (case o_counts => k_is); (case k_counts => k_is); (case m_price_at => k_is); (case i_price_at => k_is); (case l_price_at => k_is); (case o_price_at => k_is); (case k_price_at => k_is)
    (case m_cell_of => k_is); (case i_cell_of => k_is); (case l_cell_of => k_is); (case o_cell_of => k_is); (case k_cell_of => k_is); (case z_len => k_is); (case z_any => k_is); (case z_tuple => k_is)
    (case z_int => k_is); (case z_list => k_is); (case z_sum => k_is); (case z_zip => k_is); (case z_range => k_is); (case z_all => k_is); (case z_isinstance => k_is); (case z_bool => k_is)
    (case z_abs => k_is)
