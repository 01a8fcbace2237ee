import PyProof.Rows.All
import Wide.All
import OpenK.AllK
import Wide.FinOn
import HandS.ForMost
import HandS.Wide
import HandS.Zip
import HandS.Style
import HandS.Deep
import HandS.TupLe
import HandS.IsInst
import KE.GoesMore
import HandS.Defaults
import HandS.Walk
import HandS.ExcInit
import HandS.ExcIs
import HandS.ExcValue
import KE.KExcIs
import HandS.OwnEq
import HandS.ExcField
import HandS.TupAny
import HandS.Lambda
import HandS.EndTab
import PySem.Challenge.RW_alljourneys_k03_sheets_made_and_moved
set_option Elab.async false
set_option linter.all false
set_option maxRecDepth 100000
/-! What holds of the heap between the steps of a law: data made of tuples (Rep), kept by all that is done behind (Kt); expressions by their data (Ev ..). -/
namespace LB
open PySem L2
abbrev Fr := PySem.W.Frag
abbrev PD := PyData
/-! ### heaps -/
def Imm : HO → Prop
  | .tup _ => True
  | .ins _ _ _ => True
  | .own _ => True
  | .frz _ _ => True
  | _ => False
def Kt (H H' : Hp) : Prop := ∀ b o, H b = some o → Imm o → H' b = some o
theorem Kt.refl (H : Hp) : Kt H H := fun _ _ h _ => h
theorem Kt.trans {H H1 H2 : Hp} (a : Kt H H1) (b : Kt H1 H2) : Kt H H2 := fun c o h i => b c o (a c o h i) i
theorem kt_same {H H' : Hp} (s : Same H H') : Kt H H' := fun b o h _ => s b o h
/-- all but what stands at d is kept -/
def Kd (d : Addr) (H H' : Hp) : Prop := ∀ b o, H b = some o → b ≠ d → H' b = some o
theorem Kd.refl {d : Addr} (H : Hp) : Kd d H H := fun _ _ h _ => h
theorem Kd.trans {d : Addr} {H H1 H2 : Hp} (a : Kd d H H1) (b : Kd d H1 H2) : Kd d H H2 := fun c o h i => b c o (a c o h i) i
theorem kd_same {d : Addr} {H H' : Hp} (s : Same H H') : Kd d H H' := fun b o h _ => s b o h
theorem kt_kd {d : Addr} {H H' : Hp} {o : HO} (k : Kd d H H') (hd : H d = some o) (ni : ¬ Imm o) : Kt H H' := fun b u h i =>
  k b u h fun e => by subst e; rw [hd] at h; cases h; exact ni i
theorem kt_sqt {K : Fr} {H H' : Hp} (k : Kt H H') {a : Addr} {xs : List V} (h : SqT K H a xs) : SqT K H' a xs := by
  rcases h with (h | ⟨o, h⟩) | h
  · exact .inl (.inl (k _ _ h trivial))
  · exact .inl (.inr ⟨o, k _ _ h trivial⟩)
  · exact .inr h
theorem same_upd {H : Hp} {p : Addr} {o : HO} (h : H p = none) : Same H (upd H p o) := fun b u e => by
  rw [upd_ne (ne_of_none e h)]; exact e
/-! ### data made of tuples -/
mutual
inductive Rep (K : Fr) (H : Hp) : V → PD → Prop
  | non : Rep K H .non .none
  | bl (b : Bool) : Rep K H (.bl b) (.bool b)
  | int (i : Int) : Rep K H (.int i) (.int i)
  | str (x : Str) : Rep K H (.str x) (.str x)
  | tup {a : Addr} {xs : List V} {ds : List PD} : SqT K H a xs → RepAll K H xs ds → Rep K H (.ref a) (.tuple ds)
inductive RepAll (K : Fr) (H : Hp) : List V → List PD → Prop
  | nil : RepAll K H [] []
  | cons {v : V} {vs : List V} {d : PD} {ds : List PD} : Rep K H v d → RepAll K H vs ds → RepAll K H (v :: vs) (d :: ds)
end
section
variable {K : Fr} {H H' : Hp}
def ImmT : HO → Prop
  | .tup _ => True
  | .frz _ _ => True
  | _ => False
/-- the tuples are kept -/
def Kr (H H' : Hp) : Prop := ∀ b o, H b = some o → ImmT o → H' b = some o
theorem kr_sqt (k : Kr H H') {a : Addr} {xs : List V} (h : SqT K H a xs) : SqT K H' a xs := by
  rcases h with (h | ⟨o, h⟩) | h
  · exact .inl (.inl (k _ _ h trivial))
  · exact .inl (.inr ⟨o, k _ _ h trivial⟩)
  · exact .inr h
theorem kr_kt (k : Kt H H') : Kr H H' := fun b o h i => k b o h (by cases o <;> first | exact trivial | exact i.elim)
theorem kr_upd {p : Addr} {o u : HO} (h : H p = some u) (n : ¬ ImmT u) : Kr H (upd H p o) := fun b v e i => by
  have ne : b ≠ p := fun z => by subst z; rw [h] at e; cases e; exact n i
  rw [upd_ne ne]; exact e
mutual
theorem Rep.kr (k : Kr H H') {v : V} {d : PD} : Rep K H v d → Rep K H' v d
  | .non => .non
  | .bl b => .bl b
  | .int i => .int i
  | .str x => .str x
  | .tup h r => .tup (kr_sqt k h) (RepAll.kr k r)
theorem RepAll.kr (k : Kr H H') {vs : List V} {ds : List PD} : RepAll K H vs ds → RepAll K H' vs ds
  | .nil => .nil
  | .cons h r => .cons (Rep.kr k h) (RepAll.kr k r)
end
mutual
theorem Rep.kt (k : Kt H H') {v : V} {d : PD} : Rep K H v d → Rep K H' v d
  | .non => .non
  | .bl b => .bl b
  | .int i => .int i
  | .str x => .str x
  | .tup h r => .tup (kt_sqt k h) (RepAll.kt k r)
theorem RepAll.kt (k : Kt H H') {vs : List V} {ds : List PD} : RepAll K H vs ds → RepAll K H' vs ds
  | .nil => .nil
  | .cons h r => .cons (Rep.kt k h) (RepAll.kt k r)
end
theorem Rep.same (s : Same H H') {v : V} {d : PD} (h : Rep K H v d) : Rep K H' v d := h.kt (kt_same s)
theorem RepAll.same (s : Same H H') {v : List V} {d : List PD} (h : RepAll K H v d) : RepAll K H' v d := h.kt (kt_same s)
mutual
theorem Rep.dp {v : V} {d : PD} : Rep K H v d → Dp K H v d
  | .non => .non
  | .bl b => .bl b
  | .int i => .int i
  | .str x => .str x
  | .tup h r => .tup h (RepAll.dp r)
theorem RepAll.dp {vs : List V} {ds : List PD} : RepAll K H vs ds → DpAll K H vs ds
  | .nil => .nil
  | .cons h r => .cons (Rep.dp h) (RepAll.dp r)
end
theorem Rep.int_inv {v : V} {i : Int} (h : Rep K H v (.int i)) : v = .int i := by cases h; rfl
theorem Rep.bl_inv {v : V} {i : Bool} (h : Rep K H v (.bool i)) : v = .bl i := by cases h; rfl
theorem Rep.non_inv {v : V} (h : Rep K H v .none) : v = .non := by cases h; rfl
theorem Rep.str_inv {v : V} {x : Str} (h : Rep K H v (.str x)) : v = .str x := by cases h; rfl
theorem Rep.tup_inv {v : V} {ds : List PD} (h : Rep K H v (.tuple ds)) : ∃ a xs, v = .ref a ∧ SqT K H a xs ∧ RepAll K H xs ds := by
  cases h with
  | tup h r => exact ⟨_, _, rfl, h, r⟩
theorem RepAll.len : ∀ {vs : List V} {ds : List PD}, RepAll K H vs ds → vs.length = ds.length
  | _, _, .nil => rfl
  | _, _, .cons _ r => by rw [List.length_cons, List.length_cons, RepAll.len r]
theorem RepAll.get : ∀ {vs : List V} {ds : List PD} {i : Nat} {d : PD}, RepAll K H vs ds → ds[i]? = some d → ∃ v, vs[i]? = some v ∧ Rep K H v d
  | _, _, _, _, .nil, e => by simp at e
  | _, _, 0, _, .cons h _, e => by simp at e; subst e; exact ⟨_, rfl, h⟩
  | _, _, i + 1, d, .cons _ r, e => by
    obtain ⟨v, h1, h2⟩ := RepAll.get (i := i) (d := d) r (by simpa using e)
    exact ⟨v, by simpa using h1, h2⟩
theorem RepAll.getV : ∀ {vs : List V} {ds : List PD} {i : Nat} {v : V}, RepAll K H vs ds → vs[i]? = some v → ∃ d, ds[i]? = some d ∧ Rep K H v d
  | _, _, _, _, .nil, e => by simp at e
  | _, _, 0, _, .cons h _, e => by simp at e; subst e; exact ⟨_, rfl, h⟩
  | _, _, i + 1, v, .cons _ r, e => by
    obtain ⟨d, h1, h2⟩ := RepAll.getV (i := i) (v := v) r (by simpa using e)
    exact ⟨d, by simpa using h1, h2⟩
theorem RepAll.at {vs : List V} {ds : List PD} {i : Int} {d : PD} (r : RepAll K H vs ds) (e : atI ds i = some d) : ∃ v, atI vs i = some v ∧ Rep K H v d := by
  unfold atI at e ⊢
  rw [r.len]
  cases q : ixN ds.length i with
  | none => rw [q] at e; cases e
  | some j =>
    rw [q] at e
    exact r.get e
theorem RepAll.append : ∀ {vs ws : List V} {ds es : List PD}, RepAll K H vs ds → RepAll K H ws es → RepAll K H (vs ++ ws) (ds ++ es)
  | _, _, _, _, .nil, s => s
  | _, _, _, _, .cons h r, s => .cons h (RepAll.append r s)
theorem RepAll.inv1 {vs : List V} {d : PD} (h : RepAll K H vs [d]) : ∃ v, vs = [v] ∧ Rep K H v d := by
  cases h with
  | cons h r => cases r; exact ⟨_, rfl, h⟩
theorem RepAll.inv2 {vs : List V} {d e : PD} (h : RepAll K H vs [d, e]) : ∃ v w, vs = [v, w] ∧ Rep K H v d ∧ Rep K H w e := by
  cases h with
  | cons h r => obtain ⟨w, rfl, h2⟩ := r.inv1; exact ⟨_, _, rfl, h, h2⟩
theorem RepAll.inv3 {vs : List V} {d e f : PD} (h : RepAll K H vs [d, e, f]) : ∃ v w x, vs = [v, w, x] ∧ Rep K H v d ∧ Rep K H w e ∧ Rep K H x f := by
  cases h with
  | cons h r => obtain ⟨w, x, rfl, h2, h3⟩ := r.inv2; exact ⟨_, _, _, rfl, h, h2, h3⟩
theorem RepAll.inv4 {vs : List V} {d e f g : PD} (h : RepAll K H vs [d, e, f, g]) : ∃ v w x y, vs = [v, w, x, y] ∧ Rep K H v d ∧ Rep K H w e ∧ Rep K H x f ∧ Rep K H y g := by
  cases h with
  | cons h r => obtain ⟨w, x, y, rfl, h2, h3, h4⟩ := r.inv3; exact ⟨_, _, _, _, rfl, h, h2, h3, h4⟩
end
/-! ### sizes of ints -/
def Bd (n : Nat) (i : Int) : Prop := i.natAbs < 2 ^ n
theorem Bd.mono {n m : Nat} {i : Int} (h : Bd n i) (l : n ≤ m) : Bd m i := Nat.lt_of_lt_of_le h (Nat.pow_le_pow_right (by decide) l)
theorem Bd.add {n m : Nat} {i j : Int} (a : Bd n i) (b : Bd m j) : Bd (max n m + 1) (i + j) := by
  have a' := a.mono (Nat.le_max_left n m)
  have b' := b.mono (Nat.le_max_right n m)
  unfold Bd at *
  rw [Nat.pow_succ]
  omega
theorem Bd.sub {n m : Nat} {i j : Int} (a : Bd n i) (b : Bd m j) : Bd (max n m + 1) (i - j) := by
  have a' := a.mono (Nat.le_max_left n m)
  have b' := b.mono (Nat.le_max_right n m)
  unfold Bd at *
  rw [Nat.pow_succ]
  omega
theorem Bd.mul {n m : Nat} {i j : Int} (a : Bd n i) (b : Bd m j) : Bd (n + m) (i * j) := wide_lt a b
theorem Bd.neg {n : Nat} {i : Int} (a : Bd n i) : Bd n (-i) := by unfold Bd at *; omega
theorem Bd.mulW {n m : Nat} {i j : Int} (a : Bd n i) (b : Bd m j) (h : n + m ≤ 900000) : CMulW i j := by
  exact wide_mul (a.mono (Nat.le_succ n)) (b.mono (Nat.le_succ m)) (Nat.succ_pos _) (Nat.succ_pos _) (by omega)
theorem Bd.divW {n : Nat} {i j : Int} (b : Bd n j) (h : 0 < j) (l : n < 9000) : CDivW i j := wide_div h (b.mono (Nat.le_succ n)) (Nat.succ_pos _) (by omega)
theorem Bd.of_range {lo hi : Int} {i : Int} {n : Nat} (h1 : lo ≤ i) (h2 : i < hi) (h3 : -(2 ^ n : Int) < lo) (h4 : hi ≤ (2 ^ n : Int)) : Bd n i := by
  unfold Bd
  have h5 : ((2 ^ n : Nat) : Int) = (2 ^ n : Int) := by simp
  omega
/-! ### // by any wide divisor but 0 -/
def CDivNW (_ j : Int) : Prop := j ≠ 0 ∧ j.natAbs.log2 < 9000
theorem op_fdivNW {X : Cx} : OpR X (binaryOp .FloorDiv) (rI CDivNW fun i j => .int (i.fdiv j)) :=
  opI fun _ _ _ _ _ _ _ hc q => PyProof.Rows.floordiv_int hc.1 q (.inl (PyProof.noPylong_of_log2 hc.2))
theorem Bd.divNW {n : Nat} {i j : Int} (b : Bd n j) (h : j ≠ 0) (l : n < 9000) : CDivNW i j :=
  ⟨h, Nat.lt_of_lt_of_le (PySem.Flt.log2_lt_of (Nat.succ_pos n) (b.mono (Nat.le_succ n))) (by omega)⟩
/-! ### x in a tuple of data -/
def rInT (K : Fr) : R2 := fun x y H Q => ∃ d ds, Dp K H x d ∧ Dp K H y (.tuple ds) ∧ SeqAt.shaped d = true ∧ SeqAt.shaped (.tuple ds) = true ∧ Q (.bl (ds.any fun z => PyData.eqv z d)) H
theorem op_inT {X : Cx} (hu : X.A.units + 65 < cLine) : OpR X (compareOp .In) (rInT X.K) := by
  intro pins s σ H x y v u Q I rx ry h
  obtain ⟨d, ds, hd, he, sd, se, q⟩ := h
  obtain ⟨as, r1⟩ := Dp.reads I d x v hd rx
  obtain ⟨bs, r2⟩ := Dp.reads I (.tuple ds) y u he ry
  exact SeqAt.in_tuple_reads r2 r1 (SeqAt.canLay_of_shaped se) (SeqAt.canLay_of_shaped sd) (PyProof.Rows.room_in_shaped sd hu) ⟨.bl _, H, I, rfl, q⟩
/-! ### what an expression is worth -/
section
variable (K : Fr)
def Ev (te : TE) (σ : L2.St) (H : Hp) (d : PD) : Prop := ∀ H1, Same H H1 → ∀ Q : VK, (∀ v H2, Same H1 H2 → Rep K H2 v d → Q v H2) → te σ H1 Q
def EvB (tt : TT) (σ : L2.St) (H : Hp) (b : Bool) : Prop := ∀ H1, Same H H1 → ∀ Q : Bool → Hp → Prop, (∀ H2, Same H1 H2 → Q b H2) → tt σ H1 Q
def EvA (ta : TA) (σ : L2.St) (H : Hp) (ds : List PD) : Prop := ∀ H1, Same H H1 → ∀ Q : List V → Hp → Prop, (∀ vs H2, Same H1 H2 → RepAll K H2 vs ds → Q vs H2) → ta σ H1 Q
/-- a new list -/
def EvL (te : TE) (σ : L2.St) (H : Hp) (ds : List PD) : Prop := ∀ H1, Same H H1 → ∀ Q : VK, (∀ p vs H2, Same H1 H2 → H1 p = none → H2 p = some (.lst vs) → RepAll K H2 vs ds → Q (.ref p) H2) → te σ H1 Q
end
section
variable {K : Fr} {σ : L2.St} {H : Hp} {ta tb : TE} {tc : TT} {d e : PD} {ds es : List PD} {x y : Int}
theorem ev_var {i : Nat} {v : V} (e : σ[i]? = some (some v)) (h : Rep K H v d) : Ev K (tVar i) σ H d := fun H1 s Q k => ⟨v, e, k v H1 (Same.refl H1) (h.same s)⟩
theorem ev_int {i : Int} : Ev K (tC (.int i)) σ H (.int i) := fun H1 _ Q k => k _ H1 (Same.refl H1) (.int i)
theorem ev_bl {b : Bool} : Ev K (tC (.bl b)) σ H (.bool b) := fun H1 _ Q k => k _ H1 (Same.refl H1) (.bl b)
theorem ev_non : Ev K (tC .non) σ H .none := fun H1 _ Q k => k _ H1 (Same.refl H1) .non
theorem ev_str {z : Str} : Ev K (tC (.str z)) σ H (.str z) := fun H1 _ Q k => k _ H1 (Same.refl H1) (.str z)
/-- an operation on two values of known data -/
theorem ev_op {r : R2} {f : PD} (a : Ev K ta σ H d) (b : Ev K tb σ H e) (h : ∀ v w H1, Rep K H1 v d → Rep K H1 w e → ∀ Q : VK, (∀ z H2, Same H1 H2 → Rep K H2 z f → Q z H2) → r v w H1 Q) : Ev K (tOp r ta tb) σ H f := fun H1 s Q k =>
  a H1 s _ fun v H2 s2 rv => b H2 (s.trans s2) _ fun w H3 s3 rw' => h v w H3 (rv.same s3) rw' Q fun z H4 s4 rz => k z H4 ((s2.trans s3).trans s4) rz
theorem ev_add (a : Ev K ta σ H (.int x)) (b : Ev K tb σ H (.int y)) : Ev K (tOp (rI0 fun i j => .int (i + j)) ta tb) σ H (.int (x + y)) :=
  ev_op a b fun v w H1 rv rw' Q k => by cases rv.int_inv; cases rw'.int_inv; exact ⟨_, _, rfl, rfl, k _ H1 (Same.refl H1) (.int _)⟩
theorem ev_sub (a : Ev K ta σ H (.int x)) (b : Ev K tb σ H (.int y)) : Ev K (tOp (rI0 fun i j => .int (i - j)) ta tb) σ H (.int (x - y)) :=
  ev_op a b fun v w H1 rv rw' Q k => by cases rv.int_inv; cases rw'.int_inv; exact ⟨_, _, rfl, rfl, k _ H1 (Same.refl H1) (.int _)⟩
theorem ev_rI {C : Int → Int → Prop} {g : Int → Int → V} {gd : Int → Int → PD} (hg : ∀ i j H, Rep K H (g i j) (gd i j)) (hc : C x y) (a : Ev K ta σ H (.int x)) (b : Ev K tb σ H (.int y)) : Ev K (tOp (rI C g) ta tb) σ H (gd x y) :=
  ev_op a b fun v w H1 rv rw' Q k => by cases rv.int_inv; cases rw'.int_inv; exact ⟨_, _, rfl, rfl, hc, k _ H1 (Same.refl H1) (hg _ _ _)⟩
theorem ev_mul (a : Ev K ta σ H (.int x)) (b : Ev K tb σ H (.int y)) (hc : CMulW x y) : Ev K (tOp (rI CMulW fun i j => .int (i * j)) ta tb) σ H (.int (x * y)) := ev_rI (gd := fun i j => .int (i * j)) (fun _ _ _ => .int _) hc a b
theorem ev_mod (a : Ev K ta σ H (.int x)) (b : Ev K tb σ H (.int y)) (hc : 0 < y) : Ev K (tOp (rI (fun _ j => 0 < j) fun i j => .int (i % j)) ta tb) σ H (.int (x % y)) := ev_rI (C := fun _ j => 0 < j) (gd := fun i j => .int (i % j)) (fun _ _ _ => .int _) hc a b
theorem ev_modN (a : Ev K ta σ H (.int x)) (b : Ev K tb σ H (.int y)) (hc : y ≠ 0) : Ev K (tOp (rI (fun _ j => j ≠ 0) fun i j => .int (i.fmod j)) ta tb) σ H (.int (x.fmod y)) := ev_rI (C := fun _ j => j ≠ 0) (gd := fun i j => .int (i.fmod j)) (fun _ _ _ => .int _) hc a b
theorem ev_fdiv (a : Ev K ta σ H (.int x)) (b : Ev K tb σ H (.int y)) (hc : CDivW x y) : Ev K (tOp (rI CDivW fun i j => .int (i / j)) ta tb) σ H (.int (x / y)) := ev_rI (gd := fun i j => .int (i / j)) (fun _ _ _ => .int _) hc a b
theorem ev_fdivN (a : Ev K ta σ H (.int x)) (b : Ev K tb σ H (.int y)) (hc : CDivNW x y) : Ev K (tOp (rI CDivNW fun i j => .int (i.fdiv j)) ta tb) σ H (.int (x.fdiv y)) := ev_rI (gd := fun i j => .int (i.fdiv j)) (fun _ _ _ => .int _) hc a b
theorem ev_pow {g : Int} (a : Ev K ta σ H (.int x)) (b : Ev K tb σ H (.int y)) (hc : CPow x y) (hg : x ^ y.toNat = g) : Ev K (tOp (rI CPow fun i j => .int (i ^ j.toNat)) ta tb) σ H (.int g) := by
  subst hg; exact ev_rI (gd := fun i j => .int (i ^ j.toNat)) (fun _ _ _ => .int _) hc a b
theorem ev_neg (a : Ev K ta σ H (.int x)) : Ev K (tUn (rU fun i => .int (-i)) ta) σ H (.int (-x)) := fun H1 s Q k =>
  a H1 s _ fun v H2 s2 rv => by cases rv.int_inv; exact ⟨x, rfl, k _ H2 s2 (.int _)⟩
/-- an item of a tuple -/
theorem ev_ix {i : Int} (a : Ev K ta σ H (.tuple ds)) (he : atI ds i = some d) : Ev K (tOp (rIxT K) ta (tC (.int i))) σ H d := fun H1 s Q k =>
  a H1 s _ fun v H2 s2 rv => by
    obtain ⟨p, xs, rfl, hp, r⟩ := rv.tup_inv
    obtain ⟨z, hz, rz⟩ := r.at he
    exact ⟨p, xs, i, z, rfl, rfl, hp, hz, k z H2 s2 rz⟩
theorem eva_nil : EvA K tNil σ H [] := fun H1 _ Q k => k [] H1 (Same.refl H1) .nil
theorem eva_cons {tr : TA} (a : Ev K ta σ H d) (b : EvA K tr σ H ds) : EvA K (tCons ta tr) σ H (d :: ds) := fun H1 s Q k =>
  a H1 s _ fun v H2 s2 rv => b H2 (s.trans s2) _ fun vs H3 s3 rs => k (v :: vs) H3 (s2.trans s3) (.cons (rv.same s3) rs)
theorem ev_tup {tr : TA} (a : EvA K tr σ H ds) (hl : ds.length ≤ 1000 := by exact Nat.le_of_ble_eq_true rfl) : Ev K (tTup tr) σ H (.tuple ds) := fun H1 s Q k =>
  a H1 s _ fun vs H2 s2 rs => ⟨by rw [rs.len]; exact Nat.le_of_lt (small1000 hl), fun p hp => k (.ref p) _ (s2.trans (same_upd hp)) (.tup (SqT.of upd_same) (rs.same (same_upd hp)))⟩
theorem evl_lst {tr : TA} (a : EvA K tr σ H ds) (hl : ds.length ≤ 1000 := by exact Nat.le_of_ble_eq_true rfl) : EvL K (tLst tr) σ H ds := fun H1 s Q k =>
  a H1 s _ fun vs H2 s2 rs => ⟨by rw [rs.len]; exact Nat.le_of_lt (small1000 hl), fun p hp => k p vs _ (s2.trans (same_upd hp)) (s2.free hp) upd_same (rs.same (same_upd hp))⟩
theorem ev_if {c : Bool} (t : EvB tc σ H c) (a : c = true → Ev K ta σ H d) (b : c = false → Ev K tb σ H d) : Ev K (tIf tc ta tb) σ H d := fun H1 s Q k =>
  t H1 s _ fun H2 s2 => by
    cases c with
    | true => exact iteT (a rfl H2 (s.trans s2) Q fun v H3 s3 r => k v H3 (s2.trans s3) r)
    | false => exact iteF (b rfl H2 (s.trans s2) Q fun v H3 s3 r => k v H3 (s2.trans s3) r)
/-! tests -/
theorem evb_test {te : TE} {b : Bool} (a : Ev K te σ H (.bool b)) : EvB (tTest te) σ H b := fun H1 s Q k =>
  a H1 s _ fun v H2 s2 rv => by cases rv.bl_inv; exact ⟨b, rfl, k H2 s2⟩
theorem evb_b {te : TE} {b : Bool} (a : Ev K te σ H (.bool b)) : EvB (tB te) σ H b := fun H1 s Q k =>
  a H1 s _ fun v H2 s2 rv => by cases rv.bl_inv; exact ⟨b, rfl, k H2 s2⟩
theorem evb_not {b : Bool} (a : EvB tc σ H b) : EvB (tNot tc) σ H (!b) := fun H1 s Q k => a H1 s _ fun H2 s2 => k H2 s2
theorem evb_and {td : TT} {b c : Bool} (a : EvB tc σ H b) (h : b = true → EvB td σ H c) : EvB (tAnd tc td) σ H (b && c) := fun H1 s Q k => a H1 s _ fun H2 s2 => by
  cases b with
  | true => exact iteT (h rfl H2 (s.trans s2) _ fun H3 s3 => k H3 (s2.trans s3))
  | false => exact iteF (k H2 s2)
theorem evb_or {td : TT} {b c : Bool} (a : EvB tc σ H b) (h : b = false → EvB td σ H c) : EvB (tOr tc td) σ H (b || c) := fun H1 s Q k => a H1 s _ fun H2 s2 => by
  cases b with
  | true => exact iteT (k H2 s2)
  | false => exact iteF (h rfl H2 (s.trans s2) _ fun H3 s3 => k H3 (s2.trans s3))
theorem ev_andV {b c : Bool} (a : Ev K ta σ H (.bool b)) (h : b = true → Ev K tb σ H (.bool c)) : Ev K (tAndV ta tb) σ H (.bool (b && c)) := fun H1 s Q k =>
  a H1 s _ fun v H2 s2 rv => by
    cases rv.bl_inv
    refine ⟨b, rfl, ?_⟩
    cases b with
    | true => exact iteT (h rfl H2 (s.trans s2) _ fun v H3 s3 r => k v H3 (s2.trans s3) r)
    | false => exact iteF (k _ H2 s2 (.bl _))
theorem ev_orV {b c : Bool} (a : Ev K ta σ H (.bool b)) (h : b = false → Ev K tb σ H (.bool c)) : Ev K (tOrV ta tb) σ H (.bool (b || c)) := fun H1 s Q k =>
  a H1 s _ fun v H2 s2 rv => by
    cases rv.bl_inv
    refine ⟨b, rfl, ?_⟩
    cases b with
    | true => exact iteT (k _ H2 s2 (.bl _))
    | false => exact iteF (h rfl H2 (s.trans s2) _ fun v H3 s3 r => k v H3 (s2.trans s3) r)
theorem ev_lt (a : Ev K ta σ H (.int x)) (b : Ev K tb σ H (.int y)) : Ev K (tOp (rI0 fun i j => .bl (decide (i < j))) ta tb) σ H (.bool (decide (x < y))) :=
  ev_op a b fun v w H1 rv rw' Q k => by cases rv.int_inv; cases rw'.int_inv; exact ⟨_, _, rfl, rfl, k _ H1 (Same.refl H1) (.bl _)⟩
theorem ev_le (a : Ev K ta σ H (.int x)) (b : Ev K tb σ H (.int y)) : Ev K (tOp (rI0 fun i j => .bl (decide (i ≤ j))) ta tb) σ H (.bool (decide (x ≤ y))) :=
  ev_op a b fun v w H1 rv rw' Q k => by cases rv.int_inv; cases rw'.int_inv; exact ⟨_, _, rfl, rfl, k _ H1 (Same.refl H1) (.bl _)⟩
theorem ev_gt (a : Ev K ta σ H (.int x)) (b : Ev K tb σ H (.int y)) : Ev K (tOp (rI0 fun i j => .bl (decide (j < i))) ta tb) σ H (.bool (decide (y < x))) :=
  ev_op a b fun v w H1 rv rw' Q k => by cases rv.int_inv; cases rw'.int_inv; exact ⟨_, _, rfl, rfl, k _ H1 (Same.refl H1) (.bl _)⟩
theorem ev_ge (a : Ev K ta σ H (.int x)) (b : Ev K tb σ H (.int y)) : Ev K (tOp (rI0 fun i j => .bl (decide (j ≤ i))) ta tb) σ H (.bool (decide (y ≤ x))) :=
  ev_op a b fun v w H1 rv rw' Q k => by cases rv.int_inv; cases rw'.int_inv; exact ⟨_, _, rfl, rfl, k _ H1 (Same.refl H1) (.bl _)⟩
theorem dec_Vint {x y : Int} : decide (V.int x = V.int y) = decide (x = y) := by
  by_cases h : x = y
  · subst h; simp
  · rw [decide_eq_false h]; exact decide_eq_false fun e => h (V.int.inj e)
theorem dec_Vbl {x y : Bool} : decide (V.bl x = V.bl y) = decide (x = y) := by cases x <;> cases y <;> rfl
theorem ev_eqI (a : Ev K ta σ H (.int x)) (b : Ev K tb σ H (.int y)) : Ev K (tOp rEq ta tb) σ H (.bool (decide (x = y))) :=
  ev_op a b fun v w H1 rv rw' Q k => by cases rv.int_inv; cases rw'.int_inv; exact ⟨rfl, k _ H1 (Same.refl H1) (by rw [dec_Vint]; exact .bl _)⟩
theorem ev_neI (a : Ev K ta σ H (.int x)) (b : Ev K tb σ H (.int y)) : Ev K (tOp rNe ta tb) σ H (.bool (!decide (x = y))) :=
  ev_op a b fun v w H1 rv rw' Q k => by cases rv.int_inv; cases rw'.int_inv; exact ⟨rfl, k _ H1 (Same.refl H1) (by rw [dec_Vint]; exact .bl _)⟩
theorem ev_eqB {x y : Bool} (a : Ev K ta σ H (.bool x)) (b : Ev K tb σ H (.bool y)) : Ev K (tOp rEq ta tb) σ H (.bool (decide (x = y))) :=
  ev_op a b fun v w H1 rv rw' Q k => by cases rv.bl_inv; cases rw'.bl_inv; exact ⟨rfl, k _ H1 (Same.refl H1) (by rw [dec_Vbl]; exact .bl _)⟩
theorem ev_eqD (a : Ev K ta σ H d) (b : Ev K tb σ H e) (sd : SeqAt.shaped d = true) (se : SeqAt.shaped e = true) : Ev K (tOp (rEqD K) ta tb) σ H (.bool (PyData.eqv d e)) :=
  ev_op a b fun v w H1 rv rw' Q k => ⟨d, e, rv.dp, rw'.dp, sd, se, k _ H1 (Same.refl H1) (.bl _)⟩
theorem ev_neD (a : Ev K ta σ H d) (b : Ev K tb σ H e) (sd : SeqAt.shaped d = true) (se : SeqAt.shaped e = true) : Ev K (tOp (rNeD K) ta tb) σ H (.bool (!PyData.eqv d e)) :=
  ev_op a b fun v w H1 rv rw' Q k => ⟨d, e, rv.dp, rw'.dp, sd, se, k _ H1 (Same.refl H1) (.bl _)⟩
theorem ev_inT (a : Ev K ta σ H d) (b : Ev K tb σ H (.tuple ds)) (sd : SeqAt.shaped d = true) (se : SeqAt.shaped (.tuple ds) = true) : Ev K (tOp (rInT K) ta tb) σ H (.bool (ds.any fun z => PyData.eqv z d)) :=
  ev_op a b fun v w H1 rv rw' Q k => ⟨d, ds, rv.dp, rw'.dp, sd, se, k _ H1 (Same.refl H1) (.bl _)⟩
/-! None or not -/
def isN : PD → Bool
  | .none => true
  | _ => false
theorem Rep.isNon {v : V} (h : Rep K H v d) : decide (v = .non) = isN d := by
  cases h <;> rfl
theorem ev_isN (a : Ev K ta σ H d) : Ev K (tIsN ta) σ H (.bool (isN d)) := fun H1 s Q k =>
  a H1 s _ fun v H2 s2 rv => k _ H2 s2 (by rw [rv.isNon]; exact .bl _)
theorem ev_notN (a : Ev K ta σ H d) : Ev K (tNotN ta) σ H (.bool (!isN d)) := fun H1 s Q k =>
  a H1 s _ fun v H2 s2 rv => k _ H2 s2 (by rw [rv.isNon]; exact .bl _)
theorem ev_isB {x y : Bool} (a : Ev K ta σ H (.bool x)) (b : Ev K tb σ H (.bool y)) : Ev K (tOp rIsB ta tb) σ H (.bool (decide (x = y))) :=
  ev_op a b fun v w H1 rv rw' Q k => by cases rv.bl_inv; cases rw'.bl_inv; exact ⟨_, _, rfl, rfl, k _ H1 (Same.refl H1) (.bl _)⟩
theorem ev_isNB {x y : Bool} (a : Ev K ta σ H (.bool x)) (b : Ev K tb σ H (.bool y)) : Ev K (tOp rNotB ta tb) σ H (.bool (!decide (x = y))) :=
  ev_op a b fun v w H1 rv rw' Q k => by cases rv.bl_inv; cases rw'.bl_inv; exact ⟨_, _, rfl, rfl, k _ H1 (Same.refl H1) (.bl _)⟩
/-! truth, length -/
theorem evb_truT (a : Ev K ta σ H (.tuple ds)) : EvB (fun σ H Q => ta σ H fun x H' => ∃ k, TruV K x H' k ∧ Q k H') σ H (!ds.isEmpty) := fun H1 s Q k =>
  a H1 s _ fun v H2 s2 rv => by
    obtain ⟨p, xs, rfl, hp, r⟩ := rv.tup_inv
    exact ⟨_, .inr (.inl ⟨xs, hp, rfl⟩), by rw [show xs.isEmpty = ds.isEmpty by cases r <;> rfl]; exact k H2 s2⟩
theorem ev_lenT {tr : TA} (a : EvA K tr σ H [.tuple ds]) : Ev K (tCB (fun xs H Q => ∃ p ys, xs = [.ref p] ∧ (SqL K H p ys ∨ SqT K H p ys) ∧ Q (.int ys.length) H) tr) σ H (.int ds.length) := fun H1 s Q k =>
  a H1 s _ fun vs H2 s2 rs => by
    obtain ⟨v, rfl, rv⟩ := rs.inv1
    obtain ⟨p, xs, rfl, hp, r⟩ := rv.tup_inv
    exact ⟨p, xs, rfl, .inr hp, k _ H2 s2 (by rw [r.len]; exact .int _)⟩
theorem ev_intI {tr : TA} (a : EvA K tr σ H [.int x]) : Ev K (tCB (fun xs H Q => (∃ i, xs = [.int i] ∧ Q (.int i) H) ∨ ∃ k, xs = [.bl k] ∧ Q (.int (if k then 1 else 0)) H) tr) σ H (.int x) := fun H1 s Q k =>
  a H1 s _ fun vs H2 s2 rs => by
    obtain ⟨v, rfl, rv⟩ := rs.inv1
    cases rv.int_inv
    exact .inl ⟨x, rfl, k _ H2 s2 (.int _)⟩
theorem ev_abs {tr : TA} (a : EvA K tr σ H [.int x]) : Ev K (tCB (fun xs H Q => ∃ i, xs = [.int i] ∧ Q (.int (if i < 0 then -i else i)) H) tr) σ H (.int (if x < 0 then -x else x)) := fun H1 s Q k =>
  a H1 s _ fun vs H2 s2 rs => by
    obtain ⟨v, rfl, rv⟩ := rs.inv1
    cases rv.int_inv
    exact ⟨x, rfl, k _ H2 s2 (.int _)⟩
/-! a list made new, used up -/
theorem RepAll.ints : ∀ {vs : List V} {ns : List Int}, RepAll K H vs (ns.map .int) → vs = ns.map V.int
  | _, [], h => by cases h; rfl
  | _, n :: ns, h => by
    cases h with
    | cons h r => cases h.int_inv; rw [RepAll.ints r]; rfl
theorem RepAll.bools : ∀ {vs : List V} {ns : List Bool}, RepAll K H vs (ns.map .bool) → vs = ns.map V.bl
  | _, [], h => by cases h; rfl
  | _, n :: ns, h => by
    cases h with
    | cons h r => cases h.bl_inv; rw [RepAll.bools r]; rfl
theorem ev_sum {ns : List Int} (a : EvL K ta σ H (ns.map .int)) : Ev K (tCB (rSum K) (tCons ta tNil)) σ H (.int ns.sum) := fun H1 s Q k =>
  a H1 s _ fun p vs H2 s2 _ hp rs => ⟨p, ns, rfl, SqL.of (by rw [hp, rs.ints]), k _ H2 s2 (.int _)⟩
theorem ev_any {ns : List Bool} (a : EvL K ta σ H (ns.map .bool)) : Ev K (tCB (rAny K) (tCons ta tNil)) σ H (.bool (ns.any id)) := fun H1 s Q k =>
  a H1 s _ fun p vs H2 s2 _ hp rs => ⟨p, ns, rfl, SqL.of (by rw [hp, rs.bools]), k _ H2 s2 (.bl _)⟩
theorem ev_all {ns : List Bool} (a : EvL K ta σ H (ns.map .bool)) : Ev K (tCB (rAll K) (tCons ta tNil)) σ H (.bool (ns.all id)) := fun H1 s Q k =>
  a H1 s _ fun p vs H2 s2 _ hp rs => ⟨p, ns, rfl, SqL.of (by rw [hp, rs.bools]), k _ H2 s2 (.bl _)⟩
def rTupleOf (K : Fr) : List V → Hp → VK → Prop := fun xs H Q => ∃ p ys, xs = [.ref p] ∧ ((SqL K H p ys ∧ ∀ l, H l = none → Q (.ref l) (upd H l (.tup ys))) ∨ (SqT K H p ys ∧ Q (.ref p) H))
theorem ev_tupleL (a : EvL K ta σ H ds) : Ev K (tCB (rTupleOf K) (tCons ta tNil)) σ H (.tuple ds) := fun H1 s Q k =>
  a H1 s _ fun p vs H2 s2 _ hp rs => ⟨p, vs, rfl, .inl ⟨SqL.of hp, fun l hl => k (.ref l) _ (s2.trans (same_upd hl)) (.tup (SqT.of upd_same) (rs.same (same_upd hl)))⟩⟩
theorem ev_tupleT (a : Ev K ta σ H (.tuple ds)) : Ev K (tCB (rTupleOf K) (tCons ta tNil)) σ H (.tuple ds) := fun H1 s Q k =>
  a H1 s _ fun v H2 s2 rv => by
    have rv' := rv
    obtain ⟨p, xs, rfl, hp, r⟩ := rv.tup_inv
    exact ⟨p, xs, rfl, .inr ⟨hp, k (.ref p) H2 s2 rv'⟩⟩
/-- an attribute of an instance that a name holds -/
theorem ev_fld {i : Nat} {p C dx : Addr} {fs : List (Str × V)} {f : Str} {v : V} (e : σ[i]? = some (some (.ref p))) (hp : H p = some (.ins C dx fs)) (hc : Cls K C) (hn : NoAttr K C f) (hf : fs.lookup f = some v) (r : Rep K H v d) : Ev K (tFld K (tVar i) f) σ H d := fun H1 s Q k =>
  ⟨_, e, p, C, dx, fs, v, rfl, s _ _ hp, hc, hn, hf, k v H1 (Same.refl H1) (r.same s)⟩
/-- a def that hands back data, and touches nothing -/
def spF (K : Fr) (R : List PD → PD → Prop) : Sp := fun vs H Q _ => ∃ ds d, RepAll K H vs ds ∧ R ds d ∧ ∀ v H', Same H H' → Rep K H' v d → Q v H'
theorem ev_call {R : List PD → PD → Prop} {E : XK} {t : TA} (a : EvA K t σ H ds) (h : R ds d) : Ev K (tCall (spF K R) [] E t) σ H d := fun H1 s Q k =>
  a H1 s _ fun vs H2 s2 rs => ⟨ds, d, by rw [List.append_nil]; exact rs, h, fun v H3 s3 rv => k v H3 (s2.trans s3) rv⟩
/-! statements -/
variable {D : Ends} {u t1 t2 : TS}
theorem s_set {i : Nat} (a : Ev K ta σ H d) (h : ∀ v H1, Same H H1 → Rep K H1 v d → u D (σ.set i (some v)) H1) : tSeq (tAsg ta (gName i)) u D σ H := a H (Same.refl H) _ h
theorem s_ret (a : Ev K ta σ H d) (h : ∀ v H1, Same H H1 → Rep K H1 v d → D.rt v H1) : tRet ta D σ H := a H (Same.refl H) _ h
theorem s_if {c : Bool} (t : EvB tc σ H c) (a : c = true → ∀ H1, Same H H1 → t1 D σ H1) (b : c = false → ∀ H1, Same H H1 → t2 D σ H1) : tIfS tc t1 t2 D σ H :=
  t H (Same.refl H) _ fun H1 s => by
    cases c with
    | true => exact iteT (a rfl H1 s)
    | false => exact iteF (b rfl H1 s)
/-- an if in a block -/
theorem s_ifs {c : Bool} (t : EvB tc σ H c) (a : c = true → ∀ H1, Same H H1 → t1 { D with nx := u D } σ H1) (b : c = false → ∀ H1, Same H H1 → t2 { D with nx := u D } σ H1) : tSeq (tIfS tc t1 t2) u D σ H :=
  s_if t a b
/-- an if that leaves, in a block -/
theorem s_ifr {c : Bool} (t : EvB tc σ H c) (a : c = true → ∀ H1, Same H H1 → t1 { D with nx := u D } σ H1) (b : c = false → ∀ H1, Same H H1 → u D σ H1) : tSeq (tIfS tc t1 tNext) u D σ H :=
  s_if t a b
theorem s_ret1 {te : TE} {H1 : Hp} (a : Ev K te σ H d) (h : ∀ v H1, Same H H1 → Rep K H1 v d → D.rt v H1) : tRet te D σ H := a H (Same.refl H) _ h
end
/-! ### isinstance of data -/
def pyT : PD → String
  | .none => "NoneType"
  | .bool _ => "bool"
  | .int _ => "int"
  | .str _ => "str"
  | .tuple _ => "tuple"
  | .list _ => "list"
  | .dict _ => "dict"
theorem Rep.ty {K : Fr} {H : Hp} {v : V} {d : PD} (h : Rep K H v d) : TyX K H v (.type (pyT d)) := by
  cases h with
  | non => exact .base .non
  | bl b => exact .base (.bl b)
  | int i => exact .base (.int i)
  | str x => exact .base (.str x)
  | tup h r =>
    rcases h with (h | ⟨o, h⟩) | ⟨o, its, n, hk, hc, _⟩
    · exact .base (.tup h)
    · exact .fTuple h
    · exact .kTuple hk hc
theorem ev_isi {K : Fr} {σ : L2.St} {H : Hp} {ta : TE} {d : PD} {T : String} {b : Bool} (a : Ev K ta σ H d) (h : kitB (pyT d) T = some b) : Ev K (tCB (rIsi K) (tCons ta (tCons (tC (.ty T)) tNil))) σ H (.bool b) := fun H1 s Q k =>
  a H1 s _ fun v H2 s2 rv => ⟨v, .ty T, _, _, b, rfl, .ty T, rv.ty, kit_ty h, k _ H2 s2 (.bl b)⟩
/-! ### x, y = a, b -/
theorem s_par {K : Fr} {σ : L2.St} {H : Hp} {ta : TA} {d e : PD} {i j : Nat} {u : TS} {D : Ends} (a : EvA K ta σ H [d, e]) (h : ∀ v w H1, Same H H1 → Rep K H1 v d → Rep K H1 w e → u D ((σ.set i (some v)).set j (some w)) H1) : tSeq (tPar i j ta) u D σ H :=
  a H (Same.refl H) _ fun vs H1 s rs => by
    obtain ⟨v, w, rfl, r1, r2⟩ := rs.inv2
    exact ⟨v, w, rfl, h v w H1 s r1 r2⟩
theorem s_par_end {K : Fr} {σ : L2.St} {H : Hp} {ta : TA} {d e : PD} {i j : Nat} {D : Ends} (a : EvA K ta σ H [d, e]) (h : ∀ v w H1, Same H H1 → Rep K H1 v d → Rep K H1 w e → D.nx ((σ.set i (some v)).set j (some w)) H1) : tPar i j ta D σ H :=
  a H (Same.refl H) _ fun vs H1 s rs => by
    obtain ⟨v, w, rfl, r1, r2⟩ := rs.inv2
    exact ⟨v, w, rfl, h v w H1 s r1 r2⟩
theorem s_par3_end {K : Fr} {σ : L2.St} {H : Hp} {ta : TA} {d e f : PD} {i j l : Nat} {D : Ends} (a : EvA K ta σ H [d, e, f]) (h : ∀ v w x H1, Same H H1 → Rep K H1 v d → Rep K H1 w e → Rep K H1 x f → D.nx (((σ.set i (some v)).set j (some w)).set l (some x)) H1) : tPar3 i j l ta D σ H :=
  a H (Same.refl H) _ fun vs H1 s rs => by
    obtain ⟨v, w, x, rfl, r1, r2, r3⟩ := rs.inv3
    exact ⟨v, w, x, rfl, h v w x H1 s r1 r2 r3⟩
end LB
/-! Two rules of our own: zip over three tuples; x in an object by its class's own __contains__. -/
namespace LB
open PySem PySem.Spec PyProof.Rows L2
/-! ### for x, y, z in zip(a, b, c), three tuples -/
def Itz3 (K : Fr) (a b c : Addr) : It where
  go := fun i H => ∃ (xs ys zs : List V) (x y z : V), SqT K H a xs ∧ SqT K H b ys ∧ SqT K H c zs ∧ xs[i]? = some x ∧ ys[i]? = some y ∧ zs[i]? = some z
  yld := fun i H v H' => ∃ T x y z, v = .ref T ∧ H T = none ∧ H' = upd H T (.tup [x, y, z]) ∧ (∀ xs, SqT K H a xs → xs[i]? = some x) ∧ (∀ ys, SqT K H b ys → ys[i]? = some y) ∧ ∀ zs, SqT K H c zs → zs[i]? = some z
  stop := fun i H => ∃ xs ys zs : List V, SqT K H a xs ∧ SqT K H b ys ∧ SqT K H c zs ∧ (i ≤ xs.length ∧ i ≤ ys.length ∧ i ≤ zs.length) ∧ (i = xs.length ∨ i = ys.length ∨ i = zs.length)
theorem tup_ne_iter {h : Heap} {a i t : Addr} {n : Nat} {its : Array Value} (p : h.IsTuple a its) (g : h.IsTupleIter i t n) : a ≠ i := by
  intro e
  subst e
  obtain ⟨o, e1, c1, _⟩ := p
  obtain ⟨u, e2, c2, _⟩ := g
  rw [e1] at e2
  cases e2
  rw [c1] at c2
  exact absurd c2 (by decide)
theorem turn_z3 {P : Program} {w : World} {K : Fr} {elts : List Expr} {kk : Nat} {tpos : Pos} {a b c z TI TO i1 i2 i3 : Addr}
    (S : ZipSep3 z TI TO i1 i2 i3 [i1, a] [i2, b] [i3, c]) :
    Turn P w K (.Tuple elts kk tpos) (Itz3 K a b c) [z, TI, TO, i1, i2, i3] z
      (fun i h => IsZip h z TI TO .none ∧ IsTupOf3 h TI (.ref i1) (.ref i2) (.ref i3) ∧ (∃ x y v, IsTupOf3 h TO x y v) ∧ h.IsTupleIter i1 a i ∧ h.IsTupleIter i2 b i ∧ h.IsTupleIter i3 c i) where
  mem := List.mem_cons_self
  obj := by
    rintro i h ⟨g1, g2, ⟨x, y, v, g3⟩, ⟨o4, e4, _, d4⟩, ⟨o5, e5, _, d5⟩, ⟨o6, e6, _, d6⟩⟩ q hq
    have q' : q = z ∨ q = TI ∨ q = TO ∨ q = i1 ∨ q = i2 ∨ q = i3 := by simpa using hq
    rcases q' with rfl | rfl | rfl | rfl | rfl | rfl
    · exact ⟨_, g1, fun v e => nomatch e⟩
    · exact ⟨_, g2, fun v e => nomatch e⟩
    · exact ⟨_, g3, fun v e => nomatch e⟩
    · exact ⟨_, e4, fun v e => by rw [d4] at e; cases e⟩
    · exact ⟨_, e5, fun v e => by rw [d5] at e; cases e⟩
    · exact ⟨_, e6, fun v e => by rw [d6] at e; cases e⟩
  keep := by
    rintro i h h' ⟨g1, g2, ⟨x, y, v, g3⟩, g4, g5, g6⟩ k
    exact ⟨k z (by simp) _ g1, k TI (by simp) _ g2, ⟨x, y, v, k TO (by simp) _ g3⟩, g4.at fun o e => k i1 (by simp) o e, g5.at fun o e => k i2 (by simp) o e, g6.at fun o e => k i3 (by simp) o e⟩
  item := by
    intro X hP hw hK hc i pins s σ H E I hf st hg
    subst hP hw hK
    obtain ⟨g1, g2, ⟨x0, y0, v0, g3⟩, g4, g5, g6⟩ := st
    obtain ⟨xs, ys, zs, x, y, v, qa, qb, qc, hx, hy, hv⟩ := hg
    obtain ⟨its1, r1, p1, _⟩ := I.tuple qa
    obtain ⟨its2, r2, p2, _⟩ := I.tuple qb
    obtain ⟨its3, r3, p3, _⟩ := I.tuple qc
    obtain ⟨u1, hu1, ru1⟩ := r1.get hx
    obtain ⟨u2, hu2, ru2⟩ := r2.get hy
    obtain ⟨u3, hu3, ru3⟩ := r3.get hv
    have hh : X.A.in1.handled = none := I.ok.hd hc
    have zl : z < s.heap.objs.size := Heap.lt_size g1
    refine wpAny_pyNext_zipD3_item S (Draws.tuple hh i1 a (tup_ne_iter p1 g4) its1.toArray) (Draws.tuple hh i2 b (tup_ne_iter p2 g5) its2.toArray) (Draws.tuple hh i3 c (tup_ne_iter p3 g6) its3.toArray)
      g1 g2 g3 ⟨g4, p1⟩ ⟨g5, p2⟩ ⟨g6, p3⟩ (i := i) (List.getElem?_eq_some_iff.mp (by simpa using hu1)).1 (List.getElem?_eq_some_iff.mp (by simpa using hu2)).1 (List.getElem?_eq_some_iff.mp (by simpa using hu3)).1 ?_
    intro w1 w2 w3 h' tk c1 c2 c3 z' TO' n1 n2 n3 hT hsz hk
    have c1' : w1 = u1 := by
      have q : its1.toArray[i]? = some u1 := by simpa using hu1
      exact Option.some.inj (c1.symm.trans q)
    have c2' : w2 = u2 := by
      have q : its2.toArray[i]? = some u2 := by simpa using hu2
      exact Option.some.inj (c2.symm.trans q)
    have c3' : w3 = u3 := by
      have q : its3.toArray[i]? = some u3 := by simpa using hu3
      exact Option.some.inj (c3.symm.trans q)
    subst c1' c2' c3'
    refine ⟨_, rfl, wpAny_letOwnedTupleGo_zip (s := { s with heap := h', toks := tk }) z' fun h'' z'' sb => ?_⟩
    have hT2 : h''.get? s.heap.objs.size = some { cls := .type "tuple", data := .seq #[w1, w2, w3] } := (sb.2 _ (Nat.ne_of_gt zl)).trans hT
    have new : ObjOk X.prog X.w (upd H s.heap.objs.size (.tup [x, y, v])) h'' s.heap.objs.size (.tup [x, y, v]) := by
      refine ⟨by show 3 ≤ sizeLine; decide, [w1, w2, w3], .cons ru1 (.cons ru2 (.cons ru3 .nil)), ?_⟩
      exact ⟨_, hT2, rfl, _, rfl⟩
    have keep : ∀ q o, q ∉ [z, TI, TO, i1, i2, i3] → s.heap.get? q = some o → h''.get? q = some o := by
      intro q o hq e
      simp at hq
      exact (sb.2 q hq.1).trans (hk q o hq.1 hq.2.2.1 hq.2.2.2.1 hq.2.2.2.2.1 hq.2.2.2.2.2 e)
    have I1 : Inv X pins σ (upd H s.heap.objs.size (.tup [x, y, v])) { s with heap := h'', toks := tk } := I.turnedNew (t' := tk) (ch := [z, TI, TO, i1, i2, i3]) keep hf (Nat.le_refl _) new
    refine ⟨.ref s.heap.objs.size, _, I1, rfl, ⟨_, x, y, v, rfl, I.hok.fresh (Nat.le_refl _), rfl, fun l hl => by rw [I.tuple_inj hl qa]; exact hx, fun l hl => by rw [I.tuple_inj hl qb]; exact hy, fun l hl => by rw [I.tuple_inj hl qc]; exact hv⟩, ⟨z'', ?_, ⟨w1, w2, w3, ?_⟩, ?_, ?_, ?_⟩, fun q hq => ?_⟩
    · exact (sb.2 _ S.TIz).trans (hk _ _ S.TIz S.TITO S.TIi1 S.TIi2 S.TIi3 g2)
    · exact (sb.2 _ S.TOz).trans TO'
    · exact n1.1.at fun o e => (sb.2 _ (fun e' => S.zi1 e'.symm)).trans e
    · exact n2.1.at fun o e => (sb.2 _ (fun e' => S.zi2 e'.symm)).trans e
    · exact n3.1.at fun o e => (sb.2 _ (fun e' => S.zi3 e'.symm)).trans e
    · have lt : q < s.heap.objs.size := by
        have q' : q = z ∨ q = TI ∨ q = TO ∨ q = i1 ∨ q = i2 ∨ q = i3 := by simpa using hq
        obtain ⟨_, e4, _⟩ := g4
        obtain ⟨_, e5, _⟩ := g5
        obtain ⟨_, e6, _⟩ := g6
        rcases q' with rfl | rfl | rfl | rfl | rfl | rfl
        · exact zl
        · exact Heap.lt_size g2
        · exact Heap.lt_size g3
        · exact Heap.lt_size e4
        · exact Heap.lt_size e5
        · exact Heap.lt_size e6
      rw [upd_ne (Nat.ne_of_lt lt)]
      exact (hf q hq).1
  done := by
    intro X hP hw hK hc i pins s σ H E I hf st hg
    subst hP hw hK
    obtain ⟨g1, g2, ⟨x0, y0, v0, g3⟩, g4, g5, g6⟩ := st
    obtain ⟨xs, ys, zs, qa, qb, qc, ⟨l1, l2, l3⟩, hend⟩ := hg
    obtain ⟨its1, r1, p1, _⟩ := I.tuple qa
    obtain ⟨its2, r2, p2, _⟩ := I.tuple qb
    obtain ⟨its3, r3, p3, _⟩ := I.tuple qc
    have m1 : its1.toArray.size = xs.length := by simpa using r1.length.symm
    have m2 : its2.toArray.size = ys.length := by simpa using r2.length.symm
    have m3 : its3.toArray.size = zs.length := by simpa using r3.length.symm
    have hh : X.A.in1.handled = none := I.ok.hd hc
    refine wpAny_pyNext_zipD3_end S (Draws.tuple hh i1 a (tup_ne_iter p1 g4) its1.toArray) (Draws.tuple hh i2 b (tup_ne_iter p2 g5) its2.toArray) (Draws.tuple hh i3 c (tup_ne_iter p3 g6) its3.toArray)
      g1 g2 g3 ⟨g4, p1⟩ ⟨g5, p2⟩ ⟨g6, p3⟩ (i := i) (by omega) (by omega) (by omega) (by omega) ?_
    intro h' tk hk
    refine ⟨rfl, I.turnedL (t' := tk) (ch := [z, TI, TO, i1, i2, i3]) (fun q o hq e => ?_) hf⟩
    simp at hq
    exact hk q o hq.1 hq.2.2.1 hq.2.2.2.1 hq.2.2.2.2.1 hq.2.2.2.2.2 e
  self := fun A i s Q E st h => wpAny_pyIter_zip st.1 h
theorem sep3_of {n a b c : Nat} (la : a < n) (lb : b < n) (lc : c < n) : ZipSep3 (n + 5) (n + 3) (n + 4) n (n + 1) (n + 2) [n, a] [n + 1, b] [n + 2, c] := by
  constructor
  all_goals first
    | exact Nat.ne_of_lt (by omega)
    | exact Nat.ne_of_gt (by omega)
    | (simp; done)
    | (simp; exact Nat.ne_of_gt (by omega))
    | (simp; exact Nat.ne_of_lt (by omega))
def iZip3 (K : Fr) (ta : TA) : TI := fun σ H R => ta σ H fun vs H1 => ∃ a b c xs ys zs, vs = [.ref a, .ref b, .ref c] ∧ SqT K H1 a xs ∧ SqT K H1 b ys ∧ SqT K H1 c zs ∧ R (Itz3 K a b c) H1
theorem pi_zip3 {X : Cx} {e e2 e3 : Expr} {ta : TA} {p pos tpos : Pos} {elts : List Expr} {kk : Nat} (hg : Gl X "zip") (hm : X.mg "zip" = none) (ha : PA X [e, e2, e3] ta)
    (hs : starEach [e, e2, e3] X.env = (false, eval e X.env) :: starEach [e2, e3] X.env := by rfl) (hpl : (backTo pos (starEach [e2, e3] X.env)).any (·.1) = false := by rfl) :
    PI X (.Tuple elts kk tpos) (.Call (.Name "zip" p) [e, e2, e3] [] pos) (iZip3 X.K ta) := by
  refine ⟨fun pins s σ H R I h => ?_⟩
  refine Call_ (ld_blt I hg hm boot_zip (callWith_type1 (thn (ha.run pos pins s σ H _ I h) fun us s1 hh => ?_) hs hpl))
  obtain ⟨vs, H1, I1, rv, a, b, c, xs, ys, zs, ex, qa, qb, qc, q⟩ := hh
  subst ex
  obtain ⟨its1, r1, p1, _⟩ := I1.tuple qa
  obtain ⟨its2, r2, p2, _⟩ := I1.tuple qb
  obtain ⟨its3, r3, p3, _⟩ := I1.tuple qc
  cases rv with
  | cons ra rv =>
    cases rv with
    | cons rb rv =>
      cases rv with
      | cons rc rv =>
        cases rv
        cases ra
        cases rb
        cases rc
        have la : a < s1.heap.objs.size := by obtain ⟨_, e, _⟩ := id p1; exact Heap.lt_size e
        have lb : b < s1.heap.objs.size := by obtain ⟨_, e, _⟩ := id p2; exact Heap.lt_size e
        have lc : c < s1.heap.objs.size := by obtain ⟨_, e, _⟩ := id p3; exact Heap.lt_size e
        refine zip_begins3 (begins_tuple a its1.toArray) (begins_tuple b its2.toArray) (begins_tuple c its3.toArray) p1 p2 p3 fun h' hz hTI hTO h1 h2 h3 hsz hk => wpAny_pyIter_zip hz ?_
        have I2 : Inv X pins σ H1 { s1 with heap := h' } := I1.kept (t' := s1.toks) hk
        generalize hn : s1.heap.objs.size = n at *
        have S : ZipSep3 (n + 5) (n + 3) (n + 4) n (n + 1) (n + 2) [n, a] [n + 1, b] [n + 2, c] := by
          exact sep3_of la lb lc
        have fresh : ∀ q, q ∈ [n + 5, n + 3, n + 4, n, n + 1, n + 2] → FpOk X pins H1 q := fun q hq => by
          have q' : q = n + 5 ∨ q = n + 3 ∨ q = n + 4 ∨ q = n ∨ q = n + 1 ∨ q = n + 2 := by simpa using hq
          have hle : s1.heap.objs.size ≤ q := by omega
          exact I1.fpOk hle (I1.hok.fresh hle)
        exact ⟨n + 5, [n + 5, n + 3, n + 4, n, n + 1, n + 2], _, Itz3 X.K a b c, H1, rfl, I2, turn_z3 S, ⟨hz, hTI, ⟨_, _, _, hTO⟩, ⟨_, h1, rfl, rfl⟩, ⟨_, h2, rfl, rfl⟩, ⟨_, h3, rfl, rfl⟩⟩, fresh, q⟩
/-- a loop over zip of three tuples of one length -/
theorem for_zip3 {K : Fr} {a b c : Addr} {xs ys zs : List V} {g : TG} {tb : TS} {D : Ends} {σ : L2.St} {H : Hp} (hl : xs.length = ys.length) (hl2 : xs.length = zs.length) (Pv : Nat → L2.St → Hp → Prop) (h0 : Pv 0 σ H)
    (hq : ∀ i σ H, i ≤ xs.length → Pv i σ H → SqT K H a xs ∧ SqT K H b ys ∧ SqT K H c zs)
    (hs : ∀ i x y z T σ H, xs[i]? = some x → ys[i]? = some y → zs[i]? = some z → Pv i σ H → H T = none → g (.ref T) σ (upd H T (.tup [x, y, z])) fun σ2 H2 => tb { D with nx := Pv (i + 1), ct := Pv (i + 1), bk := D.nx } σ2 H2)
    (hd : ∀ σ H, Pv xs.length σ H → D.nx σ H) :
    ∃ W : Nat → Nat → L2.St → Hp → Prop, (∃ m, W 0 m σ H) ∧ ∀ i m σ H, W i m σ H →
      ((Itz3 K a b c).stop i H ∧ D.nx σ H) ∨ ((Itz3 K a b c).go i H ∧ ∃ N : L2.St → Hp → Prop, (∀ σ' H', N σ' H' → ∃ m', m' < m ∧ W (i + 1) m' σ' H') ∧ ∀ x H', (Itz3 K a b c).yld i H x H' → g x σ H' fun σ2 H2 => tb { D with nx := N, ct := N, bk := D.nx } σ2 H2) := by
  refine ⟨fun i m σ H => m = xs.length - i ∧ i ≤ xs.length ∧ Pv i σ H, ⟨xs.length, rfl, Nat.zero_le _, h0⟩, ?_⟩
  rintro i m σ H ⟨rfl, hi, p⟩
  obtain ⟨qa, qb, qc⟩ := hq i σ H hi p
  rcases Nat.lt_or_ge i xs.length with lt | ge
  · refine .inr ⟨⟨xs, ys, zs, xs[i], ys[i], zs[i], qa, qb, qc, by simp [lt], by simp [← hl, lt], by simp [← hl2, lt]⟩, Pv (i + 1), fun σ' H' p' => ⟨_, ?_, rfl, lt, p'⟩, ?_⟩
    · omega
    · rintro v H' ⟨T, x, y, z, rfl, hT, rfl, ex, ey, ez⟩
      exact hs i x y z T σ H (ex xs qa) (ey ys qb) (ez zs qc) p hT
  · have e : i = xs.length := Nat.le_antisymm hi ge
    subst e
    exact .inl ⟨⟨xs, ys, zs, qa, qb, qc, ⟨Nat.le_refl _, Nat.le_of_eq hl, Nat.le_of_eq hl2⟩, .inl rfl⟩, hd σ H p⟩
/-! ### x in an object, by its class's own __contains__ -/
def tInOwn (C : Addr) (sp : Sp) (E : XK) : R2 := fun x y H Q => ∃ a dx fs, y = .ref a ∧ H a = some (.ins C dx fs) ∧ sp [y, x] H (fun v H' => ∃ r, v = .bl r ∧ Q (.bl r) H') E
theorem op_inOwn {X : Cx} {C f : Addr} {CX : CXT} {k : Nat} {fd : FuncData} {ps : List Str} {sp : Sp} {E : XK} (hm : Meth X.K C "__contains__" f) (F : FnOk X.prog X.w X.K X.mg X.base CX k f fd ps sp) (hr : Room k X.A) (hb : Binds X.K fd ps []) (hx : Passes CX X E) :
    OpR X (compareOp .In) (tInOwn C sp E) := by
  intro pins s σ H x y v u Q I rx ry h
  obtain ⟨a, dx, fs, rfl, ea, q⟩ := h
  obtain rfl : u = Value.ref a := ry
  obtain ⟨mA, O, _, _, _, _⟩ := ins_get I.hok ea
  obtain ⟨od, J, _⟩ := O.look
  have hK := I.kIn
  show wpAny _ _ (contains (.ref a) v >>= _) _ _ _
  refine wpAny_bind ?_
  unfold contains
  refine wpAny_holding (wpAny_bind (wpAny_bind (J.type.here ?_)))
  refine (PySem.W.looks_findIn hK hm.at_).here ?_
  rw [if_neg (by simp)]
  refine wpAny_bind (PySem.W.unlessNone_K hK J hm.at_ hm.fn ?_)
  refine thn (run_fn (us := [.ref a, v]) (vs := [.ref a, x]) F hr hb .nil hx I (.cons rfl (.cons rx .nil)) (by rw [List.append_nil]; exact q)) fun r s1 hh => ?_
  obtain ⟨z, H1, I1, rz, hz⟩ := hh
  obtain ⟨c, ez, q1⟩ := hz
  subst ez
  obtain rfl : r = Value.bool c := rz
  exact wpAny_truthy_bool (wpAny_pure ⟨.bl c, H1, I1, rfl, q1⟩)
/-! ### a def as it stands behind the top, its defaults whatever they are -/
structure FunD (K : Fr) (x qual : Str) (st : Stmt) (f : Addr) (fd : FuncData) : Prop where
  ex : ∃ (oc : Value) (od : Option Addr) (dV kV doc pm : Value) (an : Option Addr) (cdv ct : Value) (osl : Array (Option Value)),
    K.lookup f = some ⟨oc, od, .func fd, osl⟩ ∧ fd = PySem.W.fnOf x qual (defArgs st) (defBody st) (defScope st) dV kV doc pm an cdv ct ∧ PySem.W.codeIn K cdv qual = true
  kp : PySem.W.keepIn K (.ref f) = true
section
variable {P : Program} {w : World} {K : Fr} {mg : Str → Option Value} {base : Heap}
theorem FunD.ok {x qual : Str} {st : Stmt} {f : Addr} {fd : FuncData} {N ps : List Str} {k : Nat} {sp : Sp} (F : FunD K x qual st f fd) (S : FnScope N ps (defScope st)) (len : ∀ vs H Q E, sp vs H Q E → vs.length = ps.length)
    (hb : ∀ (cdv : Value) (A : Around) (outer : List Env) (s : Shared) (H : Hp) (vs : List V) (Q : VK) (E : XK), Room k (A.deeper (envOfC qual (defScope st) s.heap.objs.size f cdv)) → sp vs H Q E →
      ∃ t, PSs (cxOf CX0 P w K mg base N qual (defScope st) f cdv A outer s H E).nox (defBody st) t ∧ t { nx := fun _ H' => Q .non H', rt := Q } (start N vs) H) : FnOk P w K mg base CX0 (k + 1) f fd ps sp := by
  obtain ⟨oc, od, dV, kV, doc, pm, an, cdv, ct, osl, lk, rfl, hcd⟩ := F.ex
  refine fn_of lk hcd S len fun A outer s H vs Q E hr hsp => ?_
  obtain ⟨t, h, q⟩ := hb cdv A outer s H vs Q E hr hsp
  exact ⟨t, h.nox, q⟩
theorem FunD.bnd {x qual : Str} {st : Stmt} {f : Addr} {fd : FuncData} {ps : List Str} (F : FunD K x qual st f fd)
    (h : ∀ (dV kV doc pm : Value) (an : Option Addr) (cdv ct : Value) (us : List Value), us.length = ps.length → bindArgs (PySem.W.fnOf x qual (defArgs st) (defBody st) (defScope st) dV kV doc pm an cdv ct) ⟨us, []⟩ = pure (ps.zip us)) : Binds K fd ps [] := by
  obtain ⟨oc, od, dV, kV, doc, pm, an, cdv, ct, osl, lk, rfl, hcd⟩ := F.ex
  exact .all (h dV kV doc pm an cdv ct)
theorem fun_mkD {x qual : Str} {st : Stmt} {f : Addr} {oc : Value} {od an : Option Addr} {osl : Array (Option Value)} {dV kV doc pm cdv ct : Value} (l : K.lookup f = some ⟨oc, od, .func (PySem.W.fnOf x qual (defArgs st) (defBody st) (defScope st) dV kV doc pm an cdv ct), osl⟩)
    (c : PySem.W.codeIn K cdv qual = true) (k : PySem.W.keepIn K (.ref f) = true) : FunD K x qual st f (PySem.W.fnOf x qual (defArgs st) (defBody st) (defScope st) dV kV doc pm an cdv ct) := ⟨⟨oc, od, dV, kV, doc, pm, an, cdv, ct, osl, l, rfl, c⟩, k⟩
end
/-! ### a statement whose ways meet again: what holds there is told -/
def tMeet (t u : TS) : TS := fun D σ H => ∃ Mid : L2.St → Hp → Prop, (∀ σ' H', Mid σ' H' → u D σ' H') ∧ t { D with nx := Mid } σ H
theorem pss_meet {X : Cx} {st : Stmt} {rest : List Stmt} {t u : TS} (h1 : PS X st t) (h2 : PSs X rest u) : PSs X (st :: rest) (tMeet t u) := by
  refine ⟨fun pins s σ H D I h => ?_⟩
  obtain ⟨Mid, hm, h⟩ := h
  refine wpAny_execs_cons (thn (h1.run pins s σ H { D with nx := Mid } I h) fun f s1 q => ?_)
  cases f with
  | ret v => exact q
  | brk => exact q
  | cont => exact q
  | next =>
    obtain ⟨σ', H', I', q⟩ := q
    exact h2.run pins s1 σ' H' D I' (hm σ' H' q)
theorem s_meet {t u : TS} {D : Ends} {σ : L2.St} {H : Hp} (Mid : L2.St → Hp → Prop) (m : ∀ σ' H', Mid σ' H' → u D σ' H') (h : t { D with nx := Mid } σ H) : tMeet t u D σ H := ⟨Mid, m, h⟩
theorem s_next {D : Ends} {σ : L2.St} {H : Hp} (h : D.nx σ H) : tNext D σ H := h
theorem ix_tK {X : Cx} (K : Fr) (h : X.K = K := by rfl) : IxR X (rIxT K) := by subst h; exact ix_tup
theorem ix_lK {X : Cx} (K : Fr) (h : X.K = K := by rfl) : IxR X (rIxL K) := by subst h; exact ix_list
theorem op_eqK {X : Cx} (K : Fr) (h : X.K = K) (hu : X.A.units + 64 < cLine) : OpR X (compareOp .Eq) (rEqD K) := by subst h; exact op_eqD hu
theorem op_neK {X : Cx} (K : Fr) (h : X.K = K) (hu : X.A.units + 64 < cLine) : OpR X (compareOp .NotEq) (rNeD K) := by subst h; exact op_neD hu
theorem op_inK {X : Cx} (K : Fr) (h : X.K = K) (hu : X.A.units + 65 < cLine) : OpR X (compareOp .In) (rInT K) := by subst h; exact op_inT hu
/-- a def with defaults, called with every argument -/
theorem bnd_dflt {K : Fr} {fd : FuncData} {ps : List Str} {T : Addr} {o : Obj} {its : Array Value} {n : Nat} (lT : K.lookup T = some o) (oT : o.data = .seq its n)
    (h : ∀ us : List Value, us.length = ps.length → ∃ k : Option (Array Value) → Sem (List (Str × Value)), bindArgs fd ⟨us, []⟩ = seqItems? (.ref T) >>= k ∧ k (some its) = pure (ps.zip us)) : Binds K fd ps [] := fun s us X hl => by
  rw [List.append_nil] at hl ⊢
  obtain ⟨k, e1, e2⟩ := h us hl
  refine BindsTo.of_looks fun M => ?_
  rw [e1]
  exact looks_items X lT oT (.of_pure e2)
end LB
/-! The source of draws of a law: a dict with text keys; what a draw promises. -/
namespace LB
open PySem L2
structure PenS where
  c : Addr
  cells : List Int
  at_ : Int
  dg : Int
  ct : Int
  fo : Int
def PenS.kvs (p : PenS) : List (Key × V) := [(.inr "cells", .ref p.c), (.inr "at", .int p.at_), (.inr "digits", .int p.dg), (.inr "count", .int p.ct), (.inr "fold", .int p.fo)]
theorem kk {a b : Str} (h : (a == b) = false) : decide ((Sum.inr a : Key) = Sum.inr b) = false := decide_eq_false fun e => by
  have e' := Sum.inr.inj e
  subst e'
  simp at h
theorem val_skip {k : Key} {x : Key × V} {r : List (Key × V)} (h : decide (x.1 = k) = false) : valV (x :: r) k = valV r k := by
  unfold valV; rw [List.find?_cons_of_neg (by rw [h]; exact Bool.false_ne_true)]
theorem val_here {k : Key} {v : V} {r : List (Key × V)} : valV ((k, v) :: r) k = some v := by
  unfold valV; rw [List.find?_cons_of_pos (by simp)]; rfl
theorem p_cells (p : PenS) : valV p.kvs (.inr "cells") = some (.ref p.c) := val_here
theorem p_at (p : PenS) : valV p.kvs (.inr "at") = some (.int p.at_) := by
  unfold PenS.kvs; rw [val_skip (kk (by decide +kernel)), val_here]
theorem p_dg (p : PenS) : valV p.kvs (.inr "digits") = some (.int p.dg) := by
  unfold PenS.kvs; rw [val_skip (kk (by decide +kernel)), val_skip (kk (by decide +kernel)), val_here]
theorem p_ct (p : PenS) : valV p.kvs (.inr "count") = some (.int p.ct) := by
  unfold PenS.kvs; rw [val_skip (kk (by decide +kernel)), val_skip (kk (by decide +kernel)), val_skip (kk (by decide +kernel)), val_here]
theorem p_fo (p : PenS) : valV p.kvs (.inr "fold") = some (.int p.fo) := by
  unfold PenS.kvs; rw [val_skip (kk (by decide +kernel)), val_skip (kk (by decide +kernel)), val_skip (kk (by decide +kernel)), val_skip (kk (by decide +kernel)), val_here]
theorem putK_of {kvs : List (Key × V)} {k : Key} {v w : V} (h : valV kvs k = some w) : putK kvs k v = kvs.map (fun kv => if kv.1 = k then (kv.1, v) else kv) := by
  unfold putK
  rw [if_pos]
  unfold valV at h
  cases e : kvs.find? fun kv => decide (kv.1 = k) with
  | none => rw [e] at h; cases h
  | some x => exact List.any_eq_true.mpr ⟨x, List.mem_of_find?_eq_some e, by simpa using List.find?_some e⟩
theorem kn {a b : Str} (h : (a == b) = false) : ¬ (Sum.inr a : Key) = Sum.inr b := of_decide_eq_false (kk h)
theorem u_at (p : PenS) (x : Int) : putK p.kvs (.inr "at") (.int x) = { p with at_ := x }.kvs := by
  rw [putK_of (p_at p)]
  simp only [PenS.kvs, List.map]
  rw [if_neg (kn (by decide +kernel)), if_pos True.intro, if_neg (kn (by decide +kernel)), if_neg (kn (by decide +kernel)), if_neg (kn (by decide +kernel))]
theorem u_dg (p : PenS) (x : Int) : putK p.kvs (.inr "digits") (.int x) = { p with dg := x }.kvs := by
  rw [putK_of (p_dg p)]
  simp only [PenS.kvs, List.map]
  rw [if_neg (kn (by decide +kernel)), if_neg (kn (by decide +kernel)), if_pos True.intro, if_neg (kn (by decide +kernel)), if_neg (kn (by decide +kernel))]
theorem u_ct (p : PenS) (x : Int) : putK p.kvs (.inr "count") (.int x) = { p with ct := x }.kvs := by
  rw [putK_of (p_ct p)]
  simp only [PenS.kvs, List.map]
  rw [if_neg (kn (by decide +kernel)), if_neg (kn (by decide +kernel)), if_neg (kn (by decide +kernel)), if_pos True.intro, if_neg (kn (by decide +kernel))]
theorem u_fo (p : PenS) (x : Int) : putK p.kvs (.inr "fold") (.int x) = { p with fo := x }.kvs := by
  rw [putK_of (p_fo p)]
  simp only [PenS.kvs, List.map]
  rw [if_neg (kn (by decide +kernel)), if_neg (kn (by decide +kernel)), if_neg (kn (by decide +kernel)), if_neg (kn (by decide +kernel)), if_pos True.intro]
/-- the pen p stands at d -/
structure Pn (H : Hp) (d : Addr) (p : PenS) : Prop where
  at_ : H d = some (.dK p.kvs)
  cl : H p.c = some (.lst (p.cells.map V.int))
  ne : p.c ≠ d
theorem Pn.same {H H' : Hp} {d : Addr} {p : PenS} (P : Pn H d p) (s : Same H H') : Pn H' d p := ⟨s _ _ P.at_, s _ _ P.cl, P.ne⟩
/-- some pen stands at d, its cells at c: what all draws keep; n bounds how often it was drawn -/
def PenAt (c : Addr) (H : Hp) (d : Addr) (n : Nat) : Prop := ∃ p, Pn H d p ∧ p.c = c ∧ 0 ≤ p.at_ ∧ 0 ≤ p.ct ∧ p.ct ≤ n ∧ 0 ≤ p.fo ∧ p.fo < 2147483587
section
variable {H H' : Hp} {c d : Addr} {n m : Nat}
theorem PenAt.same (P : PenAt c H d n) (s : Same H H') : PenAt c H' d n := by
  obtain ⟨p, P, h⟩ := P
  exact ⟨p, P.same s, h⟩
theorem PenAt.mono (P : PenAt c H d n) (l : n ≤ m) : PenAt c H d m := by
  obtain ⟨p, P, h0, h1, h2, h3, h4, h5⟩ := P
  exact ⟨p, P, h0, h1, h2, by omega, h4, h5⟩
theorem PenAt.kt (P : PenAt c H d n) (k : Kd d H H') : Kt H H' := by
  obtain ⟨p, P, h⟩ := P
  exact kt_kd k P.at_ (fun i => i)
theorem PenAt.ne {l : Addr} {o : HO} (P : PenAt c H d n) (h : H l = some o) (ho : ∀ kvs, o ≠ .dK kvs) : l ≠ d := by
  obtain ⟨p, P, _⟩ := P
  exact ne_of h P.at_ (ho _)
theorem PenAt.ned (P : PenAt c H d n) {l : Addr} (h : H l = none) : l ≠ d ∧ l ≠ c := by
  obtain ⟨p, P, rfl, _⟩ := P
  exact ⟨fun e => ne_of_none P.at_ h e.symm, fun e => ne_of_none P.cl h e.symm⟩
/-- a write elsewhere -/
theorem PenAt.upd (P : PenAt c H d n) {l : Addr} {o : HO} (h1 : l ≠ d) (h2 : l ≠ c) : PenAt c (upd H l o) d n := by
  obtain ⟨p, P, rfl, h⟩ := P
  exact ⟨p, ⟨by rw [upd_ne (Ne.symm h1)]; exact P.at_, by rw [upd_ne (Ne.symm h2)]; exact P.cl, P.ne⟩, rfl, h⟩
end
section
variable {K : Fr} {σ : L2.St} {H : Hp} {te tv : TE} {d : Addr} {p : PenS} {x : Int} {D : Ends}
theorem ev_pget {key : Str} (e : σ[0]? = some (some (.ref d))) (P : Pn H d p) (hv : valV p.kvs (.inr key) = some (.int x)) : Ev K (tDGet (tVar 0) (tC (.str key))) σ H (.int x) := fun H1 s Q k =>
  ⟨_, e, d, .int x, rfl, .inl ⟨p.kvs, .inr key, .inl (s _ _ P.at_), rfl, hv.symm⟩, k _ H1 (Same.refl H1) (.int x)⟩
theorem s_pput {key : Str} {kvs' : List (Key × V)} (e : σ[0]? = some (some (.ref d))) (P : Pn H d p) (a : Ev K tv σ H (.int x)) (hk : putK p.kvs (.inr key) (.int x) = kvs')
    (h : ∀ H1, Kd d H H1 → H1 d = some (.dK kvs') → H1 p.c = some (.lst (p.cells.map V.int)) → D.nx σ H1) : sDPut (tVar 0) (tC (.str key)) tv D σ H :=
  a H (Same.refl H) _ fun v H1 s rv => by
    cases rv.int_inv
    refine ⟨_, e, d, upd H1 d (.dK kvs'), rfl, ?_, ?_⟩
    · refine .inl ⟨p.kvs, .inr key, s _ _ P.at_, rfl, ?_, by rw [hk]⟩
      exact small1000 (by show 5 ≤ 1000; decide)
    · refine h _ (fun b o hb ne => by rw [upd_ne ne]; exact s _ _ hb) upd_same ?_
      rw [upd_ne P.ne]
      exact s _ _ P.cl
end
section
variable {K : Fr} {σ : L2.St} {H : Hp} {d : Addr} {p : PenS} {D : Ends} {t u : TS} {te tv : TE} {x : Int}
theorem s_pputs {key : Str} {kvs' : List (Key × V)} (e : σ[0]? = some (some (.ref d))) (P : Pn H d p) (a : Ev K tv σ H (.int x)) (hk : putK p.kvs (.inr key) (.int x) = kvs')
    (h : ∀ H1, Kd d H H1 → H1 d = some (.dK kvs') → H1 p.c = some (.lst (p.cells.map V.int)) → u D σ H1) : tSeq (sDPut (tVar 0) (tC (.str key)) tv) u D σ H := s_pput e P a hk h
theorem ev_lencells (e : σ[0]? = some (some (.ref d))) (P : Pn H d p) :
    Ev K (tCB (fun xs H Q => ∃ p ys, xs = [.ref p] ∧ (SqL K H p ys ∨ SqT K H p ys) ∧ Q (.int ys.length) H) (tCons (tDGet (tVar 0) (tC (.str "cells"))) tNil)) σ H (.int p.cells.length) := fun H1 s Q k => by
  refine ⟨_, e, d, .ref p.c, rfl, .inl ⟨p.kvs, .inr "cells", .inl (s _ _ P.at_), rfl, (p_cells p).symm⟩, ?_⟩
  refine ⟨p.c, _, rfl, .inl (SqL.of (s _ _ P.cl)), k _ H1 (Same.refl H1) ?_⟩
  rw [List.length_map]
  exact .int _
theorem ev_cell {j : Nat} (e : σ[0]? = some (some (.ref d))) (P : Pn H d p) (ej : p.at_ = j) (hj : p.cells[j]? = some x) :
    Ev K (tOp (rIxL K) (tDGet (tVar 0) (tC (.str "cells"))) (tDGet (tVar 0) (tC (.str "at")))) σ H (.int x) := fun H1 s Q k => by
  refine ⟨_, e, d, .ref p.c, rfl, .inl ⟨p.kvs, .inr "cells", .inl (s _ _ P.at_), rfl, (p_cells p).symm⟩, ?_⟩
  refine ⟨_, e, d, .int p.at_, rfl, .inl ⟨p.kvs, .inr "at", .inl (s _ _ P.at_), rfl, (p_at p).symm⟩, ?_⟩
  refine ⟨p.c, _, p.at_, .int x, rfl, rfl, SqL.of (s _ _ P.cl), ?_, k _ H1 (Same.refl H1) (.int x)⟩
  rw [ej]
  refine atI_nat ?_
  rw [List.getElem?_map, hj]
  rfl
end
/-- a draw below m -/
def spDraw : Sp := fun vs H Q _ => ∃ (c d : Addr) (n : Nat) (m : Int), vs = [.ref d, .int m] ∧ PenAt c H d n ∧ n < 1000000000 ∧ 0 < m ∧ m < 1073741824 ∧ ∀ (r : Int) (H' : Hp), 0 ≤ r → r < m → Kd d H H' → PenAt c H' d (n + 1) → Q (.int r) H'
/-- an item of a list -/
def spPick : Sp := fun vs H Q _ => ∃ (c d l : Addr) (n : Nat) (xs : List V), vs = [.ref d, .ref l] ∧ PenAt c H d n ∧ n < 1000000000 ∧ H l = some (.lst xs) ∧ 0 < xs.length ∧ xs.length < 1000000 ∧ ∀ (v : V) (H' : Hp), v ∈ xs → Kd d H H' → PenAt c H' d (n + 1) → Q v H'
/-- the pen made -/
def spPen (K : Fr) : Sp := fun vs H Q _ => ∃ (a : Addr) (ns : List Int), vs = [.ref a] ∧ SqL K H a (ns.map V.int) ∧ ∀ (c d : Addr) (H' : Hp), Same H H' → PenAt c H' d 0 → Q (.ref d) H'
section
variable {K : Fr} {E : XK} {σ : L2.St} {H : Hp} {c d : Addr} {n i : Nat} {m : Int} {te tl : TE} {Q : VK} {ds : List PD}
theorem c_draw (e : σ[i]? = some (some (.ref d))) (P : PenAt c H d n) (hn : n < 1000000000) (m0 : 0 < m) (m1 : m < 1073741824) (a : Ev K te σ H (.int m))
    (k : ∀ (r : Int) (H' : Hp), 0 ≤ r → r < m → Kd d H H' → PenAt c H' d (n + 1) → Q (.int r) H') : tCall spDraw [] E (tCons (tVar i) (tCons te tNil)) σ H Q :=
  ⟨_, e, a H (Same.refl H) _ fun v H1 s rv => by
    cases rv.int_inv
    exact ⟨c, d, n, m, rfl, P.same s, hn, m0, m1, fun r H' h1 h2 h3 h4 => k r H' h1 h2 ((kd_same s).trans h3) h4⟩⟩
theorem mem_rep {vs : List V} {ds : List PD} {v : V} (r : RepAll K H vs ds) (h : v ∈ vs) : ∃ x, x ∈ ds ∧ Rep K H v x := by
  obtain ⟨j, hj, e⟩ := List.getElem_of_mem h
  obtain ⟨x, hx, rx⟩ := r.getV (i := j) (v := v) (by simp [hj, e])
  exact ⟨x, List.mem_of_getElem? hx, rx⟩
theorem c_pick (e : σ[i]? = some (some (.ref d))) (P : PenAt c H d n) (hn : n < 1000000000) (a : EvL K tl σ H ds) (h0 : 0 < ds.length) (h1 : ds.length < 1000000)
    (k : ∀ (v : V) (x : PD) (H' : Hp), x ∈ ds → Rep K H' v x → Kd d H H' → PenAt c H' d (n + 1) → Q v H') : tCall spPick [] E (tCons (tVar i) (tCons tl tNil)) σ H Q :=
  ⟨_, e, a H (Same.refl H) _ fun p vs H1 s _ hp rs => by
    refine ⟨c, d, p, n, vs, rfl, P.same s, hn, hp, by rw [rs.len]; exact h0, by rw [rs.len]; exact h1, fun v H' hv h3 h4 => ?_⟩
    obtain ⟨x, hx, rx⟩ := mem_rep rs hv
    exact k v x H' hx (rx.kt ((P.same s).kt h3)) ((kd_same s).trans h3) h4⟩
end
theorem bd_lit {n : Nat} {i : Int} (h : decide (i.natAbs < 2 ^ n) = true) : Bd n i := by unfold Bd; exact of_decide_eq_true h
end LB
/-! Comprehensions of data: [e for x in a tuple], [e for x, y in zip of two tuples], [e for k in range]. -/
namespace LB
open PySem L2
theorem kt_lst {H : Hp} {D : Addr} {a b : List V} (h : H D = some (.lst a)) : Kt H (upd H D (.lst b)) := fun c o e i => by
  have ne : c ≠ D := fun z => by subst z; rw [h] at e; cases e; exact i
  rw [upd_ne ne]; exact e
theorem same_new {H H1 : Hp} {D : Addr} {b : HO} (hD : H D = none) (s : Same H H1) : Same H (upd H1 D b) := fun c o e => by
  rw [upd_ne (ne_of_none e hD)]; exact s c o e
theorem lc_pure {J : It} {n : Nat} {G : Hp → Prop} {Y : Nat → Hp → V → Hp → Prop} {K : Fr} (w : Walk J n G Y) {g : TG} {te : TE} {vs : List Nat} {σ : L2.St} {H1 : Hp} {D : Addr} {Qd : Hp → Prop} (es : List PD) (hn : es.length = n) (hl : n ≤ 1000) (hD : H1 D = none)
    (hG : ∀ H, Same H1 H → G H) (hY : ∀ i x H H', i < n → Y i H x H' → Same H H')
    (ht : ∀ i x H H', i < n → Same H1 H → Same H H' → Y i H x H' → g x (wipe σ vs) H' fun σ2 H2 => wipe σ2 vs = wipe σ vs ∧ H2 = H' ∧ ∃ d, es[i]? = some d ∧ Ev K te σ2 H' d)
    (hg : ∀ (x : V) (σ0 : L2.St) (H : Hp) (Q Q' : L2.St → Hp → Prop), (∀ σ' H', Q σ' H' → Q' σ' H') → g x σ0 H Q → g x σ0 H Q')
    (k : ∀ ws H, Same H1 H → H D = some (.lst ws) → RepAll K H ws es → Qd H) :
    ∃ W : Nat → Nat → Hp → Prop, (∃ m, W 0 m (upd H1 D (.lst []))) ∧ ∀ i m H, W i m H →
      (J.stop i H ∧ Qd H) ∨ (J.go i H ∧ ∃ Nx : Hp → Prop, (∀ H', Nx H' → ∃ m', m' < m ∧ W (i + 1) m' H') ∧ ∀ x H', J.yld i H x H' → g x (wipe σ vs) H' fun σ2 H2 => wipe σ2 vs = wipe σ vs ∧ tYes σ2 H2 fun b H3 =>
        if b = true then te σ2 H3 fun y H4 => ∃ acc, H4 D = some (.lst acc) ∧ acc.length < sizeLine ∧ Nx (upd H4 D (.lst (acc ++ [y]))) else Nx H3) := by
  refine lc_it w (fun i H => Same H1 H ∧ ∃ acc, H D = some (.lst acc) ∧ RepAll K H acc (es.take i)) ⟨same_new hD (Same.refl H1), [], upd_same, .nil⟩ (fun i H _ p => hG H p.1) ?_ ?_
  · rintro i x H H' hi ⟨s1, acc, ha, ra⟩ y
    have s2 := hY i x H H' hi y
    refine hg _ _ _ _ _ ?_ (ht i x H H' hi s1 s2 y)
    rintro σ2 H2 ⟨e1, rfl, d, ed, ev⟩
    refine ⟨e1, ?_⟩
    dsimp only [tYes]
    rw [if_pos rfl]
    refine ev H2 (Same.refl H2) _ fun v H4 s4 rv => ?_
    have hD4 : H4 D = some (.lst acc) := s4 _ _ (s2 _ _ ha)
    refine ⟨acc, hD4, ?_, same_new hD ((s1.trans s2).trans s4), acc ++ [v], upd_same, ?_⟩
    · have := ra.len
      rw [List.length_take] at this
      exact small1000 (by omega)
    · rw [List.take_succ, ed]
      exact (((ra.same s2).same s4).append (.cons rv .nil)).kt (kt_lst hD4)
  · rintro H ⟨s1, acc, ha, ra⟩
    rw [← hn, List.take_length] at ra
    exact k acc H s1 ha ra
section
variable {K : Fr} {σ : L2.St} {H : Hp} {ta tb te : TE} {ds es fs : List PD}
theorem gName_mono {i : Nat} (x : V) (σ0 : L2.St) (H : Hp) (Q Q' : L2.St → Hp → Prop) (m : ∀ σ' H', Q σ' H' → Q' σ' H') (h : gName i x σ0 H Q) : gName i x σ0 H Q' := m _ _ h
theorem gT2_mono {i j : Nat} (x : V) (σ0 : L2.St) (H : Hp) (Q Q' : L2.St → Hp → Prop) (m : ∀ σ' H', Q σ' H' → Q' σ' H') (h : gTup K 2 (gCons (gName i) (gCons (gName j) gNil)) x σ0 H Q) : gTup K 2 (gCons (gName i) (gCons (gName j) gNil)) x σ0 H Q' := by
  obtain ⟨a, xs, e, hs, hl, v, r, e1, w, r2, e2, e3, q⟩ := h
  exact ⟨a, xs, e, hs, hl, v, r, e1, w, r2, e2, e3, m _ _ q⟩
theorem wipe1 {i : Nat} {v : Option V} {σ : L2.St} : wipe ((wipe σ [i]).set i v) [i] = wipe σ [i] := by
  show ((σ.set i none).set i v).set i none = σ.set i none
  rw [List.set_set, List.set_set]
theorem wipe2 {i j : Nat} {v u : Option V} {σ : L2.St} (h : i ≠ j) : wipe (((wipe σ [i, j]).set i v).set j u) [i, j] = wipe σ [i, j] := by
  show (((((σ.set j none).set i none).set i v).set j u).set j none).set i none = (σ.set j none).set i none
  rw [List.set_set, List.set_set, List.set_comm _ _ h, List.set_set, List.set_set]
/-- [e for x in t], t a tuple of data -/
theorem evl_lct {i : Nat} (a : Ev K ta σ H (.tuple ds)) (hn : es.length = ds.length) (hl : ds.length ≤ 1000)
    (h : ∀ (j : Nat) (d : PD) (v : V) (H1 : Hp), ds[j]? = some d → Same H H1 → Rep K H1 v d → ∃ e, es[j]? = some e ∧ Ev K te ((wipe σ [i]).set i (some v)) H1 e) : EvL K (tLc (iTup K ta) (gName i) tYes te [i]) σ H es := fun H1 s Q k =>
  a H1 s _ fun v H2 s2 rv => by
    obtain ⟨p, xs, rfl, hp, r⟩ := rv.tup_inv
    refine ⟨p, rfl, ⟨xs, hp⟩, fun D hD => ?_⟩
    refine lc_pure (K := K) (walk_tup (K := K) (a := p) (xs := xs)) es (by rw [hn, r.len]) (by rw [r.len]; exact hl) hD (fun H s => kt_sqt (kt_same s) hp) (fun i x H H' _ y => by rw [y.1]; exact Same.refl H) ?_ gName_mono (fun ws H3 s3 e3 r3 => k D ws H3 (s2.trans s3) (s2.free hD) e3 r3)
    rintro j x H3 H4 hj s3 s4 ⟨rfl, hx⟩
    obtain ⟨d, ed, rd⟩ := r.getV hx
    obtain ⟨e, ee, ev⟩ := h j d x H4 ed ((s.trans s2).trans s3) (rd.same s3)
    exact ⟨wipe1, rfl, e, ee, ev⟩
/-- zip of two tuples -/
theorem walk_zT {a b : Addr} {xs ys : List V} {n : Nat} (hn : n = min xs.length ys.length) : Walk (RZ.ItzT K a b) n (fun H => SqT K H a xs ∧ SqT K H b ys) (YPair (fun i => xs[i]?) (fun i => ys[i]?)) := by
  subst hn
  constructor
  · intro i H hi q
    have h1 : i < xs.length := by omega
    have h2 : i < ys.length := by omega
    exact ⟨xs, ys, xs[i], ys[i], q.1, q.2, by simp [h1], by simp [h2]⟩
  · intro H q
    refine ⟨xs, ys, q.1, q.2, ?_⟩
    omega
  · rintro i H v H' _ q ⟨T, x, y, e1, e2, e3, e4, e5⟩
    exact ⟨T, x, y, e1, e2, e3, e4 xs q.1, e5 ys q.2⟩
theorem evl_lcz {i j : Nat} (hij : i ≠ j) (a : Ev K ta σ H (.tuple ds)) (b : Ev K tb σ H (.tuple fs)) (hn : es.length = min ds.length fs.length) (hl : ds.length ≤ 1000)
    (h : ∀ (m : Nat) (d f : PD) (v w : V) (H1 : Hp), ds[m]? = some d → fs[m]? = some f → Same H H1 → Rep K H1 v d → Rep K H1 w f → ∃ e, es[m]? = some e ∧ Ev K te (((wipe σ [i, j]).set i (some v)).set j (some w)) H1 e) :
    EvL K (tLc (RZ.iZipA K (tCons ta (tCons tb tNil))) (gTup K 2 (gCons (gName i) (gCons (gName j) gNil))) tYes te [i, j]) σ H es := fun H1 s Q k =>
  a H1 s _ fun v H2 s2 rv => b H2 (s.trans s2) _ fun w H3 s3 rw' => by
    obtain ⟨p, xs, rfl, hp, r⟩ := rv.tup_inv
    obtain ⟨q, ys, rfl, hq, r'⟩ := rw'.tup_inv
    have hp' := kt_sqt (kt_same s3) hp
    have r3 := r.same s3
    refine ⟨p, q, xs, ys, rfl, .inr ⟨hp', hq, fun D hD => ?_⟩⟩
    refine lc_pure (K := K) (walk_zT (K := K) (a := p) (b := q) (xs := xs) (ys := ys) rfl) es (by rw [hn, r.len, r'.len]) (by rw [r.len]; omega) hD (fun H s => ⟨kt_sqt (kt_same s) hp', kt_sqt (kt_same s) hq⟩) ?_ ?_ gT2_mono (fun ws H3' s3' e3 r3 => k D ws H3' ((s2.trans s3).trans s3') ((s2.trans s3).free hD) e3 r3)
    · rintro i x H H' _ ⟨T, _, _, _, hT, rfl, _⟩
      exact same_upd hT
    · rintro m x H4 H5 hm s4 s5 ⟨T, x1, y1, rfl, hT, rfl, hx, hy⟩
      obtain ⟨d, ed, rd⟩ := r3.getV hx
      obtain ⟨f, ef, rf⟩ := r'.getV hy
      obtain ⟨e, ee, ev⟩ := h m d f x1 y1 _ ed ef (((s.trans (s2.trans s3)).trans s4).trans s5) ((rd.same s4).same s5) ((rf.same s4).same s5)
      exact ⟨T, [x1, y1], rfl, SqT.of upd_same, rfl, x1, [y1], rfl, y1, [], rfl, rfl, wipe2 hij, rfl, e, ee, ev⟩
end
end LB
/-! Sheets as data: what the class says of them, and how one stands in the heap. -/
namespace LB
open PySem L2
abbrev C2 := Int × Int
abbrev dC (c : C2) : PD := .tuple [.int c.1, .int c.2]
abbrev dCs (l : List C2) : PD := .tuple (l.map dC)
abbrev dIs (l : List Int) : PD := .tuple (l.map .int)
def dO : Option (List Int) → PD
  | none => .none
  | some l => dIs l
def dOI : Option Int → PD
  | none => .none
  | some i => .int i
def BdC (n : Nat) (c : C2) : Prop := Bd n c.1 ∧ Bd n c.2
structure Sh where
  base : C2
  price : Int
  steps : List C2
  prices : List Int
def cr (a b : C2) : Int := a.1 * b.2 - a.2 * b.1
def exactF (tops : List Int) (b : Int) : Option (List Int) :=
  if (tops.map fun t => (!decide (t.fmod b = 0) || decide (t.fdiv b < 0))).any id = true then none else some (tops.map fun t => t.fdiv b)
def Sh.way (S : Sh) (c : C2) : C2 := (c.1 - S.base.1, c.2 - S.base.2)
def Sh.counts (S : Sh) (c : C2) : Option (List Int) := match S.steps with
  | [] => if S.way c = (0, 0) then some [] else none
  | [f] => if cr f (S.way c) = 0 then exactF [f.1 * (S.way c).1 + f.2 * (S.way c).2] (f.1 * f.1 + f.2 * f.2) else none
  | f :: s :: _ => exactF [cr (S.way c) s, cr f (S.way c)] (cr f s)
def Sh.cellOf (S : Sh) (n : List Int) : C2 :=
  (S.base.1 + ((n.zip S.steps).map fun p => p.1 * p.2.1).sum, S.base.2 + ((n.zip S.steps).map fun p => p.1 * p.2.2).sum)
def Sh.priceOf (S : Sh) (n : List Int) : Int := S.price + ((n.zip S.prices).map fun p => p.1 * p.2).sum
def Sh.priceAt (S : Sh) (c : C2) : Option Int := (S.counts c).map S.priceOf
def areSteps (l : List C2) : Bool := match l with
  | [] => true
  | [a] => !decide (a = (0, 0))
  | [a, b] => !decide (a = (0, 0)) && !decide (b = (0, 0)) && !decide (cr a b = 0)
  | _ => false
/-- the sheets of the laws: two steps at most, sizes told -/
structure Sh.Ok (S : Sh) : Prop where
  st : areSteps S.steps = true
  ln : S.prices.length = S.steps.length
  b0 : BdC 400 S.base
  b1 : Bd 400 S.price
  b2 : ∀ s ∈ S.steps, BdC 400 s
  b3 : ∀ s ∈ S.prices, Bd 400 s
theorem areSteps_len {l : List C2} (h : areSteps l = true) : l.length ≤ 2 := by
  match l, h with
  | [], _ => exact Nat.zero_le _
  | [a], _ => exact (by decide : 1 ≤ 2)
  | [a, b], _ => exact Nat.le_refl _
theorem eqv_dC {a b : C2} : PyData.eqv (dC a) (dC b) = decide (a = b) := by
  obtain ⟨x, y⟩ := a
  obtain ⟨u, v⟩ := b
  by_cases h1 : x = u <;> by_cases h2 : y = v <;> simp [PyData.eqv, PyData.eqvAll, h1, h2]
theorem shaped_dC (a : C2) : SeqAt.shaped (dC a) = true := by
  simp [SeqAt.shaped, PyData.canLay0, PyData.canLayAll0, PyData.depth, PyData.depthAll]
theorem canLay_dCs : ∀ l : List C2, PyData.canLayAll0 (l.map dC) = true ∧ PyData.depthAll (l.map dC) ≤ 1
  | [] => by simp [PyData.canLayAll0, PyData.depthAll]
  | a :: l => by
    obtain ⟨h1, h2⟩ := canLay_dCs l
    simp [PyData.canLayAll0, PyData.depthAll, PyData.canLay0, PyData.depth, h1]
    exact Nat.max_le.mpr ⟨Nat.le_refl _, h2⟩
theorem shaped_dCs (l : List C2) : SeqAt.shaped (dCs l) = true := by
  obtain ⟨h1, h2⟩ := canLay_dCs l
  have h3 : PyData.depth (dCs l) ≤ 64 := by show PyData.depthAll (l.map dC) + 1 ≤ 64; omega
  have h4 : PyData.canLay0 (dCs l) = true := h1
  unfold SeqAt.shaped
  rw [h4, decide_eq_true h3]
  rfl
theorem canLay_dIs : ∀ l : List Int, PyData.canLayAll0 (l.map .int) = true ∧ PyData.depthAll (l.map .int) = 0
  | [] => by simp [PyData.canLayAll0, PyData.depthAll]
  | a :: l => by
    obtain ⟨h1, h2⟩ := canLay_dIs l
    simp [PyData.canLayAll0, PyData.depthAll, PyData.canLay0, PyData.depth, h1, h2]
theorem shaped_dIs (l : List Int) : SeqAt.shaped (dIs l) = true := by
  obtain ⟨h1, h2⟩ := canLay_dIs l
  have h3 : PyData.depth (dIs l) ≤ 64 := by show PyData.depthAll (l.map .int) + 1 ≤ 64; omega
  have h4 : PyData.canLay0 (dIs l) = true := h1
  unfold SeqAt.shaped
  rw [h4, decide_eq_true h3]
  rfl
/-! ### a sheet in the heap -/
def shF (vb vp vs vr : V) : List (Str × V) := putF "prices" vr (putF "steps" vs (putF "price" vp (putF "base" vb [])))
theorem shF_base (vb vp vs vr : V) : (shF vb vp vs vr).lookup ("base" : Str) = some vb := by
  unfold shF
  rw [lookup_putF, if_neg (by decide +kernel), lookup_putF, if_neg (by decide +kernel), lookup_putF, if_neg (by decide +kernel), lookup_putF, if_pos rfl]
theorem shF_price (vb vp vs vr : V) : (shF vb vp vs vr).lookup ("price" : Str) = some vp := by
  unfold shF
  rw [lookup_putF, if_neg (by decide +kernel), lookup_putF, if_neg (by decide +kernel), lookup_putF, if_pos rfl]
theorem shF_steps (vb vp vs vr : V) : (shF vb vp vs vr).lookup ("steps" : Str) = some vs := by
  unfold shF
  rw [lookup_putF, if_neg (by decide +kernel), lookup_putF, if_pos rfl]
theorem shF_prices (vb vp vs vr : V) : (shF vb vp vs vr).lookup ("prices" : Str) = some vr := by
  unfold shF
  rw [lookup_putF, if_pos rfl]
theorem shF_no (vb vp vs vr : V) {m : Str} (h1 : ¬ m = "prices") (h2 : ¬ m = "steps") (h3 : ¬ m = "price") (h4 : ¬ m = "base") : (shF vb vp vs vr).lookup m = none := by
  unfold shF
  rw [lookup_putF, if_neg h1, lookup_putF, if_neg h2, lookup_putF, if_neg h3, lookup_putF, if_neg h4]
  rfl
structure ShAt (K : Fr) (C : Addr) (H : Hp) (p : Addr) (S : Sh) : Prop where
  ex : ∃ dx vb vp vs vr, H p = some (.ins C dx (shF vb vp vs vr)) ∧ Rep K H vb (dC S.base) ∧ Rep K H vp (.int S.price) ∧ Rep K H vs (dCs S.steps) ∧ Rep K H vr (dIs S.prices)
theorem ShAt.kt {K : Fr} {C : Addr} {H H' : Hp} {p : Addr} {S : Sh} (h : ShAt K C H p S) (k : Kt H H') : ShAt K C H' p S := by
  obtain ⟨dx, vb, vp, vs, vr, e, r1, r2, r3, r4⟩ := h.ex
  exact ⟨dx, vb, vp, vs, vr, k _ _ e trivial, r1.kt k, r2.kt k, r3.kt k, r4.kt k⟩
theorem ShAt.same {K : Fr} {C : Addr} {H H' : Hp} {p : Addr} {S : Sh} (h : ShAt K C H p S) (k : Same H H') : ShAt K C H' p S := h.kt (kt_same k)
section
variable {K : Fr} {C p : Addr} {H : Hp} {S : Sh} {σ : L2.St} {i : Nat}
theorem ev_base (e : σ[i]? = some (some (.ref p))) (h : ShAt K C H p S) (c : Cls K C) (n : NoAttr K C "base") : Ev K (tFld K (tVar i) "base") σ H (dC S.base) := by
  obtain ⟨dx, vb, vp, vs, vr, e1, r1, r2, r3, r4⟩ := h.ex
  exact ev_fld e e1 c n (shF_base ..) r1
theorem ev_price (e : σ[i]? = some (some (.ref p))) (h : ShAt K C H p S) (c : Cls K C) (n : NoAttr K C "price") : Ev K (tFld K (tVar i) "price") σ H (.int S.price) := by
  obtain ⟨dx, vb, vp, vs, vr, e1, r1, r2, r3, r4⟩ := h.ex
  exact ev_fld e e1 c n (shF_price ..) r2
theorem ev_steps (e : σ[i]? = some (some (.ref p))) (h : ShAt K C H p S) (c : Cls K C) (n : NoAttr K C "steps") : Ev K (tFld K (tVar i) "steps") σ H (dCs S.steps) := by
  obtain ⟨dx, vb, vp, vs, vr, e1, r1, r2, r3, r4⟩ := h.ex
  exact ev_fld e e1 c n (shF_steps ..) r3
theorem ev_prices (e : σ[i]? = some (some (.ref p))) (h : ShAt K C H p S) (c : Cls K C) (n : NoAttr K C "prices") : Ev K (tFld K (tVar i) "prices") σ H (dIs S.prices) := by
  obtain ⟨dx, vb, vp, vs, vr, e1, r1, r2, r3, r4⟩ := h.ex
  exact ev_fld e e1 c n (shF_prices ..) r4
end
/-! ### promises -/
def spCross (K : Fr) : Sp := spF K fun ds d => ∃ a b : C2, ds = [dC a, dC b] ∧ BdC 3000 a ∧ BdC 3000 b ∧ d = .int (cr a b)
def spAreSteps (K : Fr) : Sp := spF K fun ds d => ∃ l : List C2, ds = [dCs l] ∧ (∀ s ∈ l, BdC 400 s) ∧ d = .bool (areSteps l)
def spExact (K : Fr) : Sp := spF K fun ds d => ∃ (l : List Int) (b : Int), ds = [dIs l, .int b] ∧ l.length ≤ 1000 ∧ b ≠ 0 ∧ Bd 8000 b ∧ d = dO (exactF l b)
/-- a method that asks a sheet of one value, and touches nothing -/
def spSh (K : Fr) (C : Addr) (R : Sh → PD → PD → Prop) : Sp := fun vs H Q _ => ∃ p S v x d, vs = [.ref p, v] ∧ ShAt K C H p S ∧ S.Ok ∧ Rep K H v x ∧ R S x d ∧ ∀ v' H', Same H H' → Rep K H' v' d → Q v' H'
def spCounts (K : Fr) (C : Addr) : Sp := spSh K C fun S x d => ∃ c : C2, x = dC c ∧ BdC 2000 c ∧ d = dO (S.counts c)
def spContains (K : Fr) (C : Addr) : Sp := spSh K C fun S x d => ∃ c : C2, x = dC c ∧ BdC 2000 c ∧ d = .bool (S.counts c).isSome
def spPriceAt (K : Fr) (C : Addr) : Sp := spSh K C fun S x d => ∃ c : C2, x = dC c ∧ BdC 2000 c ∧ d = dOI (S.priceAt c)
def spCellOf (K : Fr) (C : Addr) : Sp := spSh K C fun S x d => ∃ n : List Int, x = dIs n ∧ n.length = S.steps.length ∧ (∀ k ∈ n, Bd 3000 k) ∧ d = dC (S.cellOf n)
def spInit (K : Fr) (C : Addr) : Sp := fun vs H Q _ => ∃ (p dx : Addr) (vb vp vs' vr : V) (S : Sh), vs = [.ref p, vb, vp, vs', vr] ∧ H p = some (.ins C dx []) ∧ S.Ok ∧ Rep K H vb (dC S.base) ∧ Rep K H vp (.int S.price) ∧ Rep K H vs' (dCs S.steps) ∧ Rep K H vr (dIs S.prices) ∧
  ∀ H', ShAt K C H' p S → (∀ b o, H b = some o → b ≠ p → H' b = some o) → Q .non H'
/-- a method of one argument, called -/
theorem ev_meth {K : Fr} {C p : Addr} {m : Str} {R : Sh → PD → PD → Prop} {E : XK} {i : Nat} {ta : TE} {σ : L2.St} {H : Hp} {S : Sh} {x d : PD} (e : σ[i]? = some (some (.ref p))) (h : ShAt K C H p S) (ok : S.Ok)
    (a : Ev K ta σ H x) (r : R S x d) (hm : ¬ m = "prices" ∧ ¬ m = "steps" ∧ ¬ m = "price" ∧ ¬ m = "base") : Ev K (tMeth C m (spSh K C R) [] E (tVar i) (tCons ta tNil)) σ H d := fun H1 s Q k => by
  obtain ⟨dx, vb, vp, vs, vr, e1, r1, r2, r3, r4⟩ := h.ex
  refine ⟨_, e, p, dx, _, rfl, s _ _ e1, shF_no _ _ _ _ hm.1 hm.2.1 hm.2.2.1 hm.2.2.2, ?_⟩
  refine a H1 s _ fun v H2 s2 rv => ?_
  exact ⟨p, S, v, x, d, rfl, h.same (s.trans s2), ok, rv, r, fun v' H' s3 r' => k v' H' (s2.trans s3) r'⟩
/-- c in the sheet that a name holds -/
theorem ev_inSh {K : Fr} {C p : Addr} {R : Sh → PD → PD → Prop} {E : XK} {i : Nat} {ta : TE} {σ : L2.St} {H : Hp} {S : Sh} {x : PD} {b : Bool} (e : σ[i]? = some (some (.ref p))) (h : ShAt K C H p S) (ok : S.Ok)
    (a : Ev K ta σ H x) (r : R S x (.bool b)) : Ev K (tOp (tInOwn C (spSh K C R) E) ta (tVar i)) σ H (.bool b) := fun H1 s Q k => by
  obtain ⟨dx, vb, vp, vs, vr, e1, r1, r2, r3, r4⟩ := h.ex
  refine a H1 s _ fun v H2 s2 rv => ⟨_, e, p, dx, _, rfl, (s.trans s2) _ _ e1, ?_⟩
  exact ⟨p, S, v, x, .bool b, rfl, h.same (s.trans s2), ok, rv, r, fun v' H' s3 r' => ⟨b, r'.bl_inv, by have e' := r'.bl_inv; subst e'; exact k _ H' (s2.trans s3) r'⟩⟩
theorem ev_cross {K : Fr} {E : XK} {ta tb : TE} {σ : L2.St} {H : Hp} {a b : C2} (ha : Ev K ta σ H (dC a)) (hb : Ev K tb σ H (dC b)) (ba : BdC 3000 a) (bb : BdC 3000 b) : Ev K (tCall (spCross K) [] E (tCons ta (tCons tb tNil))) σ H (.int (cr a b)) :=
  ev_call (eva_cons ha (eva_cons hb eva_nil)) ⟨a, b, rfl, ba, bb, rfl⟩
theorem BdC.mono {n m : Nat} {c : C2} (h : BdC n c) (l : n ≤ m) : BdC m c := ⟨h.1.mono l, h.2.mono l⟩
theorem Bd.cr {n m : Nat} {a b : C2} (ha : BdC n a) (hb : BdC m b) : Bd (n + m + 1) (cr a b) := by
  have h := Bd.sub (Bd.mul ha.1 hb.2) (Bd.mul ha.2 hb.1)
  rw [Nat.max_self] at h
  exact h
theorem ev_areSteps {K : Fr} {E : XK} {ta : TE} {σ : L2.St} {H : Hp} {l : List C2} (a : Ev K ta σ H (dCs l)) (h : ∀ s ∈ l, BdC 400 s) : Ev K (tCall (spAreSteps K) [] E (tCons ta tNil)) σ H (.bool (areSteps l)) :=
  ev_call (eva_cons a eva_nil) ⟨l, rfl, h, rfl⟩
theorem ev_exact {K : Fr} {E : XK} {ta tb : TE} {σ : L2.St} {H : Hp} {l : List Int} {b : Int} (a : Ev K ta σ H (dIs l)) (a2 : Ev K tb σ H (.int b)) (hl : l.length ≤ 1000) (b0 : b ≠ 0) (bb : Bd 8000 b) :
    Ev K (tCall (spExact K) [] E (tCons ta (tCons tb tNil))) σ H (dO (exactF l b)) :=
  ev_call (eva_cons a (eva_cons a2 eva_nil)) ⟨l, b, rfl, hl, b0, bb, rfl⟩
theorem sq_pos {a : C2} (h : ¬ a = (0, 0)) : a.1 * a.1 + a.2 * a.2 ≠ 0 := by
  intro e
  have h1 : 0 ≤ a.1 * a.1 := by
    rcases Int.le_total 0 a.1 with q | q
    · exact Int.mul_nonneg q q
    · exact Int.mul_nonneg_of_nonpos_of_nonpos q q
  have h2 : 0 ≤ a.2 * a.2 := by
    rcases Int.le_total 0 a.2 with q | q
    · exact Int.mul_nonneg q q
    · exact Int.mul_nonneg_of_nonpos_of_nonpos q q
  have h3 : a.1 * a.1 = 0 := by omega
  have h4 : a.2 * a.2 = 0 := by omega
  exact h (Prod.ext (by rcases Int.mul_eq_zero.mp h3 with q | q <;> exact q) (by rcases Int.mul_eq_zero.mp h4 with q | q <;> exact q))
/-- sum of products over a zip, in a comprehension -/
theorem evl_zipmap {K : Fr} {i j : Nat} {σ : L2.St} {H : Hp} {ta tb te : TE} {α β : Type} {xs : List α} {ys : List β} (fx : α → PD) (fy : β → PD) (g : α → β → Int) (hij : i ≠ j) (a : Ev K ta σ H (.tuple (xs.map fx))) (b : Ev K tb σ H (.tuple (ys.map fy))) (hl : xs.length ≤ 1000)
    (h : ∀ x ∈ xs, ∀ y ∈ ys, ∀ (v w : V) (H1 : Hp), Same H H1 → Rep K H1 v (fx x) → Rep K H1 w (fy y) → Ev K te (((wipe σ [i, j]).set i (some v)).set j (some w)) H1 (.int (g x y))) :
    EvL K (tLc (RZ.iZipA K (tCons ta (tCons tb tNil))) (gTup K 2 (gCons (gName i) (gCons (gName j) gNil))) tYes te [i, j]) σ H (((xs.zip ys).map fun p => g p.1 p.2).map .int) := by
  refine evl_lcz hij a b (by simp) (by simpa using hl) fun m d f v w H1 hd hf s rv rw' => ?_
  rw [List.getElem?_map] at hd hf
  cases ex : xs[m]? with
  | none => rw [ex] at hd; cases hd
  | some x =>
    cases ey : ys[m]? with
    | none => rw [ey] at hf; cases hf
    | some y =>
      rw [ex] at hd
      rw [ey] at hf
      cases hd
      cases hf
      refine ⟨.int (g x y), ?_, h x (List.mem_of_getElem? ex) y (List.mem_of_getElem? ey) v w H1 s rv rw'⟩
      rw [List.getElem?_map, List.getElem?_map, List.getElem?_zip_eq_some (z := (x, y)) |>.mpr ⟨ex, ey⟩]
      rfl
/-! ### powers of wide ints -/
def CPowW (i j : Int) : Prop := 0 ≤ j ∧ (Builtin.Int.intBits i : Int) * j ≤ 2 ^ 27
theorem op_powW {X : Cx} : OpR X (binaryOp .Pow) (rI CPowW fun i j => .int (i ^ j.toNat)) := opI fun _ _ _ _ _ _ _ hc q => PyProof.Rows.pow_int hc.1 hc.2 q
theorem Bd.sq {n : Nat} {i : Int} (h : Bd n i) (l : n ≤ 100000) : CPowW i 2 := by
  refine ⟨by decide, ?_⟩
  have e := PySem.Flt.log2_lt_of (Nat.succ_pos n) (h.mono (Nat.le_succ n))
  have b : Builtin.Int.intBits i ≤ i.natAbs.log2 + 1 := by
    unfold Builtin.Int.intBits
    split <;> omega
  have l2 : (2 : Int) ^ 27 = 134217728 := by decide
  rw [l2]
  omega
theorem ev_sq {K : Fr} {ta : TE} {σ : L2.St} {H : Hp} {x : Int} {n : Nat} (a : Ev K ta σ H (.int x)) (b : Bd n x) (l : n ≤ 100000) : Ev K (tOp (rI CPowW fun i j => .int (i ^ j.toNat)) ta (tC (.int 2))) σ H (.int (x * x)) := by
  have e : x * x = x ^ (2 : Int).toNat := by
    show x * x = x ^ 2
    rw [Int.pow_succ, Int.pow_succ, Int.pow_zero, Int.one_mul]
  rw [e]
  exact ev_rI (gd := fun i j => .int (i ^ j.toNat)) (fun _ _ _ => .int _) (b.sq l) a ev_int
theorem exactF_bd {l m : List Int} {b : Int} {k : Nat} (h : exactF l b = some m) (hb : ∀ x ∈ l, Bd k x) : m.length = l.length ∧ ∀ x ∈ m, Bd (k + 1) x := by
  unfold exactF at h
  by_cases e : (l.map fun t => (!decide (t.fmod b = 0) || decide (t.fdiv b < 0))).any id = true
  · rw [if_pos e] at h; cases h
  · rw [if_neg e] at h
    cases h
    refine ⟨by simp, fun x hx => ?_⟩
    obtain ⟨t, ht, rfl⟩ := List.mem_map.mp hx
    have b0 := hb t ht
    have q : t.fmod b = 0 ∧ ¬ t.fdiv b < 0 := by
      have q := e
      simp only [List.any_map, List.any_eq_true, not_exists, not_and] at q
      have q2 := q t ht
      simp at q2
      exact ⟨q2.1, by omega⟩
    have e3 : b * t.fdiv b = t := by have := Int.mul_fdiv_add_fmod t b; rw [q.1] at this; omega
    by_cases hb0 : b = 0
    · subst hb0
      rw [Int.fdiv_zero]
      unfold Bd
      exact Nat.pos_of_ne_zero (by simp)
    · refine Bd.mono ?_ (Nat.le_succ k)
      unfold Bd at *
      have : t.natAbs = b.natAbs * (t.fdiv b).natAbs := by rw [← Int.natAbs_mul, e3]
      have h1 : 1 ≤ b.natAbs := by omega
      have h2 : 1 * (t.fdiv b).natAbs ≤ b.natAbs * (t.fdiv b).natAbs := Nat.mul_le_mul_right _ h1
      omega
theorem way_bd {S : Sh} (ok : S.Ok) {c : C2} (bc : BdC 2000 c) : BdC 2001 (S.way c) := ⟨(bc.1.sub ok.b0.1).mono (by decide), (bc.2.sub ok.b0.2).mono (by decide)⟩
theorem counts_bd {S : Sh} (ok : S.Ok) {c : C2} (bc : BdC 2000 c) {n : List Int} (h : S.counts c = some n) : n.length ≤ 2 ∧ ∀ x ∈ n, Bd 2600 x := by
  have bw := way_bd ok bc
  have hb := ok.b2
  unfold Sh.counts at h
  split at h
  · by_cases e : S.way c = (0, 0)
    · rw [if_pos e] at h; cases h; exact ⟨by decide, by simp⟩
    · rw [if_neg e] at h; cases h
  · rename_i f hst
    have bf := hb f (by rw [hst]; simp)
    by_cases e : cr f (S.way c) = 0
    · rw [if_pos e] at h
      obtain ⟨h1, h2⟩ := exactF_bd (k := 2500) h (fun x hx => by
        simp at hx; subst hx
        exact (Bd.add (Bd.mul bf.1 bw.1) (Bd.mul bf.2 bw.2)).mono (by decide))
      exact ⟨by rw [h1]; simp, fun x hx => (h2 x hx).mono (by decide)⟩
    · rw [if_neg e] at h; cases h
  · rename_i f s l hst
    have bf := hb f (by rw [hst]; simp)
    have bs := hb s (by rw [hst]; simp)
    obtain ⟨h1, h2⟩ := exactF_bd (k := 2500) h (fun x hx => by
      simp at hx
      rcases hx with rfl | rfl
      · exact (Bd.cr bw bs).mono (by decide)
      · exact (Bd.cr bf bw).mono (by decide))
    exact ⟨by rw [h1]; simp, fun x hx => (h2 x hx).mono (by decide)⟩
/-! ### the law's own counts -/
abbrev dR (S : Sh) : PD := .tuple [dC S.base, .int S.price, dCs S.steps, dIs S.prices]
def lone (f g : C2) : Option (List Int) :=
  if (!decide (cr g f = 0) || (decide (g.1 * f.1 + g.2 * f.2 < 0) || !decide ((g.1 * f.1 + g.2 * f.2) % (f.1 * f.1 + f.2 * f.2) = 0))) = true then none else some [(g.1 * f.1 + g.2 * f.2) / (f.1 * f.1 + f.2 * f.2)]
def ltwo (size one two : Int) : Option (List Int) :=
  if (decide (one < 0) || (decide (two < 0) || (!decide (one % size = 0) || !decide (two % size = 0)))) = true then none else some [one / size, two / size]
def lcountsF (S : Sh) (c : C2) : Option (List Int) := match S.steps with
  | [] => if S.way c = (0, 0) then some [] else none
  | [f] => lone f (S.way c)
  | f :: s :: _ => if cr f s < 0 then ltwo (-cr f s) (-cr (S.way c) s) (-cr f (S.way c)) else ltwo (cr f s) (cr (S.way c) s) (cr f (S.way c))
theorem exact1 {t b : Int} (hb : 0 < b) : exactF [t] b = if (decide (t < 0) || !decide (t % b = 0)) = true then none else some [t / b] := by
  unfold exactF
  have e1 : t.fmod b = t % b := Int.fmod_eq_emod_of_nonneg t (by omega)
  have e2 : t.fdiv b = t / b := Int.fdiv_eq_ediv_of_nonneg t (by omega)
  have e3 := Int.mul_ediv_add_emod t b
  simp only [List.map, List.any, e1, e2, id, Bool.or_false]
  by_cases h : t % b = 0
  · have h1 : t / b < 0 ↔ t < 0 := by
      rw [h] at e3
      constructor
      · intro q
        have := Int.mul_neg_of_pos_of_neg hb q
        omega
      · intro q
        rcases Int.lt_or_le (t / b) 0 with z | z
        · exact z
        · have := Int.mul_nonneg (Int.le_of_lt hb) z
          omega
    simp [h, h1]
  · simp [h]
theorem exact2 {t u b : Int} (hb : 0 < b) : exactF [t, u] b = if (decide (t < 0) || (decide (u < 0) || (!decide (t % b = 0) || !decide (u % b = 0)))) = true then none else some [t / b, u / b] := by
  have k : ∀ t : Int, (!decide (t.fmod b = 0) || decide (t.fdiv b < 0)) = (decide (t < 0) || !decide (t % b = 0)) := fun t => by
    have e1 : t.fmod b = t % b := Int.fmod_eq_emod_of_nonneg t (by omega)
    have e2 : t.fdiv b = t / b := Int.fdiv_eq_ediv_of_nonneg t (by omega)
    have e3 := Int.mul_ediv_add_emod t b
    rw [e1, e2]
    by_cases h : t % b = 0
    · have h1 : t / b < 0 ↔ t < 0 := by
        rw [h] at e3
        constructor
        · intro q
          have := Int.mul_neg_of_pos_of_neg hb q
          omega
        · intro q
          rcases Int.lt_or_le (t / b) 0 with z | z
          · exact z
          · have := Int.mul_nonneg (Int.le_of_lt hb) z
            omega
      simp [h, h1]
    · simp [h]
  unfold exactF
  simp only [List.map, List.any, id, k, Bool.or_false]
  rw [Int.fdiv_eq_ediv_of_nonneg t (by omega), Int.fdiv_eq_ediv_of_nonneg u (by omega)]
  congr 1
  cases decide (t < 0) <;> cases decide (u < 0) <;> cases decide (t % b = 0) <;> cases decide (u % b = 0) <;> rfl
theorem exactF_neg {l : List Int} {b : Int} : exactF (l.map fun x => -x) (-b) = exactF l b := by
  have e1 : ∀ t : Int, (-t).fmod (-b) = -(t.fmod b) := fun t => by
    rw [Int.neg_fmod_neg]
  have e2 : ∀ t : Int, (-t).fdiv (-b) = t.fdiv b := fun t => Int.neg_fdiv_neg t b
  unfold exactF
  simp only [List.map_map, Function.comp_def, e1, e2, Int.neg_eq_zero]
theorem lcounts_eq {S : Sh} (ok : S.Ok) (c : C2) : lcountsF S c = S.counts c := by
  have st := ok.st
  unfold lcountsF Sh.counts
  split
  · rfl
  · rename_i f hst
    rw [hst] at st
    have f0 : ¬ f = (0, 0) := by
      intro e
      simp [areSteps, e] at st
    have sq := sq_pos f0
    have h1 : 0 ≤ f.1 * f.1 := by
      rcases Int.le_total 0 f.1 with q | q
      · exact Int.mul_nonneg q q
      · exact Int.mul_nonneg_of_nonpos_of_nonpos q q
    have h2 : 0 ≤ f.2 * f.2 := by
      rcases Int.le_total 0 f.2 with q | q
      · exact Int.mul_nonneg q q
      · exact Int.mul_nonneg_of_nonpos_of_nonpos q q
    have e1 : f.1 * (S.way c).1 + f.2 * (S.way c).2 = (S.way c).1 * f.1 + (S.way c).2 * f.2 := by rw [Int.mul_comm f.1, Int.mul_comm f.2]
    have e2 : cr (S.way c) f = - cr f (S.way c) := by
      unfold cr
      rw [Int.mul_comm (S.way c).1, Int.mul_comm (S.way c).2]
      omega
    rw [exact1 (by omega), e1]
    unfold lone
    rw [e2]
    by_cases z : cr f (S.way c) = 0
    · rw [if_pos z]
      simp [z]
    · rw [if_neg z]
      simp [z]
  · rename_i f s l hst
    rw [hst] at st
    have l0 : l = [] := by
      have := areSteps_len st
      cases l with
      | nil => rfl
      | cons a b => simp at this
    subst l0
    have b0 : cr f s ≠ 0 := by
      intro e
      simp [areSteps, e] at st
    by_cases z : cr f s < 0
    · rw [if_pos z]
      have e := exactF_neg (l := [cr (S.way c) s, cr f (S.way c)]) (b := cr f s)
      rw [← e]
      show ltwo _ _ _ = exactF [-cr (S.way c) s, -cr f (S.way c)] (-cr f s)
      rw [exact2 (by omega)]
      rfl
    · rw [if_neg z, exact2 (by omega)]
      rfl
def spExact0 (K : Fr) : Sp := spF K fun ds d => ∃ i : Int, ds = [.int i, .int i] ∧ d = .bool true
def spExact1 (K : Fr) : Sp := spF K fun ds d => ∃ l : List Int, ds = [dIs l, dIs l] ∧ l.length ≤ 1000 ∧ d = .bool true
def spLcounts (K : Fr) : Sp := spF K fun ds d => ∃ (S : Sh) (c : C2), ds = [dR S, dC c] ∧ S.Ok ∧ BdC 2000 c ∧ d = dO (S.counts c)
def spLprice (K : Fr) : Sp := spF K fun ds d => ∃ (S : Sh) (c : C2), ds = [dR S, dC c] ∧ S.Ok ∧ BdC 2000 c ∧ d = dOI (S.priceAt c)
def spSpot (K : Fr) : Sp := spF K fun ds d => ∃ (S : Sh) (n : List Int), ds = [dR S, dIs n, .bool false] ∧ S.Ok ∧ n.length = S.steps.length ∧ (∀ k ∈ n, Bd 300 k) ∧ d = .tuple [dC (S.cellOf n), .int (S.priceOf n)]
theorem sq_pos' {a : C2} (h : ¬ a = (0, 0)) : 0 < a.1 * a.1 + a.2 * a.2 := by
  have h0 := sq_pos h
  have h1 : 0 ≤ a.1 * a.1 := by
    rcases Int.le_total 0 a.1 with q | q
    · exact Int.mul_nonneg q q
    · exact Int.mul_nonneg_of_nonpos_of_nonpos q q
  have h2 : 0 ≤ a.2 * a.2 := by
    rcases Int.le_total 0 a.2 with q | q
    · exact Int.mul_nonneg q q
    · exact Int.mul_nonneg_of_nonpos_of_nonpos q q
  omega
theorem i_zip3 {K : Fr} {σ : L2.St} {H : Hp} {ta : TA} {ds : List PD} {R : It → Hp → Prop} (a : EvA K ta σ H ds)
    (h : ∀ ws H2, Same H H2 → RepAll K H2 ws ds → ∃ a b c xs ys zs, ws = [.ref a, .ref b, .ref c] ∧ SqT K H2 a xs ∧ SqT K H2 b ys ∧ SqT K H2 c zs ∧ R (Itz3 K a b c) H2) : iZip3 K ta σ H R := a H (Same.refl H) _ h
end LB
/-! Draws of numbers, cells, steps. -/
namespace LB
open PySem L2
/-- a comprehension that draws at each turn -/
theorem lc_pen {J : It} {m : Nat} {G0 : Hp → Prop} {Y : Nat → Hp → V → Hp → Prop} {K : Fr} (w : Walk J m G0 Y) {te : TE} {i : Nat} {σ : L2.St} {H1 : Hp} {D : Addr} {Qd : Hp → Prop} {c d : Addr} {n0 k : Nat} (G : PD → Prop)
    (hm : m ≤ 1000) (hD : H1 D = none) (P : PenAt c H1 d n0) (hG : ∀ H, Kd d H1 H → G0 H) (hY : ∀ i H x H', Y i H x H' → H' = H)
    (he : ∀ (v : V) (H : Hp) (n : Nat), PenAt c H d n → n ≤ n0 + m * k → Kd d H1 H → ∀ Q : VK, (∀ y x H', G x → Rep K H' y x → Kd d H H' → PenAt c H' d (n + k) → Q y H') → te ((wipe σ [i]).set i (some v)) H Q)
    (kf : ∀ ws xs H, xs.length = m → (∀ x ∈ xs, G x) → Kd d H1 H → PenAt c H d (n0 + m * k) → H D = some (.lst ws) → RepAll K H ws xs → Qd H) :
    ∃ W : Nat → Nat → Hp → Prop, (∃ m, W 0 m (upd H1 D (.lst []))) ∧ ∀ i' m H, W i' m H →
      (J.stop i' H ∧ Qd H) ∨ (J.go i' H ∧ ∃ Nx : Hp → Prop, (∀ H', Nx H' → ∃ m', m' < m ∧ W (i' + 1) m' H') ∧ ∀ x H', J.yld i' H x H' → gName i x (wipe σ [i]) H' fun σ2 H2 => wipe σ2 [i] = wipe σ [i] ∧ tYes σ2 H2 fun b H3 =>
        if b = true then te σ2 H3 fun y H4 => ∃ acc, H4 D = some (.lst acc) ∧ acc.length < sizeLine ∧ Nx (upd H4 D (.lst (acc ++ [y]))) else Nx H3) := by
  obtain ⟨nd, nc⟩ := P.ned hD
  have kn : ∀ {H : Hp} {o : HO}, Kd d H1 H → Kd d H1 (upd H D o) := fun {H o} s b u e ne => by
    rw [upd_ne (ne_of_none e hD)]; exact s b u e ne
  refine lc_it w (fun j H => Kd d H1 H ∧ PenAt c H d (n0 + j * k) ∧ ∃ acc xs, H D = some (.lst acc) ∧ xs.length = j ∧ (∀ x ∈ xs, G x) ∧ RepAll K H acc xs) ?_ (fun j H _ p => hG H p.1) ?_ ?_
  · exact ⟨kn (Kd.refl H1), by rw [Nat.zero_mul]; exact P.upd nd nc, [], [], upd_same, rfl, by simp, .nil⟩
  · rintro j x H H' hj ⟨s1, Pj, acc, xs, ha, hx, hg, ra⟩ y
    have e := hY j H x H' y
    subst e
    refine ⟨wipe1, ?_⟩
    dsimp only [tYes]
    rw [if_pos rfl]
    refine he x H' _ Pj ?_ s1 _ fun y x H4 gx ry s4 P4 => ?_
    · exact Nat.add_le_add_left (Nat.mul_le_mul_right k (by omega)) n0
    have hD4 : H4 D = some (.lst acc) := s4 _ _ ha nd
    refine ⟨acc, hD4, ?_, kn (s1.trans s4), ?_, acc ++ [y], xs ++ [x], upd_same, by simp [hx], ?_, ?_⟩
    · have := ra.len
      exact small1000 (by omega)
    · have e : n0 + (j + 1) * k = n0 + j * k + k := by rw [Nat.add_mul, Nat.one_mul, Nat.add_assoc]
      rw [e]
      exact P4.upd nd nc
    · intro z hz
      rcases List.mem_append.mp hz with q | q
      · exact hg z q
      · simp at q; subst q; exact gx
    · exact ((ra.kt (Pj.kt s4)).append (.cons ry .nil)).kt (kt_lst hD4)
  · rintro H ⟨s1, Pj, acc, xs, ha, hx, hg, ra⟩
    exact kf acc xs H hx hg s1 Pj ha ra
/-! ### promises of draws -/
def spWide : Sp := fun vs H Q _ => ∃ (c d : Addr) (n : Nat), vs = [.ref d] ∧ PenAt c H d n ∧ n < 900000000 ∧ ∀ (x : Int) (H' : Hp), Bd 210 x → Kd d H H' → PenAt c H' d (n + 12) → Q (.int x) H'
def spNear (K : Fr) : Sp := fun vs H Q _ => ∃ (c d : Addr) (n : Nat) (m : Int), vs = [.ref d, .int m] ∧ PenAt c H d n ∧ n < 900000000 ∧ 0 < m ∧ m < 1000000 ∧ ∀ (v : V) (x : C2) (H' : Hp), BdC 20 x → Rep K H' v (dC x) → Kd d H H' → PenAt c H' d (n + 2) → Q v H'
def spSteps (K : Fr) : Sp := fun vs H Q _ => ∃ (c d : Addr) (n j : Nat) (m : Int), vs = [.ref d, .int j, .int m] ∧ j ≤ 2 ∧ PenAt c H d n ∧ n < 800000000 ∧ 0 < m ∧ m < 1000000 ∧
  ∀ (v : V) (l : List C2) (H' : Hp), l.length = j → areSteps l = true → (∀ s ∈ l, BdC 210 s) → Rep K H' v (dCs l) → Kd d H H' → PenAt c H' d (n + 60) → Q v H'
def spGreat (K : Fr) : Sp := fun vs H Q _ => ∃ (c d : Addr) (n j : Nat), vs = [.ref d, .int j] ∧ j ≤ 2 ∧ PenAt c H d n ∧ n < 700000000 ∧
  ∀ (v : V) (l : List C2) (H' : Hp), l.length = j → areSteps l = true → (∀ s ∈ l, BdC 210 s) → Rep K H' v (dCs l) → Kd d H H' → PenAt c H' d (n + 100) → Q v H'
def spCount : Sp := fun vs H Q _ => ∃ (c d : Addr) (n : Nat), vs = [.ref d] ∧ PenAt c H d n ∧ n < 800000000 ∧ ∀ (x : Int) (H' : Hp), 0 ≤ x → Bd 210 x → Kd d H H' → PenAt c H' d (n + 13) → Q (.int x) H'
def spOther (K : Fr) : Sp := fun vs H Q _ => ∃ (c d : Addr) (n : Nat) (S : Sh) (x : C2) (v w : V), vs = [.ref d, v, w] ∧ PenAt c H d n ∧ n < 700000000 ∧ S.Ok ∧ Rep K H v (dR S) ∧ Rep K H w (dC x) ∧ BdC 900 x ∧
  ∀ (u : V) (y : C2) (H' : Hp), BdC 1000 y → Rep K H' u (dC y) → Kd d H H' → PenAt c H' d (n + 100) → Q u H'
def spMade (K : Fr) (C : Addr) : Sp := fun vs H Q _ => ∃ (S : Sh) (v : V), vs = [v] ∧ S.Ok ∧ Rep K H v (dR S) ∧ ∀ (p : Addr) (H' : Hp), ShAt K C H' p S → Same H H' → Q (.ref p) H'
def spAsked (K : Fr) (C : Addr) : Sp := fun vs H Q _ => ∃ (S : Sh) (x : C2) (p : Addr) (v w : V), vs = [.ref p, v, w] ∧ S.Ok ∧ ShAt K C H p S ∧ Rep K H v (dR S) ∧ Rep K H w (dC x) ∧ BdC 1000 x ∧ ∀ (H' : Hp), Same H H' → Q (.bl true) H'
def spLaw (K : Fr) : Sp := fun vs H Q _ => ∃ (a : Addr) (ns : List Int), vs = [.ref a] ∧ SqL K H a (ns.map V.int) ∧ ns.length ≤ 63 ∧ ∀ H', Q (.bl true) H'
section
variable {K : Fr} {E : XK} {σ : L2.St} {H : Hp} {c d : Addr} {n i : Nat} {Q : VK}
theorem c_wide (e : σ[i]? = some (some (.ref d))) (P : PenAt c H d n) (hn : n < 900000000) (k : ∀ (x : Int) (H' : Hp), Bd 210 x → Kd d H H' → PenAt c H' d (n + 12) → Q (.int x) H') : tCall spWide [] E (tCons (tVar i) tNil) σ H Q :=
  ⟨_, e, c, d, n, rfl, P, hn, k⟩
theorem c_count (e : σ[i]? = some (some (.ref d))) (P : PenAt c H d n) (hn : n < 800000000) (k : ∀ (x : Int) (H' : Hp), 0 ≤ x → Bd 210 x → Kd d H H' → PenAt c H' d (n + 13) → Q (.int x) H') : tCall spCount [] E (tCons (tVar i) tNil) σ H Q :=
  ⟨_, e, c, d, n, rfl, P, hn, k⟩
theorem c_near {te : TE} {m : Int} (e : σ[i]? = some (some (.ref d))) (P : PenAt c H d n) (hn : n < 900000000) (m0 : 0 < m) (m1 : m < 1000000) (a : Ev K te σ H (.int m))
    (k : ∀ (v : V) (x : C2) (H' : Hp), BdC 20 x → Rep K H' v (dC x) → Kd d H H' → PenAt c H' d (n + 2) → Q v H') : tCall (spNear K) [] E (tCons (tVar i) (tCons te tNil)) σ H Q :=
  ⟨_, e, a H (Same.refl H) _ fun v H1 s rv => by
    cases rv.int_inv
    exact ⟨c, d, n, m, rfl, P.same s, hn, m0, m1, fun v x H' h1 h2 h3 h4 => k v x H' h1 h2 ((kd_same s).trans h3) h4⟩⟩
end
/-- numbers by their six digits -/
theorem six_step {x r : Int} {j : Nat} (h0 : 0 ≤ x) (h1 : x < 10 ^ (6 * j)) (r0 : 0 ≤ r) (r1 : r < 1000000) : 0 ≤ x * 1000000 + r ∧ x * 1000000 + r < 10 ^ (6 * (j + 1)) := by
  have e : (10 : Int) ^ (6 * (j + 1)) = 10 ^ (6 * j) * 1000000 := by
    rw [Nat.mul_add, Int.pow_add]
    rfl
  rw [e]
  omega
theorem six_bd {x : Int} {j : Nat} (h0 : 0 ≤ x) (h1 : x < 10 ^ (6 * j)) (hj : j ≤ 10) : Bd 210 x := by
  have e : (10 : Int) ^ (6 * j) ≤ 10 ^ 60 := by
    have q : (10 : Nat) ^ (6 * j) ≤ 10 ^ 60 := Nat.pow_le_pow_right (by decide) (by omega)
    exact_mod_cast q
  have e2 : (10 : Int) ^ 60 < 2 ^ 210 := by decide
  refine Bd.of_range (lo := 0) (hi := 10 ^ 60) h0 (by omega) (by decide) (Int.le_of_lt e2)
/-- [e for x in l], l a list that a name holds -/
theorem evl_lcl {K : Fr} {σ : L2.St} {H : Hp} {te : TE} {i0 i : Nat} {l : Addr} {vs : List V} {ds es : List PD} (e : σ[i0]? = some (some (.ref l))) (hl : H l = some (.lst vs)) (rs : RepAll K H vs ds) (hn : es.length = ds.length) (h1 : ds.length ≤ 1000)
    (h : ∀ (j : Nat) (d : PD) (v : V) (H1 : Hp), ds[j]? = some d → Same H H1 → Rep K H1 v d → ∃ e, es[j]? = some e ∧ Ev K te ((wipe σ [i]).set i (some v)) H1 e) : EvL K (tLc (iList K (tVar i0)) (gName i) tYes te [i]) σ H es := fun H1 s Q k => by
  refine ⟨_, e, l, rfl, ⟨vs, SqL.of (s _ _ hl)⟩, fun D hD => ?_⟩
  refine lc_pure (K := K) (walk_list (K := K) (a := l) (xs := vs)) es (by rw [hn, rs.len]) (by rw [rs.len]; exact h1) hD (fun H2 s2 => SqL.of (s2 _ _ (s _ _ hl))) (fun i x H H' _ y => by rw [y.1]; exact Same.refl H) ?_ gName_mono (fun ws H3 s3 e3 r3 => k D ws H3 s3 hD e3 r3)
  rintro j x H3 H4 hj s3 s4 ⟨rfl, hx⟩
  obtain ⟨d, ed, rd⟩ := rs.getV hx
  obtain ⟨e, ee, ev⟩ := h j d x H4 ed (s.trans s3) ((rd.same s).same s3)
  exact ⟨wipe1, rfl, e, ee, ev⟩
/-- an item of a list that a name holds -/
theorem ev_ixL {K : Fr} {σ : L2.St} {H : Hp} {i0 : Nat} {i : Int} {l : Addr} {vs : List V} {ds : List PD} {d : PD} (e : σ[i0]? = some (some (.ref l))) (hl : H l = some (.lst vs)) (rs : RepAll K H vs ds) (he : atI ds i = some d) : Ev K (tOp (rIxL K) (tVar i0) (tC (.int i))) σ H d := fun H1 s Q k => by
  obtain ⟨z, hz, rz⟩ := rs.at he
  exact ⟨_, e, l, vs, i, z, rfl, rfl, SqL.of (s _ _ hl), hz, k z H1 (Same.refl H1) (rz.same s)⟩
theorem cell_of_list {cells : List C2} {j : Nat} {d : PD} (h : (cells.map dC)[j]? = some d) : ∃ q, cells[j]? = some q ∧ d = dC q := by
  rw [List.getElem?_map] at h
  cases e : cells[j]? with
  | none => rw [e] at h; cases h
  | some q => rw [e] at h; exact ⟨q, rfl, (Option.some.inj h).symm⟩
theorem cells_of {xs : List PD} {P : C2 → Prop} : (∀ x ∈ xs, ∃ q, x = dC q ∧ P q) → ∃ cells : List C2, xs = cells.map dC ∧ ∀ q ∈ cells, P q := by
  induction xs with
  | nil => exact fun _ => ⟨[], rfl, by simp⟩
  | cons x xs ih =>
    intro h
    obtain ⟨q, e, hq⟩ := h x (by simp)
    obtain ⟨cells, e2, h2⟩ := ih fun y hy => h y (by simp [hy])
    exact ⟨q :: cells, by rw [e, e2]; rfl, by simp; exact ⟨hq, fun a b hab => h2 (a, b) hab⟩⟩
def fixC (z : C2) (q : C2) : C2 := if q = (0, 0) then z else q
theorem fixC_ne {z q : C2} (hz : ¬ z = (0, 0)) : ¬ fixC z q = (0, 0) := by
  unfold fixC
  by_cases h : q = (0, 0)
  · rw [if_pos h]; exact hz
  · rw [if_neg h]; exact h
theorem fixC_bd {z q : C2} {n : Nat} (hz : BdC n z) (hq : BdC n q) : BdC n (fixC z q) := by
  unfold fixC
  by_cases h : q = (0, 0)
  · rw [if_pos h]; exact hz
  · rw [if_neg h]; exact hq
def quarter (a : C2) : C2 := (-a.2, a.1)
theorem quarter_ok {a : C2} (h : ¬ a = (0, 0)) : areSteps [a, quarter a] = true := by
  have e : cr a (quarter a) = a.1 * a.1 + a.2 * a.2 := by
    show a.1 * a.1 - a.2 * (-a.2) = _
    rw [Int.mul_neg]
    omega
  have h2 := sq_pos h
  have h3 : ¬ quarter a = (0, 0) := by
    intro z
    have z1 := congrArg Prod.fst z
    have z2 := congrArg Prod.snd z
    simp [quarter] at z1 z2
    exact h (Prod.ext z2 z1)
  rw [← e] at h2
  simp [areSteps, h, h2, h3]
theorem s_setL {K : Fr} {σ : L2.St} {H : Hp} {ta : TE} {ds : List PD} {i : Nat} {u : TS} {D : Ends} (a : EvL K ta σ H ds) (h : ∀ p vs H1, Same H H1 → H p = none → H1 p = some (.lst vs) → RepAll K H1 vs ds → u D (σ.set i (some (.ref p))) H1) : tSeq (tAsg ta (gName i)) u D σ H := a H (Same.refl H) _ h
def rListOf (K : Fr) : List V → Hp → VK → Prop := fun xs H Q => ∃ p ys, xs = [.ref p] ∧ (SqL K H p ys ∨ SqT K H p ys) ∧ ∀ l, H l = none → Q (.ref l) (upd H l (.lst ys))
theorem evl_listT {K : Fr} {σ : L2.St} {H : Hp} {ta : TE} {ds : List PD} (a : Ev K ta σ H (.tuple ds)) : EvL K (tCB (rListOf K) (tCons ta tNil)) σ H ds := fun H1 s Q k =>
  a H1 s _ fun v H2 s2 rv => by
    obtain ⟨p, xs, rfl, hp, r⟩ := rv.tup_inv
    refine ⟨p, xs, rfl, .inr hp, fun l hl => ?_⟩
    exact k l xs _ (s2.trans (same_upd hl)) (s2.free hl) upd_same (r.same (same_upd hl))
theorem eqv_nil {l : List C2} : PyData.eqv (dCs l) (.tuple []) = l.isEmpty := by
  cases l <;> rfl
/-! two promises of one def -/
section
variable {P : Program} {w : World} {K : Fr} {mg : Str → Option Value} {base : Heap} {CX : CXT} {k j : Nat} {f : Addr} {fd : FuncData} {ps : List Str} {sp sp2 : Sp}
theorem FnOk.or (F : FnOk P w K mg base CX k f fd ps sp) (F2 : FnOk P w K mg base CX k f fd ps sp2) : FnOk P w K mg base CX k f fd ps (fun vs H Q E => sp vs H Q E ∨ sp2 vs H Q E) :=
  ⟨fun vs H Q E h => h.elim (F.len vs H Q E) (F2.len vs H Q E), fun A outer s H args us vs Q E hr e0 hb r h => h.elim (F.run A outer s H args us vs Q E hr e0 hb r) (F2.run A outer s H args us vs Q E hr e0 hb r)⟩
end
def spExactB (K : Fr) : Sp := fun vs H Q E => spExact0 K vs H Q E ∨ spExact1 K vs H Q E
theorem ev_exI {K : Fr} {E : XK} {ta tb : TE} {σ : L2.St} {H : Hp} {i : Int} (a : Ev K ta σ H (.int i)) (b : Ev K tb σ H (.int i)) : Ev K (tCall (spExactB K) [] E (tCons ta (tCons tb tNil))) σ H (.bool true) := fun H1 s Q k =>
  a H1 s _ fun v H2 s2 rv => b H2 (s.trans s2) _ fun u H3 s3 ru => .inl ⟨[.int i, .int i], .bool true, .cons (rv.same s3) (.cons ru .nil), ⟨i, rfl, rfl⟩, fun v' H' s4 r' => k v' H' ((s2.trans s3).trans s4) r'⟩
theorem ev_exL {K : Fr} {E : XK} {ta tb : TE} {σ : L2.St} {H : Hp} {l : List Int} (hl : l.length ≤ 1000) (a : Ev K ta σ H (dIs l)) (b : Ev K tb σ H (dIs l)) : Ev K (tCall (spExactB K) [] E (tCons ta (tCons tb tNil))) σ H (.bool true) := fun H1 s Q k =>
  a H1 s _ fun v H2 s2 rv => b H2 (s.trans s2) _ fun u H3 s3 ru => .inr ⟨[dIs l, dIs l], .bool true, .cons (rv.same s3) (.cons ru .nil), ⟨l, rfl, hl, rfl⟩, fun v' H' s4 r' => k v' H' ((s2.trans s3).trans s4) r'⟩
theorem ev_exC {K : Fr} {E : XK} {ta tb : TE} {σ : L2.St} {H : Hp} {c : C2} (a : Ev K ta σ H (dC c)) (b : Ev K tb σ H (dC c)) : Ev K (tCall (spExactB K) [] E (tCons ta (tCons tb tNil))) σ H (.bool true) := ev_exL (l := [c.1, c.2]) (Nat.le_of_ble_eq_true rfl) a b
/-! ### counts and cells fit -/
theorem exact_mul {a b s : Int} (hs : s ≠ 0) (ha : 0 ≤ a) (hb : 0 ≤ b) : exactF [a * s, b * s] s = some [a, b] := by
  unfold exactF
  simp [Int.mul_fmod_left, Int.mul_fdiv_cancel _ hs]
  omega
theorem exact_mul1 {a s : Int} (hs : s ≠ 0) (ha : 0 ≤ a) : exactF [a * s] s = some [a] := by
  unfold exactF
  simp [Int.mul_fmod_left, Int.mul_fdiv_cancel _ hs]
  omega
theorem counts_cellOf {S : Sh} (ok : S.Ok) {n : List Int} (ln : n.length = S.steps.length) (h0 : ∀ k ∈ n, 0 ≤ k) : S.counts (S.cellOf n) = some n := by
  have st := ok.st
  unfold Sh.counts
  split
  · rename_i hst
    rw [hst] at ln
    have e : n = [] := List.length_eq_zero_iff.mp ln
    subst e
    rw [if_pos]
    simp [Sh.way, Sh.cellOf, hst]
  · rename_i f hst
    rw [hst] at ln st
    obtain ⟨a, rfl⟩ := List.length_eq_one_iff.mp ln
    have ha := h0 a (by simp)
    have f0 : ¬ f = (0, 0) := by
      intro e
      simp [areSteps, e] at st
    have ew : S.way (S.cellOf [a]) = (a * f.1, a * f.2) := by
      simp [Sh.way, Sh.cellOf, hst]
      omega
    rw [ew]
    have e1 : cr f (a * f.1, a * f.2) = 0 := by
      unfold cr
      simp only
      grind
    have e2 : f.1 * (a * f.1) + f.2 * (a * f.2) = a * (f.1 * f.1 + f.2 * f.2) := by grind
    rw [if_pos e1]
    simp only
    rw [e2]
    exact exact_mul1 (sq_pos f0) ha
  · rename_i f s l hst
    rw [hst] at ln st
    have l0 : l = [] := by
      have := areSteps_len st
      cases l with
      | nil => rfl
      | cons a b => simp at this
    subst l0
    obtain ⟨a, b, rfl⟩ : ∃ a b, n = [a, b] := by
      match n, ln with
      | [a, b], _ => exact ⟨a, b, rfl⟩
    have ha := h0 a (by simp)
    have hb := h0 b (by simp)
    have b0 : cr f s ≠ 0 := by
      intro e
      simp [areSteps, e] at st
    have ew : S.way (S.cellOf [a, b]) = (a * f.1 + b * s.1, a * f.2 + b * s.2) := by
      simp [Sh.way, Sh.cellOf, hst]
      omega
    rw [ew]
    have e1 : cr (a * f.1 + b * s.1, a * f.2 + b * s.2) s = a * cr f s := by
      unfold cr
      simp only
      grind
    have e2 : cr f (a * f.1 + b * s.1, a * f.2 + b * s.2) = b * cr f s := by
      unfold cr
      simp only
      grind
    rw [e1, e2]
    exact exact_mul b0 ha hb
theorem exact_inv {l m : List Int} {b : Int} (h : exactF l b = some m) : l = m.map (fun k => b * k) := by
  unfold exactF at h
  by_cases e : (l.map fun t => (!decide (t.fmod b = 0) || decide (t.fdiv b < 0))).any id = true
  · rw [if_pos e] at h; cases h
  · rw [if_neg e] at h
    cases h
    have q : ∀ t ∈ l, b * t.fdiv b = t := by
      intro t ht
      simp only [List.any_map, List.any_eq_true, not_exists, not_and] at e
      have q2 := e t ht
      simp at q2
      have := Int.mul_fdiv_add_fmod t b
      omega
    rw [List.map_map]
    have e2 : l.map ((fun k => b * k) ∘ fun t => t.fdiv b) = l.map id := List.map_congr_left (fun t ht => q t ht)
    rw [e2, List.map_id]
theorem cellOf_counts {S : Sh} (ok : S.Ok) {c : C2} {n : List Int} (h : S.counts c = some n) : S.cellOf n = c ∧ n.length = S.steps.length := by
  have st := ok.st
  have hw : ∀ x y : Int, S.way c = (x, y) → c = (S.base.1 + x, S.base.2 + y) := by
    intro x y e
    have e1 := congrArg Prod.fst e
    have e2 := congrArg Prod.snd e
    simp [Sh.way] at e1 e2
    exact Prod.ext (by simp; omega) (by simp; omega)
  unfold Sh.counts at h
  split at h
  · rename_i hst
    by_cases e : S.way c = (0, 0)
    · rw [if_pos e] at h
      cases h
      rw [hw 0 0 e]
      simp [Sh.cellOf, hst]
    · rw [if_neg e] at h; cases h
  · rename_i f hst
    rw [hst] at st
    have f0 : ¬ f = (0, 0) := by
      intro e
      simp [areSteps, e] at st
    have z0 := sq_pos f0
    by_cases e : cr f (S.way c) = 0
    · rw [if_pos e] at h
      have q := exact_inv h
      match n, q with
      | [k], q =>
        simp at q
        generalize hW : S.way c = W at *
        obtain ⟨x, y⟩ := W
        obtain ⟨f1, f2⟩ := f
        simp [cr] at e q z0
        have e1 : (f1 * f1 + f2 * f2) * x = (f1 * f1 + f2 * f2) * (k * f1) := by grind
        have e2 : (f1 * f1 + f2 * f2) * y = (f1 * f1 + f2 * f2) * (k * f2) := by grind
        have e3 := Int.eq_of_mul_eq_mul_left z0 e1
        have e4 := Int.eq_of_mul_eq_mul_left z0 e2
        rw [hw x y rfl]
        simp [Sh.cellOf, hst, e3, e4]
      | [], q => simp at q
      | a :: b :: r, q => simp at q
    · rw [if_neg e] at h; cases h
  · rename_i f s l hst
    rw [hst] at st
    have l0 : l = [] := by
      have := areSteps_len st
      cases l with
      | nil => rfl
      | cons a b => simp at this
    subst l0
    have b0 : cr f s ≠ 0 := by
      intro e
      simp [areSteps, e] at st
    have q := exact_inv h
    match n, q with
    | [a, b], q =>
      simp at q
      obtain ⟨q1, q2⟩ := q
      generalize hW : S.way c = W at *
      obtain ⟨x, y⟩ := W
      obtain ⟨f1, f2⟩ := f
      obtain ⟨s1, s2⟩ := s
      simp [cr] at q1 q2 b0
      have e1 : (f1 * s2 - f2 * s1) * x = (f1 * s2 - f2 * s1) * (a * f1 + b * s1) := by grind
      have e2 : (f1 * s2 - f2 * s1) * y = (f1 * s2 - f2 * s1) * (a * f2 + b * s2) := by grind
      have e3 := Int.eq_of_mul_eq_mul_left b0 e1
      have e4 := Int.eq_of_mul_eq_mul_left b0 e2
      rw [hw x y rfl]
      simp [Sh.cellOf, hst, e3, e4]
    | [], q => simp at q
    | [a], q => simp at q
    | a :: b :: d :: r, q => simp at q
theorem ints_of {xs : List PD} {P : Int → Prop} : (∀ x ∈ xs, ∃ q, x = .int q ∧ P q) → ∃ l : List Int, xs = l.map .int ∧ ∀ q ∈ l, P q := by
  induction xs with
  | nil => exact fun _ => ⟨[], rfl, by simp⟩
  | cons x xs ih =>
    intro h
    obtain ⟨q, e, hq⟩ := h x (by simp)
    obtain ⟨l, e2, h2⟩ := ih fun y hy => h y (by simp [hy])
    exact ⟨q :: l, by rw [e, e2]; rfl, by simp; exact ⟨hq, h2⟩⟩
theorem cellOf_bd {S : Sh} (ok : S.Ok) {n : List Int} (ln : n.length = S.steps.length) (bn : ∀ k ∈ n, Bd 300 k) : BdC 900 (S.cellOf n) := by
  have ll := areSteps_len ok.st
  have b2 := ok.b2
  have b0 := ok.b0
  generalize hs : S.steps = st at *
  match st, n, ln, ll, bn, b2 with
  | [], [], _, _, _, _ =>
    simp [Sh.cellOf, hs]
    exact b0.mono (by decide)
  | [f], [a], _, _, bn, b2 =>
    have ba := bn a (by simp)
    have bf := b2 f (by simp)
    simp [Sh.cellOf, hs]
    exact ⟨(b0.1.add (ba.mul bf.1)).mono (by decide), (b0.2.add (ba.mul bf.2)).mono (by decide)⟩
  | [f, g], [a, b], _, _, bn, b2 =>
    have ba := bn a (by simp)
    have bb := bn b (by simp)
    have bf := b2 f (by simp)
    have bg := b2 g (by simp)
    simp [Sh.cellOf, hs]
    exact ⟨(b0.1.add ((ba.mul bf.1).add (bb.mul bg.1))).mono (by decide), (b0.2.add ((ba.mul bf.2).add (bb.mul bg.2))).mono (by decide)⟩
  | a :: b :: c :: r, _, _, ll, _, _ => simp at ll
/-! for k in range(n) -/
theorem s_range_end {K : Fr} {σ : L2.St} {H : Hp} {te : TE} {g : TG} {tb : TS} {D : Ends} {m : Nat} (a : Ev K te σ H (.int (m : Int))) (hm : m < 1000000) (Pv : Nat → L2.St → Hp → Prop) (h0 : ∀ H1, Same H H1 → Pv 0 σ H1)
    (hs : ∀ i σ H, i < m → Pv i σ H → g (.int (i : Int)) σ H fun σ2 H2 => tb { D with nx := Pv (i + 1), ct := Pv (i + 1), bk := D.nx } σ2 H2) (hd : ∀ σ H, Pv m σ H → D.nx σ H) : tFor (iRng1 (tCons te tNil)) g tb D σ H :=
  a H (Same.refl H) _ fun v H1 s rv => by
    cases rv.int_inv
    refine ⟨(m : Int), rfl, by omega, by omega, ?_⟩
    have e : (m : Int).toNat = m := by omega
    rw [e]
    refine for_range (n := m) Pv (h0 H1 s) (fun i σ H hi p => ?_) hd
    rw [Int.zero_add]
    exact hs i σ H hi p
theorem s_range {K : Fr} {σ : L2.St} {H : Hp} {te : TE} {g : TG} {tb u : TS} {D : Ends} {m : Nat} (a : Ev K te σ H (.int (m : Int))) (hm : m < 1000000) (Pv : Nat → L2.St → Hp → Prop) (h0 : ∀ H1, Same H H1 → Pv 0 σ H1)
    (hs : ∀ i σ H, i < m → Pv i σ H → g (.int (i : Int)) σ H fun σ2 H2 => tb { D with nx := Pv (i + 1), ct := Pv (i + 1), bk := u D } σ2 H2) (hd : ∀ σ H, Pv m σ H → u D σ H) : tSeq (tFor (iRng1 (tCons te tNil)) g tb) u D σ H :=
  s_range_end (D := { D with nx := u D }) a hm Pv h0 hs hd
end LB
/-! Exceptions as values: C(..) of an own class, its fields read, isinstance of it. -/
namespace LB
open PySem PySem.Spec PyProof.Rows L2
/-- what the class at C says, so that its objects are made, read and asked -/
structure ExK (K : Fr) (C : Addr) : Prop where
  ox : OexC K C
  hg : PySem.W.findIn K (.ref C) "__getattribute__" = some (some (.builtin "BaseException.__getattribute__"))
  hk : PySem.W.findIn K (.ref C) "__getattr__" = some none
  hd : PySem.W.hasDictIn K C = true
  ha : PySem.W.findIn K (.ref C) "__class__" = some (some (.builtin "object.__class__"))
  hn : PySem.W.specialIn K (.builtin "object.__class__") "__get__" = some (some (.builtin "getset_descriptor.__get__"))
  ht : PySem.W.takesIn K (.builtin "object.__class__") = some true
  hm : PySem.W.mroIn K C (.type "object") = some true
/-- C(e, ..), with the class's own __init__ -/
def tExV (C : Addr) (sp : Sp) (ta : TA) : TE := fun σ H Q => ta σ H fun vs H1 => vs.length ≤ 1000 ∧ ∀ a, H1 a = none →
  sp (.ref a :: vs) (upd H1 a (exo a C none)) (fun v H2 => v = .non ∧ Q (.ref a) H2) E0
theorem pe_exV {X : Cx} {x : Str} {C fI : Addr} {k : Nat} {fd : FuncData} {ps : List Str} {sp : Sp} {e : Expr} {es : List Expr} {ta : TA} {p pos : Pos} (T : ExK X.K C) (iC : PySem.W.findIn X.K (.ref C) "__init__" = some (some (.ref fI))) (tI : PySem.W.typeIn X.K (.ref fI) = some (.type "function"))
    (FO : FnOk X.prog X.w X.K X.mg X.base CX0 k fI fd ps sp) (hr : Room (k + 1) X.A) (hb : Binds X.K fd ps []) (hg : Gl X x) (hm : X.mg x = some (.ref C)) (ha : PA X (e :: es) ta) (hdb : (x == ("__debug__" : Str)) = false := by decide)
    (he : starEach (e :: es) X.env = (false, eval e X.env) :: starEach es X.env := by rfl) (hpl : (backTo pos (starEach es X.env)).any (·.1) = false := by rfl) : PE X (.Call (.Name x p) (e :: es) [] pos) (tExV C sp ta) := by
  refine ⟨fun pins s σ H Q I h => ?_⟩
  obtain ⟨nm, q, N, bs, bm, sn, sub, ab, col, dd, k0, k1, k2, k3, k5, hC, hbm⟩ := T.ox.cls
  refine wpAny_Call_Name_kw (ld_glob I hg hm ?_ hdb)
  refine PySem.W.callWith_K (h₀ := X.base) I.ok.mod.kin T.ox.kC (thn (ha.run pos pins s σ H _ I h) fun us s1 hh => ?_) he hpl
  obtain ⟨vs, H1, I1, r1, hz, q1⟩ := hh
  refine ⟨I1.kIn, ?_⟩
  show wpAny _ _ (call (.ref C) us) _ _ _
  have hn : H1 (s1.heap.objs.size + 1) = none := I1.hok.fresh (Nat.le_succ _)
  have hq := q1 _ hn
  generalize hh1 : (s1.heap.push (PySem.W.kdv_tup us)).push (PySem.HandSPX.excO C s1.heap.objs.size) = h1
  have kk : ∀ b o, s1.heap.get? b = some o → h1.get? b = some o := fun b o e => by
    subst hh1
    exact Heap.get?_push_of_some _ (Heap.get?_push_of_some _ e)
  have hget : h1.get? (s1.heap.objs.size + 1) = some (PySem.HandSPX.excO C s1.heap.objs.size) := by
    subst hh1
    heap_get
  have I2 : Inv X pins σ (upd H1 (s1.heap.objs.size + 1) (exo (s1.heap.objs.size + 1) C none)) { s1 with heap := h1 } := I1.laid (t' := s1.toks) (h' := h1) kk (Nat.le_succ _) (exo_ok hget)
  have r2 : Vals (V.ref (s1.heap.objs.size + 1) :: vs) (Value.ref (s1.heap.objs.size + 1) :: us) := .cons rfl r1
  have hl : (Value.ref (s1.heap.objs.size + 1) :: us).length = ps.length := by
    rw [← r2.length]
    exact FO.len _ _ _ _ hq
  have hus : us.length ≤ sizeLine := by
    rw [← Paired.length r1, sizeLine_eq]
    omega
  have bt := hb { s1 with heap := h1 } (Value.ref (s1.heap.objs.size + 1) :: us) I2.kIn (by rw [List.append_nil]; exact hl)
  rw [List.append_nil] at bt
  subst hh1
  refine wpAny_call (PySem.HandSPX.call_own PySem.F.excBase_ValueError (fun Y => PySem.HandSPX.refsVE_contains Y bm hbm) (I1.kIn _ _ hC) (PySem.W.looks_findIn I1.kIn iC) (fun self => PySem.W.bind_fn I1.kIn self tI) hus
    (codeAny_mono (FO.run _ X.stack _ _ _ _ _ _ E0 (hr.make C us []) (I2.env0.make C us []) bt r2 hq) fun r s' hq' => ?_))
  cases r with
  | error er => exact False.elim hq'
  | ok fl =>
    cases fl with
    | ret u =>
      obtain ⟨v, H', I3, rv, ev, q3⟩ := I2.after hq'
      subst ev
      exact ⟨rv, V.ref (s1.heap.objs.size + 1), H', I3, rfl, q3⟩
    | next => exact False.elim hq'
    | brk => exact False.elim hq'
    | cont => exact False.elim hq'
/-- a field read -/
def tExF (K : Fr) (te : TE) (f : Str) : TE := fun σ H Q => te σ H fun x H1 => ∃ (a C d : Addr) (fs : List (Str × V)) (v : V), x = .ref a ∧ ExK K C ∧ PySem.W.findIn K (.ref C) f = some none ∧ H1 a = some (exo a C (some d)) ∧ H1 d = some (exd d fs) ∧ fs.lookup f = some v ∧ Q v H1
theorem pe_exF {X : Cx} {e : Expr} {f : Str} {te : TE} {pos : Pos} (he : PE X e te) (hb : attributeBase e f X.env (eval e X.env) = eval e X.env := by rfl) : PE X (.Attribute e f pos) (tExF X.K te f) := by
  refine ⟨fun pins s σ H Q I h => attr_of hb (thn (he.run pins s σ H _ I h) fun u s1 hh => ?_)⟩
  obtain ⟨x, H1, I1, rx, a, C, d, fs, v, ex, T, nf, ea, ed, l, q⟩ := hh
  subst ex
  obtain rfl : u = Value.ref a := rx
  obtain ⟨t1, hoe⟩ := exo_at I1.hok ea
  obtain ⟨mA, hns, rel⟩ := exd_at I1.hok ed
  obtain ⟨od, ho, hl⟩ := lookIn_ns hns
  obtain ⟨u, hu, ru⟩ := RelO.some_of (v := v) (o := mA f) (by rw [← l]; exact rel f)
  have J : PySem.W.InstAt s1.heap a _ C (some od) := ⟨hoe, rfl, rfl, ho⟩
  exact PySem.HandSPX.exc_get I1.kIn J T.hg T.hk T.ox.exC (PySem.W.findObj_own T.hd nf rfl (by rw [hl, hu])) (handed_of ru) ⟨v, H1, I1.tok _, ru, q⟩
/-- C(), no __init__ of its own -/
theorem pe_exN {X : Cx} {C : Addr} {bmB : List Value} {B newId initId : String} {x : Str} {p pos : Pos} (F0 : ExcBaseFacts B newId initId bmB) (q : PySem.W.excIn X.K C bmB newId = true) (gC : X.mg x = some (.ref C)) (kC : PySem.W.keepIn X.K (.ref C) = true) (hg : Gl X x) (hdb : (x == ("__debug__" : Str)) = false := by decide) :
    PE X (.Call (.Name x p) [] [] pos) (fun σ H Q => ∀ a, H a = none → Q (.ref a) (upd H a (ExO (.ref C) a))) := by
  refine ⟨fun pins s σ H Q I h => ?_⟩
  refine wpAny_Call_Name_kw (ld_glob I hg gC ?_ hdb)
  refine PySem.W.callWith_K0 I.kIn kC ?_
  show wpAny _ _ (call (.ref C) []) _ _ _
  obtain ⟨bm, N, nm, qn, bs, hdct, sn, sub, ab, col, dd, k0, k1, k2, k3, k5, mN, hC, hN, hni, T⟩ := exc_obj I.kIn q
  refine wpAny_call_exc_subT F0 T hC hN hni (fun h' a hm => ?_) (by show 0 ≤ sizeLine; omega)
  have hn : H a = none := I.hok.gone hm.new
  obtain ⟨t, ht, _, _⟩ := hm.there
  exact ⟨.ref a, upd H a (ExO (.ref C) a), I.laidN hm.keeps hm.new hn (exO_ok ht ⟨rfl, rfl⟩ rfl rfl rfl (show 4 < 6 by decide)), rfl, h a hn⟩
/-- a new exception of the class D stands at a -/
def ExAt (H : Hp) (a D : Addr) : Prop := H a = some (ExO (.ref D) a) ∨ H a = some (exo a D none) ∨ ∃ d fs, H a = some (exo a D (some d)) ∧ H d = some (exd d fs)
theorem exAt_inst {X : Cx} {pins : List (Addr × Obj)} {σ : L2.St} {H : Hp} {s : Shared} {a D : Addr} (I : L2.Inv X pins σ H s) (x : ExAt H a D) : ∃ ox od, PySem.W.InstAt s.heap a ox D od := by
  rcases x with e | e | ⟨d, fs, e, ed⟩
  · obtain ⟨⟨oe, vs, ho, hz, hd, _⟩, _, _⟩ := I.hok a _ e
    exact ⟨oe, none, ho, hz.1, by unfold PySem.W.notCls; rw [hd] <;> rfl, by rw [hz.2]; exact True.intro⟩
  · obtain ⟨t1, ho⟩ := exo_at I.hok e
    exact ⟨_, none, ho, rfl, rfl, True.intro⟩
  · obtain ⟨t1, ho⟩ := exo_at I.hok e
    obtain ⟨mA, hns, _⟩ := exd_at I.hok ed
    obtain ⟨od, hod, _⟩ := lookIn_ns hns
    exact ⟨_, some od, ho, rfl, rfl, hod⟩
/-- isinstance(e, c) of such a one -/
def rIsX (K : Fr) : List V → Hp → VK → Prop := fun xs H Q => ∃ (a D : Addr) (c : V) (cv : Value) (b : Bool), xs = [.ref a, c] ∧ ExK K D ∧ ExAt H a D ∧ (∀ u, RelV c u → u = cv) ∧ PySem.W.kitOne K (.ref D) cv = some b ∧ Q (.bl b) H
theorem call_isX {X : Cx} : CallR X (.builtin "isinstance") (rIsX X.K) := by
  intro pins s σ H xs us Q I r h
  obtain ⟨a, D, c, cv, b, rfl, T, x, hcv, e, q⟩ := h
  cases r with
  | cons rx rr =>
    cases rr with
    | cons rt rr =>
      cases rr
      cases rx
      have ec := hcv _ rt
      subst ec
      obtain ⟨ox, od, J⟩ := exAt_inst I x
      have hcl : (PySem.W.clsIn X.K D).isSome = true := by
        obtain ⟨cd, hc, _⟩ := PySem.W.any_some T.hd
        rw [hc]
        rfl
      exact PySem.W.kia_one (PySem.W.kitx_exc hcl T.hg T.hk T.ox.exC T.ha T.hn T.ht T.hm) I.kIn J e (fun z => nomatch z) fun tk => ⟨.bl b, H, I.kept (t' := tk) fun _ _ z => z, rfl, q⟩
/-! ### what the classes of the errors say -/
section
variable {K : Fr} {C J D N : Addr} {nm q : Str} {bs : List Value} {sn : List Str} {sub : List Value} {ab : Bool} {col : Option Bool} {dd : Option Addr} {m0 m1 m2 m3 m5 : Option Value}
def veL (J : Addr) : List Value := [.ref J, .type "ValueError", .type "Exception", .type "BaseException", .type "object"]
/-- an error right below J -/
def ExL (K : Fr) (J C : Addr) : Prop := ∃ nm q N bs sn sub ab col dd m0 m1 m2 m3 m5, K.lookup C = some (excClassObj nm q C N bs (veL J) true sn sub ab col dd m0 m1 m2 m3 m5 "ValueError.__new__")
theorem exl_of (x : K.lookup C = some (excClassObj nm q C N bs [.ref J, .type "ValueError", .type "Exception", .type "BaseException", .type "object"] true sn sub ab col dd m0 m1 m2 m3 m5 "ValueError.__new__")) : ExL K J C := ⟨_, _, _, _, _, _, _, _, _, _, _, _, _, _, x⟩
theorem exl_cls (x : ExL K J C) : ∃ cd, PySem.W.clsIn K C = some cd ∧ cd.mro = .ref C :: veL J ∧ cd.hasDict = true := by
  obtain ⟨_, _, _, _, _, _, _, _, _, _, _, _, _, _, x⟩ := x
  unfold PySem.W.clsIn
  rw [x]
  exact ⟨_, rfl, rfl, rfl⟩
theorem exl_ty (x : ExL K J C) : PySem.W.typeIn K (.ref C) = some (.type "type") := by
  obtain ⟨_, _, _, _, _, _, _, _, _, _, _, _, _, _, x⟩ := x
  show (K.lookup C).map (·.cls) = _
  rw [x]
  rfl
theorem exl_mro (x : ExL K J C) (b : Value) : PySem.W.mroIn K C b = some ((.ref C :: veL J).contains b) := by
  obtain ⟨cd, h, hm, _⟩ := exl_cls x
  unfold PySem.W.mroIn
  rw [h]
  show (if cd.mro.isEmpty then none else some (cd.mro.contains b)) = _
  rw [hm]
  rfl
theorem exl_has (x : ExL K J C) {T : String} (h : (veL 0).contains (.type T) = true) : PySem.W.mroIn K C (.type T) = some true := by
  rw [exl_mro x]
  have e : ((Value.ref C :: veL J).contains (.type T)) = (veL 0).contains (.type T) := rfl
  rw [e, h]
theorem exk_of (x : K.lookup C = some (excClassObj nm q C N bs [.ref J, .type "ValueError", .type "Exception", .type "BaseException", .type "object"] true sn sub ab col dd m0 m1 m2 m3 m5 "ValueError.__new__"))
    (sa : PySem.W.findIn K (.ref C) "__setattr__" = some (some (.builtin "object.__setattr__"))) (ga : PySem.W.findIn K (.ref C) "__getattribute__" = some (some (.builtin "BaseException.__getattribute__"))) (gg : PySem.W.findIn K (.ref C) "__getattr__" = some none)
    (cl : PySem.W.findIn K (.ref C) "__class__" = some (some (.builtin "object.__class__"))) (kp : PySem.W.keepIn K (.ref C) = true) (sg : PySem.W.specialIn K (.builtin "object.__class__") "__get__" = some (some (.builtin "getset_descriptor.__get__"))) (tk : PySem.W.takesIn K (.builtin "object.__class__") = some true) : ExK K C where
  ox := ⟨⟨nm, q, N, bs, _, sn, sub, ab, col, dd, m0, m1, m2, m3, m5, x, (by decide +kernel : PySem.HandSPX.refsVE [.type "ValueError", .type "Exception", .type "BaseException", .type "object"] = true)⟩, sa, exl_has (exl_of x) (by decide +kernel), exl_ty (exl_of x), kp⟩
  hg := ga
  hk := gg
  hd := by
    obtain ⟨cd, h, _, hh⟩ := exl_cls (exl_of x)
    unfold PySem.W.hasDictIn
    rw [h]
    exact hh
  ha := cl
  hn := sg
  ht := tk
  hm := exl_has (exl_of x) (by decide +kernel)
theorem kit_ref (x : ExL K J C) (hD : PySem.W.isClsIn K D = true) (tD : PySem.W.typeIn K (.ref D) = some (.type "type")) : PySem.W.kitOne K (.ref C) (.ref D) = some (decide (D = C ∨ D = J)) := by
  unfold PySem.W.kitOne
  by_cases e : D = C
  · subst e
    rw [if_pos (by simp)]
    simp
  · rw [if_neg (by simp; exact fun z => e z.symm)]
    show (if ((PySem.W.clsIn K D).isSome && PySem.W.typeIn K (.ref D) == some (.type "type")) = true then PySem.W.mroIn K C (.ref D) else none) = _
    have hD' : (PySem.W.clsIn K D).isSome = true := hD
    rw [if_pos (by rw [hD', tD]; decide +kernel), exl_mro x]
    refine congrArg some ?_
    by_cases f : D = J
    · subst f
      simp [veL]
    · simp [veL, e, f]
theorem kit_ve (x : ExL K J C) : PySem.W.kitOne K (.ref C) (.type "ValueError") = some true := by
  unfold PySem.W.kitOne
  rw [if_neg (by simp)]
  show (if PySem.W.kitMeta "ValueError" = true then PySem.W.mroIn K C (.type "ValueError") else none) = _
  rw [if_pos (by decide +kernel)]
  exact exl_has x (by decide +kernel)
theorem exl_nil : ∀ C ∈ ([] : List Addr), ExL K J C := fun _ h => nomatch h
theorem exl_cons {cs : List Addr} (x : ExL K J C) (h : ∀ D ∈ cs, ExL K J D) : ∀ D ∈ C :: cs, ExL K J D := fun D m => by
  rcases List.mem_cons.mp m with rfl | m
  · exact x
  · exact h D m
theorem kits_of {cs : List Addr} (h : ∀ C ∈ cs, ExL K J C) (hJ : PySem.W.isClsIn K J = true) (tJ : PySem.W.typeIn K (.ref J) = some (.type "type")) (nd : (J :: cs).Nodup) (i : Nat) (C : Addr) (e : cs[i]? = some C) :
    PySem.W.kitOne K (.ref C) (.ref J) = some true ∧ PySem.W.kitOne K (.ref C) (.type "ValueError") = some true ∧ ∀ (j : Nat) (D : Addr), cs[j]? = some D → PySem.W.kitOne K (.ref C) (.ref D) = some (decide (j = i)) := by
  have x := h C (List.mem_of_getElem? e)
  refine ⟨by rw [kit_ref x hJ tJ]; simp, kit_ve x, fun j D f => ?_⟩
  have y := h D (List.mem_of_getElem? f)
  rw [kit_ref x (by obtain ⟨cd, h, _⟩ := exl_cls y; unfold PySem.W.isClsIn; rw [h]; rfl) (exl_ty y)]
  refine congrArg some (decide_eq_decide.mpr ⟨fun z => ?_, fun z => ?_⟩)
  · have nd' := List.nodup_cons.mp nd
    rcases z with z | z
    · subst z
      have l1 := (List.getElem?_eq_some_iff.mp e).1
      exact (List.getElem?_inj (List.getElem?_eq_some_iff.mp f).1 nd'.2).mp (by rw [e, f])
    · subst z
      exact absurd (List.mem_of_getElem? f) nd'.1
  · subst z
    exact .inl (Option.some.inj (f.symm.trans e))
end
end LB
/-! Lists or tuples of data, whichever; == by a class's own __eq__, both answers. -/
namespace LB
open PySem PySem.Spec PyProof.Rows L2
/-- a list or a tuple of these -/
def RepS (K : Fr) (H : Hp) (v : V) (ds : List PD) : Prop := ∃ a xs, v = .ref a ∧ (SqL K H a xs ∨ SqT K H a xs) ∧ RepAll K H xs ds
def EvS (K : Fr) (te : TE) (σ : L2.St) (H : Hp) (ds : List PD) : Prop := ∀ H1, Same H H1 → ∀ Q : VK, (∀ v H2, Same H1 H2 → RepS K H2 v ds → Q v H2) → te σ H1 Q
section
variable {K : Fr} {H H' : Hp} {v : V} {ds : List PD} {d : PD} {σ : L2.St} {ta tb : TE}
theorem sql_same (s : Same H H') {a : Addr} {xs : List V} (h : SqL K H a xs) : SqL K H' a xs := by
  rcases h with (h | ⟨o, h⟩) | h
  · exact .inl (.inl (s _ _ h))
  · exact .inl (.inr ⟨o, s _ _ h⟩)
  · exact .inr h
theorem RepS.same (h : RepS K H v ds) (s : Same H H') : RepS K H' v ds := by
  obtain ⟨a, xs, e, q, r⟩ := h
  exact ⟨a, xs, e, q.imp (sql_same s) (kt_sqt (kt_same s)), r.same s⟩
theorem Rep.seq (h : Rep K H v (.tuple ds)) : RepS K H v ds := by
  obtain ⟨a, xs, e, q, r⟩ := h.tup_inv
  exact ⟨a, xs, e, .inr q, r⟩
theorem rep_lst {a : Addr} {xs : List V} (h : H a = some (.lst xs)) (r : RepAll K H xs ds) : RepS K H (.ref a) ds := ⟨a, xs, rfl, .inl (SqL.of h), r⟩
theorem evs_var {i : Nat} (e : σ[i]? = some (some v)) (h : RepS K H v ds) : EvS K (tVar i) σ H ds := fun H1 s Q k => ⟨v, e, k v H1 (Same.refl H1) (h.same s)⟩
theorem evs_t (a : Ev K ta σ H (.tuple ds)) : EvS K ta σ H ds := fun H1 s Q k => a H1 s _ fun v H2 s2 r => k v H2 s2 r.seq
theorem evs_l (a : EvL K ta σ H ds) : EvS K ta σ H ds := fun H1 s Q k => a H1 s _ fun p vs H2 s2 _ e r => k _ H2 s2 (rep_lst e r)
theorem ev_lenS (a : EvS K ta σ H ds) : Ev K (tCB (fun xs H Q => ∃ p ys, xs = [.ref p] ∧ (SqL K H p ys ∨ SqT K H p ys) ∧ Q (.int ys.length) H) (tCons ta tNil)) σ H (.int ds.length) := fun H1 s Q k =>
  a H1 s _ fun v H2 s2 rv => by
    obtain ⟨p, xs, rfl, hp, r⟩ := rv
    exact ⟨p, xs, rfl, hp, k _ H2 s2 (by rw [r.len]; exact .int _)⟩
def rInS (K : Fr) : R2 := fun x y H Q => rInT K x y H Q ∨ rInD K x y H Q
theorem op_inS {X : Cx} (K : Fr) (h : X.K = K) (hu : X.A.units + 65 < cLine) : OpR X (compareOp .In) (rInS K) := by
  subst h
  exact OpR.or (op_inT hu) (op_inD hu)
theorem ev_inS (a : Ev K ta σ H d) (b : EvS K tb σ H ds) (sd : SeqAt.shaped d = true) (se : SeqAt.shaped (.tuple ds) = true) (sl : SeqAt.shaped (.list ds) = true) : Ev K (tOp (rInS K) ta tb) σ H (.bool (ds.any fun z => PyData.eqv z d)) := fun H1 s Q k =>
  a H1 s _ fun v H2 s2 rv => b H2 (s.trans s2) _ fun w H3 s3 rw' => by
    obtain ⟨p, xs, rfl, hp, r⟩ := rw'
    rcases hp with hp | hp
    · exact .inr ⟨d, ds, (rv.same s3).dp, .lst hp r.dp, sd, sl, k _ H3 (s2.trans s3) (.bl _)⟩
    · exact .inl ⟨d, ds, (rv.same s3).dp, .tup hp r.dp, sd, se, k _ H3 (s2.trans s3) (.bl _)⟩
def rIxS2 (K : Fr) : R2 := fun x y H Q => rIxL K x y H Q ∨ rIxT K x y H Q
theorem ix_sK {X : Cx} (K : Fr) (h : X.K = K := by rfl) : IxR X (rIxS2 K) := by
  subst h
  exact IxR.or ix_list ix_tup
theorem ev_ixS {i : Int} (a : EvS K ta σ H ds) (he : atI ds i = some d) : Ev K (tOp (rIxS2 K) ta (tC (.int i))) σ H d := fun H1 s Q k =>
  a H1 s _ fun v H2 s2 rv => by
    obtain ⟨p, xs, rfl, hp, r⟩ := rv
    obtain ⟨z, hz, rz⟩ := r.at he
    rcases hp with hp | hp
    · exact .inl ⟨p, xs, i, z, rfl, rfl, hp, hz, k z H2 s2 rz⟩
    · exact .inr ⟨p, xs, i, z, rfl, rfl, hp, hz, k z H2 s2 rz⟩
theorem ev_tupleS (a : EvS K ta σ H ds) : Ev K (tCB (rTupleOf K) (tCons ta tNil)) σ H (.tuple ds) := fun H1 s Q k =>
  a H1 s _ fun v H2 s2 rv => by
    obtain ⟨p, xs, rfl, hp, r⟩ := rv
    rcases hp with hp | hp
    · exact ⟨p, xs, rfl, .inl ⟨hp, fun l hl => k (.ref l) _ (s2.trans (same_upd hl)) (.tup (SqT.of upd_same) (r.same (same_upd hl)))⟩⟩
    · exact ⟨p, xs, rfl, .inr ⟨hp, k (.ref p) H2 s2 (.tup hp r)⟩⟩
end
theorem shaped_lCs (l : List C2) : SeqAt.shaped (.list (l.map dC)) = true := by
  obtain ⟨h1, h2⟩ := canLay_dCs l
  have h3 : PyData.depth (.list (l.map dC)) ≤ 64 := by show PyData.depthAll (l.map dC) + 1 ≤ 64; omega
  have h4 : PyData.canLay0 (.list (l.map dC)) = true := h1
  unfold SeqAt.shaped
  rw [h4, decide_eq_true h3]
  rfl
/-! ### == by a class's own __eq__ -/
/-- x == y, x of the class at C whose own __eq__ keeps sp; y of that class, or a tuple -/
def rEqOwn (K : Fr) (C : Addr) (sp : Sp) (E : XK) : R2 := fun x y H Q => ∃ a dx fs, x = .ref a ∧ H a = some (.ins C dx fs) ∧ (∃ b, y = .ref b ∧ ((∃ dy gs, H b = some (.ins C dy gs)) ∨ ∃ xs, SqT K H b xs)) ∧
  sp [x, y] H (fun v H' => ∃ r, v = .bl r ∧ Q (.bl r) H') E
theorem op_eqOwn {X : Cx} {C f : Addr} {CX : CXT} {k : Nat} {fd : FuncData} {ps : List Str} {sp : Sp} {E : XK} (hm : Meth X.K C "__eq__" f) (hq : PySem.W.notFirst X.K C (.type "tuple") = true) (F : FnOk X.prog X.w X.K X.mg X.base CX k f fd ps sp)
    (hr : Room k X.A) (hb : Binds X.K fd ps []) (hx : Passes CX X E) : OpR X (compareOp .Eq) (rEqOwn X.K C sp E) := by
  intro pins s σ H x y v u Q I rx ry h
  obtain ⟨a, dx, fs, rfl, ea, ⟨b, rfl, eb⟩, hs⟩ := h
  cases rx
  cases ry
  obtain ⟨mA, J0, _⟩ := ins_get I.hok ea
  obtain ⟨od, J, _⟩ := J0.look
  obtain ⟨m, hF⟩ := I.fr
  have tyb : ∃ tb, PySem.W.notFirst X.K C tb = true ∧ PySem.W.Looks (model X.prog X.w) s.heap (typeOf (.ref b)) tb := by
    rcases eb with ⟨dy, gs, eb⟩ | ⟨xs, eb⟩
    · obtain ⟨mB, J1, _⟩ := ins_get I.hok eb
      obtain ⟨od', J', _⟩ := J1.look
      exact ⟨.ref C, by simp [PySem.W.notFirst], J'.type⟩
    · obtain ⟨its, _, ⟨o, e1, e2, _⟩, _⟩ := I.tuple eb
      exact ⟨.type "tuple", hq, fun A Q E s2 kk q => wpAny_typeOf_ref (kk _ _ e1) (by rw [e2]; exact q)⟩
  obtain ⟨tb, h1, h2⟩ := tyb
  show wpAny (model X.prog X.w) X.A (richCompare .Eq (.ref a) (.ref b)) (EP X pins σ Q) X.xe s
  refine PySem.W.cmp_K (op := .Eq) (tb := tb) hr.units0 hF I.ok.mod.kin J h2 h1 hm.at_ hm.fn ?_
  refine thn (run_fn (us := [.ref a, .ref b]) (vs := [.ref a, .ref b]) F hr hb .nil hx I (.cons rfl (.cons rfl .nil)) (by rw [List.append_nil]; exact hs)) fun r s1 hh => ?_
  obtain ⟨z, H1, I1, rz, c, ez, q1⟩ := hh
  subst ez
  obtain rfl : r = Value.bool c := rz
  exact ⟨.bl c, H1, I1, rfl, q1⟩
end LB
set_option maxHeartbeats 2000000
/-! A pair turned round: t[::-1], t a tuple of two. -/
namespace LB
open PySem PySem.Spec PyProof.Rows L2 HT
section
variable {prog : Program} {w : World} {A : Around} {E : Value → Shared → Prop} {s : Shared}
theorem applied_back {sl : Addr} {vs : Value} {Q : Int × Int × Nat → Shared → Prop} (hs : s.heap.IsSliceOf sl .none .none vs) (ps : IsPart vs (some (-1))) (h : Q (1, -1, 2) s) :
    wpAny (model prog w) A (Builtin.Slice.sliceApplied (.ref sl) (pure (2 : Int))) Q E s := by
  obtain ⟨ob, e1, e2, e3⟩ := hs
  unfold Builtin.Slice.sliceApplied Builtin.Slice.sliceFields
  refine wpAny_bind (wpAny_bind (wpAny_field e1 e3 (x := .none) rfl (wpAny_bind (wpAny_field e1 e3 (x := .none) rfl (wpAny_bind (wpAny_field e1 e3 (x := vs) rfl (wpAny_pure ?_)))))))
  refine wpAny_bind (slicePart_ ps ?_)
  show wpAny _ _ (if ((-1 : Int) == 0) = true then _ else _) _ _ s
  rw [if_neg (by decide)]
  refine wpAny_bind (slicePart_none (wpAny_bind (slicePart_none (wpAny_bind (wpAny_pure ?_)))))
  exact wpAny_pure h
theorem item_pair_back {t sl : Addr} {x y vs : Value} {Q : Value → Shared → Prop} (ht : IsTup s.heap t #[x, y]) (hs : s.heap.IsSliceOf sl .none .none vs) (ps : IsPart vs (some (-1)))
    (h : Q (.ref s.heap.objs.size) { s with heap := s.heap.push { cls := .type "tuple", data := .seq #[y, x] } }) : wpAny (model prog w) A (getItem (.ref t) (.ref sl)) Q E s := by
  have hsz : sizeOk (.seq #[y, x]) := by show 2 ≤ sizeLine; decide
  have hs0 := hs
  obtain ⟨ob, e1, e2, e3⟩ := hs0
  have ty : s.TypeIs (.ref sl) "slice" := ⟨ob, e1, e2⟩
  unfold getItem
  try with_reducible refine wpAny_holding ?_
  first | refine wpAny_bind (wpAny_pure ?_) | skip
  refine wpAny_bind (wpAny_sequenceKey ht.typeIs (by decide) ?_)
  refine wpAny_bind (wpAny_callSpecial?_slot (name := Str.ofString "__getitem__") ht.typeIs PyProof.Rows.slot_tuple_getitem (wpAny_call_entry PyProof.Rows.slot_tuple_getitem ht.typeIs entry_tuple_getitem ?_ (args_tuple_getitem _ _)))
  show wpAny _ _ (Builtin.Tuple.tupleItemsOf (.ref t) >>= _) _ _ s
  refine wpAny_bind (tupleItemsOf_ ht (wpAny_bind (wpAny_typeOf ty ?_)))
  rw [if_pos (by decide)]
  refine wpAny_bind (applied_back hs ps ?_)
  show wpAny _ _ (if (((1 : Int) == 0) && (-1 : Int) == 1 && (2 : Nat) == 2) = true then _ else _) _ _ s
  rw [if_neg (by decide)]
  have pick : ((List.range 2).filterMap fun (m : Nat) => (#[x, y] : Array Value)[((1 : Int) + (m : Int) * (-1)).toNat]?).toArray = #[y, x] := rfl
  first
    | exact wpAny_bind (m := Builtin.Tuple.tupleExact _) (wpAny_newObj_type (wpAny_pure ⟨_, rfl, wpAny_pure h⟩) hsz)
    | exact wpAny_bind (m := Builtin.Tuple.tupleExact _) (wpAny_newObj_type (wpAny_bind (wpAny_pure (wpAny_pure ⟨_, rfl, wpAny_pure h⟩))) hsz)
    | exact wpAny_bind (wpAny_bind (m := Builtin.Tuple.tupleExact _) (wpAny_newObj_type (wpAny_pure (wpAny_pure ⟨_, rfl, wpAny_pure h⟩)) hsz))
    | exact wpAny_bind (wpAny_bind (m := Builtin.Tuple.tupleExact _) (wpAny_newObj_type (wpAny_pure ⟨_, rfl, wpAny_pure h⟩) hsz))
end
/-- t[::-1] -/
def tBack (K : Fr) (te : TE) : TE := fun σ H Q => te σ H fun x H1 => ∃ a v u, x = .ref a ∧ SqT K H1 a [v, u] ∧ ∀ p, H1 p = none → Q (.ref p) (upd H1 p (.tup [u, v]))
theorem pe_back {X : Cx} {e : Expr} {te : TE} {k : Nat} {p1 p2 p3 pos : Pos} (he : PE X e te) : PE X (.Subscript e (.Slice none none (some (.UnaryOp .USub (.Constant (.int 1) k p1) p2)) p3) pos) (tBack X.K te) := by
  refine ⟨fun pins s σ H Q I h => ?_⟩
  refine Subscript_ (thn (he.run pins s σ H _ I h) fun v s1 hh => ?_)
  obtain ⟨x, H1, I1, r1, a, v1, v2, ex, hx, q⟩ := hh
  subst ex
  cases r1
  have minus : PO X (some (.UnaryOp .USub (.Constant (.int 1) k p1) p2)) (tPart (tUn (rU fun i => .int (-i)) (tC (.int 1)))) := po_some (pe_un un_neg pe_int)
  refine wpAny_Slice ?_
  rw [evalPart_none]
  refine wpAny_pure ?_
  refine wpAny_pure ?_
  refine thn (minus.run pins s1 σ H1 (fun o H4 => o = some (-1) ∧ H4 = H1) I1 ⟨1, rfl, -1, rfl, rfl, rfl⟩) fun vs s4 hv => ?_
  obtain ⟨o, H4, I4, ps, eo, e4⟩ := hv
  subst eo e4
  have I5 : Inv X pins σ H4 { s4 with heap := s4.heap.push { cls := .type "slice", data := .fields #[.none, .none, vs] } } := I4.kept (t' := s4.toks) fun b ob q => Heap.get?_push_of_some _ q
  obtain ⟨its, r, ht, hz⟩ := I5.tuple hx
  cases r with
  | cons ra r =>
    cases r with
    | cons rb r =>
      cases r
      show wpAny (model X.prog X.w) X.A (subscriptTail e (.Slice none none (some (.UnaryOp .USub (.Constant (.int 1) k p1) p2)) p3) (.ref a) (.ref s4.heap.objs.size)) (EP X pins σ Q) X.xe { s4 with heap := s4.heap.push { cls := .type "slice", data := .fields #[.none, .none, vs] } }
      refine tail_any (ops := [.ref a, .ref s4.heap.objs.size]) ht.typeIs PyProof.Rows.slot_tuple_getitem.lookup ?_ (by with_unfolding_all rfl)
      refine item_pair_back ht (Heap.IsSliceOf.new _ .none .none vs) ps ?_
      refine ⟨.ref _, _, I5.laid (t' := s4.toks) (o := .tup [v2, v1]) (fun b ob q => Heap.get?_push_of_some _ q) (Nat.le_refl _) ?_, rfl, q _ (I5.hok.fresh (Nat.le_refl _))⟩
      exact ⟨by show 2 ≤ sizeLine; decide, _, .cons rb (.cons ra .nil), IsTup.new _ _⟩
/-! ### defaults that are empty tuples; a def with its code object -/
structure Dfl2 (K : Fr) (fd : FuncData) (ps : List Str) where
  ya : Addr
  yb : Addr
  bi : Binds K fd ps [.ref ya, .ref yb]
  ea : ∀ H : Hp, SqT K H ya []
  eb : ∀ H : Hp, SqT K H yb []
theorem bnd_dfl2 {K : Fr} {fd : FuncData} {ps : List Str} {T : Addr} {o : Obj} {its : Array Value} {ds : List Value} {n : Nat} (lT : K.lookup T = some o) (oT : o.data = .seq its n)
    (h : ∀ us : List Value, us.length + ds.length = ps.length → ∃ k : Option (Array Value) → Sem (List (Str × Value)), bindArgs fd ⟨us, []⟩ = seqItems? (.ref T) >>= k ∧ k (some its) = pure (ps.zip (us ++ ds))) : Binds K fd ps ds := fun s us X hl => by
  rw [List.length_append] at hl
  obtain ⟨k, e1, e2⟩ := h us hl
  refine BindsTo.of_looks fun M => ?_
  rw [e1]
  exact looks_items X lT oT (.of_pure e2)
theorem sqt_emp {K : Fr} {a : Addr} {dd : Option Addr} {n : Nat} {sl : Array (Option Value)} (l : K.lookup a = some ⟨.type "tuple", dd, .seq #[] n, sl⟩) (H : Hp) : SqT K H a [] :=
  .inr ⟨_, #[], n, l, rfl, rfl, Nat.zero_le _, .nil⟩
def FunT (K : Fr) (x : Str) (st : Stmt) (f : Addr) (fd : FuncData) (c : Addr) : Prop :=
  ∃ (oc : Value) (od : Option Addr) (dV kV doc pm : Value) (an : Option Addr) (ct : Value) (osl : Array (Option Value)), K.lookup f = some ⟨oc, od, .func fd, osl⟩ ∧ fd = PySem.W.fnOf x x (defArgs st) (defBody st) (defScope st) dV kV doc pm an (.ref c) ct ∧ PySem.W.codeIn K (.ref c) x = true
/-! ### slices and sums of tuples of data -/
theorem sl_tK {X : Cx} (K : Fr) (h : X.K = K) : SlR X (rSlA K) := by subst h; exact sl_tupA
theorem op_tcK {X : Cx} (K : Fr) (h : X.K = K) : OpR X (binaryOp .Add) (rCatA K) := by subst h; exact op_catA
section
variable {K : Fr} {σ : L2.St} {H : Hp} {ta tb te : TE} {ds es : List PD} {i : Int}
theorem ev_tcat (a : Ev K ta σ H (.tuple ds)) (b : Ev K tb σ H (.tuple es)) (hl : ds.length + es.length ≤ 1000) : Ev K (tOp (rCatA K) ta tb) σ H (.tuple (ds ++ es)) := fun H1 s Q k =>
  a H1 s _ fun v H2 s2 rv => b H2 (s.trans s2) _ fun w H3 s3 rw' => by
    have rv3 := rv.same s3
    obtain ⟨p, xs, rfl, hp, r⟩ := rv3.tup_inv
    obtain ⟨q, ys, rfl, hq, r'⟩ := rw'.tup_inv
    refine ⟨p, q, xs, ys, rfl, rfl, hp, hq, ?_, fun e => ?_, fun e e2 => ?_, fun e e2 l hl => ?_⟩
    · rw [r.len, r'.len]
      exact Nat.le_of_lt (small1000 hl)
    · subst e
      cases r
      exact k _ H3 (s2.trans s3) rw'
    · subst e2
      cases r'
      exact k _ H3 (s2.trans s3) (by rw [List.append_nil]; exact rv3)
    · have s4 := same_upd (o := HO.tup (xs ++ ys)) hl
      exact k (.ref l) _ ((s2.trans s3).trans s4) (.tup (SqT.of upd_same) ((r.append r').same s4))
theorem RepAll.take : ∀ {vs : List V} {ds : List PD} (n : Nat), RepAll K H vs ds → RepAll K H (vs.take n) (ds.take n)
  | _, _, 0, _ => by rw [List.take_zero, List.take_zero]; exact .nil
  | _, _, _ + 1, .nil => .nil
  | _, _, n + 1, .cons h r => .cons h (RepAll.take n r)
theorem RepAll.drop : ∀ {vs : List V} {ds : List PD} (n : Nat), RepAll K H vs ds → RepAll K H (vs.drop n) (ds.drop n)
  | _, _, 0, r => r
  | _, _, _ + 1, .nil => .nil
  | _, _, n + 1, .cons _ r => RepAll.drop n r
theorem ev_slice {lo hi : Option Int} {n m : Nat} {tl th : TO} (a : Ev K te σ H (.tuple ds)) (hl : ∀ H1, ∀ Q : Option Int → Hp → Prop, Same H H1 → (∀ H2, Same H1 H2 → Q lo H2) → tl σ H1 Q) (hh : ∀ H1, ∀ Q : Option Int → Hp → Prop, Same H H1 → (∀ H2, Same H1 H2 → Q hi H2) → th σ H1 Q)
    (hn : HT.sIx ds.length 0 lo = n) (hm : HT.sIx ds.length ds.length hi = m) : Ev K (tSl (rSlA K) te tl th) σ H (.tuple ((ds.drop n).take (m - n))) := fun H1 s Q k =>
  a H1 s _ fun v H2 s2 rv => hl H2 _ (s.trans s2) fun H3 s3 => hh H3 _ ((s.trans s2).trans s3) fun H4 s4 => by
    have rv4 := (rv.same s3).same s4
    obtain ⟨p, xs, rfl, hp, r⟩ := rv4.tup_inv
    have hx : xs.length = ds.length := r.len
    refine ⟨p, xs, rfl, hp, fun e => ?_, fun _ l hl => ?_⟩
    · rw [hx, hn, hm] at e
      exact k _ H4 ((s2.trans s3).trans s4) (by rw [e.1, e.2, List.drop_zero, Nat.sub_zero, List.take_length]; exact rv4)
    · have s5 := same_upd (o := HO.tup (cutV xs lo hi)) hl
      refine k (.ref l) _ (((s2.trans s3).trans s4).trans s5) (.tup (SqT.of upd_same) (RepAll.same s5 ?_))
      unfold cutV
      rw [hx, hn, hm]
      exact (r.drop n).take (m - n)
theorem part_none (H1 : Hp) (Q : Option Int → Hp → Prop) (_ : Same H H1) (k : ∀ H2, Same H1 H2 → Q none H2) : tNoPart σ H1 Q := k H1 (Same.refl H1)
theorem part_some (a : Ev K te σ H (.int i)) (H1 : Hp) (Q : Option Int → Hp → Prop) (s : Same H H1) (k : ∀ H2, Same H1 H2 → Q (some i) H2) : tPart te σ H1 Q := a H1 s _ fun v H2 s2 rv => by
  cases rv.int_inv
  exact ⟨i, rfl, k H2 s2⟩
theorem ev_back {x y : PD} (a : Ev K te σ H (.tuple [x, y])) : Ev K (tBack K te) σ H (.tuple [y, x]) := fun H1 s Q k =>
  a H1 s _ fun v H2 s2 rv => by
    obtain ⟨p, xs, rfl, hp, r⟩ := rv.tup_inv
    obtain ⟨v1, v2, rfl, r1, r2⟩ := r.inv2
    refine ⟨p, v1, v2, rfl, hp, fun l hl => ?_⟩
    have s5 := same_upd (o := HO.tup [v2, v1]) hl
    exact k (.ref l) _ (s2.trans s5) (.tup (SqT.of upd_same) (.cons (r2.same s5) (.cons (r1.same s5) .nil)))
/-- an item at a place that is told by a value -/
theorem ev_ixE {j : Int} {d : PD} (a : Ev K ta σ H (.tuple ds)) (b : Ev K tb σ H (.int j)) (he : atI ds j = some d) : Ev K (tOp (rIxT K) ta tb) σ H d := fun H1 s Q k =>
  a H1 s _ fun v H2 s2 rv => b H2 (s.trans s2) _ fun w H3 s3 rw' => by
    cases rw'.int_inv
    obtain ⟨p, xs, rfl, hp, r⟩ := (rv.same s3).tup_inv
    obtain ⟨z, hz, rz⟩ := r.at he
    exact ⟨p, xs, j, z, rfl, rfl, hp, hz, k z H3 (s2.trans s3) rz⟩
end
/-! ### isinstance of an own instance -/
structure InsT (K : Fr) (C : Addr) : Prop where
  ha : PySem.W.findIn K (.ref C) "__class__" = some (some (.builtin "object.__class__"))
  hn : PySem.W.specialIn K (.builtin "object.__class__") "__get__" = some (some (.builtin "getset_descriptor.__get__"))
  ht : PySem.W.takesIn K (.builtin "object.__class__") = some true
  hm : PySem.W.mroIn K C (.type "object") = some true
theorem ty_ins {K : Fr} {H : Hp} {a C dx : Addr} {fs : List (Str × V)} (e : H a = some (.ins C dx fs)) (c : Cls K C) (i : InsT K C) : TyX K H (.ref a) (.ref C) := .base (.ins e c i.ha i.hn i.ht i.hm)
theorem kit_self {K : Fr} {C : Addr} : PySem.W.kitOne K (.ref C) (.ref C) = some true := by
  unfold PySem.W.kitOne
  rw [if_pos (by simp)]
theorem ev_isSh {K : Fr} {σ : L2.St} {H : Hp} {C p : Addr} {S : Sh} {i : Nat} (e : σ[i]? = some (some (.ref p))) (h : ShAt K C H p S) (c : Cls K C) (t : InsT K C) : Ev K (tCB (rIsi K) (tCons (tVar i) (tCons (tC (.ref C)) tNil))) σ H (.bool true) := fun H1 s Q k => by
  obtain ⟨dx, vb, vp, vs, vr, e1, _⟩ := h.ex
  exact ⟨_, e, .ref p, .ref C, .ref C, .ref C, true, rfl, .own C, ty_ins (s _ _ e1) c t, kit_self, k _ H1 (Same.refl H1) (.bl true)⟩
theorem ev_notSh {K : Fr} {σ : L2.St} {H : Hp} {C : Addr} {ds : List PD} {v : V} {i : Nat} (e : σ[i]? = some (some v)) (h : Rep K H v (.tuple ds)) (r : PySem.W.kitOne K (.type "tuple") (.ref C) = some false) : Ev K (tCB (rIsi K) (tCons (tVar i) (tCons (tC (.ref C)) tNil))) σ H (.bool false) := fun H1 s Q k =>
  ⟨_, e, v, .ref C, .type "tuple", .ref C, false, rfl, .own C, (h.same s).ty, r, k _ H1 (Same.refl H1) (.bl false)⟩
/-! ### depth of what is compared -/
def Exd : Nat → PD → Prop
  | 0, d => ∃ i, d = .int i
  | n + 1, d => (∃ i, d = .int i) ∨ ∃ ds, d = .tuple ds ∧ ds.length ≤ 1000 ∧ ∀ x ∈ ds, Exd n x
def spEx (n : Nat) (K : Fr) : Sp := spF K fun ds d => ∃ x, ds = [x, x] ∧ Exd n x ∧ d = .bool true
def spExT (n : Nat) (K : Fr) : Sp := spF K fun ds d => ∃ l, ds = [.tuple l, .tuple l] ∧ l.length ≤ 1000 ∧ (∀ x ∈ l, Exd n x) ∧ d = .bool true
theorem exd_int {n : Nat} (i : Int) : Exd n (.int i) := by
  cases n with
  | zero => exact ⟨i, rfl⟩
  | succ n => exact .inl ⟨i, rfl⟩
theorem exd_dC {n : Nat} (c : C2) : Exd (n + 1) (dC c) := .inr ⟨_, rfl, Nat.le_of_ble_eq_true rfl, fun x hx => by
  simp at hx
  rcases hx with rfl | rfl <;> exact exd_int _⟩
theorem exd_dCs {n : Nat} {l : List C2} (h : l.length ≤ 1000) : Exd (n + 2) (dCs l) := .inr ⟨_, rfl, by simpa using h, fun x hx => by
  obtain ⟨c, _, rfl⟩ := List.mem_map.mp hx
  exact exd_dC c⟩
theorem exd_dIs {n : Nat} {l : List Int} (h : l.length ≤ 1000) : Exd (n + 1) (dIs l) := .inr ⟨_, rfl, by simpa using h, fun x hx => by
  obtain ⟨c, _, rfl⟩ := List.mem_map.mp hx
  exact exd_int c⟩
/-! ### promises -/
def spAreStepsS (K : Fr) : Sp := fun vs H Q _ => ∃ (v : V) (l : List C2), vs = [v] ∧ RepS K H v (l.map dC) ∧ (∀ s ∈ l, BdC 2000 s) ∧ ∀ v' H', Same H H' → Rep K H' v' (.bool (areSteps l)) → Q v' H'
theorem ev_areStepsS {K : Fr} {E : XK} {ta : TE} {σ : L2.St} {H : Hp} {l : List C2} (a : EvS K ta σ H (l.map dC)) (h : ∀ s ∈ l, BdC 2000 s) : Ev K (tCall (spAreStepsS K) [] E (tCons ta tNil)) σ H (.bool (areSteps l)) := fun H1 s Q k =>
  a H1 s _ fun v H2 s2 rv => ⟨v, l, rfl, rv, h, fun v' H' s3 r => k v' H' (s2.trans s3) r⟩
def spInitS (K : Fr) (C : Addr) : Sp := fun vs H Q _ => ∃ (p dx : Addr) (vb vp vs' vr : V) (S : Sh), vs = [.ref p, vb, vp, vs', vr] ∧ H p = some (.ins C dx []) ∧ S.Ok ∧ Rep K H vb (dC S.base) ∧ Rep K H vp (.int S.price) ∧ RepS K H vs' (S.steps.map dC) ∧ RepS K H vr (S.prices.map .int) ∧
  ∀ H', ShAt K C H' p S → (∀ b o, H b = some o → b ≠ p → H' b = some o) → Q .non H'
/-- what an exception of the class at C tells: its field what -/
def ExW (C : Addr) (x : Str) (H : Hp) (E : XK) : Prop := ∀ (d : Addr) (fs : List (Str × V)) (H' : Hp), Same H H' → H' d = some (.xd fs) → fs.lookup ("what" : Str) = some (.str x) → E (.ref C) (some d) H'
def spInitX (K : Fr) (C CB : Addr) : Sp := fun vs H _ E => ∃ (p dx : Addr) (vb vp vs' vr : V) (l : List C2) (m : List Int), vs = [.ref p, vb, vp, vs', vr] ∧ H p = some (.ins C dx []) ∧ RepS K H vs' (l.map dC) ∧ RepS K H vr (m.map .int) ∧ (∀ s ∈ l, BdC 2000 s) ∧
  ((areSteps l = false ∧ ExW CB "steps" H E) ∨ (areSteps l = true ∧ m.length ≠ l.length ∧ ExW CB "prices" H E))
def spBad (C : Addr) : Sp := fun vs H Q _ => ∃ (a : Addr) (x : V), vs = [.ref a, x] ∧ H a = some (exo a C none) ∧ ∀ (d : Addr) (H' : Hp), H d = none → d ≠ a → H' a = some (exo a C (some d)) → H' d = some (exd d [("what", x)]) → (∀ b o, H b = some o → b ≠ a → H' b = some o) → Q .non H'
def spEqS (K : Fr) (C : Addr) : Sp := fun vs H Q _ => ∃ (p : Addr) (S : Sh) (v : V), vs = [.ref p, v] ∧ ShAt K C H p S ∧
  ((∃ (q : Addr) (S' : Sh), v = .ref q ∧ ShAt K C H q S' ∧ ∀ H', Same H H' → Q (.bl (decide (S.base = S'.base) && (decide (S.price = S'.price) && (decide (S.steps = S'.steps) && decide (S.prices = S'.prices))))) H') ∨
    ∃ ds, Rep K H v (.tuple ds) ∧ ∀ H', Same H H' → Q (.bl false) H')
def Sh.move (S : Sh) (c : C2) (x : Int) : Sh := { S with base := (S.base.1 + c.1, S.base.2 + c.2), price := S.price + x }
def spMoved (K : Fr) (C : Addr) : Sp := fun vs H Q _ => ∃ (p : Addr) (S : Sh) (v : V) (c : C2) (x : Int), vs = [.ref p, v, .int x] ∧ ShAt K C H p S ∧ Rep K H v (dC c) ∧ (S.move c x).Ok ∧ ∀ (q : Addr) (H' : Hp), ShAt K C H' q (S.move c x) → Same H H' → Q (.ref q) H'
def spPlus (K : Fr) : Sp := spF K fun ds d => ∃ a b : C2, ds = [dC a, dC b] ∧ d = dC (a.1 + b.1, a.2 + b.2)
def spLmoved (K : Fr) : Sp := spF K fun ds d => ∃ (S : Sh) (c : C2) (x : Int), ds = [dR S, dC c, .int x] ∧ d = dR (S.move c x)
def spIsSh (K : Fr) (C : Addr) : Sp := fun vs H Q _ => ∃ (p : Addr) (S : Sh) (v : V), vs = [.ref p, v] ∧ ShAt K C H p S ∧ Rep K H v (dR S) ∧ S.steps.length ≤ 1000 ∧ S.prices.length ≤ 1000 ∧ ∀ H', Same H H' → Q (.bl true) H'
/-- a list or tuple stays when an instance is written -/
theorem RepS.ins {K : Fr} {H : Hp} {v : V} {ds : List PD} {p C dx : Addr} {fs : List (Str × V)} {o : HO} (h : RepS K H v ds) (hp : H p = some (.ins C dx fs)) : RepS K (upd H p o) v ds := by
  obtain ⟨a, xs, e, q, r⟩ := h
  have g : Kr H (upd H p o) := kr_upd hp (fun i => i)
  refine ⟨a, xs, e, ?_, r.kr g⟩
  rcases q with q | q
  · refine .inl ?_
    rcases q with (q | ⟨u, q⟩) | q
    · exact .inl (.inl (by rw [upd_ne (fun z => by rw [z, hp] at q; cases q)]; exact q))
    · exact .inl (.inr ⟨u, by rw [upd_ne (fun z => by rw [z, hp] at q; cases q)]; exact q⟩)
    · exact .inr q
  · exact .inr (kr_sqt g q)
theorem Rep.ins {K : Fr} {H : Hp} {v : V} {d : PD} {p C dx : Addr} {fs : List (Str × V)} {o : HO} (h : Rep K H v d) (hp : H p = some (.ins C dx fs)) : Rep K (upd H p o) v d := h.kr (kr_upd hp (fun i => i))
section
variable {K : Fr} {te : TE} {d : PD} {i : Nat} {f : Str} {p C dx : Addr} {fs : List (Str × V)} {σ : L2.St} {H : Hp} {D : Ends} {u : TS}
theorem s_fld (a : Ev K te σ H d) (e : σ[i]? = some (some (.ref p))) (hp : H p = some (.ins C dx fs)) (c : Cls K C) (n : NoAttr K C f) (l : fs.length < 1000) (h : ∀ v H1, Same H H1 → Rep K H1 v d → D.nx σ (upd H1 p (.ins C dx (putF f v fs)))) : sFld K (tVar i) te f D σ H :=
  a H (Same.refl H) _ fun v H1 s r => ⟨_, e, p, C, dx, fs, rfl, s _ _ hp, c, n, l, h v H1 s r⟩
theorem s_flds (a : Ev K te σ H d) (e : σ[i]? = some (some (.ref p))) (hp : H p = some (.ins C dx fs)) (c : Cls K C) (n : NoAttr K C f) (l : fs.length < 1000) (h : ∀ v H1, Same H H1 → Rep K H1 v d → u D σ (upd H1 p (.ins C dx (putF f v fs)))) : tSeq (sFld K (tVar i) te f) u D σ H :=
  a H (Same.refl H) _ fun v H1 s r => ⟨_, e, p, C, dx, fs, rfl, s _ _ hp, c, n, l, h v H1 s r⟩
end
end LB
set_option maxHeartbeats 2000000
/-! A list of lambdas made at one line; a comprehension that hands each of them to a def which calls it. -/
namespace LB
open PySem PySem.Spec PyProof.Rows L2 LamX
/-! ### more pins in a context -/
abbrev plus (X : Cx) (L : List (Addr × Obj)) : Cx := X.tr (L ++ X.pn) X.xe
section
variable {X : Cx} {pins L : List (Addr × Obj)} {σ : L2.St} {H : Hp} {s : Shared} {f : Addr} {o : Obj}
theorem inv_plus1 (I : Inv X pins σ H s) (hf : s.heap.get? f = some o) (hn : H f = none) (hL : f ≠ X.env.locals) (hF : f ∉ X.fs) (hd : ∀ v, o.data ≠ .cell v) : Inv (plus X [(f, o)]) pins σ H s :=
  ⟨I.ok.toTry _ _, I.os, I.bare, I.base, I.loc, I.cell, I.free, I.freeC, fun p hp => by
    rcases List.mem_cons.mp (show p ∈ (f, o) :: (X.pn ++ pins) from hp) with rfl | hp
    · exact ⟨hf, hn, hL, hF, hd⟩
    · exact I.pin p hp, I.hok, I.len⟩
theorem inv_less (I : Inv (plus X L) pins σ H s) : Inv X pins σ H s :=
  ⟨I.ok.ofTry, I.os, I.bare, I.base, I.loc, I.cell, I.free, I.freeC, fun p hp => I.pin p (by
    show p ∈ (L ++ X.pn) ++ pins
    rw [List.append_assoc]
    exact List.mem_append_right _ hp), I.hok, I.len⟩
end
/-! ### lambdas -/
structure LamD where
  params : Arguments
  body : Expr
  scope : Scope
  pos : Pos
  t : XK → TE
abbrev LamD.e (d : LamD) : Expr := .Lambda d.params d.body d.scope d.pos
abbrev lamO (X : Cx) (d : LamD) (pm : Value) (c' : Addr) (ctv : Value) : Obj := PySem.W.kla_obj "<lambda>" (X.env.qual ++ "<lambda>") d.params d.body d.scope (cloFrom X.env.cells d.scope.names []) pm c' ctv
/-- what is asked of a lambda in the maker's context -/
structure LamD.Ok (d : LamD) (X : Cx) (k : Nat) : Prop where
  sc : LamS X.env.scope d.scope
  df : defaultsOf d.params X.env = ([], [])
  bd : ∀ (q : Str) (cl : List (Str × Addr)) (pm cv ctv : Value), bindArgs (PySem.W.kla_fn "<lambda>" q d.params d.body d.scope cl pm cv ctv) ⟨[], []⟩ = pure []
  run : ∀ (A : Around) (outer : List Env) (s : Shared) (H : Hp) (E : XK) (f c' : Addr), Room k (A.deeper (lamEnv X d.scope s.heap.objs.size f c')) → PE (lamCx X A outer s H E d.scope f c') d.body (d.t E)
/-- what the maker's table of code objects is -/
structure Tb (X : Cx) (T : List (Addr × Str)) (c P : Addr) : Prop where
  tb : TabB X.base X.mg c P
  code : X.env.code = .ref c
  mem : (P, X.env.qual ++ "<lambda>") ∈ T
  uq : ∀ p ∈ T, p.1 = P → p.2 = X.env.qual ++ "<lambda>"
/-- these lambdas stand at these places, with these code objects -/
def Held (X : Cx) (L : List (Addr × Obj)) (H : Hp) : List LamD → List (Addr × Addr) → Prop
  | [], [] => True
  | d :: ds, p :: r => (∃ pm ctv, (p.1, lamO X d pm p.2 ctv) ∈ L) ∧ p.1 ∉ frs X.stack ∧ H p.2 = some (CodeO p.2 (X.env.qual ++ "<lambda>")) ∧ Held X L H ds r
  | _, _ => False
theorem Held.more {X : Cx} {L L' : List (Addr × Obj)} {H H' : Hp} (hL : ∀ p ∈ L, p ∈ L') (e : ExtN H H') : ∀ {ds : List LamD} {r : List (Addr × Addr)}, Held X L H ds r → Held X L' H' ds r
  | [], [], _ => True.intro
  | _ :: _, _ :: _, ⟨⟨pm, ctv, a⟩, b, c, d⟩ => ⟨⟨pm, ctv, hL _ a⟩, b, e _ _ c codeO_ne, Held.more hL e d⟩
  | [], _ :: _, h => h.elim
  | _ :: _, [], h => h.elim
theorem held_plus {X : Cx} {M L : List (Addr × Obj)} {H : Hp} : ∀ {ds : List LamD} {r : List (Addr × Addr)}, Held (plus X M) L H ds r → Held X L H ds r
  | [], [], _ => True.intro
  | _ :: _, _ :: _, ⟨a, b, c, d⟩ => ⟨a, b, c, held_plus d⟩
  | [], _ :: _, h => h.elim
  | _ :: _, [], h => h.elim
theorem lam_one {X : Cx} {pins : List (Addr × Obj)} {σ : L2.St} {H : Hp} {s : Shared} {T : List (Addr × Str)} {c P : Addr} {k : Nat} {d : LamD} {E : Value → Shared → Prop} {Q : Value → Shared → Prop} (I : Inv X pins σ H s) (B : Tb X T c P) (hT : Tabs T H) (ok : d.Ok X k)
    (h : ∀ (f c' : Addr) (pm ctv : Value) (H1 : Hp) (s' : Shared), Inv (plus X [(f, lamO X d pm c' ctv)]) pins σ H1 s' → ExtN H H1 → Tabs T H1 → f ∉ frs X.stack → H1 c' = some (CodeO c' (X.env.qual ++ "<lambda>")) → Q (.ref f) s') :
    wpAny (model X.prog X.w) X.A (eval d.e X.env) Q E s :=
  lam_make2 I B.tb B.code B.mem B.uq hT ok.df (ok.sc.has I.ok) fun f c' pm ctv H1 s' I1 eN T1 hf hn hfr hc => by
    refine h f c' pm ctv H1 s' (inv_plus1 I1 hf hn ?_ ?_ fun v z => by cases z) eN T1 hfr hc
    · intro z
      obtain ⟨m, ⟨o, es, ep, ho, hd, _⟩, _⟩ := I1.loc
      rw [← z, hf] at ho
      cases ho
      cases hd
    · intro z
      rcases I1.ok.stk with e | ⟨e, _⟩
      · exact hfr (by rw [e]; exact z)
      · refine hfr ?_
        rw [e]
        obtain ⟨v, hv, q⟩ := List.mem_filterMap.mp z
        exact List.mem_filterMap.mpr ⟨v, List.mem_cons_of_mem _ hv, q⟩
theorem lams_run {T : List (Addr × Str)} {c P : Addr} {k : Nat} {pins : List (Addr × Obj)} {σ : L2.St} : ∀ (ds : List LamD) (X : Cx) (H : Hp) (s : Shared) (Q : List Value → Shared → Prop) (E : Value → Shared → Prop), Inv X pins σ H s → Tb X T c P → Tabs T H → (∀ d ∈ ds, d.Ok X k) →
    (∀ (r : List (Addr × Addr)) (L : List (Addr × Obj)) (H' : Hp) (s' : Shared), r.length = ds.length → Inv (plus X L) pins σ H' s' → ExtN H H' → Tabs T H' → Held X L H' ds r → Q (r.map fun p => Value.ref p.1) s') →
    wpAny (model X.prog X.w) X.A (spliced (ds.map fun d => (false, eval d.e X.env))) Q E s
  | [], X, H, s, Q, E, I, _, hT, _, h => Calls.spliced_nil (h [] [] H s rfl I (ExtN.refl H) hT True.intro)
  | d :: ds, X, H, s, Q, E, I, B, hT, ok, h => by
    refine Calls.spliced_cons (lam_one I B hT (ok d (by simp)) fun f c' pm ctv H1 s1 I1 e1 T1 hfr hc => ?_)
    refine lams_run ds (plus X [(f, lamO X d pm c' ctv)]) H1 s1 _ E I1 ⟨B.tb, B.code, B.mem, B.uq⟩ T1 (fun d' m => ⟨(ok d' (by simp [m])).sc, (ok d' (by simp [m])).df, (ok d' (by simp [m])).bd, (ok d' (by simp [m])).run⟩) fun r L H2 s2 hr I2 e2 T2 hh => ?_
    refine h ((f, c') :: r) (L ++ [(f, lamO X d pm c' ctv)]) H2 s2 (by simp [hr]) ?_ (e1.trans e2) T2 ⟨⟨pm, ctv, by simp⟩, hfr, e2 _ _ hc codeO_ne, ?_⟩
    · have z : Inv (plus (plus X [(f, lamO X d pm c' ctv)]) L) pins σ H2 s2 := I2
      have e : (L ++ [(f, lamO X d pm c' ctv)]) ++ X.pn = L ++ ((f, lamO X d pm c' ctv) :: X.pn) := by simp
      unfold plus Cx.tr at z ⊢
      rw [e]
      exact z
    · exact Held.more (fun p m => List.mem_append_left _ m) (ExtN.refl H2) (held_plus hh)
/-- name = [lambda: .., lambda: .., ..] and what stands behind it in the block -/
def tLams (T : List (Addr × Str)) (q : Str) (n i : Nat) (t2 : List (Addr × Addr) → TS) : TS := fun D σ H => Tabs T H ∧ ∀ (r : List (Addr × Addr)) (p : Addr) (H1 : Hp), r.length = n → ExtN H H1 → H1 p = some (.lst (r.map fun z => V.ref z.1)) →
  (∀ z ∈ r, H1 z.2 = some (CodeO z.2 q)) → t2 r D (σ.set i (some (.ref p))) H1
theorem Held.codes {X : Cx} {L : List (Addr × Obj)} {H : Hp} : ∀ {ds : List LamD} {r : List (Addr × Addr)}, Held X L H ds r → ∀ z ∈ r, H z.2 = some (CodeO z.2 (X.env.qual ++ "<lambda>"))
  | [], [], _ => fun z m => nomatch m
  | _ :: _, _ :: _, ⟨_, _, c, d⟩ => fun z m => by
    rcases List.mem_cons.mp m with rfl | m
    · exact c
    · exact Held.codes d z m
  | [], _ :: _, h => h.elim
  | _ :: _, [], h => h.elim
theorem sp_less {X : Cx} {L pins : List (Addr × Obj)} {D : Ends} {fl : Flow} {s : Shared} (h : SP (plus X L) pins D fl s) : SP X pins D fl s := by
  cases fl with
  | next => obtain ⟨a, b, I, q⟩ := h; exact ⟨a, b, inv_less I, q⟩
  | brk => obtain ⟨a, b, I, q⟩ := h; exact ⟨a, b, inv_less I, q⟩
  | cont => obtain ⟨a, b, I, q⟩ := h; exact ⟨a, b, inv_less I, q⟩
  | ret u => obtain ⟨v, a, b, I, r, q⟩ := h; exact ⟨v, a, b, inv_less I, r, q⟩
theorem pss_lams {X : Cx} {T : List (Addr × Str)} {c P : Addr} {k i : Nat} {y : Str} {py lpos pos : Pos} {es : List Expr} {rest : List Stmt} {t2 : List (Addr × Addr) → TS} (ds : List LamD) (B : Tb X T c P) (ok : ∀ d ∈ ds, d.Ok X k) (hl : ds.length ≤ 1000)
    (he : backTo lpos (starEach es X.env) = ds.map fun d => (false, eval d.e X.env)) (hN : X.N.Nodup) (hi : X.N[i]? = some y) (hy : X.env.scope.names.lookup y = some .local) (hs : swapsWith (.List es lpos) (some (.Name y py)) pos.line X.env = pure false)
    (h2 : ∀ (L : List (Addr × Obj)) (r : List (Addr × Addr)), (∃ H, Held X L H ds r) → PSs (plus X L) rest (t2 r)) :
    PSs X (.Assign [.Name y py] (.List es lpos) pos :: rest) (tLams T (X.env.qual ++ "<lambda>") ds.length i t2) := by
  refine ⟨fun pins s σ H D I h => ?_⟩
  obtain ⟨hT, h⟩ := h
  refine wpAny_execs_cons (wpAny_Assign_Name (wpAny_List_spliced ?_) hs)
  rw [he]
  refine lams_run ds X H s _ X.xe I B hT ok fun r L H1 s1 hr I1 e1 T1 hh => ⟨by rw [List.length_map, hr]; exact Nat.le_of_lt (small1000 hl), ?_⟩
  have hf : H1 s1.heap.objs.size = none := I1.hok.fresh (Nat.le_refl _)
  have vv : Vals (r.map fun z => V.ref z.1) (r.map fun p => Value.ref p.1) := by
    clear hh hr
    induction r with
    | nil => exact .nil
    | cons a r ih => exact .cons rfl ih
  have I2 : Inv (plus X L) pins σ (upd H1 s1.heap.objs.size (.lst (r.map fun z => V.ref z.1))) { s1 with heap := s1.heap.push { cls := .type "list", data := .seq (r.map fun p => Value.ref p.1).toArray } } :=
    I1.laid (t' := s1.toks) (fun b u e => Heap.get?_push_of_some _ e) (Nat.le_refl _) ⟨by rw [List.length_map, hr]; exact Nat.le_of_lt (small1000 hl), _, 0, vv, Heap.get?_push_size _ rfl⟩
  refine store_ok (X := plus X L) (v := V.ref s1.heap.objs.size) I2 hN hi (.inl hy) rfl (fun s3 I3 => ?_) (.inr hy)
  refine wpAny_mono ((h2 L r ⟨_, hh⟩).run pins s3 _ _ D I3 (h r _ _ hr (e1.trans (ExtN.of fun b u e => by rw [upd_ne (ne_of_none e hf)]; exact e)) upd_same fun z m => by
    have e := Held.codes hh z m
    rw [upd_ne (ne_of_none e hf)]
    exact e)) (fun fl s4 hq => sp_less hq) fun e s4 z => z
end LB
set_option maxHeartbeats 2000000
/-! [e for x in t] whose element is asked while the maker's own state is known too. -/
namespace LB
open PySem PySem.Spec PyProof.Rows L2 LamX
abbrev bk (X : Cx) (sc : Scope) (s : Shared) (H : Hp) (C : Addr) (cl : List (Str × Addr)) (fp : List Addr) : Cx := X.blk s H sc (compEnvC sc cl C X.env) fp
/-- the reading: el says what is wanted of the element made of x, the maker's slots being σ -/
def tLcE (wi : TI) (el : L2.St → V → Hp → VK → Prop) : TE := fun σ H Q => wi σ H fun J H1 => ∀ D, H1 D = none → ∃ W : Nat → Nat → Hp → Prop, (∃ m, W 0 m (upd H1 D (.lst []))) ∧ ∀ i m H, W i m H →
  (J.stop i H ∧ Q (.ref D) H) ∨ (J.go i H ∧ ∃ Nx : Hp → Prop, (∀ H', Nx H' → ∃ m', m' < m ∧ W (i + 1) m' H') ∧ ∀ x H', J.yld i H x H' → el σ x H' fun y H4 => ∃ acc, H4 D = some (.lst acc) ∧ acc.length < sizeLine ∧ Nx (upd H4 D (.lst (acc ++ [y]))))
theorem pe_lcE {X : Cx} {elt iter : Expr} {y : Str} {py pos : Pos} {sc : Scope} {j : Nat} {wi : TI} {el : L2.St → V → Hp → VK → Prop} (hc : X.calm = true) (hN : X.N.Nodup) (hj : j < X.N.length) (hi : PI X (.Name y py) iter wi) (ok : BlkOk X.N X.env.scope sc [(y, j)])
    (hg : ∀ s H C cl fp, PG (bk X sc s H C cl fp) (.Name y py) (gName j))
    (he : ∀ (pins : List (Addr × Obj)) (σ : L2.St) (s0 : Shared) (H0 : Hp) (C : Addr) (cl : List (Str × Addr)) (fp : List Addr), (∀ pb σ' H' s', Inv (bk X sc s0 H0 C cl fp) pb σ' H' s' → Inv X pins σ H' s') →
      ∀ (pb : List (Addr × Obj)) (s1 : Shared) (σ1 : L2.St) (H1 : Hp) (x : V) (Z : VK), Inv (bk X sc s0 H0 C cl fp) pb σ1 H1 s1 → σ1[j]? = some (some x) → el σ x H1 Z → wpAny (model X.prog X.w) X.A (eval elt (compEnvC sc cl C X.env)) (EP (bk X sc s0 H0 C cl fp) pb σ1 Z) (fun _ _ => False) s1)
    (hs : ∀ x, foldedSetIterable iter X.env x = pure x := by intro _; rfl) : PE X (.ListComp elt [⟨.Name y py, iter, [], 0⟩] sc pos) (tLcE wi el) := by
  refine ⟨fun pins s σ H Q I h => ?_⟩
  rw [eval_ListComp]
  have caught : ∀ z ∈ sc.names, z.2 = .free → ∃ a, X.env.cells.lookup z.1 = some a := fun z hz e => I.ok.has _ (ok.free z hz e)
  refine wpAny_comprehension_free (use := none) rfl hs (closure_ok caught) ok.kind (fun z hz e => by rw [ok.uniq z hz, e]) ?_
  refine thn (hi.run pins s σ H _ I h) fun xv sa ha => thn ha fun itv sb hb => ?_
  obtain ⟨it, fp, tn, J, Hb, rfl, Ib, T, ready, free, q⟩ := hb
  refine wpAny_newObj_type (newEnv_comp ?_) (by show 0 ≤ sizeLine; decide)
  -- the new list, at D
  have nD : Hb sb.heap.objs.size = none := Ib.hok.fresh (Nat.le_refl _)
  obtain ⟨W, ⟨m0, w0⟩, turn⟩ := q _ nD
  have old : ∀ b ∈ fp, b < sb.heap.objs.size := fun b hb => by
    obtain ⟨o, e, _⟩ := T.obj _ _ ready b hb
    exact Heap.lt_size e
  obtain ⟨sl, hsl⟩ : ∃ sl : Shared, ({ sb with heap := sb.heap.push { cls := .type "list", data := .seq ([] : List Value).toArray } } : Shared) = sl := ⟨_, rfl⟩
  obtain ⟨Hl, hHl⟩ : ∃ Hl : Hp, upd Hb sb.heap.objs.size (.lst []) = Hl := ⟨_, rfl⟩
  have hp : sl.heap = sb.heap.push { cls := .type "list", data := .seq ([] : List Value).toArray } := by rw [← hsl]
  have Il : Inv X pins σ Hl sl := by
    rw [← hsl, ← hHl]
    exact Ib.laid (t' := sb.toks) (fun b o e => Heap.get?_push_of_some _ e) (Nat.le_refl _) ⟨Nat.zero_le _, [], 0, .nil, Heap.get?_push_size _ rfl⟩
  have freeL : ∀ b ∈ fp, FpOk X pins Hl b ∧ b < sl.heap.objs.size := fun b hb => by
    have lt := old b hb
    refine ⟨⟨?_, (free b hb).2⟩, by rw [hp, Heap.size_push]; exact Nat.lt_succ_of_lt lt⟩
    rw [← hHl, upd_ne (Nat.ne_of_lt lt)]
    exact (free b hb).1
  have readyL : tn 0 sl.heap := T.keep _ _ _ ready fun b _ o e => by rw [hp]; exact Heap.get?_push_of_some _ e
  have start := block_start Il ok hN freeL
  rw [hHl] at w0
  rw [hsl]
  obtain ⟨C, hC⟩ : ∃ C, sl.heap.objs.size = C := ⟨_, rfl⟩
  obtain ⟨cl, hcl⟩ : ∃ cl, cellsFrom (sl.heap.objs.size + 1) sc.names (cloFrom X.env.cells sc.names []) = cl := ⟨_, rfl⟩
  obtain ⟨s4, hs4⟩ : ∃ s4 : Shared, ({ sl with heap := pushCells (sl.heap.push { cls := .type "dict", data := .dict #[] }) sc.names } : Shared) = s4 := ⟨_, rfl⟩
  have ready4 : tn 0 s4.heap := T.keep _ _ _ readyL fun b _ o e => by rw [← hs4]; exact pushCells_keeps _ _ _ _ (Heap.get?_push_of_some _ e)
  rw [hcl, hC, hs4] at start
  show codeAny _ _ (.compStart (.ListComp elt [⟨.Name y py, iter, [], 0⟩] sc pos) 0 (.ref it) (.ref sb.heap.objs.size) (compEnvC sc (cellsFrom (sl.heap.objs.size + 1) sc.names (cloFrom X.env.cells sc.names [])) sl.heap.objs.size X.env)) (compPost (model X.prog X.w) X.A X.xe none (EP X pins σ Q) (.ref sb.heap.objs.size) sl.heap.objs.size) ({ sl with heap := pushCells (sl.heap.push { cls := .type "dict", data := .dict #[] }) sc.names } : Shared)
  rw [hcl, hC, hs4]
  have back : ∀ (pb : List (Addr × Obj)) (σ' : L2.St) (H' : Hp) (s' : Shared), Inv (bk X sc sl Hl C cl fp) pb σ' H' s' → Inv X pins σ H' s' := fun pb σ' H' s' Iz =>
    Il.call' (ch := fp) Iz.os Iz.base Iz.hok Iz.bare fun b hb => ⟨(freeL b hb).1.2.2.2.1, (freeL b hb).1.2.1, (freeL b hb).1.2.2.2.2.1, (freeL b hb).1.2.2.2.2.2⟩
  have still : ∀ {σ' : L2.St} {H' : Hp} {s' : Shared}, Inv (bk X sc sl Hl C cl fp) [] σ' H' s' → (∀ b ∈ fp, H' b = none) → ∀ b ∈ fp, FpOk (bk X sc sl Hl C cl fp) [] H' b := fun {σ' H' s'} Iz none b hb =>
    ⟨none b hb, (Iz.ok.exf b hb).1, Iz.ok.exfs b hb, .inl hb, fun x a e => (Iz.ok.exf b hb).2 x a e, fun p m => nomatch (show p ∈ ([] : List (Addr × Obj)) from m)⟩
  have loop : codeAny (model X.prog X.w) X.A (.compLoop (.ListComp elt [⟨.Name y py, iter, [], 0⟩] sc pos) 0 (.ref it) (.ref sb.heap.objs.size) (compEnvC sc cl C X.env)) (compPost (model X.prog X.w) X.A X.xe none (EP X pins σ Q) (.ref sb.heap.objs.size) C) s4 := by
    refine compLoop_any (fun n s' => ∃ i H', Inv (bk X sc sl Hl C cl fp) [] (wipe σ [j]) H' s' ∧ tn i s'.heap ∧ (∀ b ∈ fp, H' b = none) ∧ W i n H') ?_ m0 ⟨0, Hl, start, ready4, fun b hb => (freeL b hb).1.1, w0⟩
    rintro n s5 ⟨i, H5, I5, r5, n5, w5⟩
    rcases turn i n H5 w5 with ⟨ends, qe⟩ | ⟨goes, Nx, hNx, step⟩
    · refine thnF (T.done (bk X sc sl Hl C cl fp) rfl rfl rfl hc i [] s5 _ H5 (fun _ _ => False) I5 (still I5 n5) r5 ends) fun r s6 hr => ?_
      obtain ⟨rfl, I6⟩ := hr
      obtain ⟨m, hns, _⟩ := I6.loc
      have no : H5 C = none := I6.free
      refine ⟨m, hns, fun h6 sb6 => ?_⟩
      obtain ⟨_, f1, f2, f3, f4, f5⟩ := Il.fpOk (b := C) (Nat.le_of_eq hC) no
      exact ⟨.ref sb.heap.objs.size, H5, (back [] _ H5 s6 I6).turned (t' := s6.toks) (fun b o hb e => (sb6.2 b hb).trans e) no f1 f3 f4 f5, rfl, qe⟩
    · refine thnF (T.item (bk X sc sl Hl C cl fp) rfl rfl rfl hc i [] s5 _ H5 (fun _ _ => False) I5 (still I5 n5) r5 goes) fun r s6 hr => ?_
      obtain ⟨u, rfl, h6⟩ := hr
      refine thnF h6 fun _ s7 h7 => ?_
      obtain ⟨x, H7, I7, rx, y7, r7, n7⟩ := h7
      have Ip := I7.pinned (still I7 n7) (T.obj _ _ r7)
      refine thnF ((hg sl Hl C cl fp).run _ s7 _ H7 x u (fun σ8 H8 => σ8 = (wipe σ [j]).set j (some x) ∧ H8 = H7) Ip rx ⟨rfl, rfl⟩) fun _ s8 h8 => ?_
      obtain ⟨σ8, H8, I8, rfl, rfl⟩ := h8
      have at_j : ((wipe σ [j]).set j (some x))[j]? = some (some x) := by
        rw [List.getElem?_set_self]
        rw [wipe_length, Il.len]
        exact hj
      refine wpAny_tests_nil ?_
      rw [if_pos rfl]
      refine thnF (he pins σ sl Hl C cl fp back _ s8 _ H8 x _ I8 at_j (step x H8 y7)) fun z s9 h9 => ?_
      obtain ⟨yv, H9, I9, rz, acc, eD, lt, nx⟩ := h9
      refine app_ok (X := bk X sc sl Hl C cl fp) I9 eD lt rz fun sA IA => ?_
      obtain ⟨m', hm, w'⟩ := hNx _ nx
      have kept : ∀ b ∈ fp, ∀ o, s7.heap.get? b = some o → sA.heap.get? b = some o ∧ upd H9 sb.heap.objs.size (.lst (acc ++ [yv])) b = none := fun b hb o e => by
        have z := IA.pin (b, o) (List.mem_append_right _ (List.mem_append_right _ (mem_pinsAt hb e)))
        exact ⟨z.1, z.2.1⟩
      refine ⟨m', hm, i + 1, _, (IA.unpinned (pins := [])).weak ?_ (fun a v e => ?_), T.keep _ _ _ r7 fun b hb o e => (kept b hb o e).1, fun b hb => ?_, w'⟩
      · rw [List.length_set]
      · have ne : a ≠ j := fun q => by
          rw [q] at e
          exact (wipe_some e).2 (by simp)
        rw [List.getElem?_set_ne (Ne.symm ne)]
        exact e
      · obtain ⟨o, e, _⟩ := T.obj _ _ r7 b hb
        exact (kept b hb o e).2
  exact codeAny_compStart_list loop (T.self X.A 0 _ _ _ ready4 loop)
end LB
namespace LW
open PySem L2 LB
local macro_rules | `(tactic| walk_at "hp") => `(tactic| first
  | (with_reducible assumption) | (with_reducible exact Rep.int _) | (with_reducible exact Rep.bl _) | (with_reducible exact Rep.non) | (with_reducible exact Rep.str _)
  | ((with_reducible refine' Rep.same ?kk ?hh); (case kk => with_reducible assumption); (case hh => walk_at "hp"))
  | ((with_reducible refine' Rep.kt ?kk ?hh); (case kk => with_reducible assumption); (case hh => walk_at "hp")))
local macro_rules | `(tactic| walk_at "bd") => `(tactic| first
  | (with_reducible assumption)
  | exact bd_lit (n := 64) (by decide)
  | (with_reducible refine' Bd.mul ?_ ?_) <;> walk_at "bd"
  | (with_reducible refine' Bd.add ?_ ?_) <;> walk_at "bd"
  | (with_reducible refine' Bd.sub ?_ ?_) <;> walk_at "bd"
  | (with_reducible refine' Bd.neg ?_) <;> walk_at "bd")
local macro_rules | `(tactic| walk_at "ev") => `(tactic| first
  | (with_reducible exact ev_int) | (with_reducible exact ev_bl) | (with_reducible exact ev_non) | (with_reducible exact ev_str)
  | ((with_reducible refine' ev_var ?e ?hh); (case e => rfl); (case hh => walk_at "hp"))
  | (with_reducible refine' ev_add ?_ ?_) <;> walk_at "ev"
  | (with_reducible refine' ev_sub ?_ ?_) <;> walk_at "ev"
  | ((with_reducible refine' ev_mul ?m1 ?m2 ?m3); (case m1 => walk_at "ev"); (case m2 => walk_at "ev"); (case m3 => (refine' Bd.mulW ?b1 ?b2 ?b3; (case b1 => walk_at "bd"); (case b2 => walk_at "bd"); (case b3 => decide))))
  | ((with_reducible refine' ev_ix ?m1 ?m2); (case m1 => walk_at "ev"); (case m2 => rfl))
  | ((with_reducible refine' ev_tup ?m1 ?m2); (case m1 => walk_at "eva"); (case m2 => exact Nat.le_of_ble_eq_true rfl))
  | (with_reducible refine' ev_neg ?_) <;> walk_at "ev"
  | (with_reducible refine' ev_lt ?_ ?_) <;> walk_at "ev"
  | (with_reducible refine' ev_le ?_ ?_) <;> walk_at "ev"
  | (with_reducible refine' ev_gt ?_ ?_) <;> walk_at "ev"
  | (with_reducible refine' ev_ge ?_ ?_) <;> walk_at "ev"
  | (with_reducible refine' ev_eqI ?_ ?_) <;> walk_at "ev"
  | (with_reducible refine' ev_neI ?_ ?_) <;> walk_at "ev"
  | (with_reducible refine' ev_intI ?_) <;> walk_at "eva"
  | (with_reducible refine' ev_lenT ?_) <;> walk_at "eva"
  | walk_at "evx")
local macro_rules | `(tactic| walk_at "eva") => `(tactic| first
  | (with_reducible exact eva_nil)
  | ((with_reducible refine' eva_cons ?v1 ?v2); (case v1 => walk_at "ev"); (case v2 => walk_at "eva")))
local macro_rules | `(tactic| walk_at "evx") => `(tactic| first
  | ((with_reducible refine' ev_pget ?a ?b ?c); (case a => rfl); (case b => with_reducible assumption); (case c => first | (with_reducible exact p_at _) | (with_reducible exact p_dg _) | (with_reducible exact p_ct _) | (with_reducible exact p_fo _))))
local macro_rules | `(tactic| walk_at "sh") => `(tactic| first
  | (with_reducible assumption)
  | ((with_reducible refine' ShAt.same ?hh ?kk); (case kk => with_reducible assumption); (case hh => walk_at "sh"))
  | ((with_reducible refine' ShAt.kt ?hh ?kk); (case kk => with_reducible assumption); (case hh => walk_at "sh")))
local macro_rules | `(tactic| walk_at "evx") => `(tactic| first
  | ((with_reducible refine' ev_base ?e ?h ?c ?n); (case e => rfl); (case h => walk_at "sh"); (case c => with_reducible assumption); (case n => with_reducible assumption))
  | ((with_reducible refine' ev_price ?e ?h ?c ?n); (case e => rfl); (case h => walk_at "sh"); (case c => with_reducible assumption); (case n => with_reducible assumption))
  | ((with_reducible refine' ev_steps ?e ?h ?c ?n); (case e => rfl); (case h => walk_at "sh"); (case c => with_reducible assumption); (case n => with_reducible assumption))
  | ((with_reducible refine' ev_prices ?e ?h ?c ?n); (case e => rfl); (case h => walk_at "sh"); (case c => with_reducible assumption); (case n => with_reducible assumption)))
def top (i : Nat) : Stmt := PySem.Challenge.pw_alljourneys_k03_sheets_made_and_moved.main.body.getD i (.Pass ⟨0, 0, 0, 0⟩)
abbrev s_pcross : Stmt := top 5
abbrev N_pcross : List Str := ["one", "other"]
theorem sc_pcross : FnScope N_pcross ["one", "other"] (defScope s_pcross) := ⟨rfl, rfl, rfl, by decide +kernel, rfl, by decide +kernel, by decide +kernel⟩
abbrev s_are_steps : Stmt := top 6
abbrev N_are_steps : List Str := ["steps"]
theorem sc_are_steps : FnScope N_are_steps ["steps"] (defScope s_are_steps) := ⟨rfl, rfl, rfl, by decide +kernel, rfl, by decide +kernel, by decide +kernel⟩
abbrev s_init : Stmt := inClass (top 8) 0
abbrev N_init : List Str := ["self", "base", "price", "steps", "prices"]
theorem sc_init : FnScope N_init ["self", "base", "price", "steps", "prices"] (defScope s_init) := ⟨rfl, rfl, rfl, by decide +kernel, rfl, by decide +kernel, by decide +kernel⟩
abbrev s_eq : Stmt := inClass (top 8) 1
abbrev N_eq : List Str := ["self", "other"]
theorem sc_eq : FnScope N_eq ["self", "other"] (defScope s_eq) := ⟨rfl, rfl, rfl, by decide +kernel, rfl, by decide +kernel, by decide +kernel⟩
abbrev s_moved : Stmt := inClass (top 8) 6
abbrev N_moved : List Str := ["self", "shift", "price", "base"]
theorem sc_moved : FnScope N_moved ["self", "shift", "price"] (defScope s_moved) := ⟨rfl, rfl, rfl, by decide +kernel, rfl, by decide +kernel, by decide +kernel⟩
abbrev s_pen : Stmt := top 10
abbrev N_pen : List Str := ["_law_script", "_law_fold", "_law_cell"]
theorem sc_pen : FnScope N_pen ["_law_script"] (defScope s_pen) := ⟨rfl, rfl, rfl, by decide +kernel, rfl, by decide +kernel, by decide +kernel⟩
abbrev s_draw : Stmt := top 11
abbrev N_draw : List Str := ["_law_pen_here", "_law_many", "_law_cell", "_law_digit", "_law_mixed"]
theorem sc_draw : FnScope N_draw ["_law_pen_here", "_law_many"] (defScope s_draw) := ⟨rfl, rfl, rfl, by decide +kernel, rfl, by decide +kernel, by decide +kernel⟩
abbrev s_pick : Stmt := top 12
abbrev N_pick : List Str := ["_law_pen_here", "_law_some"]
theorem sc_pick : FnScope N_pick ["_law_pen_here", "_law_some"] (defScope s_pick) := ⟨rfl, rfl, rfl, by decide +kernel, rfl, by decide +kernel, by decide +kernel⟩
abbrev s_lcross : Stmt := top 13
abbrev N_lcross : List Str := ["_law_one", "_law_two"]
theorem sc_lcross : FnScope N_lcross ["_law_one", "_law_two"] (defScope s_lcross) := ⟨rfl, rfl, rfl, by decide +kernel, rfl, by decide +kernel, by decide +kernel⟩
abbrev s_lplus : Stmt := top 14
abbrev N_lplus : List Str := ["_law_one", "_law_two"]
theorem sc_lplus : FnScope N_lplus ["_law_one", "_law_two"] (defScope s_lplus) := ⟨rfl, rfl, rfl, by decide +kernel, rfl, by decide +kernel, by decide +kernel⟩
abbrev s_lmoved : Stmt := top 15
abbrev N_lmoved : List Str := ["_law_sheet", "_law_shift", "_law_price"]
theorem sc_lmoved : FnScope N_lmoved ["_law_sheet", "_law_shift", "_law_price"] (defScope s_lmoved) := ⟨rfl, rfl, rfl, by decide +kernel, rfl, by decide +kernel, by decide +kernel⟩
abbrev s_wide : Stmt := top 16
abbrev N_wide : List Str := ["_law_pen_here", "_law_number", "_law_k"]
theorem sc_wide : FnScope N_wide ["_law_pen_here"] (defScope s_wide) := ⟨rfl, rfl, rfl, by decide +kernel, rfl, by decide +kernel, by decide +kernel⟩
abbrev s_lexact : Stmt := top 17
abbrev N_lexact : List Str := ["_law_told", "_law_due", "_law_one", "_law_other"]
theorem sc_lexact : FnScope N_lexact ["_law_told", "_law_due"] (defScope s_lexact) := ⟨rfl, rfl, rfl, by decide +kernel, rfl, by decide +kernel, by decide +kernel⟩
abbrev s_near : Stmt := top 18
abbrev N_near : List Str := ["_law_pen_here", "_law_wide_here", "_law_x"]
theorem sc_near : FnScope N_near ["_law_pen_here", "_law_wide_here"] (defScope s_near) := ⟨rfl, rfl, rfl, by decide +kernel, rfl, by decide +kernel, by decide +kernel⟩
abbrev s_steps : Stmt := top 19
abbrev N_steps : List Str := ["_law_pen_here", "_law_many", "_law_wide_here", "_law_steps_here", "_law_k", "_law_step"]
theorem sc_steps : FnScope N_steps ["_law_pen_here", "_law_many", "_law_wide_here"] (defScope s_steps) := ⟨rfl, rfl, rfl, by decide +kernel, rfl, by decide +kernel, by decide +kernel⟩
abbrev s_made : Stmt := top 20
abbrev N_made : List Str := ["_law_row"]
theorem sc_made : FnScope N_made ["_law_row"] (defScope s_made) := ⟨rfl, rfl, rfl, by decide +kernel, rfl, by decide +kernel, by decide +kernel⟩
abbrev s_is_sheet : Stmt := top 22
abbrev N_is_sheet : List Str := ["_law_told", "_law_row"]
theorem sc_is_sheet : FnScope N_is_sheet ["_law_told", "_law_row"] (defScope s_is_sheet) := ⟨rfl, rfl, rfl, by decide +kernel, rfl, by decide +kernel, by decide +kernel⟩
abbrev s_changed : Stmt := top 23
abbrev N_changed : List Str := ["_law_pen_here", "_law_row", "_law_way", "_law_more", "_law_at", "_law_step"]
theorem sc_changed : FnScope N_changed ["_law_pen_here", "_law_row"] (defScope s_changed) := ⟨rfl, rfl, rfl, by decide +kernel, rfl, by decide +kernel, by decide +kernel⟩
abbrev s_bad_steps : Stmt := top 24
abbrev N_bad_steps : List Str := ["_law_pen_here", "_law_steps_here", "_law_way", "_law_many", "_law_step", "_law_line"]
theorem sc_bad_steps : FnScope N_bad_steps ["_law_pen_here", "_law_steps_here"] (defScope s_bad_steps) := ⟨rfl, rfl, rfl, by decide +kernel, rfl, by decide +kernel, by decide +kernel⟩
abbrev s_iBadSheet : Stmt := inClass (top 3) 0
abbrev N_iBadSheet : List Str := ["self", "what"]
theorem sc_iBadSheet : FnScope N_iBadSheet ["self", "what"] (defScope s_iBadSheet) := ⟨rfl, rfl, rfl, by decide +kernel, rfl, by decide +kernel, by decide +kernel⟩
abbrev s_refused : Stmt := top 21
abbrev N_refused : List Str := ["_law_call", "_law_found", "e"]
theorem sc_refused : FnScope N_refused ["_law_call"] (defScope s_refused) := ⟨rfl, rfl, rfl, by decide +kernel, rfl, by decide +kernel, by decide +kernel⟩
abbrev s_refuses : Stmt := top 25
abbrev N_refuses : List Str := ["_law_pen_here", "_law_row", "_law_steps_here", "_law_prices", "_law_fitting", "_law_wrong", "_law_calls", "_law_step", "_law_call"]
theorem sc_refuses : FnScope N_refuses ["_law_pen_here", "_law_row"] (defScope s_refuses) := ⟨rfl, rfl, rfl, by decide +kernel, rfl, by decide +kernel, by decide +kernel⟩
abbrev s_law : Stmt := top 26
abbrev N_law : List Str := ["_law_script", "_law_pen_here", "_law_many", "_law_steps_here", "_law_row", "_law_given", "_law_sheet", "_law_other", "_law_shift", "_law_price", "_law_step"]
theorem sc_law : FnScope N_law ["_law_script"] (defScope s_law) := ⟨rfl, rfl, rfl, by decide +kernel, rfl, by decide +kernel, by decide +kernel⟩
structure Df (K : Fr) (mg : Str → Option Value) (x : Str) (st : Stmt) (ps : List Str) (f : Addr) (fd : FuncData) : Prop where
  F : FunD K x x st f fd
  m : mg x = some (.ref f)
  b : Binds K fd ps []
structure Dm (K : Fr) (C : Addr) (x q : Str) (st : Stmt) (ps : List Str) (f : Addr) (fd : FuncData) : Prop where
  F : FunD K x q st f fd
  m : Meth K C x f
/-- what the top has written -/
structure Txt (K : Fr) (mg : Str → Option Value) where
  a_pcross : Addr
  f_pcross : FuncData
  d_pcross : Df K mg "cross" s_pcross ["one", "other"] a_pcross f_pcross
  a_are_steps : Addr
  f_are_steps : FuncData
  d_are_steps : Df K mg "_are_steps" s_are_steps ["steps"] a_are_steps f_are_steps
  a_pen : Addr
  f_pen : FuncData
  d_pen : Df K mg "_law_pen" s_pen ["_law_script"] a_pen f_pen
  a_draw : Addr
  f_draw : FuncData
  d_draw : Df K mg "_law_draw" s_draw ["_law_pen_here", "_law_many"] a_draw f_draw
  a_pick : Addr
  f_pick : FuncData
  d_pick : Df K mg "_law_pick" s_pick ["_law_pen_here", "_law_some"] a_pick f_pick
  a_lcross : Addr
  f_lcross : FuncData
  d_lcross : Df K mg "_law_cross" s_lcross ["_law_one", "_law_two"] a_lcross f_lcross
  a_lplus : Addr
  f_lplus : FuncData
  d_lplus : Df K mg "_law_plus" s_lplus ["_law_one", "_law_two"] a_lplus f_lplus
  a_lmoved : Addr
  f_lmoved : FuncData
  d_lmoved : Df K mg "_law_moved" s_lmoved ["_law_sheet", "_law_shift", "_law_price"] a_lmoved f_lmoved
  a_wide : Addr
  f_wide : FuncData
  d_wide : Df K mg "_law_wide" s_wide ["_law_pen_here"] a_wide f_wide
  a_lexact : Addr
  f_lexact : FuncData
  d_lexact : Df K mg "_law_exact" s_lexact ["_law_told", "_law_due"] a_lexact f_lexact
  a_near : Addr
  f_near : FuncData
  d_near : Df K mg "_law_near" s_near ["_law_pen_here", "_law_wide_here"] a_near f_near
  a_steps : Addr
  f_steps : FuncData
  d_steps : Df K mg "_law_steps" s_steps ["_law_pen_here", "_law_many", "_law_wide_here"] a_steps f_steps
  a_made : Addr
  f_made : FuncData
  d_made : Df K mg "_law_made" s_made ["_law_row"] a_made f_made
  a_is_sheet : Addr
  f_is_sheet : FuncData
  d_is_sheet : Df K mg "_law_is_sheet" s_is_sheet ["_law_told", "_law_row"] a_is_sheet f_is_sheet
  a_changed : Addr
  f_changed : FuncData
  d_changed : Df K mg "_law_changed" s_changed ["_law_pen_here", "_law_row"] a_changed f_changed
  a_bad_steps : Addr
  f_bad_steps : FuncData
  d_bad_steps : Df K mg "_law_bad_steps" s_bad_steps ["_law_pen_here", "_law_steps_here"] a_bad_steps f_bad_steps
  a_refused : Addr
  f_refused : FuncData
  d_refused : Df K mg "_law_refused" s_refused ["_law_call"] a_refused f_refused
  a_refuses : Addr
  f_refuses : FuncData
  d_refuses : Df K mg "_law_refuses" s_refuses ["_law_pen_here", "_law_row"] a_refuses f_refuses
  a_law : Addr
  f_law : FuncData
  d_law : Df K mg "law" s_law ["_law_script"] a_law f_law
  C_Sheet : Addr
  c_Sheet : Cls K C_Sheet
  g_Sheet : mg "Sheet" = some (.ref C_Sheet)
  n_Sheet_base : NoAttr K C_Sheet "base"
  n_Sheet_price : NoAttr K C_Sheet "price"
  n_Sheet_steps : NoAttr K C_Sheet "steps"
  n_Sheet_prices : NoAttr K C_Sheet "prices"
  i_Sheet : InsT K C_Sheet
  q_Sheet : PySem.W.notFirst K C_Sheet (.type "tuple") = true
  r_Sheet : PySem.W.kitOne K (.type "tuple") (.ref C_Sheet) = some false
  C_JourneyError : Addr
  g_JourneyError : mg "JourneyError" = some (.ref C_JourneyError)
  C_BadSheet : Addr
  e_BadSheet : ExK K C_BadSheet
  g_BadSheet : mg "BadSheet" = some (.ref C_BadSheet)
  n_BadSheet_what : PySem.W.findIn K (.ref C_BadSheet) "what" = some none
  y_BadSheet : PySem.W.exmOne K (.ref C_BadSheet) (.ref C_BadSheet) = some true
  kits : ∀ (i : Nat) (C : Addr), [C_BadSheet][i]? = some C → PySem.W.kitOne K (.ref C) (.ref C_JourneyError) = some true ∧ PySem.W.kitOne K (.ref C) (.type "ValueError") = some true ∧ ∀ (j : Nat) (D : Addr), [C_BadSheet][j]? = some D → PySem.W.kitOne K (.ref C) (.ref D) = some (decide (j = i))
  a_init : Addr
  f_init : FuncData
  d_init : Dm K C_Sheet "__init__" "Sheet.__init__" s_init ["self", "base", "price", "steps", "prices"] a_init f_init
  k_Sheet : Mk K C_Sheet a_init
  b_init : Binds K f_init ["self", "base", "price", "steps", "prices"] []
  y_init : Dfl2 K f_init ["self", "base", "price", "steps", "prices"]
  a_eq : Addr
  f_eq : FuncData
  d_eq : Dm K C_Sheet "__eq__" "Sheet.__eq__" s_eq ["self", "other"] a_eq f_eq
  b_eq : Binds K f_eq ["self", "other"] []
  a_moved : Addr
  f_moved : FuncData
  d_moved : Dm K C_Sheet "moved" "Sheet.moved" s_moved ["self", "shift", "price"] a_moved f_moved
  b_moved : Binds K f_moved ["self", "shift", "price"] []
  a_iBadSheet : Addr
  f_iBadSheet : FuncData
  d_iBadSheet : Dm K C_BadSheet "__init__" "BadSheet.__init__" s_iBadSheet ["self", "what"] a_iBadSheet f_iBadSheet
  b_iBadSheet : Binds K f_iBadSheet ["self", "what"] []
  c_refuses : Addr
  P_refuses : Addr
  t_refuses : FunT K "_law_refuses" s_refuses a_refuses f_refuses c_refuses
  z_len : mg "len" = none
  z_any : mg "any" = none
  z_tuple : mg "tuple" = none
  z_int : mg "int" = none
  z_list : mg "list" = none
  z_zip : mg "zip" = none
  z_range : mg "range" = none
  z_all : mg "all" = none
  z_isinstance : mg "isinstance" = none
  z_bool : mg "bool" = none
  z_abs : mg "abs" = none
section
variable {P : Program} {w : World} {K : Fr} {mg : Str → Option Value} {base : Heap}
/-! ### draws -/
set_option maxHeartbeats 2000000 in
theorem ok_draw (T : Txt K mg) : FnOk P w K mg base CX0 1 T.a_draw T.f_draw ["_law_pen_here", "_law_many"] spDraw := by
  refine T.d_draw.F.ok sc_draw (fun vs H Q E h => ?_) (fun cdv A outer s H vs Q E hr h => ?_)
  · obtain ⟨c, d, n, m, rfl, _⟩ := h
    rfl
  · obtain ⟨c, d, n, m, rfl, ⟨p, P0, hcc, a0, c0, c1, f0, f1⟩, hn, hm, hm2, k⟩ := h
    have hu := hu_of hr
    refine ⟨_, (pss_cons (ps_dput hu (pv 0) pe_str (pe_op op_add (pe_dget hu (pv 0) pe_str (fun _ _ => rfl)) pe_int) rfl)
    (pss_meet (ps_if (PW.pt (pw_and (pt_cmpR op_eq (pe_dget hu (pv 0) pe_str (fun _ _ => rfl)) pe_int (nomark _)) (pw_and1 (pt_cmpR op_lt (pe_dget hu (pv 0) pe_str (fun _ _ => rfl)) (pe_callB call_len_seq (by rfl) T.z_len (by decide +kernel) (pa_cons (pe_dget hu (pv 0) pe_str (fun _ _ => rfl)) pa_nil)) (nomark _))))) (pss_cons (ps_set (i := 2) sc_draw.nd rfl (Or.inl rfl) (pe_ix (ix_lK K) (pe_dget hu (pv 0) pe_str (fun _ _ => rfl)) (pe_dget hu (pv 0) pe_str (fun _ _ => rfl)) (fun _ _ => rfl)))
    (pss_cons (ps_dput hu (pv 0) pe_str (pe_op op_add (pe_dget hu (pv 0) pe_str (fun _ _ => rfl)) pe_int) rfl)
    (pss_one (ps_if (pt_cmpR op_ge (pv 2) (pe_op op_pow pe_int pe_int) (nomark _)) (pss_one (ps_dput hu (pv 0) pe_str (pe_op op_sub (pv 2) (pe_op op_pow pe_int pe_int)) rfl)) (pss_one (ps_dput hu (pv 0) pe_str (pe_op op_mod (pe_callTy call_int1 (by rfl) T.z_int (by decide +kernel) (pa_cons (pe_op op_add (pe_op op_mulW (pe_dget hu (pv 0) pe_str (fun _ _ => rfl)) pe_int) (pv 2)) pa_nil)) pe_int) rfl)))))) pss_nil)
    (pss_cons (ps_if (pt_cmpR op_gt (pe_dget hu (pv 0) pe_str (fun _ _ => rfl)) pe_int (nomark _)) (pss_cons (ps_set (i := 3) sc_draw.nd rfl (Or.inl rfl) (pe_op op_mod (pe_callTy call_int1 (by rfl) T.z_int (by decide +kernel) (pa_cons (pe_dget hu (pv 0) pe_str (fun _ _ => rfl)) pa_nil)) (pv 1)))
    (pss_cons (ps_dput hu (pv 0) pe_str (pe_op op_fdivW (pe_dget hu (pv 0) pe_str (fun _ _ => rfl)) (pv 1)) rfl)
    (pss_one (ps_ret (pv 3))))) pss_nil)
    (pss_cons (ps_set (i := 4) sc_draw.nd rfl (Or.inl rfl) (pe_op op_add (pe_op op_add (pe_dget hu (pv 0) pe_str (fun _ _ => rfl)) (pe_op op_mulW (pe_dget hu (pv 0) pe_str (fun _ _ => rfl)) pe_int)) pe_int))
    (pss_one (ps_ret (pe_op op_mod (pe_op op_fdivW (pe_callTy call_int1 (by rfl) T.z_int (by decide +kernel) (pa_cons (pe_op op_mod (pe_op op_pow (pv 4) pe_int) pe_int) pa_nil)) pe_int) (pv 1)))))))), ?_⟩
    try dsimp only [cxOf]
    rw [show L2.start N_draw [V.ref d, V.int m] = [some (.ref d), some (.int m), none, none, none] from rfl]
    have em : ∀ H, Rep K H (.int m) (.int m) := fun _ => .int m
    -- the count
    with_reducible refine s_pputs (K := K) (x := p.ct + 1) ?e P0 ?v (u_ct p _) fun H1 k1 e1 l1 => ?_
    case e => rfl
    case v => walk_at "ev"
    have P1 : Pn H1 d { p with ct := p.ct + 1 } := ⟨e1, l1, P0.ne⟩
    generalize hp1 : { p with ct := p.ct + 1 } = p1 at P1
    have q1 : p1.at_ = p.at_ ∧ p1.ct = p.ct + 1 ∧ p1.fo = p.fo ∧ p1.c = c := by subst hp1; exact ⟨rfl, rfl, rfl, hcc⟩
    -- a cell is taken, or not
    with_reducible refine s_meet (fun σ' H' => ∃ p2 v2, σ' = [some (.ref d), some (.int m), v2, none, none] ∧ Kd d H H' ∧ Pn H' d p2 ∧ p2.c = c ∧ 0 ≤ p2.at_ ∧ p2.ct = p.ct + 1 ∧ 0 ≤ p2.fo ∧ p2.fo < 2147483587) ?rest ?_
    case rest =>
      rintro σ' H2 ⟨p2, v2, rfl, k2, P2, bc, b0, b1, b2, b3⟩
      with_reducible refine s_ifr (c := decide (0 < p2.dg)) (evb_test (K := K) ?t) (fun ht H3 s3 => ?_) (fun hf H3 s3 => ?_)
      case t => walk_at "ev"
      · have P3 := P2.same s3
        with_reducible refine s_set (K := K) (d := .int (p2.dg % m)) ?t fun v H4 s4 r4 => ?_
        case t =>
          with_reducible refine ev_mod (ev_intI (eva_cons ?_ eva_nil)) ?_ hm
          all_goals walk_at "ev"
        have P4 := P3.same s4
        have e4 := r4.int_inv
        subst e4
        with_reducible refine s_pputs (K := K) (x := p2.dg / m) ?e P4 ?t (u_dg p2 _) fun H5 k5 e5 l5 => ?_
        case e => rfl
        case t =>
          with_reducible refine ev_fdiv ?_ ?_ ?_
          · walk_at "ev"
          · walk_at "ev"
          · exact Bd.divW (n := 30) (Bd.of_range (lo := 0) (hi := 1073741824) (by omega) hm2 (by decide) (by decide)) hm (by decide)
        have P5 : Pn H5 d { p2 with dg := p2.dg / m } := ⟨e5, l5, P2.ne⟩
        with_reducible refine s_ret (K := K) (d := .int (p2.dg % m)) ?t fun v H6 s6 r6 => ?_
        case t => walk_at "ev"
        have e6 := r6.int_inv
        subst e6
        refine k _ H6 (Int.emod_nonneg _ (by omega)) (Int.emod_lt_of_pos _ hm) (((k2.trans (kd_same (s3.trans s4))).trans k5).trans (kd_same s6)) ⟨_, P5.same s6, bc, b0, ?_, ?_, b2, b3⟩
        · show 0 ≤ p2.ct
          omega
        · show p2.ct ≤ _
          omega
      · have P3 := P2.same s3
        have hb1 : Bd 40 p2.ct := Bd.of_range (lo := 0) (hi := 1000000001) (by omega) (by omega) (by decide) (by decide)
        have hb2 : p2.ct * 7907 ≤ 1000000001 * 7907 := by omega
        with_reducible refine s_set (K := K) (d := .int (p2.fo + p2.ct * 7907 + 37)) ?t fun v H4 s4 r4 => ?_
        case t => walk_at "ev"
        have hx : (p2.fo + p2.ct * 7907 + 37).natAbs < 2 ^ 64 := by omega
        have e4 := r4.int_inv
        subst e4
        with_reducible refine s_ret (K := K) (d := .int ((p2.fo + p2.ct * 7907 + 37) ^ 17 % 2305843009213693951 / 128 % m)) ?_ fun v H5 s5 r5 => ?_
        · refine ev_mod (ev_fdiv (ev_intI (eva_cons (ev_mod (ev_pow (y := 17) ?_ ?_ ⟨by decide, by decide, hx⟩ rfl) ?_ (by decide)) eva_nil)) ?_ ⟨by decide, by decide⟩) ?_ hm <;> walk_at "ev"
        · have e5 := r5.int_inv
          subst e5
          refine k _ H5 (Int.emod_nonneg _ (by omega)) (Int.emod_lt_of_pos _ hm) (k2.trans (kd_same (s3.trans (s4.trans s5)))) ⟨p2, (P3.same s4).same s5, bc, b0, by omega, ?_, b2, b3⟩
          omega
    · obtain ⟨qa, qc, qf, qcc⟩ := q1
      obtain ⟨g, hg⟩ : ∃ g : Int, (10 : Int) ^ (18 : Int).toNat = g := ⟨_, rfl⟩
      have eg : ∀ H σ, Ev K (tOp (rI CPow fun i j => .int (i ^ j.toNat)) (tC (.int 10)) (tC (.int 18))) σ H (.int g) := fun _ _ => ev_pow ev_int ev_int ⟨by decide, by decide, by decide⟩ hg
      with_reducible refine s_if (c := decide (p1.dg = 0) && decide (p1.at_ < p1.cells.length)) (evb_and (evb_test (K := K) ?t1) fun _ => evb_test (K := K) (ev_lt ?t2 (ev_lencells ?t3 P1))) (fun ht H2 s2 => ?_) (fun hf H2 s2 => s_next ?_)
      case t1 => walk_at "ev"
      case t2 => walk_at "ev"
      case t3 => rfl
      · have P2 := P1.same s2
        have ht2 : p1.at_ < p1.cells.length := by
          have := (Bool.and_eq_true_iff.mp ht).2
          exact of_decide_eq_true this
        have ej : p1.at_ = (p1.at_.toNat : Nat) := by omega
        have hj : p1.at_.toNat < p1.cells.length := by omega
        with_reducible refine s_set (K := K) (d := .int p1.cells[p1.at_.toNat]) (ev_cell ?t P2 ej ?t4) fun v H3 s3 r3 => ?_
        case t => rfl
        case t4 => simp [hj]
        generalize p1.cells[p1.at_.toNat] = x at r3
        have P3 := P2.same s3
        have e3 := r3.int_inv
        subst e3
        with_reducible refine s_pputs (K := K) (x := p1.at_ + 1) ?e P3 ?t (u_at p1 _) fun H4 k4 e4 l4 => ?_
        case e => rfl
        case t => walk_at "ev"
        have P4 : Pn H4 d { p1 with at_ := p1.at_ + 1 } := ⟨e4, l4, P1.ne⟩
        have k04 : Kd d H H4 := (k1.trans (kd_same (s2.trans s3))).trans k4
        have ex : ∀ H, Rep K H (.int x) (.int x) := fun _ => .int x
        with_reducible refine s_if (c := decide (g ≤ x)) (evb_test (K := K) (ev_ge ?t (eg _ _))) (fun _ H5 s5 => ?_) (fun _ H5 s5 => ?_)
        case t => walk_at "ev"
        · have P5 := P4.same s5
          with_reducible refine s_pput (K := K) (x := x - g) ?e P5 (ev_sub ?t (eg _ _)) (u_dg _ _) fun H6 k6 e6 l6 => ?_
          case e => rfl
          case t => walk_at "ev"
          refine ⟨_, _, rfl, (k04.trans (kd_same s5)).trans k6, ⟨e6, l6, P1.ne⟩, qcc, ?_, ?_, ?_, ?_⟩
          · show 0 ≤ p1.at_ + 1
            omega
          · exact qc
          · show 0 ≤ p1.fo
            omega
          · show p1.fo < _
            omega
        · have P5 := P4.same s5
          have hb1 : Bd 40 p1.fo := Bd.of_range (lo := 0) (hi := 2147483587) (by omega) (by omega) (by decide) (by decide)
          with_reducible refine s_pput (K := K) (x := (p1.fo * 69069 + x) % 2147483587) ?e P5 ?t (u_fo _ _) fun H6 k6 e6 l6 => ?_
          case e => rfl
          case t =>
            refine ev_mod (ev_intI (eva_cons (ev_add (ev_mul ?_ ?_ (Bd.mulW hb1 (bd_lit (n := 64) (by decide)) (by decide))) ?_) eva_nil)) ?_ (by decide) <;> walk_at "ev"
          refine ⟨_, _, rfl, (k04.trans (kd_same s5)).trans k6, ⟨e6, l6, P1.ne⟩, qcc, ?_, ?_, ?_, ?_⟩
          · show 0 ≤ p1.at_ + 1
            omega
          · exact qc
          · exact Int.emod_nonneg _ (by decide)
          · exact Int.emod_lt_of_pos _ (by decide)
      · refine ⟨p1, none, rfl, k1.trans (kd_same s2), P1.same s2, qcc, by omega, by omega, by omega, by omega⟩
theorem ok_pick (T : Txt K mg) : FnOk P w K mg base CX0 2 T.a_pick T.f_pick ["_law_pen_here", "_law_some"] spPick := by
  refine T.d_pick.F.ok sc_pick (fun vs H Q E h => ?_) (fun cdv A outer s H vs Q E hr h => ?_)
  · obtain ⟨c, d, l, n, xs, rfl, _⟩ := h
    rfl
  · obtain ⟨c, d, l, n, xs, rfl, P0, hn, hl, h0, h1, k⟩ := h
    have hu := hu_of hr
    refine ⟨_, (pss_one (ps_ret (pe_ix (ix_lK K) (pv 1) (pe_call (ok_draw T) (hr.mono (by decide)) rfl T.d_draw.m T.d_draw.F.kp T.d_draw.b .nil pass0 (pa_cons (pv 0) (pa_cons (pe_callB call_len_seq (by rfl) T.z_len (by decide +kernel) (pa_cons (pv 1) pa_nil)) pa_nil))) (fun _ _ => rfl)))), ?_⟩
    refine ⟨_, rfl, _, rfl, _, rfl, l, xs, rfl, .inl (SqL.of hl), ?_⟩
    refine ⟨c, d, n, xs.length, rfl, P0, hn, by omega, by omega, fun r H' r0 r1 kd P' => ?_⟩
    obtain ⟨j, rfl⟩ : ∃ j : Nat, r = j := ⟨r.toNat, by omega⟩
    have hj : j < xs.length := by omega
    exact ⟨l, xs, j, xs[j], rfl, rfl, SqL.of (kd l _ hl (P0.ne hl (fun _ e => nomatch e))), atI_nat (by simp [hj]), k _ H' (List.getElem_mem hj) kd P'⟩
theorem ok_pen (T : Txt K mg) : FnOk P w K mg base CX0 1 T.a_pen T.f_pen ["_law_script"] (spPen K) := by
  refine T.d_pen.F.ok sc_pen (fun vs H Q E h => ?_) (fun cdv A outer s H vs Q E hr h => ?_)
  · obtain ⟨a, ns, rfl, _⟩ := h
    rfl
  · obtain ⟨a, ns, rfl, hS, k⟩ := h
    have hu := hu_of hr
    refine ⟨_, (pss_cons (ps_set (i := 1) sc_pen.nd rfl (Or.inl rfl) pe_int)
    (pss_cons (ps_for PassesOwn.never rfl (pi_list (pv 0)) (pg_name (i := 2) sc_pen.nd rfl (Or.inl rfl))
    (pss_one (ps_set (i := 1) sc_pen.nd rfl (Or.inl rfl) (pe_op op_mod (pe_callTy call_int1 (by rfl) T.z_int (by decide +kernel) (pa_cons (pe_op op_add (pe_op op_mulW (pv 1) pe_int) (pv 2)) pa_nil)) pe_int))))
    (pss_one (ps_ret (pe_disp (pps_cons pe_str (pe_callTy call_list_of (by rfl) T.z_list (by decide +kernel) (pa_cons (pv 0) pa_nil)) (pps_cons pe_str pe_int (pps_cons pe_str pe_int (pps_cons pe_str pe_int (pps_cons pe_str (pv 1) pps_nil))))) rfl rfl (by simp) (by decide)))))), ?_⟩
    -- the fold
    refine ⟨_, rfl, a, rfl, ⟨_, hS⟩, for_list (K := K) (a := a) (xs := ns.map V.int) (fun i σ H2 => ∃ (f : Int) (v : Option V), σ = [some (.ref a), some (.int f), v] ∧ Same H H2 ∧ 0 ≤ f ∧ f < 1000000007)
      ⟨0, none, rfl, Same.refl H, by decide, by decide⟩ (fun i σ H2 _ ⟨_, _, _, s2, _⟩ => s2.seq hS) ?_ ?_⟩
    · rintro i y σ H2 hi ⟨f, v, rfl, s2, f0, f1⟩
      obtain ⟨z, rfl⟩ : ∃ z, y = V.int z := by
        rw [List.getElem?_map] at hi
        cases e : ns[i]? with
        | none => rw [e] at hi; cases hi
        | some z => rw [e] at hi; exact ⟨z, (Option.some.inj hi).symm⟩
      have hb1 : Bd 40 f := Bd.of_range (lo := 0) (hi := 1000000007) (by omega) (by omega) (by decide) (by decide)
      refine ⟨_, rfl, _, _, rfl, rfl, Bd.mulW hb1 (bd_lit (n := 64) (by decide)) (by decide), _, rfl, _, _, rfl, rfl, .inl ⟨_, rfl, _, _, rfl, rfl, (by show (0 : Int) < 1000000007; decide), ?_⟩⟩
      exact ⟨_, _, rfl, s2, Int.emod_nonneg _ (by decide), Int.emod_lt_of_pos _ (by decide)⟩
    · rintro σ H2 ⟨f, v, rfl, s2, f0, f1⟩
      -- the dict
      intro d hd
      have sd := same_upd (o := HO.dK []) hd
      refine ⟨_, rfl, a, _, rfl, .inl (sd.seq (s2.seq hS)), fun l hl => ?_⟩
      have sl := same_upd (o := HO.lst (ns.map V.int)) hl
      have ne : l ≠ d := by
        intro e
        subst e
        rw [upd_same] at hl
        cases hl
      refine ⟨_, rfl, sl _ _ upd_same, PenS.kvs ⟨l, ns, 0, 0, 0, f⟩, rfl, by show 5 ≤ 15; decide, ?_⟩
      refine k l d _ ?_ ⟨⟨l, ns, 0, 0, 0, f⟩, ⟨?_, ?_, ne⟩, rfl, Int.le_refl _, Int.le_refl _, Int.le_refl _, f0, (show f < 2147483587 by omega)⟩
      · intro b o hb
        have e := s2 b o hb
        rw [upd_ne (ne_of_none e hd)]
        exact sl _ _ (sd _ _ e)
      · rw [upd_same]
        rfl
      · rw [upd_ne ne, upd_same]
theorem ok_pcross (T : Txt K mg) : FnOk P w K mg base CX0 1 T.a_pcross T.f_pcross ["one", "other"] (spCross K) := by
  refine T.d_pcross.F.ok sc_pcross (fun vs H Q E h => ?_) (fun cdv A outer s H vs Q E hr h => ?_)
  · obtain ⟨ds, d, hv, ⟨a, b, rfl, _⟩, _⟩ := h
    exact hv.len
  · obtain ⟨ds, d, hv, ⟨a, b, rfl, ⟨ba1, ba2⟩, ⟨bb1, bb2⟩, rfl⟩, k⟩ := h
    obtain ⟨v1, v2, rfl, r1, r2⟩ := hv.inv2
    refine ⟨_, (pss_one (ps_ret (pe_op op_sub (pe_op op_mulW (pe_ix (ix_tK K) (pv 0) pe_int (fun _ _ => rfl)) (pe_ix (ix_tK K) (pv 1) pe_int (fun _ _ => rfl))) (pe_op op_mulW (pe_ix (ix_tK K) (pv 0) pe_int (fun _ _ => rfl)) (pe_ix (ix_tK K) (pv 1) pe_int (fun _ _ => rfl)))))), ?_⟩
    try dsimp only [cxOf]
    rw [show L2.start N_pcross [v1, v2] = [some v1, some v2] from rfl]
    with_reducible refine s_ret (K := K) (d := .int (a.1 * b.2 - a.2 * b.1)) ?t ?_
    case t => walk_at "ev"
    exact fun v H1 s1 r => k v H1 s1 r
theorem ok_lcross (T : Txt K mg) : FnOk P w K mg base CX0 1 T.a_lcross T.f_lcross ["_law_one", "_law_two"] (spCross K) := by
  refine T.d_lcross.F.ok sc_lcross (fun vs H Q E h => ?_) (fun cdv A outer s H vs Q E hr h => ?_)
  · obtain ⟨ds, d, hv, ⟨a, b, rfl, _⟩, _⟩ := h
    exact hv.len
  · obtain ⟨ds, d, hv, ⟨a, b, rfl, ⟨ba1, ba2⟩, ⟨bb1, bb2⟩, rfl⟩, k⟩ := h
    obtain ⟨v1, v2, rfl, r1, r2⟩ := hv.inv2
    refine ⟨_, (pss_one (ps_ret (pe_op op_sub (pe_op op_mulW (pe_ix (ix_tK K) (pv 0) pe_int (fun _ _ => rfl)) (pe_ix (ix_tK K) (pv 1) pe_int (fun _ _ => rfl))) (pe_op op_mulW (pe_ix (ix_tK K) (pv 0) pe_int (fun _ _ => rfl)) (pe_ix (ix_tK K) (pv 1) pe_int (fun _ _ => rfl)))))), ?_⟩
    try dsimp only [cxOf]
    rw [show L2.start N_lcross [v1, v2] = [some v1, some v2] from rfl]
    with_reducible refine s_ret (K := K) (d := .int (a.1 * b.2 - a.2 * b.1)) ?t ?_
    case t => walk_at "ev"
    exact fun v H1 s1 r => k v H1 s1 r
end
end LW
namespace LW
open PySem L2 LB
local macro_rules | `(tactic| walk_at "hp") => `(tactic| first
  | (with_reducible assumption) | (with_reducible exact Rep.int _) | (with_reducible exact Rep.bl _) | (with_reducible exact Rep.non) | (with_reducible exact Rep.str _)
  | ((with_reducible refine' Rep.same ?kk ?hh); (case kk => with_reducible assumption); (case hh => walk_at "hp"))
  | ((with_reducible refine' Rep.kt ?kk ?hh); (case kk => with_reducible assumption); (case hh => walk_at "hp")))
local macro_rules | `(tactic| walk_at "bd") => `(tactic| first
  | (with_reducible assumption)
  | exact bd_lit (n := 64) (by decide)
  | (with_reducible refine' Bd.mul ?_ ?_) <;> walk_at "bd"
  | (with_reducible refine' Bd.add ?_ ?_) <;> walk_at "bd"
  | (with_reducible refine' Bd.sub ?_ ?_) <;> walk_at "bd"
  | (with_reducible refine' Bd.neg ?_) <;> walk_at "bd")
local macro_rules | `(tactic| walk_at "ev") => `(tactic| first
  | (with_reducible exact ev_int) | (with_reducible exact ev_bl) | (with_reducible exact ev_non) | (with_reducible exact ev_str)
  | ((with_reducible refine' ev_var ?e ?hh); (case e => rfl); (case hh => walk_at "hp"))
  | (with_reducible refine' ev_add ?_ ?_) <;> walk_at "ev"
  | (with_reducible refine' ev_sub ?_ ?_) <;> walk_at "ev"
  | ((with_reducible refine' ev_mul ?m1 ?m2 ?m3); (case m1 => walk_at "ev"); (case m2 => walk_at "ev"); (case m3 => (refine' Bd.mulW ?b1 ?b2 ?b3; (case b1 => walk_at "bd"); (case b2 => walk_at "bd"); (case b3 => decide))))
  | ((with_reducible refine' ev_ix ?m1 ?m2); (case m1 => walk_at "ev"); (case m2 => rfl))
  | ((with_reducible refine' ev_tup ?m1 ?m2); (case m1 => walk_at "eva"); (case m2 => exact Nat.le_of_ble_eq_true rfl))
  | (with_reducible refine' ev_neg ?_) <;> walk_at "ev"
  | (with_reducible refine' ev_lt ?_ ?_) <;> walk_at "ev"
  | (with_reducible refine' ev_le ?_ ?_) <;> walk_at "ev"
  | (with_reducible refine' ev_gt ?_ ?_) <;> walk_at "ev"
  | (with_reducible refine' ev_ge ?_ ?_) <;> walk_at "ev"
  | (with_reducible refine' ev_eqI ?_ ?_) <;> walk_at "ev"
  | (with_reducible refine' ev_neI ?_ ?_) <;> walk_at "ev"
  | (with_reducible refine' ev_intI ?_) <;> walk_at "eva"
  | (with_reducible refine' ev_lenT ?_) <;> walk_at "eva"
  | walk_at "evx")
local macro_rules | `(tactic| walk_at "eva") => `(tactic| first
  | (with_reducible exact eva_nil)
  | ((with_reducible refine' eva_cons ?v1 ?v2); (case v1 => walk_at "ev"); (case v2 => walk_at "eva")))
local macro_rules | `(tactic| walk_at "evx") => `(tactic| first
  | ((with_reducible refine' ev_pget ?a ?b ?c); (case a => rfl); (case b => with_reducible assumption); (case c => first | (with_reducible exact p_at _) | (with_reducible exact p_dg _) | (with_reducible exact p_ct _) | (with_reducible exact p_fo _))))
local macro_rules | `(tactic| walk_at "sh") => `(tactic| first
  | (with_reducible assumption)
  | ((with_reducible refine' ShAt.same ?hh ?kk); (case kk => with_reducible assumption); (case hh => walk_at "sh"))
  | ((with_reducible refine' ShAt.kt ?hh ?kk); (case kk => with_reducible assumption); (case hh => walk_at "sh")))
local macro_rules | `(tactic| walk_at "evx") => `(tactic| first
  | ((with_reducible refine' ev_base ?e ?h ?c ?n); (case e => rfl); (case h => walk_at "sh"); (case c => with_reducible assumption); (case n => with_reducible assumption))
  | ((with_reducible refine' ev_price ?e ?h ?c ?n); (case e => rfl); (case h => walk_at "sh"); (case c => with_reducible assumption); (case n => with_reducible assumption))
  | ((with_reducible refine' ev_steps ?e ?h ?c ?n); (case e => rfl); (case h => walk_at "sh"); (case c => with_reducible assumption); (case n => with_reducible assumption))
  | ((with_reducible refine' ev_prices ?e ?h ?c ?n); (case e => rfl); (case h => walk_at "sh"); (case c => with_reducible assumption); (case n => with_reducible assumption)))
section
variable {P : Program} {w : World} {K : Fr} {mg : Str → Option Value} {base : Heap}
theorem ok_wide (T : Txt K mg) : FnOk P w K mg base CX0 3 T.a_wide T.f_wide ["_law_pen_here"] spWide := by
  refine T.d_wide.F.ok sc_wide (fun vs H Q E h => ?_) (fun cdv A outer s H vs Q E hr h => ?_)
  · obtain ⟨c, d, n, rfl, _⟩ := h
    rfl
  · obtain ⟨c, d, n, rfl, P0, hn, k⟩ := h
    refine ⟨_, (pss_cons (ps_set (i := 1) sc_wide.nd rfl (Or.inl rfl) pe_int)
    (pss_cons (ps_for PassesOwn.never rfl (pi_range1 rfl T.z_range (pa_cons (pe_call (ok_pick T) (hr.mono (by decide)) rfl T.d_pick.m T.d_pick.F.kp T.d_pick.b .nil pass0 (pa_cons (pv 0) (pa_cons (pe_lst (pa_cons pe_int (pa_cons pe_int (pa_cons pe_int (pa_cons pe_int (pa_cons pe_int pa_nil)))))) pa_nil))) pa_nil)) (pg_name (i := 2) sc_wide.nd rfl (Or.inl rfl))
    (pss_one (ps_set (i := 1) sc_wide.nd rfl (Or.inl rfl) (pe_op op_add (pe_op op_mulW (pv 1) (pe_op op_pow pe_int pe_int)) (pe_call (ok_draw T) (hr.mono (by decide)) rfl T.d_draw.m T.d_draw.F.kp T.d_draw.b .nil pass0 (pa_cons (pv 0) (pa_cons (pe_op op_pow pe_int pe_int) pa_nil)))))))
    (pss_one (ps_ret (pe_ifExp (pt_cmpR op_eq (pe_call (ok_draw T) (hr.mono (by decide)) rfl T.d_draw.m T.d_draw.F.kp T.d_draw.b .nil pass0 (pa_cons (pv 0) (pa_cons pe_int pa_nil))) pe_int (nomark _)) (pv 1) (pe_un un_neg (pv 1))))))), ?_⟩
    try dsimp only [cxOf, List.map]
    rw [show L2.start N_wide [V.ref d] = [some (V.ref d), none, none] from rfl]
    have eg : ∀ H σ, Ev K (tOp (rI CPow fun i j => .int (i ^ j.toNat)) (tC (.int 10)) (tC (.int 6))) σ H (.int 1000000) := fun _ _ => ev_pow ev_int ev_int ⟨by decide, by decide, by decide⟩ rfl
    refine s_set (K := K) ev_int fun v0 H0 s0 r0 => ?_
    cases r0.int_inv
    rw [show ([some (V.ref d), none, none] : L2.St).set 1 (some (V.int 0)) = [some (V.ref d), some (V.int 0), none] from rfl]
    try dsimp only
    unfold tSeq tFor
    refine c_pick (K := K) (ds := [.int 1, .int 1, .int 2, .int 5, .int 10]) rfl (P0.same s0) (by omega) ?_ (by decide) (by decide) fun v x H1 hx rx k1 P1 => ?_
    · refine evl_lst ?_ (Nat.le_of_ble_eq_true rfl)
      walk_at "eva"
    obtain ⟨j, hj, hj10, rfl⟩ : ∃ j : Nat, x = .int j ∧ j ≤ 10 ∧ v = .int j := by
      simp at hx
      rcases hx with rfl | rfl | rfl | rfl
      · exact ⟨1, rfl, by decide, rx.int_inv⟩
      · exact ⟨2, rfl, by decide, rx.int_inv⟩
      · exact ⟨5, rfl, by decide, rx.int_inv⟩
      · exact ⟨10, rfl, by decide, rx.int_inv⟩
    refine ⟨(j : Int), rfl, by omega, by omega, for_range (n := (j : Int).toNat) (fun i σ H2 => ∃ (x : Int) (o : Option V), σ = [some (V.ref d), some (V.int x), o] ∧ Kd d H H2 ∧ PenAt c H2 d (n + 1 + i) ∧ 0 ≤ x ∧ x < 10 ^ (6 * i)) ?_ ?_ ?_⟩
    · exact ⟨0, none, rfl, (kd_same s0).trans k1, P1, by decide, by decide⟩
    · rintro i σ H2 hi ⟨x, o, rfl, k2, P2, x0, x1⟩
      have hi' : i < j := by omega
      have bx := six_bd x0 x1 (by omega)
      refine (ev_mul (K := K) (H := H2) (x := x) (y := 1000000) (ev_var rfl (.int x)) (eg _ _) (Bd.mulW bx (bd_lit (n := 64) (by decide)) (by decide))) H2 (Same.refl H2) _ fun v H3 s3 r3 => ?_
      cases r3.int_inv
      refine c_draw (K := K) (m := 1000000) rfl (P2.same s3) (by omega) (by decide) (by decide) (eg _ _) fun r H4 r0 r1 k4 P4 => ?_
      refine ⟨_, _, rfl, rfl, ?_⟩
      obtain ⟨y0, y1⟩ := six_step x0 x1 r0 r1
      exact ⟨x * 1000000 + r, _, rfl, (k2.trans (kd_same s3)).trans k4, P4, y0, y1⟩
    · rintro σ H2 ⟨x, o, rfl, k2, P2, x0, x1⟩
      have bx := six_bd x0 x1 (by omega)
      refine c_draw (K := K) (m := 2) rfl P2 (by omega) (by decide) (by decide) ev_int fun r H4 r0 r1 k4 P4 => ?_
      have P5 : PenAt c H4 d (n + 12) := P4.mono (by omega)
      refine ⟨rfl, _, rfl, ?_⟩
      refine ite2 (fun _ => ?_) (fun _ => ?_)
      · exact ⟨_, rfl, k x H4 bx (k2.trans k4) P5⟩
      · exact ⟨_, rfl, _, rfl, k (-x) H4 bx.neg (k2.trans k4) P5⟩
theorem ok_near (T : Txt K mg) : FnOk P w K mg base CX0 2 T.a_near T.f_near ["_law_pen_here", "_law_wide_here"] (spNear K) := by
  refine T.d_near.F.ok sc_near (fun vs H Q E h => ?_) (fun cdv A outer s H vs Q E hr h => ?_)
  · obtain ⟨c, d, n, m, rfl, _⟩ := h
    rfl
  · obtain ⟨c, d, n, m, rfl, P0, hn, m0, m1, k⟩ := h
    refine ⟨_, (pss_cons (ps_set (i := 2) sc_near.nd rfl (Or.inl rfl) (pe_op op_sub (pe_call (ok_draw T) (hr.mono (by decide)) rfl T.d_draw.m T.d_draw.F.kp T.d_draw.b .nil pass0 (pa_cons (pv 0) (pa_cons (pe_op op_add (pe_op op_mulW pe_int (pv 1)) pe_int) pa_nil))) (pv 1)))
    (pss_one (ps_ret (pe_tup (pa_cons (pv 2) (pa_cons (pe_op op_sub (pe_call (ok_draw T) (hr.mono (by decide)) rfl T.d_draw.m T.d_draw.F.kp T.d_draw.b .nil pass0 (pa_cons (pv 0) (pa_cons (pe_op op_add (pe_op op_mulW pe_int (pv 1)) pe_int) pa_nil))) (pv 1)) pa_nil)))))), ?_⟩
    try dsimp only [cxOf, List.map]
    rw [show L2.start N_near [V.ref d, V.int m] = [some (V.ref d), some (V.int m), none] from rfl]
    have bm : Bd 20 m := Bd.of_range (lo := 0) (hi := 1000000) (by omega) m1 (by decide) (by decide)
    have em : ∀ (H : Hp) (σ : L2.St), σ[1]? = some (some (V.int m)) → Ev K (tOp (rI0 fun i j => V.int (i + j)) (tOp (rI CMulW fun i j => V.int (i * j)) (tC (V.int 2)) (tVar 1)) (tC (V.int 1))) σ H (.int (2 * m + 1)) := fun H σ e =>
      ev_add (ev_mul ev_int (ev_var e (.int m)) (Bd.mulW (bd_lit (n := 64) (by decide)) bm (by decide))) ev_int
    unfold tSeq tAsg tOp
    refine c_draw (K := K) (m := 2 * m + 1) rfl P0 (by omega) (by omega) (by omega) (em _ _ rfl) fun r H1 r0 r1 k1 P1 => ?_
    refine ⟨_, rfl, _, _, rfl, rfl, ?_⟩
    refine ⟨_, rfl, ?_⟩
    refine c_draw (K := K) (m := 2 * m + 1) rfl P1 (by omega) (by omega) (by omega) (em _ _ rfl) fun r' H2 r0' r1' k2 P2 => ?_
    refine ⟨_, rfl, _, _, rfl, rfl, (by show 2 ≤ sizeLine; decide), fun p hp => ?_⟩
    have s3 := same_upd (o := HO.tup [V.int (r - m), V.int (r' - m)]) hp
    refine k (.ref p) (r - m, r' - m) _ ⟨?_, ?_⟩ (.tup (SqT.of upd_same) (.cons (.int _) (.cons (.int _) .nil))) ((k1.trans k2).trans (kd_same s3)) (P2.same s3)
    · exact Bd.of_range (lo := -1000000) (hi := 1000000) (by omega) (by omega) (by decide) (by decide)
    · exact Bd.of_range (lo := -1000000) (hi := 1000000) (by omega) (by omega) (by decide) (by decide)
theorem ok_steps (T : Txt K mg) : FnOk P w K mg base CX0 3 T.a_steps T.f_steps ["_law_pen_here", "_law_many", "_law_wide_here"] (spSteps K) := by
  refine T.d_steps.F.ok sc_steps (fun vs H Q E h => ?_) (fun cdv A outer s H vs Q E hr h => ?_)
  · obtain ⟨c, d, n, j, m, rfl, _⟩ := h
    rfl
  · obtain ⟨c, d, n, j, m, rfl, hj, P0, hn, m0, m1, k⟩ := h
    have hu64 : (A.deeper (PyProof.Rows.envOfC "_law_steps" (defScope s_steps) s.heap.objs.size T.a_steps cdv)).units + 64 < cLine := by
      have := hr.un
      omega
    refine ⟨_, (pss_cons (ps_setLc (i := 3) (own := [("_law_k", 4)]) (g := gName 4) rfl sc_steps.nd rfl rfl (sw_true rfl rfl rfl (by decide +kernel)) (pi_range1 rfl T.z_range (pa_cons (pv 1) pa_nil)) (blkOk_by (N := N_steps) (sc := defScope s_steps) (by decide +kernel)) (fun _ _ _ _ _ => (pg_name (i := 4) sc_steps.nd rfl (Or.inl rfl))) (fun _ _ _ _ _ => pts_nil) (fun _ _ _ _ _ => (pe_call (ok_near T) (hr.mono (by decide)) rfl T.d_near.m T.d_near.F.kp T.d_near.b .nil pass0 (pa_cons (pv 0) (pa_cons (pv 2) pa_nil)))))
    (pss_cons (ps_setLc (i := 3) (own := [("_law_step", 5)]) (g := gName 5) rfl sc_steps.nd rfl rfl (sw_true rfl rfl rfl (by decide +kernel)) (pi_list (pv 3)) (blkOk_by (N := N_steps) (sc := defScope s_steps) (by decide +kernel)) (fun _ _ _ _ _ => (pg_name (i := 5) sc_steps.nd rfl (Or.inl rfl))) (fun _ _ _ _ _ => pts_nil) (fun _ _ _ _ _ => (pe_ifExp (pt_cmpR (op_neK K rfl hu64) (pv 5) (pe_tup (pa_cons pe_int (pa_cons pe_int pa_nil))) (nomark _)) (pv 5) (pe_tup (pa_cons pe_int (pa_cons pe_int pa_nil))))))
    (pss_meet (ps_if (PW.pt (pw_and (pt_cmpR op_eq (pv 1) pe_int (nomark _)) (pw_and1 (pt_cmpR op_eq (pe_call (ok_lcross T) (hr.mono (by decide)) rfl T.d_lcross.m T.d_lcross.F.kp T.d_lcross.b .nil pass0 (pa_cons (pe_ix (ix_lK K) (pv 3) pe_int (fun _ _ => rfl)) (pa_cons (pe_ix (ix_lK K) (pv 3) pe_int (fun _ _ => rfl)) pa_nil))) pe_int (nomark _))))) (pss_one (ps_asg (pe_tup (pa_cons (pe_un un_neg (pe_ix (ix_tK K) (pe_ix (ix_lK K) (pv 3) pe_int (fun _ _ => rfl)) pe_int (fun _ _ => rfl))) (pa_cons (pe_ix (ix_tK K) (pe_ix (ix_lK K) (pv 3) pe_int (fun _ _ => rfl)) pe_int (fun _ _ => rfl)) pa_nil))) (pg_sub (pv 3) pe_int set_list))) pss_nil)
    (pss_one (ps_ret (pe_callTy call_tuple_of (by rfl) T.z_tuple (by decide +kernel) (pa_cons (pv 3) pa_nil))))))), ?_⟩
    try dsimp only [cxOf, List.map]
    rw [show L2.start N_steps [V.ref d, V.int j, V.int m] = [some (V.ref d), some (V.int j), some (V.int m), none, none, none] from rfl]
    have em : ∀ H, Rep K H (.int m) (.int m) := fun _ => .int m
    -- cells are drawn
    refine ⟨_, rfl, (j : Int), rfl, by omega, by omega, fun D1 hD1 => ?_⟩
    refine lc_pen (K := K) walk_range (c := c) (d := d) (n0 := n) (k := 2) (fun x => ∃ q, x = dC q ∧ BdC 20 q) (by omega) hD1 P0 (fun _ _ => trivial) (fun i H x H' y => y.1) ?_ ?_
    · intro v H1 n1 P1 hn1 k1 Q1 kk
      refine c_near (K := K) (m := m) rfl P1 (by omega) m0 m1 (ev_var rfl (.int m)) fun v x H2 bx rx k2 P2 => kk v (dC x) H2 ⟨x, rfl, bx⟩ rx k2 P2
    intro vs1 xs1 H1 hl1 hx1 k1 P1 hL1 rs1
    obtain ⟨cells1, rfl, bd1⟩ := cells_of hx1
    rw [List.length_map] at hl1
    have ln1 : cells1.length = j := by omega
    try dsimp only [gName]
    rw [show ([some (V.ref d), some (V.int j), some (V.int m), none, none, none] : L2.St).set 3 (some (V.ref D1)) = [some (V.ref d), some (V.int j), some (V.int m), some (V.ref D1), none, none] from rfl]
    -- no one is (0, 0)
    have ecl : EvL K (tLc (iList K (tVar 3)) (gName 5) tYes (tIf (tTest (tOp (rNeD K) (tVar 5) (tTup (tCons (tC (V.int 0)) (tCons (tC (V.int 0)) tNil))))) (tVar 5) (tTup (tCons (tC (V.int 0)) (tCons (tC (V.int 1)) tNil)))) [5])
        [some (V.ref d), some (V.int j), some (V.int m), some (V.ref D1), none, none] H1 ((cells1.map (fixC (0, 1))).map dC) := by
      refine evl_lcl rfl hL1 rs1 (by simp) (by simp; omega) fun i x v H2 hx s2 rv => ?_
      obtain ⟨q, hq, rfl⟩ := cell_of_list hx
      refine ⟨dC (fixC (0, 1) q), by simp [hq], ?_⟩
      refine ev_if (c := !decide (q = (0, 0))) (evb_test (K := K) ?_) (fun h => ?_) (fun h => ?_)
      · rw [← eqv_dC]
        with_reducible refine ev_neD ?x ?y (shaped_dC _) (shaped_dC _)
        case x => walk_at "ev"
        case y => walk_at "ev"
      · have e : fixC (0, 1) q = q := if_neg (by simpa using h)
        rw [e]
        walk_at "ev"
      · have e : fixC (0, 1) q = (0, 1) := if_pos (by simpa using h)
        rw [e]
        walk_at "ev"
    refine s_setL (K := K) ecl fun D2 vs2 H3 s3 hD2 hl2 rs2 => ?_
    rw [show ([some (V.ref d), some (V.int j), some (V.int m), some (V.ref D1), none, none] : L2.St).set 3 (some (V.ref D2)) = [some (V.ref d), some (V.int j), some (V.int m), some (V.ref D2), none, none] from rfl]
    have k3 : Kd d H H3 := k1.trans (kd_same s3)
    have P2 := P1
    have k2 := k1
    have P3 : PenAt c H3 d (n + 4) := (P1.same s3).mono (by omega)
    generalize hcells : cells1.map (fixC (0, 1)) = cells at rs2
    have ln : cells.length = j := by subst hcells; rw [List.length_map]; exact ln1
    have bd : ∀ q ∈ cells, BdC 210 q := by
      subst hcells
      intro q hq
      obtain ⟨q0, h0, rfl⟩ := List.mem_map.mp hq
      exact (fixC_bd ⟨bd_lit (by decide), bd_lit (by decide)⟩ (bd1 q0 h0)).mono (by decide)
    have nz : ∀ q ∈ cells, ¬ q = (0, 0) := by
      subst hcells
      intro q hq
      obtain ⟨q0, h0, rfl⟩ := List.mem_map.mp hq
      exact fixC_ne (by decide)
    clear hcells ecl
    have hfin : ∀ (H3 : Hp) (l : Addr) (vs : List V) (cells : List C2) (o1 o2 : Option V) (σ : L2.St), σ = [some (V.ref d), some (V.int j), some (V.int m), some (V.ref l), o1, o2] → Kd d H H3 → PenAt c H3 d (n + 4) → l ≠ d → H3 l = some (.lst vs) → RepAll K H3 vs (cells.map dC) → cells.length = j → areSteps cells = true → (∀ q ∈ cells, BdC 210 q) →
        tRet (tCB (rTupleOf K) (tCons (tVar 3) tNil)) { nx := fun _ H' => Q .non H', rt := Q } σ H3 := by
      rintro H3 l vs cells o1 o2 σ rfl k3 P3 nl hl rs ln st bd
      refine ⟨_, rfl, l, vs, rfl, .inl ⟨SqL.of hl, fun p hp => ?_⟩⟩
      have s4 := same_upd (o := HO.tup vs) hp
      exact k (.ref p) cells _ ln st bd (.tup (SqT.of upd_same) (rs.same s4)) (k3.trans (kd_same s4)) ((P3.same s4).mono (by omega))
    with_reducible refine s_meet (fun σ' H' => ∃ (l : Addr) (vs : List V) (cells : List C2) (o1 o2 : Option V), σ' = [some (V.ref d), some (V.int j), some (V.int m), some (V.ref l), o1, o2] ∧ Kd d H H' ∧ PenAt c H' d (n + 4) ∧ l ≠ d ∧ H' l = some (.lst vs) ∧ RepAll K H' vs (cells.map dC) ∧ cells.length = j ∧ areSteps cells = true ∧ ∀ q ∈ cells, BdC 210 q) ?rest ?_
    case rest =>
      rintro σ' H3 ⟨l, vs, cells, o1, o2, rfl, k3, P3, nl, hl, rs, ln, st, bd⟩
      exact hfin H3 l vs cells o1 o2 _ rfl k3 P3 nl hl rs ln st bd
    have nD2 : D2 ≠ d := (P2.ned hD2).1
    match cells, ln, bd, nz, rs2 with
    | [], ln, bd, nz, rs2 =>
      have hj0 : j = 0 := by simpa using ln.symm
      with_reducible refine s_if (c := decide ((j : Int) = 2) && false) (evb_and (evb_test (K := K) (ev_eqI ?t1 ev_int)) fun h => ?t2) (fun ht _ _ => ?_) (fun hf H4 s4 => s_next ?_)
      case t1 => walk_at "ev"
      case t2 => have := of_decide_eq_true h; omega
      · simp at ht
      · exact ⟨D2, vs2, [], none, none, rfl, k3.trans (kd_same s4), P3.same s4, nD2, s4 _ _ hl2, rs2.same s4, ln, rfl, bd⟩
    | [a], ln, bd, nz, rs2 =>
      have hj0 : j = 1 := by simpa using ln.symm
      have a0 := nz a (by simp)
      with_reducible refine s_if (c := decide ((j : Int) = 2) && false) (evb_and (evb_test (K := K) (ev_eqI ?t1 ev_int)) fun h => ?t2) (fun ht _ _ => ?_) (fun hf H4 s4 => s_next ?_)
      case t1 => walk_at "ev"
      case t2 => have := of_decide_eq_true h; omega
      · simp at ht
      · exact ⟨D2, vs2, [a], none, none, rfl, k3.trans (kd_same s4), P3.same s4, nD2, s4 _ _ hl2, rs2.same s4, ln, by simp [areSteps, a0], bd⟩
    | [a, b], ln, bd, nz, rs2 =>
      have hj0 : j = 2 := by simpa using ln.symm
      have a0 := nz a (by simp)
      have b0 := nz b (by simp)
      have ba := bd a (by simp)
      have bb := bd b (by simp)
      have x0 : ∀ H4, Same H3 H4 → Ev K (tOp (rIxL K) (tVar 3) (tC (.int 0))) [some (V.ref d), some (V.int j), some (V.int m), some (V.ref D2), none, none] H4 (dC a) := fun H4 s4 => ev_ixL rfl (s4 _ _ hl2) (rs2.same s4) rfl
      have x1 : ∀ H4, Same H3 H4 → Ev K (tOp (rIxL K) (tVar 3) (tC (.int 1))) [some (V.ref d), some (V.int j), some (V.int m), some (V.ref D2), none, none] H4 (dC b) := fun H4 s4 => ev_ixL rfl (s4 _ _ hl2) (rs2.same s4) rfl
      with_reducible refine s_if (c := decide ((j : Int) = 2) && decide (cr a b = 0)) (evb_and (evb_test (K := K) (ev_eqI ?t1 ev_int)) fun h => evb_test (K := K) (ev_eqI (ev_cross (x0 H3 (Same.refl H3)) (x1 H3 (Same.refl H3)) (ba.mono (by decide)) (bb.mono (by decide))) ev_int)) (fun ht H4 s4 => ?_) (fun hf H4 s4 => s_next ?_)
      case t1 => walk_at "ev"
      · -- the second one is put across
        refine (ev_tup (K := K) (eva_cons (ev_neg (ev_ix (x0 H4 s4) (atI_nat (j := 1) rfl))) (eva_cons (ev_ix (x0 H4 s4) (atI_nat (j := 0) rfl)) eva_nil)) (Nat.le_of_ble_eq_true rfl)) H4 (Same.refl H4) _ fun vq H5 s5 rq => ?_
        obtain ⟨va, vb, rfl, ra, rb⟩ := rs2.inv2
        have hl5 : H5 D2 = some (.lst [va, vb]) := s5 _ _ (s4 _ _ hl2)
        refine ⟨_, rfl, D2, [va, vb], 1, 1, rfl, rfl, hl5, rfl, ?_⟩
        have k5 : Kd d H H5 := k3.trans (kd_same (s4.trans s5))
        have P5 := (P3.same s4).same s5
        have nc := (P2.ned hD2).2
        refine ⟨D2, [va, vq], [a, quarter a], none, none, rfl, fun b o hb ne => ?_, P5.upd nD2 nc, nD2, upd_same, ?_, hj0.symm, quarter_ok a0, ?_⟩
        · have e : b ≠ D2 := fun z => by
            subst z
            have := k2 _ _ hb ne
            rw [hD2] at this
            cases this
          rw [upd_ne e]
          exact k5 b o hb ne
        · have kt := kt_lst (b := [va, vq]) hl5
          exact .cons (((ra.same s4).same s5).kt kt) (.cons (rq.kt kt) .nil)
        · intro q hq
          simp at hq
          rcases hq with rfl | rfl
          · exact ba
          · exact ⟨ba.2.neg, ba.1⟩
      · refine ⟨D2, vs2, [a, b], none, none, rfl, k3.trans (kd_same s4), P3.same s4, nD2, s4 _ _ hl2, rs2.same s4, ln, ?_, bd⟩
        rw [hj0] at hf
        simp at hf
        simp [areSteps, a0, b0, hf]
    | a :: b :: e :: r, ln, _, _, _ => exact absurd ln (by simp; omega)
end
end LW
namespace LW
open PySem L2 LB
local macro_rules | `(tactic| walk_at "hp") => `(tactic| first
  | (with_reducible assumption) | (with_reducible exact Rep.int _) | (with_reducible exact Rep.bl _) | (with_reducible exact Rep.non) | (with_reducible exact Rep.str _)
  | ((with_reducible refine' Rep.same ?kk ?hh); (case kk => with_reducible assumption); (case hh => walk_at "hp"))
  | ((with_reducible refine' Rep.kt ?kk ?hh); (case kk => with_reducible assumption); (case hh => walk_at "hp")))
local macro_rules | `(tactic| walk_at "bd") => `(tactic| first
  | (with_reducible assumption)
  | exact bd_lit (n := 64) (by decide)
  | (with_reducible refine' Bd.mul ?_ ?_) <;> walk_at "bd"
  | (with_reducible refine' Bd.add ?_ ?_) <;> walk_at "bd"
  | (with_reducible refine' Bd.sub ?_ ?_) <;> walk_at "bd"
  | (with_reducible refine' Bd.neg ?_) <;> walk_at "bd")
local macro_rules | `(tactic| walk_at "ev") => `(tactic| first
  | (with_reducible exact ev_int) | (with_reducible exact ev_bl) | (with_reducible exact ev_non) | (with_reducible exact ev_str)
  | ((with_reducible refine' ev_var ?e ?hh); (case e => rfl); (case hh => walk_at "hp"))
  | (with_reducible refine' ev_add ?_ ?_) <;> walk_at "ev"
  | (with_reducible refine' ev_sub ?_ ?_) <;> walk_at "ev"
  | ((with_reducible refine' ev_mul ?m1 ?m2 ?m3); (case m1 => walk_at "ev"); (case m2 => walk_at "ev"); (case m3 => (refine' Bd.mulW ?b1 ?b2 ?b3; (case b1 => walk_at "bd"); (case b2 => walk_at "bd"); (case b3 => decide))))
  | ((with_reducible refine' ev_ix ?m1 ?m2); (case m1 => walk_at "ev"); (case m2 => rfl))
  | ((with_reducible refine' ev_tup ?m1 ?m2); (case m1 => walk_at "eva"); (case m2 => exact Nat.le_of_ble_eq_true rfl))
  | (with_reducible refine' ev_neg ?_) <;> walk_at "ev"
  | (with_reducible refine' ev_lt ?_ ?_) <;> walk_at "ev"
  | (with_reducible refine' ev_le ?_ ?_) <;> walk_at "ev"
  | (with_reducible refine' ev_gt ?_ ?_) <;> walk_at "ev"
  | (with_reducible refine' ev_ge ?_ ?_) <;> walk_at "ev"
  | (with_reducible refine' ev_eqI ?_ ?_) <;> walk_at "ev"
  | (with_reducible refine' ev_neI ?_ ?_) <;> walk_at "ev"
  | (with_reducible refine' ev_intI ?_) <;> walk_at "eva"
  | (with_reducible refine' ev_lenT ?_) <;> walk_at "eva"
  | walk_at "evx")
local macro_rules | `(tactic| walk_at "eva") => `(tactic| first
  | (with_reducible exact eva_nil)
  | ((with_reducible refine' eva_cons ?v1 ?v2); (case v1 => walk_at "ev"); (case v2 => walk_at "eva")))
local macro_rules | `(tactic| walk_at "evx") => `(tactic| first
  | ((with_reducible refine' ev_pget ?a ?b ?c); (case a => rfl); (case b => with_reducible assumption); (case c => first | (with_reducible exact p_at _) | (with_reducible exact p_dg _) | (with_reducible exact p_ct _) | (with_reducible exact p_fo _))))
local macro_rules | `(tactic| walk_at "sh") => `(tactic| first
  | (with_reducible assumption)
  | ((with_reducible refine' ShAt.same ?hh ?kk); (case kk => with_reducible assumption); (case hh => walk_at "sh"))
  | ((with_reducible refine' ShAt.kt ?hh ?kk); (case kk => with_reducible assumption); (case hh => walk_at "sh")))
local macro_rules | `(tactic| walk_at "evx") => `(tactic| first
  | ((with_reducible refine' ev_base ?e ?h ?c ?n); (case e => rfl); (case h => walk_at "sh"); (case c => with_reducible assumption); (case n => with_reducible assumption))
  | ((with_reducible refine' ev_price ?e ?h ?c ?n); (case e => rfl); (case h => walk_at "sh"); (case c => with_reducible assumption); (case n => with_reducible assumption))
  | ((with_reducible refine' ev_steps ?e ?h ?c ?n); (case e => rfl); (case h => walk_at "sh"); (case c => with_reducible assumption); (case n => with_reducible assumption))
  | ((with_reducible refine' ev_prices ?e ?h ?c ?n); (case e => rfl); (case h => walk_at "sh"); (case c => with_reducible assumption); (case n => with_reducible assumption)))
section
variable {P : Program} {w : World} {K : Fr} {mg : Str → Option Value} {base : Heap}
theorem ok_are_steps (T : Txt K mg) : FnOk P w K mg base CX0 2 T.a_are_steps T.f_are_steps ["steps"] (spAreStepsS K) := by
  refine T.d_are_steps.F.ok sc_are_steps (fun vs H Q E h => ?_) (fun cdv A outer s H vs Q E hr h => ?_)
  · obtain ⟨v, l, rfl, _⟩ := h
    rfl
  · obtain ⟨v1, l, rfl, r1, bl, k⟩ := h
    have hu65 : (A.deeper (PyProof.Rows.envOfC "_are_steps" (defScope s_are_steps) s.heap.objs.size T.a_are_steps cdv)).units + 65 < cLine := by
      have := hr.un
      omega
    refine ⟨_, (pss_cons (ps_if (PW.pt (pw_or (pt_cmpR op_gt (pe_callB call_len_seq (by rfl) T.z_len (by decide +kernel) (pa_cons (pv 0) pa_nil)) pe_int (nomark _)) (pw_or1 (pt_cmpR (op_inS K rfl hu65) (pe_tup (pa_cons pe_int (pa_cons pe_int pa_nil))) (pv 0) rfl)))) (pss_one (ps_ret pe_bl)) pss_nil)
    (pss_one (ps_ret (pe_or (pe_cmpR op_lt (pe_callB call_len_seq (by rfl) T.z_len (by decide +kernel) (pa_cons (pv 0) pa_nil)) pe_int (nomark _)) (pe_one (pe_cmpR op_ne (pe_call (ok_pcross T) (hr.mono (by decide)) rfl T.d_pcross.m T.d_pcross.F.kp T.d_pcross.b .nil pass0 (pa_cons (pe_ix (ix_sK K) (pv 0) pe_int (fun _ _ => rfl)) (pa_cons (pe_ix (ix_sK K) (pv 0) pe_int (fun _ _ => rfl)) pa_nil))) pe_int (nomark _))))))), ?_⟩
    try dsimp only [cxOf]
    rw [show L2.start N_are_steps [v1] = [some v1] from rfl]
    have es : ∀ H1, Same H H1 → EvS K (tVar 0) [some v1] H1 (l.map dC) := fun H1 s1 => evs_var rfl (r1.same s1)
    have e0 : ∀ H1, Ev K (tTup (tCons (tC (.int 0)) (tCons (tC (.int 0)) tNil))) [some v1] H1 (dC (0, 0)) := fun H1 => ev_tup (eva_cons ev_int (eva_cons ev_int eva_nil)) (Nat.le_of_ble_eq_true rfl)
    refine s_ifr (c := decide ((2 : Int) < ((l.map dC).length : Nat)) || (l.map dC).any fun z => PyData.eqv z (dC (0, 0))) (evb_or (evb_test (K := K) (ev_gt (ev_lenS (es H (Same.refl H))) ev_int)) fun _ => evb_test (K := K) (ev_inS (e0 H) (es H (Same.refl H)) (shaped_dC _) (shaped_dCs l) (shaped_lCs l))) (fun ht H1 s1 => ?_) (fun hf H1 s1 => ?_)
    · have hno : areSteps l = false := by
        match l, ht with
        | [], ht => simp at ht
        | [a], ht =>
          simp [eqv_dC] at ht
          simp [areSteps, ht]
        | [a, b], ht =>
          simp [eqv_dC] at ht
          simp only [areSteps]
          rcases ht with h | h <;> simp [h]
        | a :: b :: c :: r, _ => rfl
      rw [hno] at k
      with_reducible refine s_ret (K := K) ev_bl ?_
      exact fun v H2 s2 r => k v H2 (s1.trans s2) r
    · match l, bl, es, hf, k with
      | [], bl, es, _, k =>
        refine s_ret (K := K) (d := .bool (decide ((([] : List C2).map dC).length < (2 : Int)) || false)) (ev_orV (ev_lt (ev_lenS (es H1 s1)) ev_int) fun h => by simp at h) ?_
        exact fun v H2 s2 r => k v H2 (s1.trans s2) r
      | [a], bl, es, hf, k =>
        refine s_ret (K := K) (d := .bool (decide ((([a] : List C2).map dC).length < (2 : Int)) || false)) (ev_orV (ev_lt (ev_lenS (es H1 s1)) ev_int) fun h => by simp at h) ?_
        have e : areSteps [a] = true := by
          simp [eqv_dC] at hf
          simp [areSteps, hf]
        rw [e] at k
        exact fun v H2 s2 r => k v H2 (s1.trans s2) r
      | [a, b], bl, es, hf, k =>
        refine s_ret (K := K) (d := .bool (decide ((([a, b] : List C2).map dC).length < (2 : Int)) || !decide (cr a b = 0))) (ev_orV (ev_lt (ev_lenS (es H1 s1)) ev_int) fun h => ev_neI (ev_cross (ev_ixS (es H1 s1) (atI_nat (j := 0) rfl)) (ev_ixS (es H1 s1) (atI_nat (j := 1) rfl)) ((bl a (by simp)).mono (by decide)) ((bl b (by simp)).mono (by decide))) ev_int) ?_
        have e : areSteps [a, b] = !decide (cr a b = 0) := by
          simp [eqv_dC] at hf
          simp [areSteps, hf]
        rw [e] at k
        exact fun v H2 s2 r => k v H2 (s1.trans s2) r
      | a :: b :: c :: r, bl, es, hf, k =>
        exfalso
        simp at hf
        omega
theorem ok_init (T : Txt K mg) : FnOk P w K mg base CX0 3 T.a_init T.f_init ["self", "base", "price", "steps", "prices"] (spInitS K T.C_Sheet) := by
  refine T.d_init.F.ok sc_init (fun vs H Q E h => ?_) (fun cdv A outer s H vs Q E hr h => ?_)
  · obtain ⟨p, dx, vb, vp, vs', vr, S, rfl, _⟩ := h
    rfl
  · obtain ⟨p, dx, vb, vp, vs', vr, S, rfl, hp, ok, rb, rp, rs, rr, k⟩ := h
    refine ⟨_, (pss_cons (ps_if (pt_not (pt_val (pe_call (ok_are_steps T) (hr.mono (by decide)) rfl T.d_are_steps.m T.d_are_steps.F.kp T.d_are_steps.b .nil pass0 (pa_cons (pv 3) pa_nil)))) (pss_one ps_never) pss_nil)
    (pss_cons (ps_if (pt_cmpR op_ne (pe_callB call_len_seq (by rfl) T.z_len (by decide +kernel) (pa_cons (pv 4) pa_nil)) (pe_callB call_len_seq (by rfl) T.z_len (by decide +kernel) (pa_cons (pv 3) pa_nil)) (nomark _)) (pss_one ps_never) pss_nil)
    (pss_cons (ps_fld (pv 0) (pv 1) rfl)
    (pss_cons (ps_fld (pv 0) (pv 2) rfl)
    (pss_cons (ps_fld (pv 0) (pe_callTy call_tuple_of (by rfl) T.z_tuple (by decide +kernel) (pa_cons (pv 3) pa_nil)) rfl)
    (pss_one (ps_fld (pv 0) (pe_callTy call_tuple_of (by rfl) T.z_tuple (by decide +kernel) (pa_cons (pv 4) pa_nil)) rfl))))))), ?_⟩
    try dsimp only [cxOf]
    rw [show L2.start N_init [V.ref p, vb, vp, vs', vr] = [some (V.ref p), some vb, some vp, some vs', some vr] from rfl]
    have e3 : ∀ H1, Same H H1 → EvS K (tVar 3) [some (V.ref p), some vb, some vp, some vs', some vr] H1 (S.steps.map dC) := fun H1 s1 => evs_var rfl (rs.same s1)
    have e4 : ∀ H1, Same H H1 → EvS K (tVar 4) [some (V.ref p), some vb, some vp, some vs', some vr] H1 (S.prices.map .int) := fun H1 s1 => evs_var rfl (rr.same s1)
    refine s_ifr (c := !(areSteps S.steps)) (evb_not (evb_b (K := K) (ev_areStepsS (e3 H (Same.refl H)) fun z hz => (ok.b2 z hz).mono (by decide)))) (fun ht H1 s1 => ?_) (fun hf H1 s1 => ?_)
    · rw [ok.st] at ht
      exact absurd ht (by decide)
    refine s_ifr (c := !decide ((((S.prices.map PyData.int).length : Nat) : Int) = ((S.steps.map dC).length : Nat))) (evb_test (K := K) (ev_neI (ev_lenS (e4 H1 s1)) (ev_lenS (e3 H1 s1)))) (fun ht H2 s2 => ?_) (fun hf H2 s2 => ?_)
    · rw [List.length_map, List.length_map, ok.ln] at ht
      simp at ht
    have hp2 : H2 p = some (.ins T.C_Sheet dx []) := s2 _ _ (s1 _ _ hp)
    have s02 := s1.trans s2
    have rb2 := rb.same s02
    have rp2 := rp.same s02
    have rs2 := rs.same s02
    have rr2 := rr.same s02
    have keep2 : ∀ b u, H b = some u → H2 b = some u := fun b u h => s02 b u h
    clear e3 e4 rs rr rb rp hp s1 s2
    have l1 : ∀ v, (putF "base" v ([] : List (Str × V))).length ≤ 1 := fun v => length_putF _ _ _
    have l2 : ∀ v u, (putF "price" u (putF "base" v ([] : List (Str × V)))).length ≤ 2 := fun v u => Nat.le_trans (length_putF _ _ _) (Nat.succ_le_succ (l1 v))
    have l3 : ∀ v u x, (putF "steps" x (putF "price" u (putF "base" v ([] : List (Str × V))))).length ≤ 3 := fun v u x => Nat.le_trans (length_putF _ _ _) (Nat.succ_le_succ (l2 v u))
    refine s_flds (K := K) (d := dC S.base) (ev_var rfl rb2) rfl hp2 T.c_Sheet T.n_Sheet_base (by decide) fun v1 H3 s3 r1 => ?_
    have hp3 := s3 _ _ hp2
    refine s_flds (K := K) (d := .int S.price) (ev_var rfl ((rp2.same s3).ins hp3)) rfl upd_same T.c_Sheet T.n_Sheet_price (Nat.lt_of_le_of_lt (l1 _) (by decide)) fun v2 H4 s4 r2 => ?_
    have hp4 := s4 _ _ upd_same
    refine s_flds (K := K) (d := dCs S.steps) (ev_tupleS (evs_var rfl ((((rs2.same s3).ins hp3).same s4).ins hp4))) rfl upd_same T.c_Sheet T.n_Sheet_steps (Nat.lt_of_le_of_lt (l2 _ _) (by decide)) fun v3 H5 s5 r3 => ?_
    have hp5 := s5 _ _ upd_same
    refine s_fld (K := K) (d := dIs S.prices) (ev_tupleS (evs_var rfl ((((((rr2.same s3).ins hp3).same s4).ins hp4).same s5).ins hp5))) rfl upd_same T.c_Sheet T.n_Sheet_prices (Nat.lt_of_le_of_lt (l3 _ _ _) (by decide)) fun v4 H6 s6 r4 => ?_
    have hp6 := s6 _ _ upd_same
    refine k _ ⟨dx, v1, v2, v3, v4, upd_same, ?_, ?_, ?_, r4.ins hp6⟩ fun b o hb ne => ?_
    · exact (((((r1.ins hp3).same s4).ins hp4).same s5).ins hp5 |>.same s6).ins hp6
    · exact (((r2.ins hp4).same s5).ins hp5 |>.same s6).ins hp6
    · exact ((r3.ins hp5).same s6).ins hp6
    · rw [upd_ne ne]
      refine s6 _ _ ?_
      rw [upd_ne ne]
      refine s5 _ _ ?_
      rw [upd_ne ne]
      refine s4 _ _ ?_
      rw [upd_ne ne]
      exact s3 _ _ (keep2 b o hb)
end
end LW
namespace LW
open PySem L2 LB
local macro_rules | `(tactic| walk_at "hp") => `(tactic| first
  | (with_reducible assumption) | (with_reducible exact Rep.int _) | (with_reducible exact Rep.bl _) | (with_reducible exact Rep.non) | (with_reducible exact Rep.str _)
  | ((with_reducible refine' Rep.same ?kk ?hh); (case kk => with_reducible assumption); (case hh => walk_at "hp"))
  | ((with_reducible refine' Rep.kt ?kk ?hh); (case kk => with_reducible assumption); (case hh => walk_at "hp")))
local macro_rules | `(tactic| walk_at "bd") => `(tactic| first
  | (with_reducible assumption)
  | exact bd_lit (n := 64) (by decide)
  | (with_reducible refine' Bd.mul ?_ ?_) <;> walk_at "bd"
  | (with_reducible refine' Bd.add ?_ ?_) <;> walk_at "bd"
  | (with_reducible refine' Bd.sub ?_ ?_) <;> walk_at "bd"
  | (with_reducible refine' Bd.neg ?_) <;> walk_at "bd")
local macro_rules | `(tactic| walk_at "ev") => `(tactic| first
  | (with_reducible exact ev_int) | (with_reducible exact ev_bl) | (with_reducible exact ev_non) | (with_reducible exact ev_str)
  | ((with_reducible refine' ev_var ?e ?hh); (case e => rfl); (case hh => walk_at "hp"))
  | (with_reducible refine' ev_add ?_ ?_) <;> walk_at "ev"
  | (with_reducible refine' ev_sub ?_ ?_) <;> walk_at "ev"
  | ((with_reducible refine' ev_mul ?m1 ?m2 ?m3); (case m1 => walk_at "ev"); (case m2 => walk_at "ev"); (case m3 => (refine' Bd.mulW ?b1 ?b2 ?b3; (case b1 => walk_at "bd"); (case b2 => walk_at "bd"); (case b3 => decide))))
  | ((with_reducible refine' ev_ix ?m1 ?m2); (case m1 => walk_at "ev"); (case m2 => rfl))
  | ((with_reducible refine' ev_tup ?m1 ?m2); (case m1 => walk_at "eva"); (case m2 => exact Nat.le_of_ble_eq_true rfl))
  | (with_reducible refine' ev_neg ?_) <;> walk_at "ev"
  | (with_reducible refine' ev_lt ?_ ?_) <;> walk_at "ev"
  | (with_reducible refine' ev_le ?_ ?_) <;> walk_at "ev"
  | (with_reducible refine' ev_gt ?_ ?_) <;> walk_at "ev"
  | (with_reducible refine' ev_ge ?_ ?_) <;> walk_at "ev"
  | (with_reducible refine' ev_eqI ?_ ?_) <;> walk_at "ev"
  | (with_reducible refine' ev_neI ?_ ?_) <;> walk_at "ev"
  | (with_reducible refine' ev_intI ?_) <;> walk_at "eva"
  | (with_reducible refine' ev_lenT ?_) <;> walk_at "eva"
  | walk_at "evx")
local macro_rules | `(tactic| walk_at "eva") => `(tactic| first
  | (with_reducible exact eva_nil)
  | ((with_reducible refine' eva_cons ?v1 ?v2); (case v1 => walk_at "ev"); (case v2 => walk_at "eva")))
local macro_rules | `(tactic| walk_at "evx") => `(tactic| first
  | ((with_reducible refine' ev_pget ?a ?b ?c); (case a => rfl); (case b => with_reducible assumption); (case c => first | (with_reducible exact p_at _) | (with_reducible exact p_dg _) | (with_reducible exact p_ct _) | (with_reducible exact p_fo _))))
local macro_rules | `(tactic| walk_at "sh") => `(tactic| first
  | (with_reducible assumption)
  | ((with_reducible refine' ShAt.same ?hh ?kk); (case kk => with_reducible assumption); (case hh => walk_at "sh"))
  | ((with_reducible refine' ShAt.kt ?hh ?kk); (case kk => with_reducible assumption); (case hh => walk_at "sh")))
local macro_rules | `(tactic| walk_at "evx") => `(tactic| first
  | ((with_reducible refine' ev_base ?e ?h ?c ?n); (case e => rfl); (case h => walk_at "sh"); (case c => with_reducible assumption); (case n => with_reducible assumption))
  | ((with_reducible refine' ev_price ?e ?h ?c ?n); (case e => rfl); (case h => walk_at "sh"); (case c => with_reducible assumption); (case n => with_reducible assumption))
  | ((with_reducible refine' ev_steps ?e ?h ?c ?n); (case e => rfl); (case h => walk_at "sh"); (case c => with_reducible assumption); (case n => with_reducible assumption))
  | ((with_reducible refine' ev_prices ?e ?h ?c ?n); (case e => rfl); (case h => walk_at "sh"); (case c => with_reducible assumption); (case n => with_reducible assumption)))
section
variable {P : Program} {w : World} {K : Fr} {mg : Str → Option Value} {base : Heap}
theorem ok_iBadSheet (T : Txt K mg) : FnOk P w K mg base CX0 1 T.a_iBadSheet T.f_iBadSheet ["self", "what"] (spBad T.C_BadSheet) := by
  refine T.d_iBadSheet.F.ok sc_iBadSheet (fun vs H Q E h => ?_) (fun cdv A outer s H vs Q E hr h => ?_)
  · obtain ⟨a, x, rfl, _⟩ := h
    rfl
  · obtain ⟨a, x, rfl, ea, k⟩ := h
    refine ⟨_, (pss_one (ps_ost (pv 0) (pv 1))), ?_⟩
    try dsimp only [cxOf]
    rw [show L2.start N_iBadSheet [V.ref a, x] = [some (.ref a), some x] from rfl]
    refine ⟨_, rfl, _, rfl, a, T.C_BadSheet, rfl, T.e_BadSheet.ox, T.n_BadSheet_what, .inl ⟨ea, fun d hd hne => ?_⟩⟩
    exact k d _ hd hne upd_same (by rw [upd_ne hne, upd_same]) fun b o e nb => by rw [upd_ne nb, upd_ne (fun z => by rw [z, hd] at e; cases e)]; exact e
/-- C(x) raised: what it asks -/
theorem raise_ok (T : Txt K mg) {σ : L2.St} {H : Hp} {E : XK} {x : Str} (h : ExW T.C_BadSheet x H E) : tMkO T.C_BadSheet (spBad T.C_BadSheet) [] (tCons (tC (.str x)) tNil) σ H E := by
  refine ⟨by show 1 ≤ 1000; decide, fun a na => ?_⟩
  refine ⟨a, .str x, rfl, upd_same, fun d H' hd hda ea ed kp => ⟨rfl, d, _, ea, ed, ?_, ?_⟩⟩
  · rw [upd_ne hda] at hd
    exact hd
  · have hd1 : H d = none := by rw [upd_ne hda] at hd; exact hd
    refine h d _ _ (fun b o hb => ?_) upd_same (by simp [List.lookup])
    have nba : b ≠ a := ne_of_none hb na
    rw [upd_ne (ne_of_none hb hd1), del_ne nba]
    exact kp b o (by rw [upd_ne nba]; exact hb) nba
theorem exw_same {C : Addr} {x : Str} {H H' : Hp} {E : XK} (h : ExW C x H E) (s : Same H H') : ExW C x H' E := fun d fs H2 s2 => h d fs H2 (s.trans s2)
theorem ok_initX (T : Txt K mg) : FnOk P w K mg base (L2.CX P w) 4 T.a_init T.f_init ["self", "base", "price", "steps", "prices"] (spInitX K T.C_Sheet T.C_BadSheet) := by
  obtain ⟨oc, od, dV, kV, doc, pm, an, cdv, ct, osl, lk, fe, hcd⟩ := T.d_init.F.ex
  generalize T.f_init = fd at lk fe
  subst fe
  refine fn_of lk hcd sc_init (fun vs H Q E h => ?_) fun A outer s H vs Q E hr h => ?_
  · obtain ⟨p, dx, vb, vp, vs', vr, l, m, rfl, _⟩ := h
    rfl
  · obtain ⟨p, dx, vb, vp, vs', vr, l, m, rfl, hp, rs, rr, bl, h⟩ := h
    have tk : Takes (cxOf (L2.CX P w) P w K mg base N_init "Sheet.__init__" (defScope s_init) T.a_init cdv A outer s H E) (fun cls d _ H => E cls d H) := takes_of rfl rfl rfl rfl
    refine ⟨_, (pss_cons (ps_if (pt_not (pt_val (pe_call (ok_are_steps T) (hr.mono (by decide)) rfl T.d_are_steps.m T.d_are_steps.F.kp T.d_are_steps.b .nil pass0 (pa_cons (pv 3) pa_nil)))) (pss_one (ps_raise rfl tk (pmk_oex T.e_BadSheet.ox T.d_iBadSheet.m.at_ (beq_iff_eq.mp T.d_iBadSheet.m.fn) (ok_iBadSheet T) (hr.mono (by decide)) T.b_iBadSheet .nil pass0 rfl T.g_BadSheet (pa_cons pe_str pa_nil)))) pss_nil)
    (pss_cons (ps_if (pt_cmpR op_ne (pe_callB call_len_seq (by rfl) T.z_len (by decide +kernel) (pa_cons (pv 4) pa_nil)) (pe_callB call_len_seq (by rfl) T.z_len (by decide +kernel) (pa_cons (pv 3) pa_nil)) (nomark _)) (pss_one (ps_raise rfl tk (pmk_oex T.e_BadSheet.ox T.d_iBadSheet.m.at_ (beq_iff_eq.mp T.d_iBadSheet.m.fn) (ok_iBadSheet T) (hr.mono (by decide)) T.b_iBadSheet .nil pass0 rfl T.g_BadSheet (pa_cons pe_str pa_nil)))) pss_nil)
    (pss_cons (ps_fld (pv 0) (pv 1) rfl)
    (pss_cons (ps_fld (pv 0) (pv 2) rfl)
    (pss_cons (ps_fld (pv 0) (pe_callTy call_tuple_of (by rfl) T.z_tuple (by decide +kernel) (pa_cons (pv 3) pa_nil)) rfl)
    (pss_one (ps_fld (pv 0) (pe_callTy call_tuple_of (by rfl) T.z_tuple (by decide +kernel) (pa_cons (pv 4) pa_nil)) rfl))))))), ?_⟩
    try dsimp only [cxOf]
    rw [show L2.start N_init [V.ref p, vb, vp, vs', vr] = [some (V.ref p), some vb, some vp, some vs', some vr] from rfl]
    have e3 : ∀ H1, Same H H1 → EvS K (tVar 3) [some (V.ref p), some vb, some vp, some vs', some vr] H1 (l.map dC) := fun H1 s1 => evs_var rfl (rs.same s1)
    have e4 : ∀ H1, Same H H1 → EvS K (tVar 4) [some (V.ref p), some vb, some vp, some vs', some vr] H1 (m.map .int) := fun H1 s1 => evs_var rfl (rr.same s1)
    refine s_ifr (c := !(areSteps l)) (evb_not (evb_b (K := K) (ev_areStepsS (e3 H (Same.refl H)) bl))) (fun ht H1 s1 => ?_) (fun hf H1 s1 => ?_)
    · rcases h with ⟨_, h⟩ | ⟨h0, _⟩
      · exact raise_ok T (exw_same h s1)
      · rw [h0] at ht
        exact absurd ht (by decide)
    rcases h with ⟨h0, _⟩ | ⟨_, hl, h⟩
    · rw [h0] at hf
      exact absurd hf (by decide)
    refine s_ifr (c := !decide ((((m.map PyData.int).length : Nat) : Int) = ((l.map dC).length : Nat))) (evb_test (K := K) (ev_neI (ev_lenS (e4 H1 s1)) (ev_lenS (e3 H1 s1)))) (fun ht H2 s2 => ?_) (fun hf H2 s2 => ?_)
    · exact raise_ok T (exw_same h (s1.trans s2))
    · rw [List.length_map, List.length_map] at hf
      simp at hf
      omega
end
end LW
namespace LW
open PySem L2 LB
local macro_rules | `(tactic| walk_at "hp") => `(tactic| first
  | (with_reducible assumption) | (with_reducible exact Rep.int _) | (with_reducible exact Rep.bl _) | (with_reducible exact Rep.non) | (with_reducible exact Rep.str _)
  | ((with_reducible refine' Rep.same ?kk ?hh); (case kk => with_reducible assumption); (case hh => walk_at "hp"))
  | ((with_reducible refine' Rep.kt ?kk ?hh); (case kk => with_reducible assumption); (case hh => walk_at "hp")))
local macro_rules | `(tactic| walk_at "bd") => `(tactic| first
  | (with_reducible assumption)
  | exact bd_lit (n := 64) (by decide)
  | (with_reducible refine' Bd.mul ?_ ?_) <;> walk_at "bd"
  | (with_reducible refine' Bd.add ?_ ?_) <;> walk_at "bd"
  | (with_reducible refine' Bd.sub ?_ ?_) <;> walk_at "bd"
  | (with_reducible refine' Bd.neg ?_) <;> walk_at "bd")
local macro_rules | `(tactic| walk_at "ev") => `(tactic| first
  | (with_reducible exact ev_int) | (with_reducible exact ev_bl) | (with_reducible exact ev_non) | (with_reducible exact ev_str)
  | ((with_reducible refine' ev_var ?e ?hh); (case e => rfl); (case hh => walk_at "hp"))
  | (with_reducible refine' ev_add ?_ ?_) <;> walk_at "ev"
  | (with_reducible refine' ev_sub ?_ ?_) <;> walk_at "ev"
  | ((with_reducible refine' ev_mul ?m1 ?m2 ?m3); (case m1 => walk_at "ev"); (case m2 => walk_at "ev"); (case m3 => (refine' Bd.mulW ?b1 ?b2 ?b3; (case b1 => walk_at "bd"); (case b2 => walk_at "bd"); (case b3 => decide))))
  | ((with_reducible refine' ev_ix ?m1 ?m2); (case m1 => walk_at "ev"); (case m2 => rfl))
  | ((with_reducible refine' ev_tup ?m1 ?m2); (case m1 => walk_at "eva"); (case m2 => exact Nat.le_of_ble_eq_true rfl))
  | (with_reducible refine' ev_neg ?_) <;> walk_at "ev"
  | (with_reducible refine' ev_lt ?_ ?_) <;> walk_at "ev"
  | (with_reducible refine' ev_le ?_ ?_) <;> walk_at "ev"
  | (with_reducible refine' ev_gt ?_ ?_) <;> walk_at "ev"
  | (with_reducible refine' ev_ge ?_ ?_) <;> walk_at "ev"
  | (with_reducible refine' ev_eqI ?_ ?_) <;> walk_at "ev"
  | (with_reducible refine' ev_neI ?_ ?_) <;> walk_at "ev"
  | (with_reducible refine' ev_intI ?_) <;> walk_at "eva"
  | (with_reducible refine' ev_lenT ?_) <;> walk_at "eva"
  | walk_at "evx")
local macro_rules | `(tactic| walk_at "eva") => `(tactic| first
  | (with_reducible exact eva_nil)
  | ((with_reducible refine' eva_cons ?v1 ?v2); (case v1 => walk_at "ev"); (case v2 => walk_at "eva")))
local macro_rules | `(tactic| walk_at "evx") => `(tactic| first
  | ((with_reducible refine' ev_pget ?a ?b ?c); (case a => rfl); (case b => with_reducible assumption); (case c => first | (with_reducible exact p_at _) | (with_reducible exact p_dg _) | (with_reducible exact p_ct _) | (with_reducible exact p_fo _))))
local macro_rules | `(tactic| walk_at "sh") => `(tactic| first
  | (with_reducible assumption)
  | ((with_reducible refine' ShAt.same ?hh ?kk); (case kk => with_reducible assumption); (case hh => walk_at "sh"))
  | ((with_reducible refine' ShAt.kt ?hh ?kk); (case kk => with_reducible assumption); (case hh => walk_at "sh")))
local macro_rules | `(tactic| walk_at "evx") => `(tactic| first
  | ((with_reducible refine' ev_base ?e ?h ?c ?n); (case e => rfl); (case h => walk_at "sh"); (case c => with_reducible assumption); (case n => with_reducible assumption))
  | ((with_reducible refine' ev_price ?e ?h ?c ?n); (case e => rfl); (case h => walk_at "sh"); (case c => with_reducible assumption); (case n => with_reducible assumption))
  | ((with_reducible refine' ev_steps ?e ?h ?c ?n); (case e => rfl); (case h => walk_at "sh"); (case c => with_reducible assumption); (case n => with_reducible assumption))
  | ((with_reducible refine' ev_prices ?e ?h ?c ?n); (case e => rfl); (case h => walk_at "sh"); (case c => with_reducible assumption); (case n => with_reducible assumption)))
section
variable {P : Program} {w : World} {K : Fr} {mg : Str → Option Value} {base : Heap}
theorem eqvAll_dC : ∀ l m : List C2, PyData.eqvAll (l.map dC) (m.map dC) = decide (l = m)
  | [], [] => by simp [PyData.eqvAll]
  | [], _ :: _ => by simp [PyData.eqvAll]
  | _ :: _, [] => by simp [PyData.eqvAll]
  | a :: l, b :: m => by
    have h := eqvAll_dC l m
    have h2 := eqv_dC (a := a) (b := b)
    simp only [List.map, PyData.eqvAll]
    rw [h2, h]
    by_cases x : a = b <;> by_cases y : l = m <;> simp [x, y]
theorem eqv_dCs {l m : List C2} : PyData.eqv (dCs l) (dCs m) = decide (l = m) := eqvAll_dC l m
theorem eqvAll_int : ∀ l m : List Int, PyData.eqvAll (l.map PyData.int) (m.map PyData.int) = decide (l = m)
  | [], [] => by simp [PyData.eqvAll]
  | [], _ :: _ => by simp [PyData.eqvAll]
  | _ :: _, [] => by simp [PyData.eqvAll]
  | a :: l, b :: m => by
    have h := eqvAll_int l m
    simp only [List.map, PyData.eqvAll, PyData.eqv]
    rw [h]
    by_cases x : a = b <;> by_cases y : l = m <;> simp [x, y]
theorem eqv_dIs {l m : List Int} : PyData.eqv (dIs l) (dIs m) = decide (l = m) := eqvAll_int l m
theorem ok_eq (T : Txt K mg) : FnOk P w K mg base CX0 1 T.a_eq T.f_eq ["self", "other"] (spEqS K T.C_Sheet) := by
  refine T.d_eq.F.ok sc_eq (fun vs H Q E h => ?_) (fun cdv A outer s H vs Q E hr h => ?_)
  · obtain ⟨p, S, v, rfl, _⟩ := h
    rfl
  · obtain ⟨p, S, v, rfl, hS, h⟩ := h
    have hu64 : (A.deeper (PyProof.Rows.envOfC "Sheet.__eq__" (defScope s_eq) s.heap.objs.size T.a_eq cdv)).units + 64 < cLine := by
      have := hr.un
      omega
    have hc := T.c_Sheet
    have hn1 := T.n_Sheet_base
    have hn2 := T.n_Sheet_price
    have hn3 := T.n_Sheet_steps
    have hn4 := T.n_Sheet_prices
    refine ⟨_, (pss_one (ps_ret (pe_and (pe_callB call_isi (by rfl) T.z_isinstance (by decide +kernel) (pa_cons (pv 1) (pa_cons (pe_glob (v := .ref T.C_Sheet) (u := .ref T.C_Sheet) rfl T.g_Sheet rfl) pa_nil))) (pe_and (pe_cmpR (op_eqK K rfl hu64) (pe_fld (pv 0) rfl) (pe_fld (pv 1) rfl) (nomark _)) (pe_and (pe_cmpR op_eq (pe_fld (pv 0) rfl) (pe_fld (pv 1) rfl) (nomark _)) (pe_and (pe_cmpR (op_eqK K rfl hu64) (pe_fld (pv 0) rfl) (pe_fld (pv 1) rfl) (nomark _)) (pe_one (pe_cmpR (op_eqK K rfl hu64) (pe_fld (pv 0) rfl) (pe_fld (pv 1) rfl) (nomark _))))))))), ?_⟩
    try dsimp only [cxOf]
    rw [show L2.start N_eq [V.ref p, v] = [some (V.ref p), some v] from rfl]
    rcases h with ⟨q, S', rfl, hS', k⟩ | ⟨ds, rv, k⟩
    · refine s_ret (K := K) (d := .bool (true && (decide (S.base = S'.base) && (decide (S.price = S'.price) && (decide (S.steps = S'.steps) && decide (S.prices = S'.prices)))))) (ev_andV (ev_isSh rfl hS' hc T.i_Sheet) fun _ => ev_andV ?e1 fun _ => ev_andV ?e2 fun _ => ev_andV ?e3 fun _ => ?e4) fun v H1 s1 r => ?_
      case e1 =>
        rw [← eqv_dC]
        exact ev_eqD (ev_base rfl hS hc hn1) (ev_base rfl hS' hc hn1) (shaped_dC _) (shaped_dC _)
      case e2 => exact ev_eqI (ev_price rfl hS hc hn2) (ev_price rfl hS' hc hn2)
      case e3 =>
        rw [← eqv_dCs]
        exact ev_eqD (ev_steps rfl hS hc hn3) (ev_steps rfl hS' hc hn3) (shaped_dCs _) (shaped_dCs _)
      case e4 =>
        rw [← eqv_dIs]
        exact ev_eqD (ev_prices rfl hS hc hn4) (ev_prices rfl hS' hc hn4) (shaped_dIs _) (shaped_dIs _)
      · have e := r.bl_inv
        subst e
        rw [Bool.true_and]
        exact k H1 s1
    · refine s_ret (K := K) (d := .bool (false && false)) (ev_andV (ev_notSh rfl rv T.r_Sheet) fun h => by cases h) fun v H1 s1 r => ?_
      have e := r.bl_inv
      subst e
      exact k H1 s1
theorem ok_lplus (T : Txt K mg) : FnOk P w K mg base CX0 1 T.a_lplus T.f_lplus ["_law_one", "_law_two"] (spPlus K) := by
  refine T.d_lplus.F.ok sc_lplus (fun vs H Q E h => ?_) (fun cdv A outer s H vs Q E hr h => ?_)
  · obtain ⟨ds, d, hv, ⟨a, b, rfl, _⟩, _⟩ := h
    exact hv.len
  · obtain ⟨ds, d, hv, ⟨a, b, rfl, rfl⟩, k⟩ := h
    obtain ⟨v1, v2, rfl, r1, r2⟩ := hv.inv2
    refine ⟨_, (pss_one (ps_ret (pe_tup (pa_cons (pe_op op_add (pe_ix (ix_tK K) (pv 0) pe_int (fun _ _ => rfl)) (pe_ix (ix_tK K) (pv 1) pe_int (fun _ _ => rfl))) (pa_cons (pe_op op_add (pe_ix (ix_tK K) (pv 0) pe_int (fun _ _ => rfl)) (pe_ix (ix_tK K) (pv 1) pe_int (fun _ _ => rfl))) pa_nil))))), ?_⟩
    try dsimp only [cxOf]
    rw [show L2.start N_lplus [v1, v2] = [some v1, some v2] from rfl]
    with_reducible refine s_ret (K := K) (d := .tuple [.int (a.1 + b.1), .int (a.2 + b.2)]) ?t ?_
    case t => walk_at "ev"
    exact fun v H1 s1 r => k v H1 s1 r
theorem ok_lmoved (T : Txt K mg) : FnOk P w K mg base CX0 2 T.a_lmoved T.f_lmoved ["_law_sheet", "_law_shift", "_law_price"] (spLmoved K) := by
  refine T.d_lmoved.F.ok sc_lmoved (fun vs H Q E h => ?_) (fun cdv A outer s H vs Q E hr h => ?_)
  · obtain ⟨ds, d, hv, ⟨S, c, x, rfl, _⟩, _⟩ := h
    exact hv.len
  · obtain ⟨ds, d, hv, ⟨S, c, x, rfl, rfl⟩, k⟩ := h
    obtain ⟨v1, v2, v3, rfl, r1, r2, r3⟩ := hv.inv3
    refine ⟨_, (pss_one (ps_ret (pe_tup (pa_cons (pe_call (ok_lplus T) (hr.mono (by decide)) rfl T.d_lplus.m T.d_lplus.F.kp T.d_lplus.b .nil pass0 (pa_cons (pe_ix (ix_tK K) (pv 0) pe_int (fun _ _ => rfl)) (pa_cons (pv 1) pa_nil))) (pa_cons (pe_op op_add (pe_ix (ix_tK K) (pv 0) pe_int (fun _ _ => rfl)) (pv 2)) (pa_cons (pe_ix (ix_tK K) (pv 0) pe_int (fun _ _ => rfl)) (pa_cons (pe_ix (ix_tK K) (pv 0) pe_int (fun _ _ => rfl)) pa_nil))))))), ?_⟩
    try dsimp only [cxOf]
    rw [show L2.start N_lmoved [v1, v2, v3] = [some v1, some v2, some v3] from rfl]
    refine s_ret (K := K) (d := .tuple [dC (S.base.1 + c.1, S.base.2 + c.2), .int (S.price + x), dCs S.steps, dIs S.prices]) (ev_tup (eva_cons (ev_call (eva_cons ?t1 (eva_cons ?t2 eva_nil)) ⟨S.base, c, rfl, rfl⟩) (eva_cons ?t3 (eva_cons ?t4 (eva_cons ?t5 eva_nil)))) (Nat.le_of_ble_eq_true rfl)) ?_
    case t1 => walk_at "ev"
    case t2 => walk_at "ev"
    case t3 => walk_at "ev"
    case t4 => walk_at "ev"
    case t5 => walk_at "ev"
    exact fun v H1 s1 r => k v H1 s1 r
/-- a sheet made of four values of which the steps and prices may be lists -/
theorem make_ok (T : Txt K mg) {H : Hp} {Q : VK} {S : Sh} {v1 v2 v3 v4 : V} (ok : S.Ok) (q1 : Rep K H v1 (dC S.base)) (q2 : Rep K H v2 (.int S.price)) (q3 : RepS K H v3 (S.steps.map dC)) (q4 : RepS K H v4 (S.prices.map .int))
    (k : ∀ (p : Addr) (H' : Hp), ShAt K T.C_Sheet H' p S → Same H H' → Q (.ref p) H') (x dx : Addr) (nx : H x = none) (ndx : H dx = none) (nex : dx ≠ x) :
    spInitS K T.C_Sheet [.ref x, v1, v2, v3, v4] (upd (upd H dx (.own x)) x (.ins T.C_Sheet dx [])) (fun v H2 => v = .non ∧ Q (.ref x) H2) E0 := by
  have sd := same_upd (o := HO.own x) ndx
  have nx' : upd H dx (.own x) x = none := by rw [upd_ne (Ne.symm nex)]; exact nx
  have sx := same_upd (o := HO.ins T.C_Sheet dx []) nx'
  have s2 := sd.trans sx
  exact ⟨x, dx, v1, v2, v3, v4, S, rfl, upd_same, ok, q1.same s2, q2.same s2, q3.same s2, q4.same s2, fun H' hS keep => ⟨rfl, k x H' hS fun b o hb => keep b o (s2 b o hb) (ne_of_none hb nx)⟩⟩
theorem ok_made (T : Txt K mg) : FnOk P w K mg base CX0 5 T.a_made T.f_made ["_law_row"] (spMade K T.C_Sheet) := by
  refine T.d_made.F.ok sc_made (fun vs H Q E h => ?_) (fun cdv A outer s H vs Q E hr h => ?_)
  · obtain ⟨S, v, rfl, _⟩ := h
    rfl
  · obtain ⟨S, v, rfl, ok, rv, k⟩ := h
    refine ⟨_, (pss_one (ps_ret (pe_make T.k_Sheet (ok_init T) (hr.mono (by decide)) rfl T.g_Sheet T.b_init .nil pass0 (pa_cons (pe_ix (ix_tK K) (pv 0) pe_int (fun _ _ => rfl)) (pa_cons (pe_ix (ix_tK K) (pv 0) pe_int (fun _ _ => rfl)) (pa_cons (pe_ix (ix_tK K) (pv 0) pe_int (fun _ _ => rfl)) (pa_cons (pe_ix (ix_tK K) (pv 0) pe_int (fun _ _ => rfl)) pa_nil))))))), ?_⟩
    try dsimp only [cxOf, List.map]
    rw [show L2.start N_made [v] = [some v] from rfl]
    have e : EvA K (tCons (tOp (rIxT K) (tVar 0) (tC (V.int 0))) (tCons (tOp (rIxT K) (tVar 0) (tC (V.int 1))) (tCons (tOp (rIxT K) (tVar 0) (tC (V.int 2))) (tCons (tOp (rIxT K) (tVar 0) (tC (V.int 3))) tNil)))) [some v] H [dC S.base, .int S.price, dCs S.steps, dIs S.prices] := by
      walk_at "eva"
    unfold tRet tMake
    refine e H (Same.refl H) _ fun ws H1 s1 rs => ?_
    obtain ⟨w1, w2, w3, w4, rfl, q1, q2, q3, q4⟩ := rs.inv4
    exact make_ok T ok q1 q2 q3.seq q4.seq fun p H' hS s2 => k p H' hS (s1.trans s2)
theorem ok_moved (T : Txt K mg) : FnOk P w K mg base CX0 5 T.a_moved T.f_moved ["self", "shift", "price"] (spMoved K T.C_Sheet) := by
  refine T.d_moved.F.ok sc_moved (fun vs H Q E h => ?_) (fun cdv A outer s H vs Q E hr h => ?_)
  · obtain ⟨p, S, v, c, x, rfl, _⟩ := h
    rfl
  · obtain ⟨p, S, v, c, x, rfl, hS, rv, ok, k⟩ := h
    have hc := T.c_Sheet
    have hn1 := T.n_Sheet_base
    have hn2 := T.n_Sheet_price
    have hn3 := T.n_Sheet_steps
    have hn4 := T.n_Sheet_prices
    refine ⟨_, (pss_cons (ps_set (i := 3) sc_moved.nd rfl (Or.inl rfl) (pe_tup (pa_cons (pe_op op_add (pe_ix (ix_tK K) (pe_fld (pv 0) rfl) pe_int (fun _ _ => rfl)) (pe_ix (ix_tK K) (pv 1) pe_int (fun _ _ => rfl))) (pa_cons (pe_op op_add (pe_ix (ix_tK K) (pe_fld (pv 0) rfl) pe_int (fun _ _ => rfl)) (pe_ix (ix_tK K) (pv 1) pe_int (fun _ _ => rfl))) pa_nil))))
    (pss_one (ps_ret (pe_make T.k_Sheet (ok_init T) (hr.mono (by decide)) rfl T.g_Sheet T.b_init .nil pass0 (pa_cons (pv 3) (pa_cons (pe_op op_add (pe_fld (pv 0) rfl) (pv 2)) (pa_cons (pe_fld (pv 0) rfl) (pa_cons (pe_fld (pv 0) rfl) pa_nil)))))))), ?_⟩
    try dsimp only [cxOf, List.map]
    rw [show L2.start N_moved [V.ref p, v, .int x] = [some (.ref p), some v, some (.int x), none] from rfl]
    with_reducible refine s_set (K := K) (d := .tuple [.int (S.base.1 + c.1), .int (S.base.2 + c.2)]) ?t fun vb H1 s1 rb => ?_
    case t => walk_at "ev"
    rw [show ([some (.ref p), some v, some (.int x), none] : L2.St).set 3 (some vb) = [some (.ref p), some v, some (.int x), some vb] from rfl]
    have hS1 := hS.same s1
    have e : EvA K (tCons (tVar 3) (tCons (tOp (rI0 fun i j => V.int (i + j)) (tFld K (tVar 0) "price") (tVar 2)) (tCons (tFld K (tVar 0) "steps") (tCons (tFld K (tVar 0) "prices") tNil)))) [some (.ref p), some v, some (.int x), some vb] H1 [dC (S.move c x).base, .int (S.price + x), dCs S.steps, dIs S.prices] := by
      refine eva_cons (ev_var rfl rb) ?_
      walk_at "eva"
    unfold tRet tMake
    refine e H1 (Same.refl H1) _ fun ws H2 s2 rs => ?_
    obtain ⟨w1, w2, w3, w4, rfl, q1, q2, q3, q4⟩ := rs.inv4
    exact make_ok T ok q1 q2 q3.seq q4.seq fun p H' hS s3 => k p H' hS ((s1.trans s2).trans s3)
end
end LW
namespace LW
open PySem L2 LB
local macro_rules | `(tactic| walk_at "hp") => `(tactic| first
  | (with_reducible assumption) | (with_reducible exact Rep.int _) | (with_reducible exact Rep.bl _) | (with_reducible exact Rep.non) | (with_reducible exact Rep.str _)
  | ((with_reducible refine' Rep.same ?kk ?hh); (case kk => with_reducible assumption); (case hh => walk_at "hp"))
  | ((with_reducible refine' Rep.kt ?kk ?hh); (case kk => with_reducible assumption); (case hh => walk_at "hp")))
local macro_rules | `(tactic| walk_at "bd") => `(tactic| first
  | (with_reducible assumption)
  | exact bd_lit (n := 64) (by decide)
  | (with_reducible refine' Bd.mul ?_ ?_) <;> walk_at "bd"
  | (with_reducible refine' Bd.add ?_ ?_) <;> walk_at "bd"
  | (with_reducible refine' Bd.sub ?_ ?_) <;> walk_at "bd"
  | (with_reducible refine' Bd.neg ?_) <;> walk_at "bd")
local macro_rules | `(tactic| walk_at "ev") => `(tactic| first
  | (with_reducible exact ev_int) | (with_reducible exact ev_bl) | (with_reducible exact ev_non) | (with_reducible exact ev_str)
  | ((with_reducible refine' ev_var ?e ?hh); (case e => rfl); (case hh => walk_at "hp"))
  | (with_reducible refine' ev_add ?_ ?_) <;> walk_at "ev"
  | (with_reducible refine' ev_sub ?_ ?_) <;> walk_at "ev"
  | ((with_reducible refine' ev_mul ?m1 ?m2 ?m3); (case m1 => walk_at "ev"); (case m2 => walk_at "ev"); (case m3 => (refine' Bd.mulW ?b1 ?b2 ?b3; (case b1 => walk_at "bd"); (case b2 => walk_at "bd"); (case b3 => decide))))
  | ((with_reducible refine' ev_ix ?m1 ?m2); (case m1 => walk_at "ev"); (case m2 => rfl))
  | ((with_reducible refine' ev_tup ?m1 ?m2); (case m1 => walk_at "eva"); (case m2 => exact Nat.le_of_ble_eq_true rfl))
  | (with_reducible refine' ev_neg ?_) <;> walk_at "ev"
  | (with_reducible refine' ev_lt ?_ ?_) <;> walk_at "ev"
  | (with_reducible refine' ev_le ?_ ?_) <;> walk_at "ev"
  | (with_reducible refine' ev_gt ?_ ?_) <;> walk_at "ev"
  | (with_reducible refine' ev_ge ?_ ?_) <;> walk_at "ev"
  | (with_reducible refine' ev_eqI ?_ ?_) <;> walk_at "ev"
  | (with_reducible refine' ev_neI ?_ ?_) <;> walk_at "ev"
  | (with_reducible refine' ev_intI ?_) <;> walk_at "eva"
  | (with_reducible refine' ev_lenT ?_) <;> walk_at "eva"
  | walk_at "evx")
local macro_rules | `(tactic| walk_at "eva") => `(tactic| first
  | (with_reducible exact eva_nil)
  | ((with_reducible refine' eva_cons ?v1 ?v2); (case v1 => walk_at "ev"); (case v2 => walk_at "eva")))
local macro_rules | `(tactic| walk_at "evx") => `(tactic| first
  | ((with_reducible refine' ev_pget ?a ?b ?c); (case a => rfl); (case b => with_reducible assumption); (case c => first | (with_reducible exact p_at _) | (with_reducible exact p_dg _) | (with_reducible exact p_ct _) | (with_reducible exact p_fo _))))
local macro_rules | `(tactic| walk_at "sh") => `(tactic| first
  | (with_reducible assumption)
  | ((with_reducible refine' ShAt.same ?hh ?kk); (case kk => with_reducible assumption); (case hh => walk_at "sh"))
  | ((with_reducible refine' ShAt.kt ?hh ?kk); (case kk => with_reducible assumption); (case hh => walk_at "sh")))
local macro_rules | `(tactic| walk_at "evx") => `(tactic| first
  | ((with_reducible refine' ev_base ?e ?h ?c ?n); (case e => rfl); (case h => walk_at "sh"); (case c => with_reducible assumption); (case n => with_reducible assumption))
  | ((with_reducible refine' ev_price ?e ?h ?c ?n); (case e => rfl); (case h => walk_at "sh"); (case c => with_reducible assumption); (case n => with_reducible assumption))
  | ((with_reducible refine' ev_steps ?e ?h ?c ?n); (case e => rfl); (case h => walk_at "sh"); (case c => with_reducible assumption); (case n => with_reducible assumption))
  | ((with_reducible refine' ev_prices ?e ?h ?c ?n); (case e => rfl); (case h => walk_at "sh"); (case c => with_reducible assumption); (case n => with_reducible assumption)))
section
variable {P : Program} {w : World} {K : Fr} {mg : Str → Option Value} {base : Heap}
theorem ok_lexI (n : Nat) (T : Txt K mg) : FnOk P w K mg base CX0 1 T.a_lexact T.f_lexact ["_law_told", "_law_due"] (spExact0 K) := by
  refine T.d_lexact.F.ok sc_lexact (fun vs H Q E h => ?_) (fun cdv A outer s H vs Q E hr h => ?_)
  · obtain ⟨ds, d, hv, ⟨i, rfl, _⟩, _⟩ := h
    exact hv.len
  · obtain ⟨ds, d, hv, ⟨i, rfl, rfl⟩, k⟩ := h
    obtain ⟨v1, v2, rfl, r1, r2⟩ := hv.inv2
    refine ⟨_, (pss_cons (ps_if (pt_val (pe_callB call_isi (by rfl) T.z_isinstance (by decide +kernel) (pa_cons (pv 1) (pa_cons (pe_bltn (v := .ty "tuple") (u := .type "tuple") rfl T.z_tuple (by decide +kernel) rfl) pa_nil)))) pss_never pss_nil)
      (pss_one (ps_ret (pe_and (pe_cmpR op_eq (pe_callB call_isi (by rfl) T.z_isinstance (by decide +kernel) (pa_cons (pv 0) (pa_cons (pe_bltn (v := .ty "bool") (u := .type "bool") rfl T.z_bool (by decide +kernel) rfl) pa_nil))) (pe_callB call_isi (by rfl) T.z_isinstance (by decide +kernel) (pa_cons (pv 1) (pa_cons (pe_bltn (v := .ty "bool") (u := .type "bool") rfl T.z_bool (by decide +kernel) rfl) pa_nil))) (nomark _)) (pe_one (pe_cmpR op_eq (pv 0) (pv 1) (nomark _))))))), ?_⟩
    try dsimp only [cxOf]
    rw [show L2.start N_lexact [v1, v2] = [some v1, some v2, none, none] from rfl]
    refine s_ifr (c := false) (evb_b (K := K) (ev_isi (d := .int i) ?_ (show kitB "int" "tuple" = some false by decide +kernel))) (fun ht H1 s1 => by cases ht) (fun hf H1 s1 => ?_)
    · walk_at "ev"
    refine s_ret (K := K) (d := .bool (decide (false = false) && decide (i = i))) (ev_andV (ev_eqB (ev_isi (d := .int i) ?_ (show kitB "int" "bool" = some false by decide +kernel)) (ev_isi (d := .int i) ?_ (show kitB "int" "bool" = some false by decide +kernel))) fun _ => ?_) fun v H2 s2 r => k v H2 (s1.trans s2) (by simpa using r)
    all_goals walk_at "ev"
theorem ok_lexT (T : Txt K mg) (n m : Nat) (ih : FnOk P w K mg base CX0 m T.a_lexact T.f_lexact ["_law_told", "_law_due"] (spEx n K)) : FnOk P w K mg base CX0 (m + 1) T.a_lexact T.f_lexact ["_law_told", "_law_due"] (spExT n K) := by
  refine T.d_lexact.F.ok sc_lexact (fun vs H Q E h => ?_) (fun cdv A outer s H vs Q E hr h => ?_)
  · obtain ⟨ds, d, hv, ⟨l, rfl, _⟩, _⟩ := h
    exact hv.len
  · obtain ⟨ds, d, hv, ⟨l, rfl, hl, hx, rfl⟩, k⟩ := h
    obtain ⟨v1, v2, rfl, r1, r2⟩ := hv.inv2
    refine ⟨_, (pss_cons (ps_if (pt_val (pe_callB call_isi (by rfl) T.z_isinstance (by decide +kernel) (pa_cons (pv 1) (pa_cons (pe_bltn (v := .ty "tuple") (u := .type "tuple") rfl T.z_tuple (by decide +kernel) rfl) pa_nil)))) (pss_cons (ps_if (PW.pt (pw_or (pt_not (pt_val (pe_callB call_isi (by rfl) T.z_isinstance (by decide +kernel) (pa_cons (pv 0) (pa_cons (pe_bltn (v := .ty "tuple") (u := .type "tuple") rfl T.z_tuple (by decide +kernel) rfl) pa_nil))))) (pw_or1 (pt_cmpR op_ne (pe_callB call_len_seq (by rfl) T.z_len (by decide +kernel) (pa_cons (pv 0) pa_nil)) (pe_callB call_len_seq (by rfl) T.z_len (by decide +kernel) (pa_cons (pv 1) pa_nil)) (nomark _))))) (pss_one (ps_ret pe_bl)) pss_nil)
    (pss_one (ps_ret (pe_callB (cr_all rfl) (by rfl) T.z_all (by decide +kernel) (pa_cons (pe_lc (own := [("_law_one", 2), ("_law_other", 3)]) (g := gTup _ 2 (gCons (gName 2) (gCons (gName 3) gNil))) rfl sc_lexact.nd (RZ.pi_zipA rfl T.z_zip (pa_cons (pv 0) (pa_cons (pv 1) pa_nil))) (blkOk_by (N := N_lexact) (sc := defScope s_lexact) (by decide +kernel)) (fun _ _ _ _ _ => (pg_tup rfl (pgs_cons (pg_name (i := 2) sc_lexact.nd rfl (Or.inl rfl)) (pgs_cons (pg_name (i := 3) sc_lexact.nd rfl (Or.inl rfl)) pgs_nil)))) (fun _ _ _ _ _ => pts_nil) (fun _ _ _ _ _ => (pe_call ih (hr.mono (Nat.le_refl _)) rfl T.d_lexact.m T.d_lexact.F.kp T.d_lexact.b .nil pass0 (pa_cons (pv 2) (pa_cons (pv 3) pa_nil))))) pa_nil))))) pss_nil)
    (pss_one (ps_ret (pe_and (pe_cmpR op_eq (pe_callB call_isi (by rfl) T.z_isinstance (by decide +kernel) (pa_cons (pv 0) (pa_cons (pe_bltn (v := .ty "bool") (u := .type "bool") rfl T.z_bool (by decide +kernel) rfl) pa_nil))) (pe_callB call_isi (by rfl) T.z_isinstance (by decide +kernel) (pa_cons (pv 1) (pa_cons (pe_bltn (v := .ty "bool") (u := .type "bool") rfl T.z_bool (by decide +kernel) rfl) pa_nil))) (nomark _)) (pe_one (pe_cmpR op_eq (pv 0) (pv 1) (nomark _))))))), ?_⟩
    try dsimp only [cxOf, List.map]
    rw [show L2.start N_lexact [v1, v2] = [some v1, some v2, none, none] from rfl]
    refine s_ifs (c := true) (evb_b (K := K) (ev_isi (d := .tuple l) ?_ (show kitB "tuple" "tuple" = some true by decide +kernel))) (fun ht H1 s1 => ?_) (fun hf => by cases hf)
    · walk_at "ev"
    refine s_ifr (c := (!true) || !decide (((l.length : Nat) : Int) = (l.length : Nat))) (evb_or (evb_not (evb_b (K := K) (ev_isi (d := .tuple l) ?_ (show kitB "tuple" "tuple" = some true by decide +kernel)))) fun _ => evb_test (K := K) (ev_neI ?_ ?_)) (fun ht H2 s2 => by simp at ht) (fun hf H2 s2 => ?_)
    · walk_at "ev"
    · walk_at "ev"
    · walk_at "ev"
    refine s_ret (K := K) (d := .bool ((l.map fun _ => true).all id)) (ev_all (evl_lcz (ds := l) (fs := l) (by decide) ?_ ?_ (by simp) hl ?_)) ?_
    · walk_at "ev"
    · walk_at "ev"
    · intro j d f v w H3 hd hf s3 rv rw'
      have e := hd.symm.trans hf
      cases e
      refine ⟨.bool true, by simp [hd], ?_⟩
      refine ev_call (ds := [d, d]) (eva_cons ?_ (eva_cons ?_ eva_nil)) ⟨d, rfl, hx d (List.mem_of_getElem? hd), rfl⟩
      all_goals walk_at "ev"
    · intro v H3 s3 r
      have e : (l.map fun _ => true).all id = true := by simp
      rw [e] at r
      exact k v H3 ((s1.trans s2).trans s3) r
theorem ok_lex (T : Txt K mg) : ∀ n : Nat, FnOk P w K mg base CX0 (n + 1) T.a_lexact T.f_lexact ["_law_told", "_law_due"] (spEx n K)
  | 0 => (ok_lexI 0 T).imp fun vs H Q E h => by
    obtain ⟨ds, d, hv, ⟨x, e, ⟨i, ei⟩, e2⟩, k⟩ := h
    subst ei
    exact ⟨ds, d, hv, ⟨i, e, e2⟩, k⟩
  | n + 1 => by
    refine FnOk.imp (LB.FnOk.or ((ok_lexI 0 T).mono (by omega)) (ok_lexT T n (n + 1) (ok_lex T n))) fun vs H Q E h => ?_
    obtain ⟨ds, d, hv, ⟨x, e, hx, e2⟩, k⟩ := h
    rcases hx with ⟨i, ei⟩ | ⟨l, el, hl, hx⟩
    · subst ei
      exact .inl ⟨ds, d, hv, ⟨i, e, e2⟩, k⟩
    · subst el
      exact .inr ⟨ds, d, hv, ⟨l, e, hl, hx, e2⟩, k⟩
theorem ok_lexact (T : Txt K mg) : FnOk P w K mg base CX0 3 T.a_lexact T.f_lexact ["_law_told", "_law_due"] (spEx 2 K) := ok_lex T 2
theorem ok_is_sheet (T : Txt K mg) : FnOk P w K mg base CX0 4 T.a_is_sheet T.f_is_sheet ["_law_told", "_law_row"] (spIsSh K T.C_Sheet) := by
  refine T.d_is_sheet.F.ok sc_is_sheet (fun vs H Q E h => ?_) (fun cdv A outer s H vs Q E hr h => ?_)
  · obtain ⟨p, S, v, rfl, _⟩ := h
    rfl
  · obtain ⟨p, S, v, rfl, hS, rv, l1, l2, k⟩ := h
    have hc := T.c_Sheet
    have hn1 := T.n_Sheet_base
    have hn2 := T.n_Sheet_price
    have hn3 := T.n_Sheet_steps
    have hn4 := T.n_Sheet_prices
    refine ⟨_, (pss_cons (ps_if (PW.pt (pw_or (pt_not (pt_val (pe_callB call_isi (by rfl) T.z_isinstance (by decide +kernel) (pa_cons (pv 0) (pa_cons (pe_glob (v := .ref T.C_Sheet) (u := .ref T.C_Sheet) rfl T.g_Sheet rfl) pa_nil))))) (pw_or1 (pt_not (pt_val (pe_call (ok_lexact T) (hr.mono (by decide)) rfl T.d_lexact.m T.d_lexact.F.kp T.d_lexact.b .nil pass0 (pa_cons (pe_tup (pa_cons (pe_fld (pv 0) rfl) (pa_cons (pe_fld (pv 0) rfl) pa_nil))) (pa_cons (pe_tup (pa_cons (pe_ix (ix_tK K) (pv 1) pe_int (fun _ _ => rfl)) (pa_cons (pe_ix (ix_tK K) (pv 1) pe_int (fun _ _ => rfl)) pa_nil))) pa_nil)))))))) (pss_one (ps_ret pe_bl)) pss_nil)
    (pss_one (ps_ret (pe_and (pe_call (ok_lexact T) (hr.mono (by decide)) rfl T.d_lexact.m T.d_lexact.F.kp T.d_lexact.b .nil pass0 (pa_cons (pe_fld (pv 0) rfl) (pa_cons (pe_ix (ix_tK K) (pv 1) pe_int (fun _ _ => rfl)) pa_nil))) (pe_one (pe_call (ok_lexact T) (hr.mono (by decide)) rfl T.d_lexact.m T.d_lexact.F.kp T.d_lexact.b .nil pass0 (pa_cons (pe_fld (pv 0) rfl) (pa_cons (pe_ix (ix_tK K) (pv 1) pe_int (fun _ _ => rfl)) pa_nil)))))))), ?_⟩
    try dsimp only [cxOf]
    rw [show L2.start N_is_sheet [V.ref p, v] = [some (V.ref p), some v] from rfl]
    have ex : Exd 2 (.tuple [dC S.base, .int S.price]) := .inr ⟨_, rfl, Nat.le_of_ble_eq_true rfl, fun x hx => by
      simp at hx
      rcases hx with rfl | rfl
      · exact exd_dC _
      · exact exd_int _⟩
    refine s_ifr (c := (!true) || (!true)) (evb_or (evb_not (evb_b (K := K) (ev_isSh rfl hS hc T.i_Sheet))) fun _ => evb_not (evb_b (K := K) (ev_call (ds := [.tuple [dC S.base, .int S.price], .tuple [dC S.base, .int S.price]]) ?t ⟨_, rfl, ex, rfl⟩))) (fun ht => by simp at ht) (fun hf H1 s1 => ?_)
    case t => walk_at "eva"
    refine s_ret (K := K) (d := .bool (true && true)) (ev_andV (ev_call (ds := [dCs S.steps, dCs S.steps]) ?t1 ⟨_, rfl, exd_dCs l1, rfl⟩) fun _ => ev_call (ds := [dIs S.prices, dIs S.prices]) ?t2 ⟨_, rfl, exd_dIs l2, rfl⟩) fun v H2 s2 r => ?_
    case t1 => walk_at "eva"
    case t2 => walk_at "eva"
    have e := r.bl_inv
    subst e
    exact k H2 (s1.trans s2)
end
end LW
namespace LW
open PySem L2 LB
local macro_rules | `(tactic| walk_at "hp") => `(tactic| first
  | (with_reducible assumption) | (with_reducible exact Rep.int _) | (with_reducible exact Rep.bl _) | (with_reducible exact Rep.non) | (with_reducible exact Rep.str _)
  | ((with_reducible refine' Rep.same ?kk ?hh); (case kk => with_reducible assumption); (case hh => walk_at "hp"))
  | ((with_reducible refine' Rep.kt ?kk ?hh); (case kk => with_reducible assumption); (case hh => walk_at "hp")))
local macro_rules | `(tactic| walk_at "bd") => `(tactic| first
  | (with_reducible assumption)
  | exact bd_lit (n := 64) (by decide)
  | (with_reducible refine' Bd.mul ?_ ?_) <;> walk_at "bd"
  | (with_reducible refine' Bd.add ?_ ?_) <;> walk_at "bd"
  | (with_reducible refine' Bd.sub ?_ ?_) <;> walk_at "bd"
  | (with_reducible refine' Bd.neg ?_) <;> walk_at "bd")
local macro_rules | `(tactic| walk_at "ev") => `(tactic| first
  | (with_reducible exact ev_int) | (with_reducible exact ev_bl) | (with_reducible exact ev_non) | (with_reducible exact ev_str)
  | ((with_reducible refine' ev_var ?e ?hh); (case e => rfl); (case hh => walk_at "hp"))
  | (with_reducible refine' ev_add ?_ ?_) <;> walk_at "ev"
  | (with_reducible refine' ev_sub ?_ ?_) <;> walk_at "ev"
  | ((with_reducible refine' ev_mul ?m1 ?m2 ?m3); (case m1 => walk_at "ev"); (case m2 => walk_at "ev"); (case m3 => (refine' Bd.mulW ?b1 ?b2 ?b3; (case b1 => walk_at "bd"); (case b2 => walk_at "bd"); (case b3 => decide))))
  | ((with_reducible refine' ev_ix ?m1 ?m2); (case m1 => walk_at "ev"); (case m2 => rfl))
  | ((with_reducible refine' ev_tup ?m1 ?m2); (case m1 => walk_at "eva"); (case m2 => exact Nat.le_of_ble_eq_true rfl))
  | (with_reducible refine' ev_neg ?_) <;> walk_at "ev"
  | (with_reducible refine' ev_lt ?_ ?_) <;> walk_at "ev"
  | (with_reducible refine' ev_le ?_ ?_) <;> walk_at "ev"
  | (with_reducible refine' ev_gt ?_ ?_) <;> walk_at "ev"
  | (with_reducible refine' ev_ge ?_ ?_) <;> walk_at "ev"
  | (with_reducible refine' ev_eqI ?_ ?_) <;> walk_at "ev"
  | (with_reducible refine' ev_neI ?_ ?_) <;> walk_at "ev"
  | (with_reducible refine' ev_intI ?_) <;> walk_at "eva"
  | (with_reducible refine' ev_lenT ?_) <;> walk_at "eva"
  | walk_at "evx")
local macro_rules | `(tactic| walk_at "eva") => `(tactic| first
  | (with_reducible exact eva_nil)
  | ((with_reducible refine' eva_cons ?v1 ?v2); (case v1 => walk_at "ev"); (case v2 => walk_at "eva")))
local macro_rules | `(tactic| walk_at "evx") => `(tactic| first
  | ((with_reducible refine' ev_pget ?a ?b ?c); (case a => rfl); (case b => with_reducible assumption); (case c => first | (with_reducible exact p_at _) | (with_reducible exact p_dg _) | (with_reducible exact p_ct _) | (with_reducible exact p_fo _))))
local macro_rules | `(tactic| walk_at "sh") => `(tactic| first
  | (with_reducible assumption)
  | ((with_reducible refine' ShAt.same ?hh ?kk); (case kk => with_reducible assumption); (case hh => walk_at "sh"))
  | ((with_reducible refine' ShAt.kt ?hh ?kk); (case kk => with_reducible assumption); (case hh => walk_at "sh")))
local macro_rules | `(tactic| walk_at "evx") => `(tactic| first
  | ((with_reducible refine' ev_base ?e ?h ?c ?n); (case e => rfl); (case h => walk_at "sh"); (case c => with_reducible assumption); (case n => with_reducible assumption))
  | ((with_reducible refine' ev_price ?e ?h ?c ?n); (case e => rfl); (case h => walk_at "sh"); (case c => with_reducible assumption); (case n => with_reducible assumption))
  | ((with_reducible refine' ev_steps ?e ?h ?c ?n); (case e => rfl); (case h => walk_at "sh"); (case c => with_reducible assumption); (case n => with_reducible assumption))
  | ((with_reducible refine' ev_prices ?e ?h ?c ?n); (case e => rfl); (case h => walk_at "sh"); (case c => with_reducible assumption); (case n => with_reducible assumption)))
section
variable {P : Program} {w : World} {K : Fr} {mg : Str → Option Value} {base : Heap}
theorem sIx_nat {n d j : Nat} (h : j ≤ n) : HT.sIx n d (some (j : Int)) = j := by
  rw [HT.sIx_nat]
  exact Nat.min_eq_left h
structure Sm (S : Sh) : Prop where
  st : areSteps S.steps = true
  ln : S.prices.length = S.steps.length
  b0 : BdC 220 S.base
  b1 : Bd 220 S.price
  b2 : ∀ s ∈ S.steps, BdC 220 s
  b3 : ∀ s ∈ S.prices, Bd 220 s
theorem Sm.ok {S : Sh} (h : Sm S) : S.Ok := ⟨h.st, h.ln, h.b0.mono (by decide), h.b1.mono (by decide), fun s m => (h.b2 s m).mono (by decide), fun s m => (h.b3 s m).mono (by decide)⟩
/-- the item at j exchanged -/
def swapAt {α : Type} (l : List α) (j : Nat) (x : α) : List α := (l.drop 0).take (j - 0) ++ [x] ++ (l.drop (j + 1)).take (l.length - (j + 1))
theorem swapAt_len {α : Type} {l : List α} {j : Nat} {x : α} (h : j < l.length) : (swapAt l j x).length = l.length := by
  unfold swapAt
  simp
  omega
theorem swapAt_mem {α : Type} {l : List α} {j : Nat} {x y : α} (h : y ∈ swapAt l j x) : y ∈ l ∨ y = x := by
  unfold swapAt at h
  rcases List.mem_append.mp h with h | h
  · rcases List.mem_append.mp h with h | h
    · exact .inl (List.mem_of_mem_drop (List.mem_of_mem_take h))
    · exact .inr (by simpa using h)
  · exact .inl (List.mem_of_mem_drop (List.mem_of_mem_take h))
theorem swapAt_ne {α : Type} {l : List α} {j : Nat} {x y : α} (h : l[j]? = some y) (n : ¬ x = y) : ¬ swapAt l j x = l := by
  intro e
  obtain ⟨lt, ey⟩ := List.getElem?_eq_some_iff.mp h
  have q : (swapAt l j x)[j]? = some x := by
    unfold swapAt
    rw [List.append_assoc, List.getElem?_append_right (by simp; omega)]
    simp
    have : j - min j l.length = 0 := by omega
    rw [this]
    rfl
  rw [e, h] at q
  exact n (Option.some.inj q).symm
def scaleC (s : C2) (k : Int) : C2 := (s.1 * k, s.2 * k)
theorem cr_scaleL {a b : C2} {k : Int} : cr (scaleC a k) b = k * cr a b := by
  unfold cr scaleC
  grind
theorem cr_scaleR {a b : C2} {k : Int} : cr a (scaleC b k) = k * cr a b := by
  unfold cr scaleC
  grind
theorem scale_ne {a : C2} {k : Int} (h : ¬ a = (0, 0)) (hk : 1 < k) : ¬ scaleC a k = (0, 0) := by
  intro e
  have e1 : a.1 * k = 0 := congrArg Prod.fst e
  have e2 : a.2 * k = 0 := congrArg Prod.snd e
  have f1 : a.1 = 0 := by rcases Int.mul_eq_zero.mp e1 with h | h <;> omega
  have f2 : a.2 = 0 := by rcases Int.mul_eq_zero.mp e2 with h | h <;> omega
  exact h (Prod.ext f1 f2)
theorem scale_self {a : C2} {k : Int} (h : ¬ a = (0, 0)) (hk : 1 < k) : ¬ scaleC a k = a := by
  intro e
  have e1 : a.1 * k = a.1 := congrArg Prod.fst e
  have e2 : a.2 * k = a.2 := congrArg Prod.snd e
  have g : ∀ x : Int, x * k = x → x = 0 := fun x hx => by
    have : x * (k - 1) = 0 := by rw [Int.mul_sub, hx]; omega
    rcases Int.mul_eq_zero.mp this with h | h
    · exact h
    · omega
  exact h (Prod.ext (g _ e1) (g _ e2))
theorem nz_of {l : List C2} {j : Nat} {s : C2} (h : areSteps l = true) (e : l[j]? = some s) : ¬ s = (0, 0) := by
  match l, h with
  | [], _ => simp at e
  | [a], h =>
    cases j with
    | zero => simp at e; subst e; simpa [areSteps] using h
    | succ j => simp at e
  | [a, b], h =>
    simp [areSteps] at h
    match j, e with
    | 0, e => simp at e; subst e; exact fun z => h.1.1 z
    | 1, e => simp at e; subst e; exact fun z => h.1.2 z
    | j + 2, e => simp at e
theorem areSteps_scale {l : List C2} {j : Nat} {s : C2} {k : Int} (h : areSteps l = true) (e : l[j]? = some s) (hk : 1 < k) : areSteps (swapAt l j (scaleC s k)) = true := by
  have n0 := nz_of h e
  have n1 := scale_ne n0 hk
  match l, h with
  | [], _ => simp at e
  | [a], h =>
    cases j with
    | zero => simp at e; subst e; simp [swapAt, areSteps, n1]
    | succ j => simp at e
  | [a, b], h =>
    simp [areSteps] at h
    match j, e with
    | 0, e =>
      simp at e
      subst e
      have z : ¬ k * cr a b = 0 := fun z => by rcases Int.mul_eq_zero.mp z with q | q <;> first | omega | exact h.2 q
      simp [swapAt, areSteps, n1, h.1.2, cr_scaleL, z]
    | 1, e =>
      simp at e
      subst e
      have z : ¬ k * cr a b = 0 := fun z => by rcases Int.mul_eq_zero.mp z with q | q <;> first | omega | exact h.2 q
      simp [swapAt, areSteps, n1, h.1.1, cr_scaleR, z]
    | j + 2, e => simp at e
theorem areSteps_flip {a b : C2} (h : areSteps [a, b] = true) : areSteps [b, a] = true ∧ ¬ [b, a] = [a, b] := by
  simp [areSteps] at h
  have e : cr b a = - cr a b := by unfold cr; grind
  refine ⟨?_, fun z => ?_⟩
  · simp [areSteps, h.1.1, h.1.2, e, h.2]
  · simp at z
    have z1 := z.1
    subst z1
    exact h.2 (by unfold cr; grind)
theorem s_drawTo {K : Fr} {E : XK} {u : TS} {D : Ends} {σ : L2.St} {H : Hp} {c d : Addr} {n i j : Nat} {m : Int} {te : TE} (e : σ[i]? = some (some (.ref d))) (P : PenAt c H d n) (hn : n < 1000000000) (m0 : 0 < m) (m1 : m < 1073741824) (a : Ev K te σ H (.int m))
    (k : ∀ (r : Int) (H' : Hp), 0 ≤ r → r < m → Kd d H H' → PenAt c H' d (n + 1) → u D (σ.set j (some (.int r))) H') : tSeq (tAsg (tCall spDraw [] E (tCons (tVar i) (tCons te tNil))) (gName j)) u D σ H :=
  c_draw e P hn m0 m1 a k
theorem s_way (K : Fr) {E : XK} {u : TS} {D : Ends} {σ : L2.St} {H : Hp} {c d : Addr} {n : Nat} (e : σ[0]? = some (some (.ref d))) (P : PenAt c H d n) (hn : n < 900000000)
    (k : ∀ (way r : Int) (H2 : Hp), 0 ≤ way → way < 5 → 0 ≤ r → r < 3 → Kd d H H2 → PenAt c H2 d (n + 2) → u D ((σ.set 2 (some (.int way))).set 3 (some (.int (1 + r)))) H2) :
    tSeq (tPar 2 3 (tCons (tCall spDraw [] E (tCons (tVar 0) (tCons (tC (.int 5)) tNil))) (tCons (tOp (rI0 fun i j => .int (i + j)) (tC (.int 1)) (tCall spDraw [] E (tCons (tVar 0) (tCons (tC (.int 3)) tNil)))) tNil))) u D σ H :=
  c_draw (K := K) (m := 5) e P (by omega) (by decide) (by decide) ev_int fun way H1 w0 w1 k1 P1 => c_draw (K := K) (m := 3) e P1 (by omega) (by decide) (by decide) ev_int fun r H2 r0 r1 k2 P2 =>
    ⟨_, _, rfl, rfl, _, _, rfl, k way r H2 w0 w1 r0 r1 (k1.trans k2) P2⟩
def spChanged (K : Fr) : Sp := fun vs H Q _ => ∃ (c d : Addr) (n : Nat) (S : Sh) (v : V), vs = [.ref d, v] ∧ PenAt c H d n ∧ n < 700000000 ∧ Sm S ∧ BdC 210 S.base ∧ (∀ s ∈ S.steps, BdC 210 s) ∧ (∀ s ∈ S.prices, Bd 210 s) ∧ Bd 210 S.price ∧ Rep K H v (dR S) ∧
  ∀ (v' : V) (S' : Sh) (H' : Hp), Sm S' → ¬ (S.base = S'.base ∧ S.price = S'.price ∧ S.steps = S'.steps ∧ S.prices = S'.prices) → Rep K H' v' (dR S') → Kd d H H' → PenAt c H' d (n + 3) → Q v' H'
set_option maxHeartbeats 2000000 in
theorem ok_changed (T : Txt K mg) : FnOk P w K mg base CX0 3 T.a_changed T.f_changed ["_law_pen_here", "_law_row"] (spChanged K) := by
  refine T.d_changed.F.ok sc_changed (fun vs H Q E h => ?_) (fun cdv A outer s H vs Q E hr h => ?_)
  · obtain ⟨c, d, n, S, v, rfl, _⟩ := h
    rfl
  · obtain ⟨c, d, n, S, v, rfl, P0, hn, sm, b0, b2, b3, b1, rv, k⟩ := h
    refine ⟨_, (pss_cons (ps_par (i := 2) (j := 3) rfl sc_changed.nd rfl rfl (by decide) rfl rfl (pa_cons (pe_call (ok_draw T) (hr.mono (by decide)) rfl T.d_draw.m T.d_draw.F.kp T.d_draw.b .nil pass0 (pa_cons (pv 0) (pa_cons pe_int pa_nil))) (pa_cons (pe_op op_add pe_int (pe_call (ok_draw T) (hr.mono (by decide)) rfl T.d_draw.m T.d_draw.F.kp T.d_draw.b .nil pass0 (pa_cons (pv 0) (pa_cons pe_int pa_nil)))) pa_nil)) rfl)
    (pss_cons (ps_if (PW.pt (pw_or (pt_cmpR op_eq (pv 2) pe_int (nomark _)) (pw_or1 (pt_cmpR op_eq (pe_callB call_len_seq (by rfl) T.z_len (by decide +kernel) (pa_cons (pe_ix (ix_tK K) (pv 1) pe_int (fun _ _ => rfl)) pa_nil)) pe_int (nomark _))))) (pss_one (ps_ret (pe_tup (pa_cons (pe_tup (pa_cons (pe_ix (ix_tK K) (pe_ix (ix_tK K) (pv 1) pe_int (fun _ _ => rfl)) pe_int (fun _ _ => rfl)) (pa_cons (pe_op op_sub (pe_ix (ix_tK K) (pe_ix (ix_tK K) (pv 1) pe_int (fun _ _ => rfl)) pe_int (fun _ _ => rfl)) (pv 3)) pa_nil))) (pa_cons (pe_ix (ix_tK K) (pv 1) pe_int (fun _ _ => rfl)) (pa_cons (pe_ix (ix_tK K) (pv 1) pe_int (fun _ _ => rfl)) (pa_cons (pe_ix (ix_tK K) (pv 1) pe_int (fun _ _ => rfl)) pa_nil))))))) pss_nil)
    (pss_cons (ps_if (pt_cmpR op_eq (pv 2) pe_int (nomark _)) (pss_one (ps_ret (pe_tup (pa_cons (pe_ix (ix_tK K) (pv 1) pe_int (fun _ _ => rfl)) (pa_cons (pe_op op_add (pe_ix (ix_tK K) (pv 1) pe_int (fun _ _ => rfl)) (pv 3)) (pa_cons (pe_ix (ix_tK K) (pv 1) pe_int (fun _ _ => rfl)) (pa_cons (pe_ix (ix_tK K) (pv 1) pe_int (fun _ _ => rfl)) pa_nil))))))) pss_nil)
    (pss_cons (ps_set (i := 4) sc_changed.nd rfl (Or.inl rfl) (pe_call (ok_draw T) (hr.mono (by decide)) rfl T.d_draw.m T.d_draw.F.kp T.d_draw.b .nil pass0 (pa_cons (pv 0) (pa_cons (pe_callB call_len_seq (by rfl) T.z_len (by decide +kernel) (pa_cons (pe_ix (ix_tK K) (pv 1) pe_int (fun _ _ => rfl)) pa_nil)) pa_nil))))
    (pss_cons (ps_if (pt_cmpR op_eq (pv 2) pe_int (nomark _)) (pss_one (ps_ret (pe_tup (pa_cons (pe_ix (ix_tK K) (pv 1) pe_int (fun _ _ => rfl)) (pa_cons (pe_ix (ix_tK K) (pv 1) pe_int (fun _ _ => rfl)) (pa_cons (pe_ix (ix_tK K) (pv 1) pe_int (fun _ _ => rfl)) (pa_cons (pe_op (op_tcK K rfl) (pe_op (op_tcK K rfl) (pe_slice (sl_tK K rfl) (pe_ix (ix_tK K) (pv 1) pe_int (fun _ _ => rfl)) po_none (po_some (pv 4))) (pe_tup (pa_cons (pe_op op_add (pe_ix (ix_tK K) (pe_ix (ix_tK K) (pv 1) pe_int (fun _ _ => rfl)) (pv 4) (fun _ _ => rfl)) (pv 3)) pa_nil))) (pe_slice (sl_tK K rfl) (pe_ix (ix_tK K) (pv 1) pe_int (fun _ _ => rfl)) (po_some (pe_op op_add (pv 4) pe_int)) po_none)) pa_nil))))))) pss_nil)
    (pss_cons (ps_if (PW.pt (pw_and (pt_cmpR op_eq (pv 2) pe_int (nomark _)) (pw_and1 (pt_cmpR op_eq (pe_callB call_len_seq (by rfl) T.z_len (by decide +kernel) (pa_cons (pe_ix (ix_tK K) (pv 1) pe_int (fun _ _ => rfl)) pa_nil)) pe_int (nomark _))))) (pss_one (ps_ret (pe_tup (pa_cons (pe_ix (ix_tK K) (pv 1) pe_int (fun _ _ => rfl)) (pa_cons (pe_ix (ix_tK K) (pv 1) pe_int (fun _ _ => rfl)) (pa_cons (pe_back (pe_ix (ix_tK K) (pv 1) pe_int (fun _ _ => rfl))) (pa_cons (pe_ix (ix_tK K) (pv 1) pe_int (fun _ _ => rfl)) pa_nil))))))) pss_nil)
    (pss_cons (ps_set (i := 5) sc_changed.nd rfl (Or.inl rfl) (pe_tup (pa_cons (pe_op op_mulW (pe_ix (ix_tK K) (pe_ix (ix_tK K) (pe_ix (ix_tK K) (pv 1) pe_int (fun _ _ => rfl)) (pv 4) (fun _ _ => rfl)) pe_int (fun _ _ => rfl)) (pe_op op_add (pv 3) pe_int)) (pa_cons (pe_op op_mulW (pe_ix (ix_tK K) (pe_ix (ix_tK K) (pe_ix (ix_tK K) (pv 1) pe_int (fun _ _ => rfl)) (pv 4) (fun _ _ => rfl)) pe_int (fun _ _ => rfl)) (pe_op op_add (pv 3) pe_int)) pa_nil))))
    (pss_one (ps_ret (pe_tup (pa_cons (pe_ix (ix_tK K) (pv 1) pe_int (fun _ _ => rfl)) (pa_cons (pe_ix (ix_tK K) (pv 1) pe_int (fun _ _ => rfl)) (pa_cons (pe_op (op_tcK K rfl) (pe_op (op_tcK K rfl) (pe_slice (sl_tK K rfl) (pe_ix (ix_tK K) (pv 1) pe_int (fun _ _ => rfl)) po_none (po_some (pv 4))) (pe_tup (pa_cons (pv 5) pa_nil))) (pe_slice (sl_tK K rfl) (pe_ix (ix_tK K) (pv 1) pe_int (fun _ _ => rfl)) (po_some (pe_op op_add (pv 4) pe_int)) po_none)) (pa_cons (pe_ix (ix_tK K) (pv 1) pe_int (fun _ _ => rfl)) pa_nil)))))))))))))), ?_⟩
    try dsimp only [cxOf, List.map]
    rw [show L2.start N_changed [V.ref d, v] = [some (.ref d), some v, none, none, none, none] from rfl]
    refine s_way K rfl P0 (by omega) fun way r H2 w0 w1 r0 r1 k02 P2 => ?_
    rw [show (([some (.ref d), some v, none, none, none, none] : L2.St).set 2 (some (.int way))).set 3 (some (.int (1 + r))) = [some (.ref d), some v, some (.int way), some (.int (1 + r)), none, none] from rfl]
    have rv2 : Rep K H2 v (dR S) := rv.kt (P0.kt k02)
    have bm : Bd 3 (1 + r) := Bd.of_range (lo := 0) (hi := 8) (by omega) (by omega) (by decide) (by decide)
    generalize hm : 1 + r = m at *
    have m0 : 0 < m := by omega
    clear rv
    -- the base
    refine s_ifr (c := decide (way = 0) || decide (((S.steps.map dC).length : Int) = 0)) (evb_or (evb_test (K := K) (ev_eqI ?t1 ev_int)) fun _ => evb_test (K := K) (ev_eqI (ev_lenT (eva_cons ?t2 eva_nil)) ev_int)) (fun _ H3 s3 => ?_) (fun hf H3 s3 => ?_)
    case t1 => walk_at "ev"
    case t2 => walk_at "ev"
    · refine s_ret (K := K) (d := .tuple [.tuple [.int S.base.1, .int (S.base.2 - m)], .int S.price, dCs S.steps, dIs S.prices]) ?t fun v' H4 s4 r4 => ?_
      case t => walk_at "ev"
      refine k v' { S with base := (S.base.1, S.base.2 - m) } H4 ⟨sm.st, sm.ln, ⟨b0.1.mono (by decide), (Bd.sub b0.2 bm).mono (by decide)⟩, sm.b1, sm.b2, sm.b3⟩ (fun e => ?_) r4 (k02.trans (kd_same (s3.trans s4))) ((P2.same (s3.trans s4)).mono (by omega))
      have := congrArg Prod.snd e.1
      simp at this
      omega
    have hl : 0 < S.steps.length := by
      simp at hf
      exact List.length_pos_iff.mpr hf.2
    -- the price
    refine s_ifr (c := decide (way = 1)) (evb_test (K := K) (ev_eqI ?t1 ev_int)) (fun _ H4 s4 => ?_) (fun hf2 H4 s4 => ?_)
    case t1 => walk_at "ev"
    · refine s_ret (K := K) (d := .tuple [dC S.base, .int (S.price + m), dCs S.steps, dIs S.prices]) ?t fun v' H5 s5 r5 => ?_
      case t => walk_at "ev"
      refine k v' { S with price := S.price + m } H5 ⟨sm.st, sm.ln, sm.b0, (Bd.add b1 bm).mono (by decide), sm.b2, sm.b3⟩ (fun e => ?_) r5 (k02.trans (kd_same ((s3.trans s4).trans s5))) ((P2.same ((s3.trans s4).trans s5)).mono (by omega))
      have := e.2.1
      simp at this
      omega
    -- the place
    have l2 := areSteps_len sm.st
    have P4 := P2.same (s3.trans s4)
    refine s_drawTo (K := K) (m := ((S.steps.map dC).length : Nat)) rfl P4 (by omega) (by rw [List.length_map]; omega) (by rw [List.length_map]; omega) (ev_lenT (eva_cons ?t eva_nil)) fun at_ H5 a0 a1 k5 P5 => ?_
    case t => walk_at "ev"
    rw [show ([some (.ref d), some v, some (.int way), some (.int m), none, none] : L2.St).set 4 (some (.int at_)) = [some (.ref d), some v, some (.int way), some (.int m), some (.int at_), none] from rfl]
    rw [List.length_map] at a1
    obtain ⟨j, rfl⟩ : ∃ j : Nat, at_ = (j : Int) := ⟨at_.toNat, by omega⟩
    have hj : j < S.steps.length := by omega
    have hj2 : j < S.prices.length := by rw [sm.ln]; exact hj
    have rv5 : Rep K H5 v (dR S) := ((rv2.same s3).same s4).kt (P4.kt k5)
    have k05 : Kd d H H5 := (k02.trans (kd_same (s3.trans s4))).trans k5
    obtain ⟨st, est⟩ : ∃ x, S.steps[j]? = some x := ⟨_, List.getElem?_eq_getElem hj⟩
    obtain ⟨pr, epr⟩ : ∃ x, S.prices[j]? = some x := ⟨_, List.getElem?_eq_getElem hj2⟩
    have bst := b2 st (List.mem_of_getElem? est)
    have bpr := b3 pr (List.mem_of_getElem? epr)
    have xst : ∀ H6, Same H5 H6 → ∀ o, Ev K (tOp (rIxT K) (tOp (rIxT K) (tVar 1) (tC (.int 2))) (tVar 4)) [some (.ref d), some v, some (.int way), some (.int m), some (.int (j : Int)), o] H6 (dC st) := fun H6 s6 o =>
      ev_ixE (ds := S.steps.map dC) (ev_ix (ev_var rfl (rv5.same s6)) rfl) (ev_var rfl (.int _)) (atI_nat (by rw [List.getElem?_map, est]; rfl))
    have xpr : ∀ H6, Same H5 H6 → ∀ o, Ev K (tOp (rIxT K) (tOp (rIxT K) (tVar 1) (tC (.int 3))) (tVar 4)) [some (.ref d), some v, some (.int way), some (.int m), some (.int (j : Int)), o] H6 (.int pr) := fun H6 s6 o =>
      ev_ixE (ds := S.prices.map .int) (ev_ix (ev_var rfl (rv5.same s6)) rfl) (ev_var rfl (.int _)) (atI_nat (by rw [List.getElem?_map, epr]; rfl))
    -- an item of a tuple exchanged, as the law writes it
    have swp : ∀ (ds : List PD) (x : PD) (te tx : TE) (H6 : Hp) (o : Option V), ds.length ≤ 2 → j < ds.length → Ev K te [some (.ref d), some v, some (.int way), some (.int m), some (.int (j : Int)), o] H6 (.tuple ds) → Ev K tx [some (.ref d), some v, some (.int way), some (.int m), some (.int (j : Int)), o] H6 x →
        Ev K (tOp (rCatA K) (tOp (rCatA K) (tSl (rSlA K) te tNoPart (tPart (tVar 4))) (tTup (tCons tx tNil))) (tSl (rSlA K) te (tPart (tOp (rI0 fun i j => V.int (i + j)) (tVar 4) (tC (.int 1)))) tNoPart)) [some (.ref d), some v, some (.int way), some (.int m), some (.int (j : Int)), o] H6 (.tuple (swapAt ds j x)) := by
      intro ds x te tx H6 o h1 h2 et ex
      refine ev_tcat (ev_tcat (ev_slice et part_none (part_some (K := K) (ev_var rfl (.int _))) rfl (sIx_nat (Nat.le_of_lt h2))) (ev_tup (eva_cons ex eva_nil) (Nat.le_of_ble_eq_true rfl)) ?_) (ev_slice et (part_some (K := K) (i := ((j + 1 : Nat) : Int)) ?_) part_none (sIx_nat h2) rfl) ?_
      · simp
        omega
      · have e : ((j + 1 : Nat) : Int) = (j : Int) + 1 := by omega
        rw [e]
        exact ev_add (ev_var rfl (.int _)) ev_int
      · simp
        omega
    have mapS : ∀ (x : C2), (swapAt S.steps j x).map dC = swapAt (S.steps.map dC) j (dC x) := fun x => by simp [swapAt]
    have mapP : ∀ (x : Int), (swapAt S.prices j x).map PyData.int = swapAt (S.prices.map .int) j (.int x) := fun x => by simp [swapAt]
    refine s_ifr (c := decide (way = 2)) (evb_test (K := K) (ev_eqI ?t1 ev_int)) (fun _ H6 s6 => ?_) (fun hf3 H6 s6 => ?_)
    case t1 => walk_at "ev"
    · refine s_ret (K := K) (d := dR { S with prices := swapAt S.prices j (pr + m) }) (ev_tup (eva_cons (ev_ix (ev_var rfl (rv5.same s6)) rfl) (eva_cons (ev_ix (ev_var rfl (rv5.same s6)) rfl) (eva_cons (ev_ix (ev_var rfl (rv5.same s6)) rfl) (eva_cons ?t eva_nil)))) (Nat.le_of_ble_eq_true rfl)) fun v' H7 s7 r7 => ?_
      case t =>
        show Ev K _ _ _ (.tuple ((swapAt S.prices j (pr + m)).map .int))
        rw [mapP]
        refine swp _ _ _ _ H6 none (by rw [List.length_map, sm.ln]; exact l2) (by rw [List.length_map]; exact hj2) (ev_ix (ev_var rfl (rv5.same s6)) rfl) (ev_add (xpr H6 s6 none) (ev_var rfl (.int _)))
      refine k v' { S with prices := swapAt S.prices j (pr + m) } H7 ⟨sm.st, (swapAt_len hj2).trans sm.ln, sm.b0, sm.b1, sm.b2, fun z hz => ?_⟩ (fun e => swapAt_ne epr (by omega) e.2.2.2.symm) r7 (k05.trans (kd_same (s6.trans s7))) ((P5.same (s6.trans s7)).mono (by omega))
      rcases swapAt_mem hz with q | q
      · exact sm.b3 z q
      · rw [q]
        exact (Bd.add bpr bm).mono (by decide)
    refine s_ifr (c := decide (way = 3) && decide (((S.steps.map dC).length : Int) = 2)) (evb_and (evb_test (K := K) (ev_eqI ?t1 ev_int)) fun _ => evb_test (K := K) (ev_eqI (ev_lenT (eva_cons ?t2 eva_nil)) ev_int)) (fun ht H7 s7 => ?_) (fun hf4 H7 s7 => ?_)
    case t1 => walk_at "ev"
    case t2 => exact ev_ix (ev_var rfl (rv5.same s6)) rfl
    · have h2 : S.steps.length = 2 := by
        simp at ht
        omega
      match hst : S.steps, h2 with
      | [f, g], _ =>
        have st2 := sm.st
        rw [hst] at st2
        obtain ⟨f1, f2⟩ := areSteps_flip st2
        have rv7 := (rv5.same s6).same s7
        have rv7' : Rep K H7 v (.tuple [dC S.base, .int S.price, .tuple [dC f, dC g], dIs S.prices]) := by
          have z := rv7
          unfold dR at z
          rw [hst] at z
          exact z
        refine s_ret (K := K) (d := .tuple [dC S.base, .int S.price, .tuple [dC g, dC f], dIs S.prices]) (ev_tup (eva_cons (ev_ix (ev_var rfl rv7') rfl) (eva_cons (ev_ix (ev_var rfl rv7') rfl) (eva_cons (ev_back (ev_ix (ev_var rfl rv7') rfl)) (eva_cons (ev_ix (ev_var rfl rv7') rfl) eva_nil)))) (Nat.le_of_ble_eq_true rfl)) fun v' H8 s8 r8 => ?_
        have b2' := sm.b2
        have ln' := sm.ln
        rw [hst] at b2' ln'
        refine k v' { S with steps := [g, f] } H8 ⟨f1, ln', sm.b0, sm.b1, fun z hz => b2' z (by simp at hz ⊢; exact hz.symm), sm.b3⟩ (fun e => f2 (by have z := e.2.2.1; rw [hst] at z; exact z.symm)) r8 (k05.trans (kd_same ((s6.trans s7).trans s8))) ((P5.same ((s6.trans s7).trans s8)).mono (by omega))
    · have s67 := s6.trans s7
      refine s_set (K := K) (d := .tuple [.int (st.1 * (m + 1)), .int (st.2 * (m + 1))]) (ev_tup (eva_cons (ev_mul (ev_ix (xst H7 s67 none) rfl) (ev_add (ev_var rfl (.int _)) ev_int) ?m1) (eva_cons (ev_mul (ev_ix (xst H7 s67 none) rfl) (ev_add (ev_var rfl (.int _)) ev_int) ?m2) eva_nil)) (Nat.le_of_ble_eq_true rfl)) fun vs' H8 s8 r8 => ?_
      case m1 => exact Bd.mulW bst.1 (Bd.add bm (bd_lit (n := 3) (by decide))) (by decide)
      case m2 => exact Bd.mulW bst.2 (Bd.add bm (bd_lit (n := 3) (by decide))) (by decide)
      rw [show ([some (.ref d), some v, some (.int way), some (.int m), some (.int (j : Int)), none] : L2.St).set 5 (some vs') = [some (.ref d), some v, some (.int way), some (.int m), some (.int (j : Int)), some vs'] from rfl]
      have s58 := s67.trans s8
      refine s_ret (K := K) (d := dR { S with steps := swapAt S.steps j (scaleC st (m + 1)) }) (ev_tup (eva_cons (ev_ix (ev_var rfl (rv5.same s58)) rfl) (eva_cons (ev_ix (ev_var rfl (rv5.same s58)) rfl) (eva_cons ?t (eva_cons (ev_ix (ev_var rfl (rv5.same s58)) rfl) eva_nil)))) (Nat.le_of_ble_eq_true rfl)) fun v' H9 s9 r9 => ?_
      case t =>
        show Ev K _ _ _ (.tuple ((swapAt S.steps j (scaleC st (m + 1))).map dC))
        rw [mapS]
        exact swp _ _ _ _ H8 (some vs') (by rw [List.length_map]; exact l2) (by rw [List.length_map]; exact hj) (ev_ix (ev_var rfl (rv5.same s58)) rfl) (ev_var rfl r8)
      refine k v' { S with steps := swapAt S.steps j (scaleC st (m + 1)) } H9 ⟨areSteps_scale sm.st est (by omega), sm.ln.trans (swapAt_len hj).symm, sm.b0, sm.b1, fun z hz => ?_, sm.b3⟩ (fun e => swapAt_ne est (scale_self (nz_of sm.st est) (by omega)) e.2.2.1.symm) r9 (k05.trans (kd_same (s58.trans s9))) ((P5.same (s58.trans s9)).mono (by omega))
      rcases swapAt_mem hz with q | q
      · exact sm.b2 z q
      · rw [q]
        have bm2 : Bd 3 (m + 1) := Bd.of_range (lo := 0) (hi := 8) (by omega) (by omega) (by decide) (by decide)
        exact ⟨(Bd.mul bst.1 bm2).mono (by decide), (Bd.mul bst.2 bm2).mono (by decide)⟩
end
end LW
namespace LW
open PySem L2 LB
local macro_rules | `(tactic| walk_at "hp") => `(tactic| first
  | (with_reducible assumption) | (with_reducible exact Rep.int _) | (with_reducible exact Rep.bl _) | (with_reducible exact Rep.non) | (with_reducible exact Rep.str _)
  | ((with_reducible refine' Rep.same ?kk ?hh); (case kk => with_reducible assumption); (case hh => walk_at "hp"))
  | ((with_reducible refine' Rep.kt ?kk ?hh); (case kk => with_reducible assumption); (case hh => walk_at "hp")))
local macro_rules | `(tactic| walk_at "bd") => `(tactic| first
  | (with_reducible assumption)
  | exact bd_lit (n := 64) (by decide)
  | (with_reducible refine' Bd.mul ?_ ?_) <;> walk_at "bd"
  | (with_reducible refine' Bd.add ?_ ?_) <;> walk_at "bd"
  | (with_reducible refine' Bd.sub ?_ ?_) <;> walk_at "bd"
  | (with_reducible refine' Bd.neg ?_) <;> walk_at "bd")
local macro_rules | `(tactic| walk_at "ev") => `(tactic| first
  | (with_reducible exact ev_int) | (with_reducible exact ev_bl) | (with_reducible exact ev_non) | (with_reducible exact ev_str)
  | ((with_reducible refine' ev_var ?e ?hh); (case e => rfl); (case hh => walk_at "hp"))
  | (with_reducible refine' ev_add ?_ ?_) <;> walk_at "ev"
  | (with_reducible refine' ev_sub ?_ ?_) <;> walk_at "ev"
  | ((with_reducible refine' ev_mul ?m1 ?m2 ?m3); (case m1 => walk_at "ev"); (case m2 => walk_at "ev"); (case m3 => (refine' Bd.mulW ?b1 ?b2 ?b3; (case b1 => walk_at "bd"); (case b2 => walk_at "bd"); (case b3 => decide))))
  | ((with_reducible refine' ev_ix ?m1 ?m2); (case m1 => walk_at "ev"); (case m2 => rfl))
  | ((with_reducible refine' ev_tup ?m1 ?m2); (case m1 => walk_at "eva"); (case m2 => exact Nat.le_of_ble_eq_true rfl))
  | (with_reducible refine' ev_neg ?_) <;> walk_at "ev"
  | (with_reducible refine' ev_lt ?_ ?_) <;> walk_at "ev"
  | (with_reducible refine' ev_le ?_ ?_) <;> walk_at "ev"
  | (with_reducible refine' ev_gt ?_ ?_) <;> walk_at "ev"
  | (with_reducible refine' ev_ge ?_ ?_) <;> walk_at "ev"
  | (with_reducible refine' ev_eqI ?_ ?_) <;> walk_at "ev"
  | (with_reducible refine' ev_neI ?_ ?_) <;> walk_at "ev"
  | (with_reducible refine' ev_intI ?_) <;> walk_at "eva"
  | (with_reducible refine' ev_lenT ?_) <;> walk_at "eva"
  | walk_at "evx")
local macro_rules | `(tactic| walk_at "eva") => `(tactic| first
  | (with_reducible exact eva_nil)
  | ((with_reducible refine' eva_cons ?v1 ?v2); (case v1 => walk_at "ev"); (case v2 => walk_at "eva")))
local macro_rules | `(tactic| walk_at "evx") => `(tactic| first
  | ((with_reducible refine' ev_pget ?a ?b ?c); (case a => rfl); (case b => with_reducible assumption); (case c => first | (with_reducible exact p_at _) | (with_reducible exact p_dg _) | (with_reducible exact p_ct _) | (with_reducible exact p_fo _))))
local macro_rules | `(tactic| walk_at "sh") => `(tactic| first
  | (with_reducible assumption)
  | ((with_reducible refine' ShAt.same ?hh ?kk); (case kk => with_reducible assumption); (case hh => walk_at "sh"))
  | ((with_reducible refine' ShAt.kt ?hh ?kk); (case kk => with_reducible assumption); (case hh => walk_at "sh")))
local macro_rules | `(tactic| walk_at "evx") => `(tactic| first
  | ((with_reducible refine' ev_base ?e ?h ?c ?n); (case e => rfl); (case h => walk_at "sh"); (case c => with_reducible assumption); (case n => with_reducible assumption))
  | ((with_reducible refine' ev_price ?e ?h ?c ?n); (case e => rfl); (case h => walk_at "sh"); (case c => with_reducible assumption); (case n => with_reducible assumption))
  | ((with_reducible refine' ev_steps ?e ?h ?c ?n); (case e => rfl); (case h => walk_at "sh"); (case c => with_reducible assumption); (case n => with_reducible assumption))
  | ((with_reducible refine' ev_prices ?e ?h ?c ?n); (case e => rfl); (case h => walk_at "sh"); (case c => with_reducible assumption); (case n => with_reducible assumption)))
section
variable {P : Program} {w : World} {K : Fr} {mg : Str → Option Value} {base : Heap}
def spBadSteps (K : Fr) : Sp := fun vs H Q _ => ∃ (c d : Addr) (n : Nat) (l : List C2) (v : V), vs = [.ref d, v] ∧ PenAt c H d n ∧ n < 700000000 ∧ areSteps l = true ∧ (∀ s ∈ l, BdC 210 s) ∧ Rep K H v (dCs l) ∧
  ∀ (v' : V) (l' : List C2) (H' : Hp), areSteps l' = false → (∀ s ∈ l', BdC 2000 s) → l'.length ≤ 4 → Rep K H' v' (dCs l') → Kd d H H' → PenAt c H' d (n + 100) → Q v' H'
theorem s_pickTo {K : Fr} {E : XK} {u : TS} {D : Ends} {σ : L2.St} {H : Hp} {c d : Addr} {n i j : Nat} {tl : TE} {ds : List PD} (e : σ[i]? = some (some (.ref d))) (P : PenAt c H d n) (hn : n < 1000000000) (a : EvL K tl σ H ds) (h0 : 0 < ds.length) (h1 : ds.length < 1000000)
    (k : ∀ (v : V) (x : PD) (H' : Hp), x ∈ ds → Rep K H' v x → Kd d H H' → PenAt c H' d (n + 1) → u D (σ.set j (some v)) H') : tSeq (tAsg (tCall spPick [] E (tCons (tVar i) (tCons tl tNil))) (gName j)) u D σ H := c_pick e P hn a h0 h1 k
theorem s_pickR {K : Fr} {E : XK} {D : Ends} {σ : L2.St} {H : Hp} {c d : Addr} {n i : Nat} {tl : TE} {ds : List PD} (e : σ[i]? = some (some (.ref d))) (P : PenAt c H d n) (hn : n < 1000000000) (a : EvL K tl σ H ds) (h0 : 0 < ds.length) (h1 : ds.length < 1000000)
    (k : ∀ (v : V) (x : PD) (H' : Hp), x ∈ ds → Rep K H' v x → Kd d H H' → PenAt c H' d (n + 1) → D.rt v H') : tRet (tCall spPick [] E (tCons (tVar i) (tCons tl tNil))) D σ H := c_pick e P hn a h0 h1 k
theorem s_way2 (K : Fr) {E : XK} {u : TS} {D : Ends} {σ : L2.St} {H : Hp} {c d : Addr} {n : Nat} (e : σ[0]? = some (some (.ref d))) (P : PenAt c H d n) (hn : n < 800000000)
    (k : ∀ (way m : Int) (H2 : Hp), 0 ≤ way → way < 4 → 0 < m → Bd 212 m → Kd d H H2 → PenAt c H2 d (n + 13) → u D ((σ.set 2 (some (.int way))).set 3 (some (.int m))) H2) :
    tSeq (tPar 2 3 (tCons (tCall spDraw [] E (tCons (tVar 0) (tCons (tC (.int 4)) tNil))) (tCons (tOp (rI0 fun i j => .int (i + j)) (tC (.int 1)) (tCB (fun xs H Q => ∃ i, xs = [.int i] ∧ Q (.int (if i < 0 then -i else i)) H) (tCons (tCall spWide [] E (tCons (tVar 0) tNil)) tNil))) tNil))) u D σ H :=
  c_draw (K := K) (m := 4) e P (by omega) (by decide) (by decide) ev_int fun way H1 w0 w1 k1 P1 => c_wide (σ := σ) (i := 0) e P1 (by omega) fun x H2 bx k2 P2 => by
    have h0 : 0 < 1 + (if x < 0 then -x else x) := by
      by_cases h : x < 0
      · rw [if_pos h]; omega
      · rw [if_neg h]; omega
    have hb : Bd 212 (1 + (if x < 0 then -x else x)) := by
      refine Bd.mono (Bd.add (bd_lit (n := 2) (i := 1) (by decide)) (m := 210) ?_) (by decide)
      by_cases h : x < 0
      · rw [if_pos h]; exact bx.neg
      · rw [if_neg h]; exact bx
    exact ⟨x, rfl, _, _, rfl, rfl, _, _, rfl, k way _ H2 w0 w1 h0 hb (k1.trans k2) P2⟩
theorem s_retT3 {ta : TA} {D : Ends} {σ : L2.St} {H : Hp} (h : ta σ H fun xs H1 => xs.length ≤ sizeLine ∧ ∀ p, H1 p = none → D.rt (.ref p) (upd H1 p (.tup xs))) : tRet (tTup ta) D σ H := h
theorem tup_var {tr : TA} {i : Nat} {v : V} {σ : L2.St} {H : Hp} {Q : List V → Hp → Prop} (e : σ[i]? = some (some v)) (h : tr σ H fun vs H1 => Q (v :: vs) H1) : tCons (tVar i) tr σ H Q := ⟨v, e, h⟩
theorem tup_ev {K : Fr} {ta : TE} {tr : TA} {d : PD} {σ : L2.St} {H : Hp} {Q : List V → Hp → Prop} (a : Ev K ta σ H d) (h : ∀ v H1, Same H H1 → Rep K H1 v d → tr σ H1 fun vs H2 => Q (v :: vs) H2) : tCons ta tr σ H Q := a H (Same.refl H) _ h
set_option maxHeartbeats 2000000 in
theorem ok_bad_steps (T : Txt K mg) : FnOk P w K mg base CX0 4 T.a_bad_steps T.f_bad_steps ["_law_pen_here", "_law_steps_here"] (spBadSteps K) := by
  refine T.d_bad_steps.F.ok sc_bad_steps (fun vs H Q E h => ?_) (fun cdv A outer s H vs Q E hr h => ?_)
  · obtain ⟨c, d, n, l, v, rfl, _⟩ := h
    rfl
  · obtain ⟨c, d, n, l, v, rfl, P0, hn, st, bl, rv, k⟩ := h
    have hu64 : (A.deeper (PyProof.Rows.envOfC "_law_bad_steps" (defScope s_bad_steps) s.heap.objs.size T.a_bad_steps cdv)).units + 64 < cLine := by
      have := hr.un
      omega
    refine ⟨_, (pss_cons (ps_par (i := 2) (j := 3) rfl sc_bad_steps.nd rfl rfl (by decide) rfl rfl (pa_cons (pe_call (ok_draw T) (hr.mono (by decide)) rfl T.d_draw.m T.d_draw.F.kp T.d_draw.b .nil pass0 (pa_cons (pv 0) (pa_cons pe_int pa_nil))) (pa_cons (pe_op op_add pe_int (pe_callB call_abs (by rfl) T.z_abs (by decide +kernel) (pa_cons (pe_call (ok_wide T) (hr.mono (by decide)) rfl T.d_wide.m T.d_wide.F.kp T.d_wide.b .nil pass0 (pa_cons (pv 0) pa_nil)) pa_nil))) pa_nil)) rfl)
    (pss_cons (ps_set (i := 4) sc_bad_steps.nd rfl (Or.inl rfl) (pe_ifExp (pt_cmpR (op_neK K rfl hu64) (pv 1) (pe_tup pa_nil) (nomark _)) (pe_ix (ix_tK K) (pv 1) pe_int (fun _ _ => rfl)) (pe_tup (pa_cons pe_int (pa_cons (pe_un un_neg pe_int) pa_nil)))))
    (pss_cons (ps_set (i := 5) sc_bad_steps.nd rfl (Or.inl rfl) (pe_call (ok_pick T) (hr.mono (by decide)) rfl T.d_pick.m T.d_pick.F.kp T.d_pick.b .nil pass0 (pa_cons (pv 0) (pa_cons (pe_lst (pa_cons (pe_tup (pa_cons (pe_op op_mulW (pv 3) (pe_ix (ix_tK K) (pv 4) pe_int (fun _ _ => rfl))) (pa_cons (pe_op op_mulW (pv 3) (pe_ix (ix_tK K) (pv 4) pe_int (fun _ _ => rfl))) pa_nil))) (pa_cons (pe_tup (pa_cons (pe_op op_mulW (pe_un un_neg (pv 3)) (pe_ix (ix_tK K) (pv 4) pe_int (fun _ _ => rfl))) (pa_cons (pe_op op_mulW (pe_un un_neg (pv 3)) (pe_ix (ix_tK K) (pv 4) pe_int (fun _ _ => rfl))) pa_nil))) (pa_cons (pv 4) pa_nil)))) pa_nil))))
    (pss_cons (ps_if (pt_cmpR op_eq (pv 2) pe_int (nomark _)) (pss_one (ps_ret (pe_call (ok_pick T) (hr.mono (by decide)) rfl T.d_pick.m T.d_pick.F.kp T.d_pick.b .nil pass0 (pa_cons (pv 0) (pa_cons (pe_lst (pa_cons (pe_tup (pa_cons (pv 4) (pa_cons (pv 5) pa_nil))) (pa_cons (pe_tup (pa_cons (pv 5) (pa_cons (pv 4) pa_nil))) pa_nil))) pa_nil))))) pss_nil)
    (pss_cons (ps_if (pt_cmpR op_eq (pv 2) pe_int (nomark _)) (pss_one (ps_ret (pe_call (ok_pick T) (hr.mono (by decide)) rfl T.d_pick.m T.d_pick.F.kp T.d_pick.b .nil pass0 (pa_cons (pv 0) (pa_cons (pe_lst (pa_cons (pe_tup (pa_cons (pe_tup (pa_cons pe_int (pa_cons pe_int pa_nil))) pa_nil)) (pa_cons (pe_tup (pa_cons (pv 4) (pa_cons (pe_tup (pa_cons pe_int (pa_cons pe_int pa_nil))) pa_nil))) (pa_cons (pe_tup (pa_cons (pe_tup (pa_cons pe_int (pa_cons pe_int pa_nil))) (pa_cons (pv 4) pa_nil))) (pa_cons (pe_tup (pa_cons (pe_tup (pa_cons pe_int (pa_cons pe_int pa_nil))) (pa_cons (pe_tup (pa_cons pe_int (pa_cons pe_int pa_nil))) pa_nil))) pa_nil))))) pa_nil))))) pss_nil)
    (pss_cons (ps_if (pt_cmpR op_eq (pv 2) pe_int (nomark _)) (pss_one (ps_ret (pe_tup (pa_cons (pv 4) (pa_cons (pe_tup (pa_cons (pe_un un_neg (pe_ix (ix_tK K) (pv 4) pe_int (fun _ _ => rfl))) (pa_cons (pe_ix (ix_tK K) (pv 4) pe_int (fun _ _ => rfl)) pa_nil))) (pa_cons (pe_call (ok_near T) (hr.mono (by decide)) rfl T.d_near.m T.d_near.F.kp T.d_near.b .nil pass0 (pa_cons (pv 0) (pa_cons pe_int pa_nil))) pa_nil)))))) pss_nil)
    (pss_one (ps_ret (pe_tup (pa_cons (pv 4) (pa_cons (pe_tup (pa_cons (pe_un un_neg (pe_ix (ix_tK K) (pv 4) pe_int (fun _ _ => rfl))) (pa_cons (pe_ix (ix_tK K) (pv 4) pe_int (fun _ _ => rfl)) pa_nil))) (pa_cons (pv 4) (pa_cons (pv 5) pa_nil))))))))))))), ?_⟩
    try dsimp only [cxOf, List.map]
    rw [show L2.start N_bad_steps [V.ref d, v] = [some (.ref d), some v, none, none, none, none] from rfl]
    refine s_way2 K rfl P0 (by omega) fun way m H2 w0 w1 m0 bm k02 P2 => ?_
    rw [show (([some (.ref d), some v, none, none, none, none] : L2.St).set 2 (some (.int way))).set 3 (some (.int m)) = [some (.ref d), some v, some (.int way), some (.int m), none, none] from rfl]
    have rv2 : Rep K H2 v (dCs l) := rv.kt (P0.kt k02)
    -- the step
    obtain ⟨sp, hsp, s0, bs⟩ : ∃ sp : C2, (l = [] ∧ sp = (2, -1) ∨ ∃ r, l = sp :: r) ∧ ¬ sp = (0, 0) ∧ BdC 210 sp := by
      match l, st, bl with
      | [], _, _ => exact ⟨(2, -1), .inl ⟨rfl, rfl⟩, by decide, ⟨bd_lit (by decide), bd_lit (by decide)⟩⟩
      | f :: r, st, bl => exact ⟨f, .inr ⟨r, rfl⟩, nz_of (j := 0) st rfl, bl f (by simp)⟩
    refine s_set (K := K) (d := dC sp) (ev_if (c := !(PyData.eqv (dCs l) (.tuple []))) (evb_test (K := K) (ev_neD (ev_var rfl rv2) (ev_tup eva_nil (Nat.le_of_ble_eq_true rfl)) (shaped_dCs l) (shaped_dCs []))) (fun h => ?e1) (fun h => ?e2)) fun vs H3 s3 r3 => ?_
    case e1 =>
      rcases hsp with ⟨e, _⟩ | ⟨r, e⟩
      · subst e
        exact absurd h (by decide)
      · subst e
        exact ev_ix (ev_var rfl rv2) (atI_nat (j := 0) rfl)
    case e2 =>
      rcases hsp with ⟨e, e'⟩ | ⟨r, e⟩
      · subst e'
        exact ev_tup (eva_cons ev_int (eva_cons (ev_neg ev_int) eva_nil)) (Nat.le_of_ble_eq_true rfl)
      · subst e
        rw [show PyData.eqv (dCs (sp :: r)) (.tuple []) = (sp :: r).isEmpty from eqv_nil] at h
        cases h
    rw [show ([some (.ref d), some v, some (.int way), some (.int m), none, none] : L2.St).set 4 (some vs) = [some (.ref d), some v, some (.int way), some (.int m), some vs, none] from rfl]
    clear hsp rv2 rv st bl
    obtain ⟨bs1, bs2⟩ := bs
    -- the line
    refine s_pickTo (K := K) (ds := [.tuple [.int (m * sp.1), .int (m * sp.2)], .tuple [.int (-m * sp.1), .int (-m * sp.2)], dC sp]) rfl (P2.same s3) (by omega) (evl_lst (eva_cons ?t1 (eva_cons ?t2 (eva_cons ?t3 eva_nil))) (Nat.le_of_ble_eq_true rfl)) (by simp) (by simp) fun vl x H4 hx r4 k4 P4 => ?_
    case t1 => exact ev_tup (eva_cons (ev_mul (ev_var rfl (.int _)) (ev_ix (ev_var rfl r3) rfl) (Bd.mulW bm bs1 (by decide))) (eva_cons (ev_mul (ev_var rfl (.int _)) (ev_ix (ev_var rfl r3) rfl) (Bd.mulW bm bs2 (by decide))) eva_nil)) (Nat.le_of_ble_eq_true rfl)
    case t2 => exact ev_tup (eva_cons (ev_mul (ev_neg (ev_var rfl (.int _))) (ev_ix (ev_var rfl r3) rfl) (Bd.mulW bm.neg bs1 (by decide))) (eva_cons (ev_mul (ev_neg (ev_var rfl (.int _))) (ev_ix (ev_var rfl r3) rfl) (Bd.mulW bm.neg bs2 (by decide))) eva_nil)) (Nat.le_of_ble_eq_true rfl)
    case t3 => walk_at "ev"
    rw [show ([some (.ref d), some v, some (.int way), some (.int m), some vs, none] : L2.St).set 5 (some vl) = [some (.ref d), some v, some (.int way), some (.int m), some vs, some vl] from rfl]
    obtain ⟨ln, rfl, hln, hln2, b1, b2⟩ : ∃ ln : C2, x = dC ln ∧ cr sp ln = 0 ∧ cr ln sp = 0 ∧ Bd 500 ln.1 ∧ Bd 500 ln.2 := by
      simp at hx
      rcases hx with rfl | rfl | rfl
      · exact ⟨(m * sp.1, m * sp.2), rfl, by unfold cr; grind, by unfold cr; grind, (Bd.mul bm bs1).mono (by decide), (Bd.mul bm bs2).mono (by decide)⟩
      · exact ⟨(-m * sp.1, -m * sp.2), rfl, by unfold cr; grind, by unfold cr; grind, (Bd.mul bm.neg bs1).mono (by decide), (Bd.mul bm.neg bs2).mono (by decide)⟩
      · exact ⟨sp, rfl, by unfold cr; grind, by unfold cr; grind, bs1.mono (by decide), bs2.mono (by decide)⟩
    have r3' : Rep K H4 vs (dC sp) := r3.kt ((P2.same s3).kt k4)
    have k04 : Kd d H H4 := (k02.trans (kd_same s3)).trans k4
    clear r3 hx P2 k4
    have bS : BdC 2000 sp := ⟨bs1.mono (by decide), bs2.mono (by decide)⟩
    have bL : BdC 2000 ln := ⟨b1.mono (by decide), b2.mono (by decide)⟩
    have bZ : BdC 2000 (0, 0) := ⟨(bd_lit (n := 4) (by decide)).mono (by decide), (bd_lit (n := 4) (by decide)).mono (by decide)⟩
    have bQ : BdC 2000 (-sp.2, sp.1) := ⟨bs2.neg.mono (by decide), bs1.mono (by decide)⟩
    -- what is handed back
    have fin : ∀ (v' : V) (l' : List C2) (H5 : Hp) (j : Nat), areSteps l' = false → (∀ s ∈ l', BdC 2000 s) → l'.length ≤ 4 → Rep K H5 v' (dCs l') → Kd d H4 H5 → PenAt c H5 d (n + 13 + 1 + j) → j ≤ 50 → Q v' H5 := fun v' l' H5 j h1 h2 h3 r5 k5 P5 hj => k v' l' H5 h1 h2 h3 r5 (k04.trans k5) (P5.mono (by omega))
    refine s_ifr (c := decide (way = 0)) (evb_test (K := K) (ev_eqI ?t1 ev_int)) (fun _ H5 s5 => ?_) (fun hf1 H5 s5 => ?_)
    case t1 => walk_at "ev"
    · refine s_pickR (K := K) (ds := [.tuple [dC sp, dC ln], .tuple [dC ln, dC sp]]) rfl (P4.same s5) (by omega) (evl_lst (eva_cons ?t1 (eva_cons ?t2 eva_nil)) (Nat.le_of_ble_eq_true rfl)) (by simp) (by simp) fun v' x H6 hx r6 k6 P6 => ?_
      case t1 => walk_at "ev"
      case t2 => walk_at "ev"
      simp at hx
      rcases hx with rfl | rfl
      · exact fin v' [sp, ln] H6 1 (by simp [areSteps, hln]) (by simp; exact ⟨bS, bL⟩) (by simp) r6 ((kd_same s5).trans k6) P6 (by decide)
      · exact fin v' [ln, sp] H6 1 (by simp [areSteps, hln2]) (by simp; exact ⟨bL, bS⟩) (by simp) r6 ((kd_same s5).trans k6) P6 (by decide)
    refine s_ifr (c := decide (way = 1)) (evb_test (K := K) (ev_eqI ?t1 ev_int)) (fun _ H6 s6 => ?_) (fun hf2 H6 s6 => ?_)
    case t1 => walk_at "ev"
    · refine s_pickR (K := K) (ds := [.tuple [dC (0, 0)], .tuple [dC sp, dC (0, 0)], .tuple [dC (0, 0), dC sp], .tuple [dC (0, 0), dC (0, 0)]]) rfl (P4.same (s5.trans s6)) (by omega) (evl_lst (eva_cons ?t1 (eva_cons ?t2 (eva_cons ?t3 (eva_cons ?t4 eva_nil)))) (Nat.le_of_ble_eq_true rfl)) (by simp) (by simp) fun v' x H7 hx r7 k7 P7 => ?_
      case t1 => walk_at "ev"
      case t2 => walk_at "ev"
      case t3 => walk_at "ev"
      case t4 => walk_at "ev"
      have k47 := (kd_same (s5.trans s6)).trans k7
      simp at hx
      rcases hx with rfl | rfl | rfl | rfl
      · exact fin v' [(0, 0)] H7 1 (by simp [areSteps]) (by simp; exact bZ) (by simp) r7 k47 P7 (by decide)
      · exact fin v' [sp, (0, 0)] H7 1 (by simp [areSteps]) (by simp; exact ⟨bS, bZ⟩) (by simp) r7 k47 P7 (by decide)
      · exact fin v' [(0, 0), sp] H7 1 (by simp [areSteps]) (by simp; exact ⟨bZ, bS⟩) (by simp) r7 k47 P7 (by decide)
      · exact fin v' [(0, 0), (0, 0)] H7 1 (by simp [areSteps]) (by simp; exact bZ) (by simp) r7 k47 P7 (by decide)
    have s46 := s5.trans s6
    refine s_ifr (c := decide (way = 2)) (evb_test (K := K) (ev_eqI ?t1 ev_int)) (fun _ H7 s7 => ?_) (fun hf3 H7 s7 => ?_)
    case t1 => walk_at "ev"
    · have s47 := s46.trans s7
      have rs7 := r3'.same s47
      refine s_retT3 ?_
      refine tup_var (i := 4) (v := vs) ?e ?_
      case e => rfl
      have eq : Ev K (tTup (tCons (tUn (rU fun i => .int (-i)) (tOp (rIxT K) (tVar 4) (tC (.int 1)))) (tCons (tOp (rIxT K) (tVar 4) (tC (.int 0))) tNil))) [some (.ref d), some v, some (.int way), some (.int m), some vs, some vl] H7 (.tuple [.int (-sp.2), .int sp.1]) := by
        walk_at "ev"
      refine tup_ev eq fun vq H8 s8 rq => ?_
      refine c_near (K := K) (m := 2) rfl (P4.same (s47.trans s8)) (by omega) (by decide) (by decide) ev_int fun vn y H9 by_ rn k9 P9 => ?_
      refine ⟨by show 3 ≤ sizeLine; decide, fun p hp => ?_⟩
      have kt9 := (P4.same (s47.trans s8)).kt k9
      have s10 := same_upd (o := HO.tup [vs, vq, vn]) hp
      refine fin (.ref p) [sp, (-sp.2, sp.1), y] _ 2 rfl ?_ (by simp) (.tup (SqT.of upd_same) (.cons (((rs7.same s8).kt kt9).same s10) (.cons ((rq.kt kt9).same s10) (.cons (rn.same s10) .nil)))) (((kd_same (s47.trans s8)).trans k9).trans (kd_same s10)) (P9.same s10) (by decide)
      intro z hz
      simp at hz
      rcases hz with rfl | rfl | rfl
      · exact bS
      · exact bQ
      · exact by_.mono (by decide)
    · have s47 := s46.trans s7
      refine s_ret (K := K) (d := .tuple [dC sp, .tuple [.int (-sp.2), .int sp.1], dC sp, dC ln]) ?t fun v' H8 s8 r8 => ?_
      case t =>
        have rs7 := r3'.same s47
        have rl7 := r4.same s47
        walk_at "ev"
      refine fin v' [sp, (-sp.2, sp.1), sp, ln] H8 0 rfl ?_ (by simp) r8 (kd_same (s47.trans s8)) (P4.same (s47.trans s8)) (by decide)
      intro z hz
      simp at hz
      rcases hz with rfl | rfl | rfl | rfl
      · exact bS
      · exact bQ
      · exact bS
      · exact bL
end
end LW
namespace LW
open PySem L2 LB
local macro_rules | `(tactic| walk_at "hp") => `(tactic| first
  | (with_reducible assumption) | (with_reducible exact Rep.int _) | (with_reducible exact Rep.bl _) | (with_reducible exact Rep.non) | (with_reducible exact Rep.str _)
  | ((with_reducible refine' Rep.same ?kk ?hh); (case kk => with_reducible assumption); (case hh => walk_at "hp"))
  | ((with_reducible refine' Rep.kt ?kk ?hh); (case kk => with_reducible assumption); (case hh => walk_at "hp")))
local macro_rules | `(tactic| walk_at "bd") => `(tactic| first
  | (with_reducible assumption)
  | exact bd_lit (n := 64) (by decide)
  | (with_reducible refine' Bd.mul ?_ ?_) <;> walk_at "bd"
  | (with_reducible refine' Bd.add ?_ ?_) <;> walk_at "bd"
  | (with_reducible refine' Bd.sub ?_ ?_) <;> walk_at "bd"
  | (with_reducible refine' Bd.neg ?_) <;> walk_at "bd")
local macro_rules | `(tactic| walk_at "ev") => `(tactic| first
  | (with_reducible exact ev_int) | (with_reducible exact ev_bl) | (with_reducible exact ev_non) | (with_reducible exact ev_str)
  | ((with_reducible refine' ev_var ?e ?hh); (case e => rfl); (case hh => walk_at "hp"))
  | (with_reducible refine' ev_add ?_ ?_) <;> walk_at "ev"
  | (with_reducible refine' ev_sub ?_ ?_) <;> walk_at "ev"
  | ((with_reducible refine' ev_mul ?m1 ?m2 ?m3); (case m1 => walk_at "ev"); (case m2 => walk_at "ev"); (case m3 => (refine' Bd.mulW ?b1 ?b2 ?b3; (case b1 => walk_at "bd"); (case b2 => walk_at "bd"); (case b3 => decide))))
  | ((with_reducible refine' ev_ix ?m1 ?m2); (case m1 => walk_at "ev"); (case m2 => rfl))
  | ((with_reducible refine' ev_tup ?m1 ?m2); (case m1 => walk_at "eva"); (case m2 => exact Nat.le_of_ble_eq_true rfl))
  | (with_reducible refine' ev_neg ?_) <;> walk_at "ev"
  | (with_reducible refine' ev_lt ?_ ?_) <;> walk_at "ev"
  | (with_reducible refine' ev_le ?_ ?_) <;> walk_at "ev"
  | (with_reducible refine' ev_gt ?_ ?_) <;> walk_at "ev"
  | (with_reducible refine' ev_ge ?_ ?_) <;> walk_at "ev"
  | (with_reducible refine' ev_eqI ?_ ?_) <;> walk_at "ev"
  | (with_reducible refine' ev_neI ?_ ?_) <;> walk_at "ev"
  | (with_reducible refine' ev_intI ?_) <;> walk_at "eva"
  | (with_reducible refine' ev_lenT ?_) <;> walk_at "eva"
  | walk_at "evx")
local macro_rules | `(tactic| walk_at "eva") => `(tactic| first
  | (with_reducible exact eva_nil)
  | ((with_reducible refine' eva_cons ?v1 ?v2); (case v1 => walk_at "ev"); (case v2 => walk_at "eva")))
local macro_rules | `(tactic| walk_at "evx") => `(tactic| first
  | ((with_reducible refine' ev_pget ?a ?b ?c); (case a => rfl); (case b => with_reducible assumption); (case c => first | (with_reducible exact p_at _) | (with_reducible exact p_dg _) | (with_reducible exact p_ct _) | (with_reducible exact p_fo _))))
local macro_rules | `(tactic| walk_at "sh") => `(tactic| first
  | (with_reducible assumption)
  | ((with_reducible refine' ShAt.same ?hh ?kk); (case kk => with_reducible assumption); (case hh => walk_at "sh"))
  | ((with_reducible refine' ShAt.kt ?hh ?kk); (case kk => with_reducible assumption); (case hh => walk_at "sh")))
local macro_rules | `(tactic| walk_at "evx") => `(tactic| first
  | ((with_reducible refine' ev_base ?e ?h ?c ?n); (case e => rfl); (case h => walk_at "sh"); (case c => with_reducible assumption); (case n => with_reducible assumption))
  | ((with_reducible refine' ev_price ?e ?h ?c ?n); (case e => rfl); (case h => walk_at "sh"); (case c => with_reducible assumption); (case n => with_reducible assumption))
  | ((with_reducible refine' ev_steps ?e ?h ?c ?n); (case e => rfl); (case h => walk_at "sh"); (case c => with_reducible assumption); (case n => with_reducible assumption))
  | ((with_reducible refine' ev_prices ?e ?h ?c ?n); (case e => rfl); (case h => walk_at "sh"); (case c => with_reducible assumption); (case n => with_reducible assumption)))
section
variable {P : Program} {w : World} {K : Fr} {mg : Str → Option Value} {base : Heap}
open PySem.Spec PyProof.Rows LamX
theorem takes_len {X : Cx} {W : WX} (tk : Takes X W) : Takes X (fun cls d σ H => σ.length = X.N.length → W cls d σ H) := fun u s' x => by
  obtain ⟨a, B, sI, pins, σ, H, cls, d, e, I, nb, up, sky, na, os, ag, w⟩ := x
  exact tk u s' ⟨a, B, sI, pins, σ, H, cls, d, e, I, nb, up, sky, na, os, ag, w I.len⟩
/-- an exception of the class at C whose field what is handed on -/
def EWhat (C : Addr) (Q : VK) : XK := fun cls d H' => cls = .ref C ∧ ∃ (dd : Addr) (fs : List (Str × V)) (x : V), d = some dd ∧ H' dd = some (.xd fs) ∧ fs.lookup ("what" : Str) = some x ∧ Q x H'
/-- what is handed back of a call: what the exception tells, or None -/
def TTr (C : Addr) (tl : XK → Hp → VK → Prop) (H : Hp) (Q : VK) : Prop := tl (EWhat C Q) H fun _ H' => ∃ v, (some (some V.non) : Option (Option V)) = some (some v) ∧ Q v H'
theorem refused_gives {X : Cx} (T : Txt X.K X.mg) {cdv : Value} {s : Shared} {H : Hp} {f c' : Addr} {q : Str} {Q : VK} {tl : XK → Hp → VK → Prop}
    (act : ∀ (W : WX) (pn : List (Addr × Obj)) (xe : Value → Shared → Prop) (E : XK) (p1 p2 : Pos), Takes ((cxOf CX0 X.prog X.w X.K X.mg X.base N_refused "_law_refused" (defScope s_refused) T.a_refused cdv X.A X.stack s H E0).tr pn xe) W → (∀ cls d σ' H', E cls d H' → W cls d σ' H') →
      PE ((cxOf CX0 X.prog X.w X.K X.mg X.base N_refused "_law_refused" (defScope s_refused) T.a_refused cdv X.A X.stack s H E0).tr pn xe) (.Call (.Name "_law_call" p1) [] [] p2) (fun σZ HZ Q => σZ[0]? = some (some (.ref f)) ∧ HZ c' = some (CodeO c' q) ∧ tl E HZ Q))
    (hc : H c' = some (CodeO c' q)) (h : TTr T.C_BadSheet tl H Q) :
    ∃ t, PSs (cxOf CX0 X.prog X.w X.K X.mg X.base N_refused "_law_refused" (defScope s_refused) T.a_refused cdv X.A X.stack s H E0) (defBody s_refused) t ∧ t { nx := fun _ H' => Q .non H', rt := Q } (L2.start N_refused [.ref f]) H := by
  have xf : XfC X.K T.C_BadSheet := ⟨T.e_BadSheet.hg, T.e_BadSheet.hk, T.e_BadSheet.ox.exC, T.e_BadSheet.hd⟩
  refine ⟨_, pss_cons (ps_set (i := 1) sc_refused.nd rfl (Or.inl rfl) pe_non) (pss_cons (ps_try_as (c := .ref T.C_BadSheet) (i := 2) (Wout := fun _ _ _ _ => False)
      (tb := fun W D σ H => ∃ Ech : XK, (∀ cls d σ' H', Ech cls d H' → σ'.length = 3 → W cls d σ' H') ∧ σ[0]? = some (some (.ref f)) ∧ H c' = some (CodeO c' q) ∧ tl Ech H fun _ H' => D.nx σ H')
      (ts := fun a cls d => tAsg (tXf a cls d T.C_BadSheet "what" (tVar 2)) (gName 1))
      rfl rfl sc_refused.nd rfl rfl ⟨rfl, by decide, .inl T.g_BadSheet⟩ takes0 (fun W pn xe tk _ => ?_) (fun a oe cls d pn hz hf => pss_one (ps_set (i := 1) sc_refused.nd rfl (Or.inl rfl) (pe_xf xf T.n_BadSheet_what hz hf (pv 2)))))
    (pss_one (ps_ret (pv 1)))), ?_⟩
  · refine ⟨fun pins s' σ H' D I h' => ?_⟩
    obtain ⟨Ech, hW, h1, h2, h3⟩ := h'
    exact (pss_one (ps_expr (act _ pn xe Ech _ _ (takes_len tk) hW))).run pins s' σ H' D I ⟨h1, h2, h3⟩
  · show ∃ Ech : XK, _ ∧ _
    refine ⟨EWhat T.C_BadSheet Q, fun cls d σ' H' hx hl => ?_, rfl, hc, ?_⟩
    · obtain ⟨rfl, dd, fs, x, rfl, e1, e2, e3⟩ := hx
      match σ', hl with
      | [x0, x1, x2], _ =>
        exact ⟨true, T.y_BadSheet, fun _ a na => ⟨_, rfl, rfl, rfl, dd, fs, x, rfl, e1, e2, _, rfl, e3⟩, fun z => by cases z⟩
    · exact h
def elR (C : Addr) (q : Str) (ds : List LamD) (r : List (Addr × Addr)) : L2.St → V → Hp → VK → Prop := fun σ x H Z => ∃ (d : LamD) (p : Addr × Addr), (d, p) ∈ ds.zip r ∧ x = .ref p.1 ∧ H p.2 = some (CodeO p.2 q) ∧ TTr C (fun E H' Q' => d.t E σ H' Q') H Z
theorem held_mem {X : Cx} {L : List (Addr × Obj)} {H : Hp} {d : LamD} {p : Addr × Addr} : ∀ {ds : List LamD} {r : List (Addr × Addr)}, Held X L H ds r → (d, p) ∈ ds.zip r → (∃ pm ctv, (p.1, lamO X d pm p.2 ctv) ∈ L) ∧ p.1 ∉ frs X.stack
  | [], [], _, m => nomatch m
  | _ :: _, _ :: _, ⟨a, b, _, h⟩, m => by
    rcases List.mem_cons.mp (show (d, p) ∈ (_, _) :: List.zip _ _ from m) with e | m
    · cases e
      exact ⟨a, b⟩
    · exact held_mem h m
  | [], _ :: _, h, _ => h.elim
  | _ :: _, [], h, _ => h.elim
theorem el_ok {X : Cx} (T : Txt X.K X.mg) {k j : Nat} {L : List (Addr × Obj)} {ds : List LamD} {r : List (Addr × Addr)} {Hh : Hp} {sc : Scope} {p1 p2 pos : Pos} (hh : Held X L Hh ds r) (ok : ∀ d ∈ ds, d.Ok X k) (hr : Room (k + 2) X.A)
    (hg : ∀ s H C cl fp, Gl (bk (plus X L) sc s H C cl fp) "_law_refused") (ha : ∀ s H C cl fp, PA (bk (plus X L) sc s H C cl fp) [.Name "_law_call" p2] (tCons (tVar j) tNil)) :
    ∀ (pins : List (Addr × Obj)) (σ : L2.St) (s0 : Shared) (H0 : Hp) (C : Addr) (cl : List (Str × Addr)) (fp : List Addr), (∀ pb σ' H' s', L2.Inv (bk (plus X L) sc s0 H0 C cl fp) pb σ' H' s' → L2.Inv (plus X L) pins σ H' s') →
      ∀ (pb : List (Addr × Obj)) (s1 : Shared) (σ1 : L2.St) (H1 : Hp) (x : V) (Z : VK), L2.Inv (bk (plus X L) sc s0 H0 C cl fp) pb σ1 H1 s1 → σ1[j]? = some (some x) → elR T.C_BadSheet (X.env.qual ++ "<lambda>") ds r σ x H1 Z →
        wpAny (model X.prog X.w) X.A (eval (.Call (.Name "_law_refused" p1) [.Name "_law_call" p2] [] pos) (compEnvC sc cl C X.env)) (EP (bk (plus X L) sc s0 H0 C cl fp) pb σ1 Z) (fun _ _ => False) s1 := by
  intro pins σ s0 H0 C cl fp back pb s1 σ1 H1 x Z I hj h
  obtain ⟨d, p, mem, rfl, hco, ht⟩ := h
  obtain ⟨⟨pm, ctv, hL⟩, hfr⟩ := held_mem hh mem
  have okd := ok d (List.of_mem_zip mem).1
  obtain ⟨oc, od, dV, kV, doc, pmG, an, cdv, ct, osl, lk, fe, hcd⟩ := T.d_refused.F.ex
  refine wpAny_Call_Name_kw (ld_glob I (hg s0 H0 C cl fp) T.d_refused.m ?_ (by decide))
  refine PySem.W.callWith_K (h₀ := X.base) I.ok.mod.kin T.d_refused.F.kp (thn ((ha s0 H0 C cl fp).run pos pb s1 σ1 H1 (fun vs H2 => vs = [.ref p.1] ∧ H2 = H1) I ⟨_, hj, rfl, rfl⟩) fun us s2 hu => ?_) (by rfl) (by rfl)
  obtain ⟨vs, H2, I2, rv, rfl, rfl⟩ := hu
  cases rv with
  | cons ra rr =>
    cases rr
    cases ra
    refine ⟨I2.kIn, ?_⟩
    show wpAny _ _ (call (.ref T.a_refused) [.ref p.1]) _ _ _
    have IX : L2.Inv (plus X L) pins σ H2 s2 := back _ _ _ _ I2
    have bnd := T.d_refused.b s2 [.ref p.1] IX.kIn rfl
    rw [fe] at lk bnd
    have pin := IX.pin (p.1, lamO X d pm p.2 ctv) (List.mem_append_left _ (List.mem_append_left _ hL))
    have rc : codeAny (model X.prog X.w) X.A (.call (.ref T.a_refused) ⟨[.ref p.1], []⟩) (CR CX0 X.stack X.prog X.w H2 s2 Z E0) s2 := by
      refine run_ofS (K := X.K) (mg := X.mg) (base := X.base) (N := N_refused) (ps := ["_law_call"]) (us := [.ref p.1]) (vs := [.ref p.1]) lk hcd sc_refused hr IX.env0 bnd (.cons rfl .nil) rfl fun hr' => ?_
      exact refused_gives (X := plus X L) T (fun W pn xe E q1 q2 tk hW => pe_act (X := plus X L) (i := 0) IX okd.sc pin.1 pin.2.1 hfr (okd.bd _ _ _ _ _) tk hW hr' (fun A outer s H hr2 => okd.run A outer s H E p.1 p.2 hr2) rfl (by first | exact .inl rfl | exact .inr (.inl rfl)) (by decide) (by decide)) hco ht
    refine wpAny_call (codeAny_mono rc fun rs s3 hq => ?_)
    cases rs with
    | error e => exact (show False from hq).elim
    | ok fl =>
      cases fl with
      | ret u => exact I2.after hq
      | next => exact False.elim hq
      | brk => exact False.elim hq
      | cont => exact False.elim hq
/-- the answers of all of them -/
theorem evl_lcE {K : Fr} {σ : L2.St} {H : Hp} {el : L2.St → V → Hp → VK → Prop} {i0 : Nat} {l : Addr} {vs : List V} {es : List PD} (e : σ[i0]? = some (some (.ref l))) (hl : H l = some (.lst vs)) (hn : es.length = vs.length) (h1 : vs.length ≤ 1000)
    (h : ∀ (j : Nat) (v : V) (d : PD) (H1 : Hp) (Z : VK), vs[j]? = some v → es[j]? = some d → Same H H1 → (∀ u H2, Same H1 H2 → Rep K H2 u d → Z u H2) → el σ v H1 Z) : EvL K (tLcE (iList K (tVar i0)) el) σ H es := fun H1 s Q k => by
  have hl1 := s _ _ hl
  refine ⟨_, e, l, rfl, ⟨vs, SqL.of hl1⟩, fun D hD => ?_⟩
  have no : ∀ {Hx : Hp} {o : HO}, Same H1 Hx → Same H1 (upd Hx D o) := fun sx => same_new hD sx
  refine ⟨fun i m Hx => m = vs.length - i ∧ i ≤ vs.length ∧ Same H1 Hx ∧ ∃ acc, Hx D = some (.lst acc) ∧ RepAll K Hx acc (es.take i), ⟨vs.length, rfl, Nat.zero_le _, no (Same.refl H1), [], upd_same, .nil⟩, ?_⟩
  rintro i m Hx ⟨rfl, hi, sx, acc, ha, ra⟩
  have lx := sx _ _ hl1
  rcases Nat.lt_or_ge i vs.length with lt | ge
  · refine .inr ⟨⟨vs, vs[i], SqL.of lx, by simp [lt]⟩, fun Hy => i + 1 ≤ vs.length ∧ Same H1 Hy ∧ ∃ acc, Hy D = some (.lst acc) ∧ RepAll K Hy acc (es.take (i + 1)), fun Hy q => ⟨vs.length - (i + 1), by omega, rfl, q⟩, ?_⟩
    rintro x Hz ⟨rfl, hx⟩
    obtain ⟨d, ed⟩ : ∃ d, es[i]? = some d := ⟨_, List.getElem?_eq_getElem (by omega)⟩
    refine h i x d Hz _ (hx vs (SqL.of lx)) ed (s.trans sx) fun u H2 s2 ru => ?_
    have hD2 := s2 _ _ ha
    refine ⟨acc, hD2, ?_, lt, no (sx.trans s2), acc ++ [u], upd_same, ?_⟩
    · have := ra.len
      rw [List.length_take] at this
      exact small1000 (by omega)
    · rw [List.take_succ, ed]
      exact ((ra.same s2).append (.cons ru .nil)).kt (kt_lst hD2)
  · have ei : i = vs.length := Nat.le_antisymm hi ge
    subst ei
    rw [← hn, List.take_length] at ra
    exact .inl ⟨⟨vs, SqL.of lx, Nat.le_refl _⟩, k D acc Hx sx hD ha ra⟩
end
end LW
namespace LW
open PySem L2 LB
local macro_rules | `(tactic| walk_at "hp") => `(tactic| first
  | (with_reducible assumption) | (with_reducible exact Rep.int _) | (with_reducible exact Rep.bl _) | (with_reducible exact Rep.non) | (with_reducible exact Rep.str _)
  | ((with_reducible refine' Rep.same ?kk ?hh); (case kk => with_reducible assumption); (case hh => walk_at "hp"))
  | ((with_reducible refine' Rep.kt ?kk ?hh); (case kk => with_reducible assumption); (case hh => walk_at "hp")))
local macro_rules | `(tactic| walk_at "bd") => `(tactic| first
  | (with_reducible assumption)
  | exact bd_lit (n := 64) (by decide)
  | (with_reducible refine' Bd.mul ?_ ?_) <;> walk_at "bd"
  | (with_reducible refine' Bd.add ?_ ?_) <;> walk_at "bd"
  | (with_reducible refine' Bd.sub ?_ ?_) <;> walk_at "bd"
  | (with_reducible refine' Bd.neg ?_) <;> walk_at "bd")
local macro_rules | `(tactic| walk_at "ev") => `(tactic| first
  | (with_reducible exact ev_int) | (with_reducible exact ev_bl) | (with_reducible exact ev_non) | (with_reducible exact ev_str)
  | ((with_reducible refine' ev_var ?e ?hh); (case e => rfl); (case hh => walk_at "hp"))
  | (with_reducible refine' ev_add ?_ ?_) <;> walk_at "ev"
  | (with_reducible refine' ev_sub ?_ ?_) <;> walk_at "ev"
  | ((with_reducible refine' ev_mul ?m1 ?m2 ?m3); (case m1 => walk_at "ev"); (case m2 => walk_at "ev"); (case m3 => (refine' Bd.mulW ?b1 ?b2 ?b3; (case b1 => walk_at "bd"); (case b2 => walk_at "bd"); (case b3 => decide))))
  | ((with_reducible refine' ev_ix ?m1 ?m2); (case m1 => walk_at "ev"); (case m2 => rfl))
  | ((with_reducible refine' ev_tup ?m1 ?m2); (case m1 => walk_at "eva"); (case m2 => exact Nat.le_of_ble_eq_true rfl))
  | (with_reducible refine' ev_neg ?_) <;> walk_at "ev"
  | (with_reducible refine' ev_lt ?_ ?_) <;> walk_at "ev"
  | (with_reducible refine' ev_le ?_ ?_) <;> walk_at "ev"
  | (with_reducible refine' ev_gt ?_ ?_) <;> walk_at "ev"
  | (with_reducible refine' ev_ge ?_ ?_) <;> walk_at "ev"
  | (with_reducible refine' ev_eqI ?_ ?_) <;> walk_at "ev"
  | (with_reducible refine' ev_neI ?_ ?_) <;> walk_at "ev"
  | (with_reducible refine' ev_intI ?_) <;> walk_at "eva"
  | (with_reducible refine' ev_lenT ?_) <;> walk_at "eva"
  | walk_at "evx")
local macro_rules | `(tactic| walk_at "eva") => `(tactic| first
  | (with_reducible exact eva_nil)
  | ((with_reducible refine' eva_cons ?v1 ?v2); (case v1 => walk_at "ev"); (case v2 => walk_at "eva")))
local macro_rules | `(tactic| walk_at "evx") => `(tactic| first
  | ((with_reducible refine' ev_pget ?a ?b ?c); (case a => rfl); (case b => with_reducible assumption); (case c => first | (with_reducible exact p_at _) | (with_reducible exact p_dg _) | (with_reducible exact p_ct _) | (with_reducible exact p_fo _))))
local macro_rules | `(tactic| walk_at "sh") => `(tactic| first
  | (with_reducible assumption)
  | ((with_reducible refine' ShAt.same ?hh ?kk); (case kk => with_reducible assumption); (case hh => walk_at "sh"))
  | ((with_reducible refine' ShAt.kt ?hh ?kk); (case kk => with_reducible assumption); (case hh => walk_at "sh")))
local macro_rules | `(tactic| walk_at "evx") => `(tactic| first
  | ((with_reducible refine' ev_base ?e ?h ?c ?n); (case e => rfl); (case h => walk_at "sh"); (case c => with_reducible assumption); (case n => with_reducible assumption))
  | ((with_reducible refine' ev_price ?e ?h ?c ?n); (case e => rfl); (case h => walk_at "sh"); (case c => with_reducible assumption); (case n => with_reducible assumption))
  | ((with_reducible refine' ev_steps ?e ?h ?c ?n); (case e => rfl); (case h => walk_at "sh"); (case c => with_reducible assumption); (case n => with_reducible assumption))
  | ((with_reducible refine' ev_prices ?e ?h ?c ?n); (case e => rfl); (case h => walk_at "sh"); (case c => with_reducible assumption); (case n => with_reducible assumption)))
section
variable {P : Program} {w : World} {K : Fr} {mg : Str → Option Value} {base : Heap}
open PySem.Spec PyProof.Rows LamX
/-! ### the four calls -/
abbrev stL : Stmt := (defBody s_refuses).getD 3 (.Pass ⟨0, 0, 0, 0⟩)
abbrev esL : List Expr := match stL with
  | .Assign _ (.List es _) _ => es
  | _ => []
abbrev lamX (i : Nat) : Expr := esL.getD i (.Name "" ⟨0, 0, 0, 0⟩)
def lamA (i : Nat) : Arguments := match lamX i with
  | .Lambda p _ _ _ => p
  | _ => defArgs s_refuses
def lamB (i : Nat) : Expr := match lamX i with
  | .Lambda _ b _ _ => b
  | _ => .Name "" ⟨0, 0, 0, 0⟩
def lamSc (i : Nat) : Scope := match lamX i with
  | .Lambda _ _ sc _ => sc
  | _ => defScope s_refuses
def lamP (i : Nat) : Pos := match lamX i with
  | .Lambda _ _ _ q => q
  | _ => ⟨0, 0, 0, 0⟩
abbrev lamD (i : Nat) (t : XK → TE) : LamD := ⟨lamA i, lamB i, lamSc i, lamP i, t⟩
theorem lamS0 : LamS (defScope s_refuses) (lamSc 0) := lamS_by (by decide +kernel)
theorem lamS1 : LamS (defScope s_refuses) (lamSc 1) := lamS_by (by decide +kernel)
theorem lamS2 : LamS (defScope s_refuses) (lamSc 2) := lamS_by (by decide +kernel)
theorem lamS3 : LamS (defScope s_refuses) (lamSc 3) := lamS_by (by decide +kernel)
def tRow (K : Fr) (i : Int) : TE := tOp (rIxT K) (tVar 1) (tC (.int i))
def tL1 (T : Txt K mg) : XK → TE := fun E => tMake T.C_Sheet (spInitX K T.C_Sheet T.C_BadSheet) [] E (tCons (tRow K 0) (tCons (tRow K 1) (tCons (tVar 2) (tCons (tVar 4) tNil))))
def tL2 (T : Txt K mg) : XK → TE := fun E => tMake T.C_Sheet (spInitX K T.C_Sheet T.C_BadSheet) [] E (tCons (tRow K 0) (tCons (tRow K 1) (tCons (tCB (fun xs H Q => ∃ p ys, xs = [.ref p] ∧ (SqL K H p ys ∨ SqT K H p ys) ∧ ∀ l, H l = none → Q (.ref l) (upd H l (.lst ys))) (tCons (tVar 2) tNil)) (tCons (tOp (rCatA K) (tVar 5) (tTup (tCons (tC (.int 1)) (tCons (tC (.int 1)) (tCons (tC (.int 1)) tNil))))) tNil))))
def tL3 (T : Txt K mg) : XK → TE := fun E => tMake T.C_Sheet (spInitX K T.C_Sheet T.C_BadSheet) [] E (tCons (tRow K 0) (tCons (tRow K 1) (tCons (tRow K 2) (tCons (tVar 5) tNil))))
def tL4 (T : Txt K mg) : XK → TE := fun _ => tMake T.C_Sheet (spInitS K T.C_Sheet) [] E0 (tCons (tRow K 0) (tCons (tRow K 1) (tCons (tRow K 2) (tCons (tCB (fun xs H Q => ∃ p ys, xs = [.ref p] ∧ (SqL K H p ys ∨ SqT K H p ys) ∧ ∀ l, H l = none → Q (.ref l) (upd H l (.lst ys))) (tCons (tVar 3) tNil)) tNil))))
theorem takes_lam {X : Cx} {A : Around} {outer : List Env} {s : Shared} {H : Hp} {E : XK} {sc : Scope} {f c' : Addr} : Takes (lamCx X A outer s H E sc f c') (fun cls d _ H => E cls d H) := takes_of rfl rfl rfl rfl
section
variable {cdv : Value} {A : Around} {outer : List Env} {s : Shared} {H : Hp} {E1 : XK}
abbrev cxR (T : Txt K mg) (P : Program) (w : World) (base : Heap) (cdv : Value) (A : Around) (outer : List Env) (s : Shared) (H : Hp) (E : XK) : Cx := cxOf CX0 P w K mg base N_refuses "_law_refuses" (defScope s_refuses) T.a_refuses cdv A outer s H E
theorem ok_L1 (T : Txt K mg) : (lamD 0 (tL1 T)).Ok (cxR T P w base cdv A outer s H E1) 5 := by
  refine ⟨lamS0, rfl, fun _ _ _ _ _ => rfl, fun A' outer' s' H' E f c' hr => ?_⟩
  show PE (lamCx (cxR T P w base cdv A outer s H E1) A' outer' s' H' E (lamSc 0) f c') (.Call (.Name "Sheet" _) [_, _, _, _] [] _) (tL1 T E)
  exact pe_make T.k_Sheet (ok_initX T) hr rfl T.g_Sheet T.b_init .nil (passes_call takes_lam fun _ _ _ _ h => h) (pa_cons (pe_ix (ix_tK K) (pv 1) pe_int (fun _ _ => rfl)) (pa_cons (pe_ix (ix_tK K) (pv 1) pe_int (fun _ _ => rfl)) (pa_cons (pv 2) (pa_cons (pv 4) pa_nil))))
theorem ok_L2 (T : Txt K mg) : (lamD 1 (tL2 T)).Ok (cxR T P w base cdv A outer s H E1) 5 := by
  refine ⟨lamS1, rfl, fun _ _ _ _ _ => rfl, fun A' outer' s' H' E f c' hr => ?_⟩
  show PE (lamCx (cxR T P w base cdv A outer s H E1) A' outer' s' H' E (lamSc 1) f c') (.Call (.Name "Sheet" _) [_, _, _, _] [] _) (tL2 T E)
  exact pe_make T.k_Sheet (ok_initX T) (hr.mono (by decide)) rfl T.g_Sheet T.b_init .nil (passes_call takes_lam fun _ _ _ _ h => h) (pa_cons (pe_ix (ix_tK K) (pv 1) pe_int (fun _ _ => rfl)) (pa_cons (pe_ix (ix_tK K) (pv 1) pe_int (fun _ _ => rfl)) (pa_cons (pe_callTy call_list_of (by rfl) T.z_list (by decide +kernel) (pa_cons (pv 2) pa_nil)) (pa_cons (pe_op (op_tcK K rfl) (pv 5) (pe_tup (pa_cons pe_int (pa_cons pe_int (pa_cons pe_int pa_nil))))) pa_nil))))
theorem ok_L3 (T : Txt K mg) : (lamD 2 (tL3 T)).Ok (cxR T P w base cdv A outer s H E1) 5 := by
  refine ⟨lamS2, rfl, fun _ _ _ _ _ => rfl, fun A' outer' s' H' E f c' hr => ?_⟩
  show PE (lamCx (cxR T P w base cdv A outer s H E1) A' outer' s' H' E (lamSc 2) f c') (.Call (.Name "Sheet" _) [_, _, _, _] [] _) (tL3 T E)
  exact pe_make T.k_Sheet (ok_initX T) (hr.mono (by decide)) rfl T.g_Sheet T.b_init .nil (passes_call takes_lam fun _ _ _ _ h => h) (pa_cons (pe_ix (ix_tK K) (pv 1) pe_int (fun _ _ => rfl)) (pa_cons (pe_ix (ix_tK K) (pv 1) pe_int (fun _ _ => rfl)) (pa_cons (pe_ix (ix_tK K) (pv 1) pe_int (fun _ _ => rfl)) (pa_cons (pv 5) pa_nil))))
theorem ok_L4 (T : Txt K mg) : (lamD 3 (tL4 T)).Ok (cxR T P w base cdv A outer s H E1) 5 := by
  refine ⟨lamS3, rfl, fun _ _ _ _ _ => rfl, fun A' outer' s' H' E f c' hr => ?_⟩
  show PE (lamCx (cxR T P w base cdv A outer s H E1) A' outer' s' H' E (lamSc 3) f c') (.Call (.Name "Sheet" _) [_, _, _, _] [] _) (tL4 T E)
  exact pe_make T.k_Sheet (ok_init T) (hr.mono (by decide)) rfl T.g_Sheet T.b_init .nil pass0 (pa_cons (pe_ix (ix_tK K) (pv 1) pe_int (fun _ _ => rfl)) (pa_cons (pe_ix (ix_tK K) (pv 1) pe_int (fun _ _ => rfl)) (pa_cons (pe_ix (ix_tK K) (pv 1) pe_int (fun _ _ => rfl)) (pa_cons (pe_callTy call_list_of (by rfl) T.z_list (by decide +kernel) (pa_cons (pv 3) pa_nil)) pa_nil))))
end
/-! ### what the calls make -/
theorem mk_bad (T : Txt K mg) {H : Hp} {Q : VK} {E : XK} {l : List C2} {m : List Int} {v1 v2 v3 v4 : V} (q3 : RepS K H v3 (l.map dC)) (q4 : RepS K H v4 (m.map .int)) (bl : ∀ s ∈ l, BdC 2000 s)
    (h : (areSteps l = false ∧ ExW T.C_BadSheet "steps" H E) ∨ (areSteps l = true ∧ m.length ≠ l.length ∧ ExW T.C_BadSheet "prices" H E)) (x dx : Addr) (nx : H x = none) (ndx : H dx = none) (nex : dx ≠ x) :
    spInitX K T.C_Sheet T.C_BadSheet [.ref x, v1, v2, v3, v4] (upd (upd H dx (.own x)) x (.ins T.C_Sheet dx [])) (fun v H2 => v = .non ∧ Q (.ref x) H2) E := by
  have sd := same_upd (o := HO.own x) ndx
  have nx' : upd H dx (.own x) x = none := by rw [upd_ne (Ne.symm nex)]; exact nx
  have s2 := sd.trans (same_upd (o := HO.ins T.C_Sheet dx []) nx')
  exact ⟨x, dx, v1, v2, v3, v4, l, m, rfl, upd_same, q3.same s2, q4.same s2, bl, h.imp (fun z => ⟨z.1, exw_same z.2 s2⟩) (fun z => ⟨z.1, z.2.1, exw_same z.2.2 s2⟩)⟩
theorem exw_what {C : Addr} {x : Str} {H : Hp} {Z : VK} (h : ∀ u H2, Same H H2 → Rep K H2 u (.str x) → Z u H2) : ExW C x H (EWhat C Z) := fun d fs H' s e1 e2 => ⟨rfl, d, fs, .str x, rfl, e1, e2, h _ _ s (.str x)⟩
theorem exw_same' {C : Addr} {x : Str} {H H' : Hp} {E : XK} (h : ExW C x H E) (s : Same H H') : ExW C x H' E := exw_same h s
theorem tup_evs {ta : TE} {tr : TA} {ds : List PD} {σ : L2.St} {H : Hp} {Q : List V → Hp → Prop} (a : EvS K ta σ H ds) (h : ∀ v H1, Same H H1 → RepS K H1 v ds → tr σ H1 fun vs H2 => Q (v :: vs) H2) : tCons ta tr σ H Q := a H (Same.refl H) _ h
theorem evl_list {ta : TE} {ds : List PD} {σ : L2.St} {H : Hp} (a : Ev K ta σ H (.tuple ds)) : EvL K (tCB (fun xs H Q => ∃ p ys, xs = [.ref p] ∧ (SqL K H p ys ∨ SqT K H p ys) ∧ ∀ l, H l = none → Q (.ref l) (upd H l (.lst ys))) (tCons ta tNil)) σ H ds := fun H1 s Q k =>
  a H1 s _ fun v H2 s2 rv => by
    obtain ⟨p, xs, rfl, hp, r⟩ := rv.tup_inv
    exact ⟨p, xs, rfl, .inr hp, fun l hl => k l xs _ (s2.trans (same_upd hl)) (s2.free hl) upd_same (r.same (same_upd hl))⟩
theorem evl_cat {ta tb : TE} {ds es : List PD} {σ : L2.St} {H : Hp} (a : EvL K ta σ H ds) (b : EvL K tb σ H es) (hl : ds.length + es.length ≤ 1000) : EvL K (tOp rCat ta tb) σ H (ds ++ es) := fun H1 s Q k =>
  a H1 s _ fun p vs H2 s2 np hp r => b H2 (s.trans s2) _ fun q ws H3 s3 nq hq r' => ⟨p, q, vs, ws, rfl, rfl, s3 _ _ hp, hq, by rw [r.len, r'.len]; exact Nat.le_of_lt (small1000 hl), fun l hl' => by
    have s4 := same_upd (o := HO.lst (vs ++ ws)) hl'
    exact k l _ _ ((s2.trans s3).trans s4) ((s2.trans s3).free hl') upd_same (((r.same s3).append r').same s4)⟩
theorem evl_if {tc : TT} {ta tb : TE} {c : Bool} {ds es : List PD} {σ : L2.St} {H : Hp} (t : EvB tc σ H c) (a : c = true → EvL K ta σ H ds) (b : c = false → EvL K tb σ H es) : EvL K (tIf tc ta tb) σ H (if c = true then ds else es) := fun H1 s Q k =>
  t H1 s _ fun H2 s2 => by
    cases c with
    | true => exact iteT (a rfl H2 (s.trans s2) Q fun p vs H3 s3 n e r => k p vs H3 (s2.trans s3) (s2.free n) e r)
    | false => exact iteF (b rfl H2 (s.trans s2) Q fun p vs H3 s3 n e r => k p vs H3 (s2.trans s3) (s2.free n) e r)
theorem ev_eqLL {ta tb : TE} {ds es : List PD} {σ : L2.St} {H : Hp} (a : EvL K ta σ H ds) (b : EvL K tb σ H es) (sd : SeqAt.shaped (.list ds) = true) (se : SeqAt.shaped (.list es) = true) : Ev K (tOp (rEqD K) ta tb) σ H (.bool (PyData.eqv (.list ds) (.list es))) := fun H1 s Q k =>
  a H1 s _ fun p vs H2 s2 np hp r => b H2 (s.trans s2) _ fun q ws H3 s3 nq hq r' => ⟨.list ds, .list es, .lst (SqL.of (s3 _ _ hp)) (r.same s3).dp, .lst (SqL.of hq) r'.dp, sd, se, k _ H3 (s2.trans s3) (.bl _)⟩
theorem tabs_kd {L : List (Addr × Str)} {H H' : Hp} {c d : Addr} {n : Nat} (t : Tabs L H) (P : PenAt c H d n) (k : Kd d H H') : Tabs L H' := fun p hp => by
  obtain ⟨ps, h1, h2, h3⟩ := t p hp
  refine ⟨ps, k _ _ h1 (P.ne h1 fun _ e => nomatch e), h2, fun pos cv hc => ?_⟩
  obtain ⟨c', e1, e2⟩ := h3 pos cv hc
  exact ⟨c', e1, k _ _ e2 (P.ne e2 fun _ e => by unfold CodeO at e; cases e)⟩
theorem tabs_same {L : List (Addr × Str)} {H H' : Hp} (t : Tabs L H) (s : Same H H') : Tabs L H' := t.ext fun b o e => s b o e
theorem kt_ext {H H' : Hp} (e : ExtN H H') : Kt H H' := fun b o h i => e b o h (by rintro ps rfl; exact i)
theorem eqv_nilI {m : List Int} : PyData.eqv (dIs m) (.tuple []) = m.isEmpty := by cases m <;> simp [PyData.eqv, PyData.eqvAll]
def tabR (T : Txt K mg) : List (Addr × Str) := [(T.P_refuses, (PyProof.Rows.envOfC "_law_refuses" (defScope s_refuses) 0 T.a_refuses .none).qual ++ "<lambda>")]
def spRefuses (T : Txt K mg) : Sp := fun vs H Q _ => ∃ (c d : Addr) (n : Nat) (S : Sh) (v : V), vs = [.ref d, v] ∧ PenAt c H d n ∧ n < 600000000 ∧ Sm S ∧ (∀ s ∈ S.steps, BdC 210 s) ∧ Rep K H v (dR S) ∧ Tabs (tabR T) H ∧ ∀ H', Q (.bl true) H'
end
end LW
namespace LW
open PySem L2 LB
local macro_rules | `(tactic| walk_at "hp") => `(tactic| first
  | (with_reducible assumption) | (with_reducible exact Rep.int _) | (with_reducible exact Rep.bl _) | (with_reducible exact Rep.non) | (with_reducible exact Rep.str _)
  | ((with_reducible refine' Rep.same ?kk ?hh); (case kk => with_reducible assumption); (case hh => walk_at "hp"))
  | ((with_reducible refine' Rep.kt ?kk ?hh); (case kk => with_reducible assumption); (case hh => walk_at "hp")))
local macro_rules | `(tactic| walk_at "bd") => `(tactic| first
  | (with_reducible assumption)
  | exact bd_lit (n := 64) (by decide)
  | (with_reducible refine' Bd.mul ?_ ?_) <;> walk_at "bd"
  | (with_reducible refine' Bd.add ?_ ?_) <;> walk_at "bd"
  | (with_reducible refine' Bd.sub ?_ ?_) <;> walk_at "bd"
  | (with_reducible refine' Bd.neg ?_) <;> walk_at "bd")
local macro_rules | `(tactic| walk_at "ev") => `(tactic| first
  | (with_reducible exact ev_int) | (with_reducible exact ev_bl) | (with_reducible exact ev_non) | (with_reducible exact ev_str)
  | ((with_reducible refine' ev_var ?e ?hh); (case e => rfl); (case hh => walk_at "hp"))
  | (with_reducible refine' ev_add ?_ ?_) <;> walk_at "ev"
  | (with_reducible refine' ev_sub ?_ ?_) <;> walk_at "ev"
  | ((with_reducible refine' ev_mul ?m1 ?m2 ?m3); (case m1 => walk_at "ev"); (case m2 => walk_at "ev"); (case m3 => (refine' Bd.mulW ?b1 ?b2 ?b3; (case b1 => walk_at "bd"); (case b2 => walk_at "bd"); (case b3 => decide))))
  | ((with_reducible refine' ev_ix ?m1 ?m2); (case m1 => walk_at "ev"); (case m2 => rfl))
  | ((with_reducible refine' ev_tup ?m1 ?m2); (case m1 => walk_at "eva"); (case m2 => exact Nat.le_of_ble_eq_true rfl))
  | (with_reducible refine' ev_neg ?_) <;> walk_at "ev"
  | (with_reducible refine' ev_lt ?_ ?_) <;> walk_at "ev"
  | (with_reducible refine' ev_le ?_ ?_) <;> walk_at "ev"
  | (with_reducible refine' ev_gt ?_ ?_) <;> walk_at "ev"
  | (with_reducible refine' ev_ge ?_ ?_) <;> walk_at "ev"
  | (with_reducible refine' ev_eqI ?_ ?_) <;> walk_at "ev"
  | (with_reducible refine' ev_neI ?_ ?_) <;> walk_at "ev"
  | (with_reducible refine' ev_intI ?_) <;> walk_at "eva"
  | (with_reducible refine' ev_lenT ?_) <;> walk_at "eva"
  | walk_at "evx")
local macro_rules | `(tactic| walk_at "eva") => `(tactic| first
  | (with_reducible exact eva_nil)
  | ((with_reducible refine' eva_cons ?v1 ?v2); (case v1 => walk_at "ev"); (case v2 => walk_at "eva")))
local macro_rules | `(tactic| walk_at "evx") => `(tactic| first
  | ((with_reducible refine' ev_pget ?a ?b ?c); (case a => rfl); (case b => with_reducible assumption); (case c => first | (with_reducible exact p_at _) | (with_reducible exact p_dg _) | (with_reducible exact p_ct _) | (with_reducible exact p_fo _))))
local macro_rules | `(tactic| walk_at "sh") => `(tactic| first
  | (with_reducible assumption)
  | ((with_reducible refine' ShAt.same ?hh ?kk); (case kk => with_reducible assumption); (case hh => walk_at "sh"))
  | ((with_reducible refine' ShAt.kt ?hh ?kk); (case kk => with_reducible assumption); (case hh => walk_at "sh")))
local macro_rules | `(tactic| walk_at "evx") => `(tactic| first
  | ((with_reducible refine' ev_base ?e ?h ?c ?n); (case e => rfl); (case h => walk_at "sh"); (case c => with_reducible assumption); (case n => with_reducible assumption))
  | ((with_reducible refine' ev_price ?e ?h ?c ?n); (case e => rfl); (case h => walk_at "sh"); (case c => with_reducible assumption); (case n => with_reducible assumption))
  | ((with_reducible refine' ev_steps ?e ?h ?c ?n); (case e => rfl); (case h => walk_at "sh"); (case c => with_reducible assumption); (case n => with_reducible assumption))
  | ((with_reducible refine' ev_prices ?e ?h ?c ?n); (case e => rfl); (case h => walk_at "sh"); (case c => with_reducible assumption); (case n => with_reducible assumption)))
section
variable {P : Program} {w : World} {K : Fr} {mg : Str → Option Value} {base : Heap}
open PySem.Spec PyProof.Rows LamX
abbrev q4 : Str := (PyProof.Rows.envOfC "_law_refuses" (defScope s_refuses) 0 0 .none).qual ++ "<lambda>"
def ds4 (T : Txt K mg) : List LamD := [lamD 0 (tL1 T), lamD 1 (tL2 T), lamD 2 (tL3 T), lamD 3 (tL4 T)]
theorem ds4_ok (T : Txt K mg) {cdv : Value} {A : Around} {outer : List Env} {s : Shared} {H : Hp} {E1 : XK} : ∀ d ∈ ds4 T, d.Ok (cxR T P w base cdv A outer s H E1) 5 := by
  intro d hd
  unfold ds4 at hd
  rcases List.mem_cons.mp hd with rfl | hd
  · exact ok_L1 T
  rcases List.mem_cons.mp hd with rfl | hd
  · exact ok_L2 T
  rcases List.mem_cons.mp hd with rfl | hd
  · exact ok_L3 T
  rcases List.mem_cons.mp hd with rfl | hd
  · exact ok_L4 T
  cases hd
theorem sh4 : SeqAt.shaped (.list [.str "steps", .str "steps", .str "prices", .none]) = true := by
  simp [SeqAt.shaped, PyData.canLay0, PyData.canLayAll0, PyData.depth, PyData.depthAll]
  decide +kernel
theorem eq4 : PyData.eqv (.list [.str "steps", .str "steps", .str "prices", .none]) (.list [.str "steps", .str "steps", .str "prices", .none]) = true := by
  simp [PyData.eqv, PyData.eqvAll]
set_option maxHeartbeats 2000000 in
theorem ok_refuses (T : Txt K mg) (hB : TabB base mg T.c_refuses T.P_refuses) : FnOk P w K mg base CX0 8 T.a_refuses T.f_refuses ["_law_pen_here", "_law_row"] (spRefuses T) := by
  obtain ⟨oc, od, dV, kV, doc, pm, an, ct, osl, lk, fe, hcd⟩ := T.t_refuses
  generalize T.f_refuses = fd at lk fe
  subst fe
  refine fn_of lk hcd sc_refuses (fun vs H Q E h => ?_) fun A outer s H vs Q E hr h => ?_
  · obtain ⟨c, d, n, S, v, rfl, _⟩ := h
    rfl
  · obtain ⟨c, d, n, S, v, rfl, P0, hn, sm, bst, rv, ht, k⟩ := h
    have hu64 : (A.deeper (PyProof.Rows.envOfC "_law_refuses" (defScope s_refuses) s.heap.objs.size T.a_refuses (.ref T.c_refuses))).units + 64 < cLine := by
      have := hr.un
      omega
    have hl4 : (ds4 T).length = 4 := rfl
    refine ⟨_, (pss_cons (ps_asg (pe_tup (pa_cons (pe_call (ok_bad_steps T) (hr.mono (by decide)) rfl T.d_bad_steps.m T.d_bad_steps.F.kp T.d_bad_steps.b .nil pass0 (pa_cons (pv 0) (pa_cons (pe_ix (ix_tK K) (pv 1) pe_int (fun _ _ => rfl)) pa_nil))) (pa_cons (pe_ix (ix_tK K) (pv 1) pe_int (fun _ _ => rfl)) pa_nil))) (pg_tup rfl (pgs_cons (pg_name (i := 2) sc_refuses.nd rfl (Or.inr rfl)) (pgs_cons (pg_name (i := 3) sc_refuses.nd rfl (Or.inr rfl)) pgs_nil))))
    (pss_cons (ps_set (i := 4) sc_refuses.nd rfl (Or.inr rfl) (pe_callTy call_tuple_of (by rfl) T.z_tuple (by decide +kernel) (pa_cons (pe_lc (own := [("_law_step", 7)]) (g := gName 7) rfl sc_refuses.nd (pi_tup (pv 2)) (blkOk_by (N := N_refuses) (sc := defScope s_refuses) (by decide +kernel)) (fun _ _ _ _ _ => (pg_name (i := 7) sc_refuses.nd rfl (Or.inl rfl))) (fun _ _ _ _ _ => pts_nil) (fun _ _ _ _ _ => (pe_call (ok_draw T) (hr.mono (by decide)) rfl T.d_draw.m T.d_draw.F.kp T.d_draw.b .nil pass0 (pa_cons (pv 0) (pa_cons pe_int pa_nil))))) pa_nil)))
    (pss_cons (ps_set (i := 5) sc_refuses.nd rfl (Or.inr rfl) (pe_call (ok_pick T) (hr.mono (by decide)) rfl T.d_pick.m T.d_pick.F.kp T.d_pick.b .nil pass0 (pa_cons (pv 0) (pa_cons (pe_op op_cat (pe_lst (pa_cons (pe_op (op_tcK K rfl) (pv 3) (pe_tup (pa_cons pe_int pa_nil))) (pa_cons (pe_op (op_tcK K rfl) (pv 3) (pe_tup (pa_cons pe_int (pa_cons pe_int pa_nil)))) pa_nil))) (pe_ifExp (pt_cmpR (op_neK K rfl hu64) (pv 3) (pe_tup pa_nil) (nomark _)) (pe_lst (pa_cons (pe_slice (sl_tK K rfl) (pv 3) (po_some pe_int) po_none) pa_nil)) (pe_lst pa_nil))) pa_nil))))
    (pss_lams (T := tabR T) (c := T.c_refuses) (P := T.P_refuses) (k := 5) (i := 6) (t2 := fun r => tRet (tOp (rEqD K) (tLcE (iList K (tVar 6)) (elR T.C_BadSheet q4 (ds4 T) r)) (tLst (tCons (tC (.str "steps")) (tCons (tC (.str "steps")) (tCons (tC (.str "prices")) (tCons (tC .non) tNil))))))) (ds4 T)
      ⟨hB, rfl, List.mem_singleton.mpr rfl, fun p hp _ => by rw [List.mem_singleton.mp hp]; rfl⟩ (ds4_ok T) (Nat.le_of_ble_eq_true rfl) rfl sc_refuses.nd rfl rfl rfl ?h2)))), ?_⟩
    case h2 =>
      rintro L r ⟨Hh, hh⟩
      exact pss_one (ps_ret (pe_cmpR (op_eqK K rfl hu64) (pe_lcE rfl sc_refuses.nd (show 8 < N_refuses.length by decide) (pi_list (pv 6)) (blkOk_by (N := N_refuses) (sc := defScope s_refuses) (by decide +kernel)) (fun _ _ _ _ _ => (pg_name (i := 8) sc_refuses.nd rfl (Or.inl rfl))) (el_ok T hh (ds4_ok T) hr (by exact fun _ _ _ _ _ => rfl) (fun _ _ _ _ _ => pa_cons (pv 8) pa_nil))) (pe_lst (pa_cons pe_str (pa_cons pe_str (pa_cons pe_str (pa_cons pe_non pa_nil))))) (nomark _)))
    try dsimp only [cxOf, List.map]
    rw [show L2.start N_refuses [V.ref d, v] = [some (V.ref d), some v, none, none, none, none, none, none, none] from rfl]
    -- bad steps, prices
    refine ⟨_, rfl, (ev_ix (K := K) (ds := [dC S.base, .int S.price, dCs S.steps, dIs S.prices]) (d := dCs S.steps) (ev_var rfl rv) rfl) H (Same.refl H) _ fun vb H1 s1 rb => ?_⟩
    refine ⟨c, d, n, S.steps, vb, rfl, P0.same s1, by omega, sm.st, bst, rb, fun v2 l2 H2 st2 b2 ln2 r2 k2 P2 => ?_⟩
    have k02 : Kd d H H2 := (kd_same s1).trans k2
    have rv2 : Rep K H2 v (dR S) := rv.kt (P0.kt k02)
    refine (ev_ix (K := K) (ds := [dC S.base, .int S.price, dCs S.steps, dIs S.prices]) (d := dIs S.prices) (ev_var rfl rv2) rfl) H2 (Same.refl H2) _ fun v3 H3 s3 r3 => ?_
    refine ⟨(by show 2 ≤ sizeLine; decide), fun p hp => ?_⟩
    refine ⟨p, [v2, v3], rfl, SqT.of upd_same, rfl, v2, [v3], rfl, v3, [], rfl, rfl, ?_⟩
    have s4 := s3.trans (same_upd (o := HO.tup [v2, v3]) hp)
    have r2' := r2.same s4
    have r3' := r3.same (same_upd (o := HO.tup [v2, v3]) hp)
    have k04 : Kd d H _ := k02.trans (kd_same s4)
    have P4 := P2.same s4
    generalize upd H3 p (HO.tup [v2, v3]) = H4 at s4 r2' r3' k04 P4
    clear hp r2 r3 s3
    rw [show ((([some (V.ref d), some v, none, none, none, none, none, none, none] : L2.St).set 2 (some v2)).set 3 (some v3)) = [some (V.ref d), some v, some v2, some v3, none, none, none, none, none] from rfl]
    -- numbers that fit
    obtain ⟨pa, xs2, rfl, hp2, ra2⟩ := r2'.tup_inv
    have lx2 : xs2.length = l2.length := by have := ra2.len; simpa using this
    refine ⟨_, rfl, pa, rfl, ⟨xs2, hp2⟩, fun D hD => ?_⟩
    refine lc_pen (K := K) (walk_tup (K := K) (a := pa) (xs := xs2)) (c := c) (d := d) (n0 := n + 100) (k := 1) (fun x => ∃ q, x = .int q ∧ True) (by omega) hD P4 (fun H kd => kt_sqt (P4.kt kd) hp2) (fun i H x H' y => y.1) ?_ ?_
    · intro w H5 n5 P5 hn5 k5 Q5 kk
      refine c_draw (K := K) (m := 9) (σ := (wipe [some (V.ref d), some v, some (V.ref pa), some v3, none, none, none, none, none] [7]).set 7 (some w)) (i := 0) rfl P5 (by omega) (by decide) (by decide) ev_int fun x H6 x0 x1 k6 P6 => ?_
      exact kk (.int x) (.int x) H6 ⟨x, rfl, trivial⟩ (.int x) k6 P6
    intro ws xs5 H5 hl5 hx5 k5 P5 hD5 ra5
    obtain ⟨fit, rfl, _⟩ := ints_of hx5
    rw [List.length_map] at hl5
    refine ⟨D, ws, rfl, .inl ⟨SqL.of hD5, fun q6 hq6 => ?_⟩⟩
    have s6 := same_upd (o := HO.tup ws) hq6
    have r6 : Rep K (upd H5 q6 (HO.tup ws)) (.ref q6) (dIs fit) := .tup (SqT.of upd_same) (ra5.same s6)
    generalize upd H5 q6 (HO.tup ws) = H6 at s6 r6
    try dsimp only [gName]
    rw [show ([some (V.ref d), some v, some (V.ref pa), some v3, none, none, none, none, none] : L2.St).set 4 (some (V.ref q6)) = [some (V.ref d), some v, some (V.ref pa), some v3, some (V.ref q6), none, none, none, none] from rfl]
    have k06 : Kd d H H6 := (k04.trans k5).trans (kd_same s6)
    have kt46 : Kt H4 H6 := P4.kt (k5.trans (kd_same s6))
    have P6 := P5.same s6
    have r26 := r2'.kt kt46
    have r36 : Rep K H6 v3 (dIs S.prices) := r3'.kt kt46
    have rv6 : Rep K H6 v (dR S) := rv.kt (P0.kt k06)
    clear kt46 k04 P5 hD5 ra5 hq6 hx5 hD hp2 ra2 r2' r3' P4 k5 s6
    -- numbers that do not
    have l5 : S.prices.length ≤ 2 := by rw [sm.ln]; exact areSteps_len sm.st
    have ev3 : ∀ H', Same H6 H' → Ev K (tVar 3) [some (V.ref d), some v, some (V.ref pa), some v3, some (V.ref q6), none, none, none, none] H' (dIs S.prices) := fun H' s' => ev_var rfl (r36.same s')
    refine s_pickTo (K := K) (ds := [.tuple (S.prices.map .int ++ [.int 1]), .tuple (S.prices.map .int ++ [.int 0, .int 0])] ++ if (!S.prices.isEmpty) = true then [.tuple (((S.prices.map .int).drop 1).take ((S.prices.map PyData.int).length - 1))] else []) rfl P6 (by omega) (evl_cat (evl_lst (eva_cons (ev_tcat (ev3 H6 (Same.refl H6)) (ev_tup (eva_cons ev_int eva_nil) (Nat.le_of_ble_eq_true rfl)) ?l1) (eva_cons (ev_tcat (ev3 H6 (Same.refl H6)) (ev_tup (eva_cons ev_int (eva_cons ev_int eva_nil)) (Nat.le_of_ble_eq_true rfl)) ?l2) eva_nil)) (Nat.le_of_ble_eq_true rfl)) (evl_if (evb_test (K := K) ?t) (fun hne => evl_lst (eva_cons (ev_slice (n := 1) (m := (S.prices.map PyData.int).length) (ev3 H6 (Same.refl H6)) (part_some (K := K) ev_int) part_none ?i1 rfl) eva_nil) (Nat.le_of_ble_eq_true rfl)) (fun _ => evl_lst eva_nil (Nat.le_of_ble_eq_true rfl))) ?l3) (by simp) ?l4 fun v5 x H7 hx r5 k7 P7 => ?_
    case l1 => simp; omega
    case l2 => simp; omega
    case t =>
      rw [← eqv_nilI]
      exact ev_neD (ev3 H6 (Same.refl H6)) (ev_tup eva_nil (Nat.le_of_ble_eq_true rfl)) (shaped_dIs _) (shaped_dIs [])
    case i1 =>
      refine sIx_nat ?_
      cases hp : S.prices with
      | nil => rw [hp] at hne; cases hne
      | cons a b => simp
    case l3 =>
      split <;> simp
    case l4 =>
      split <;> simp
    obtain ⟨wr, rfl, hwr, lwr⟩ : ∃ wr : List Int, x = dIs wr ∧ wr.length ≠ S.steps.length ∧ wr.length ≤ 4 := by
      rw [← sm.ln]
      rcases List.mem_append.mp hx with hx | hx
      · simp at hx
        rcases hx with rfl | rfl
        · exact ⟨S.prices ++ [1], by simp, by simp, by simp; omega⟩
        · exact ⟨S.prices ++ [0, 0], by simp, by simp, by simp; omega⟩
      · cases hp : S.prices with
        | nil => rw [hp] at hx; simp at hx
        | cons a b =>
          rw [hp] at hx l5
          simp at hx
          simp at l5
          refine ⟨b, ?_, by simp, by omega⟩
          rw [hx, ← List.length_map (f := PyData.int), List.take_length]
    rw [show ([some (V.ref d), some v, some (V.ref pa), some v3, some (V.ref q6), none, none, none, none] : L2.St).set 5 (some v5) = [some (V.ref d), some v, some (V.ref pa), some v3, some (V.ref q6), some v5, none, none, none] from rfl]
    have k07 := k06.trans k7
    have kt67 := P6.kt k7
    have r27 := r26.kt kt67
    have r37 : Rep K H7 v3 (dIs S.prices) := r36.kt kt67
    have r47 : Rep K H7 (.ref q6) (dIs fit) := r6.kt kt67
    have rv7 : Rep K H7 v (dR S) := rv.kt (P0.kt k07)
    have ht7 := tabs_kd ht P0 k07
    clear kt67 k7 k06 P6 P7 r26 r36 r6 rv6 ev3 hx
    -- the calls
    refine ⟨ht7, fun r pl H8 hr4 e8 hpl cod => ?_⟩
    have kt78 := kt_ext e8
    have r28 := r27.kt kt78
    have r38 : Rep K H8 v3 (dIs S.prices) := r37.kt kt78
    have r48 : Rep K H8 (.ref q6) (dIs fit) := r47.kt kt78
    have r58 : Rep K H8 v5 (dIs wr) := r5.kt kt78
    have rv8 : Rep K H8 v (dR S) := rv7.kt kt78
    clear kt78 r27 r37 r47 r5 rv7 ht7 e8
    rw [show ([some (V.ref d), some v, some (V.ref pa), some v3, some (V.ref q6), some v5, none, none, none] : L2.St).set 6 (some (.ref pl)) = [some (V.ref d), some v, some (V.ref pa), some v3, some (V.ref q6), some v5, some (.ref pl), none, none] from rfl]
    match r, hr4 with
    | [p0, p1, p2, p3], _ =>
    have rowAt : ∀ (i : Int) (x : PD) (H' : Hp), Same H8 H' → atI [dC S.base, .int S.price, dCs S.steps, dIs S.prices] i = some x → Ev K (tRow K i) [some (V.ref d), some v, some (V.ref pa), some v3, some (V.ref q6), some v5, some (.ref pl), none, none] H' x := fun i x H' s' e => ev_ix (ev_var rfl (rv8.same s')) e
    have b2s : ∀ s ∈ S.steps, BdC 2000 s := fun s hs => (sm.b2 s hs).mono (by decide)
    refine s_ret (K := K) (d := .bool (PyData.eqv (.list [.str "steps", .str "steps", .str "prices", .none]) (.list [.str "steps", .str "steps", .str "prices", .none]))) (ev_eqLL (evl_lcE (es := [.str "steps", .str "steps", .str "prices", .none]) rfl hpl rfl (Nat.le_of_ble_eq_true rfl) ?el) (evl_lst (eva_cons ev_str (eva_cons ev_str (eva_cons ev_str (eva_cons ev_non eva_nil)))) (Nat.le_of_ble_eq_true rfl)) sh4 sh4) fun u H9 s9 r9 => ?_
    case el =>
      intro j vv x H9 Z hj hx s9 kz
      match j with
      | 0 =>
        simp at hj hx
        subst hj hx
        refine ⟨lamD 0 (tL1 T), p0, by simp [ds4], rfl, s9 _ _ (cod p0 (by simp)), ?_⟩
        unfold TTr
        dsimp only [lamD]
        unfold tL1 tMake
        dsimp only
        refine tup_ev (rowAt 0 _ H9 s9 rfl) fun w1 G1 g1 q1 => tup_ev (rowAt 1 _ G1 (s9.trans g1) rfl) fun w2 G2 g2 q2 => tup_var (v := V.ref pa) rfl (tup_var (v := V.ref q6) rfl ?_)
        have g := g1.trans g2
        exact mk_bad T (Q := fun _ _ => True) (r28.same (s9.trans g)).seq (r48.same (s9.trans g)).seq b2 (.inl ⟨st2, exw_what fun u H2 s2 r => kz u H2 (g.trans s2) r⟩)
      | 1 =>
        simp at hj hx
        subst hj hx
        refine ⟨lamD 1 (tL2 T), p1, by simp [ds4], rfl, s9 _ _ (cod p1 (by simp)), ?_⟩
        unfold TTr
        dsimp only [lamD]
        unfold tL2 tMake
        dsimp only
        refine tup_ev (rowAt 0 _ H9 s9 rfl) fun w1 G1 g1 q1 => tup_ev (rowAt 1 _ G1 (s9.trans g1) rfl) fun w2 G2 g2 q2 => ?_
        refine tup_evs (evs_l (evl_list (ev_var rfl (r28.same ((s9.trans g1).trans g2))))) fun w3 G3 g3 q3 => ?_
        refine tup_ev (ev_tcat (ev_var rfl (r58.same (((s9.trans g1).trans g2).trans g3))) (ev_tup (eva_cons ev_int (eva_cons ev_int (eva_cons ev_int eva_nil))) (Nat.le_of_ble_eq_true rfl)) (by simp; omega)) fun w4 G4 g4 q4 => ?_
        have q4' : Rep K G4 w4 (dIs (wr ++ [1, 1, 1])) := by
          have e : dIs (wr ++ [1, 1, 1]) = .tuple (wr.map .int ++ [.int 1, .int 1, .int 1]) := by simp
          rw [e]
          exact q4
        exact mk_bad T (Q := fun _ _ => True) (q3.same g4) q4'.seq b2 (.inl ⟨st2, exw_what fun u H2 s2 r => kz u H2 ((((g1.trans g2).trans g3).trans g4).trans s2) r⟩)
      | 2 =>
        simp at hj hx
        subst hj hx
        refine ⟨lamD 2 (tL3 T), p2, by simp [ds4], rfl, s9 _ _ (cod p2 (by simp)), ?_⟩
        unfold TTr
        dsimp only [lamD]
        unfold tL3 tMake
        dsimp only
        refine tup_ev (rowAt 0 _ H9 s9 rfl) fun w1 G1 g1 q1 => tup_ev (rowAt 1 _ G1 (s9.trans g1) rfl) fun w2 G2 g2 q2 => tup_ev (rowAt 2 _ G2 ((s9.trans g1).trans g2) rfl) fun w3 G3 g3 q3 => tup_var (v := v5) rfl ?_
        have g := (g1.trans g2).trans g3
        exact mk_bad T (Q := fun _ _ => True) q3.seq (r58.same (s9.trans g)).seq b2s (.inr ⟨sm.st, hwr, exw_what fun u H2 s2 r => kz u H2 (g.trans s2) r⟩)
      | 3 =>
        simp at hj hx
        subst hj hx
        refine ⟨lamD 3 (tL4 T), p3, by simp [ds4], rfl, s9 _ _ (cod p3 (by simp)), ?_⟩
        unfold TTr
        dsimp only [lamD]
        unfold tL4 tMake
        dsimp only
        refine tup_ev (rowAt 0 _ H9 s9 rfl) fun w1 G1 g1 q1 => tup_ev (rowAt 1 _ G1 (s9.trans g1) rfl) fun w2 G2 g2 q2 => tup_ev (rowAt 2 _ G2 ((s9.trans g1).trans g2) rfl) fun w3 G3 g3 q3 => ?_
        refine tup_evs (evs_l (evl_list (ev_var rfl (r38.same (((s9.trans g1).trans g2).trans g3))))) fun w4 G4 g4 q4 => ?_
        exact make_ok T (S := S) (Q := fun _ H' => ∃ v, (some (some V.non) : Option (Option V)) = some (some v) ∧ Z v H') sm.ok (((q1.same g2).same g3).same g4) ((q2.same g3).same g4) (q3.same g4).seq q4 fun p' G5 _ g5 => ⟨.non, rfl, kz .non G5 ((((g1.trans g2).trans g3).trans g4).trans g5) .non⟩
      | j + 4 =>
        simp at hx
    have e := r9.bl_inv
    rw [show PyData.eqv (.list [.str "steps", .str "steps", .str "prices", .none]) (.list [.str "steps", .str "steps", .str "prices", .none]) = true from eq4] at e
    subst e
    exact k H9
end
end LW
namespace LW
open PySem L2 LB
local macro_rules | `(tactic| walk_at "hp") => `(tactic| first
  | (with_reducible assumption) | (with_reducible exact Rep.int _) | (with_reducible exact Rep.bl _) | (with_reducible exact Rep.non) | (with_reducible exact Rep.str _)
  | ((with_reducible refine' Rep.same ?kk ?hh); (case kk => with_reducible assumption); (case hh => walk_at "hp"))
  | ((with_reducible refine' Rep.kt ?kk ?hh); (case kk => with_reducible assumption); (case hh => walk_at "hp")))
local macro_rules | `(tactic| walk_at "bd") => `(tactic| first
  | (with_reducible assumption)
  | exact bd_lit (n := 64) (by decide)
  | (with_reducible refine' Bd.mul ?_ ?_) <;> walk_at "bd"
  | (with_reducible refine' Bd.add ?_ ?_) <;> walk_at "bd"
  | (with_reducible refine' Bd.sub ?_ ?_) <;> walk_at "bd"
  | (with_reducible refine' Bd.neg ?_) <;> walk_at "bd")
local macro_rules | `(tactic| walk_at "ev") => `(tactic| first
  | (with_reducible exact ev_int) | (with_reducible exact ev_bl) | (with_reducible exact ev_non) | (with_reducible exact ev_str)
  | ((with_reducible refine' ev_var ?e ?hh); (case e => rfl); (case hh => walk_at "hp"))
  | (with_reducible refine' ev_add ?_ ?_) <;> walk_at "ev"
  | (with_reducible refine' ev_sub ?_ ?_) <;> walk_at "ev"
  | ((with_reducible refine' ev_mul ?m1 ?m2 ?m3); (case m1 => walk_at "ev"); (case m2 => walk_at "ev"); (case m3 => (refine' Bd.mulW ?b1 ?b2 ?b3; (case b1 => walk_at "bd"); (case b2 => walk_at "bd"); (case b3 => decide))))
  | ((with_reducible refine' ev_ix ?m1 ?m2); (case m1 => walk_at "ev"); (case m2 => rfl))
  | ((with_reducible refine' ev_tup ?m1 ?m2); (case m1 => walk_at "eva"); (case m2 => exact Nat.le_of_ble_eq_true rfl))
  | (with_reducible refine' ev_neg ?_) <;> walk_at "ev"
  | (with_reducible refine' ev_lt ?_ ?_) <;> walk_at "ev"
  | (with_reducible refine' ev_le ?_ ?_) <;> walk_at "ev"
  | (with_reducible refine' ev_gt ?_ ?_) <;> walk_at "ev"
  | (with_reducible refine' ev_ge ?_ ?_) <;> walk_at "ev"
  | (with_reducible refine' ev_eqI ?_ ?_) <;> walk_at "ev"
  | (with_reducible refine' ev_neI ?_ ?_) <;> walk_at "ev"
  | (with_reducible refine' ev_intI ?_) <;> walk_at "eva"
  | (with_reducible refine' ev_lenT ?_) <;> walk_at "eva"
  | walk_at "evx")
local macro_rules | `(tactic| walk_at "eva") => `(tactic| first
  | (with_reducible exact eva_nil)
  | ((with_reducible refine' eva_cons ?v1 ?v2); (case v1 => walk_at "ev"); (case v2 => walk_at "eva")))
local macro_rules | `(tactic| walk_at "evx") => `(tactic| first
  | ((with_reducible refine' ev_pget ?a ?b ?c); (case a => rfl); (case b => with_reducible assumption); (case c => first | (with_reducible exact p_at _) | (with_reducible exact p_dg _) | (with_reducible exact p_ct _) | (with_reducible exact p_fo _))))
local macro_rules | `(tactic| walk_at "sh") => `(tactic| first
  | (with_reducible assumption)
  | ((with_reducible refine' ShAt.same ?hh ?kk); (case kk => with_reducible assumption); (case hh => walk_at "sh"))
  | ((with_reducible refine' ShAt.kt ?hh ?kk); (case kk => with_reducible assumption); (case hh => walk_at "sh")))
local macro_rules | `(tactic| walk_at "evx") => `(tactic| first
  | ((with_reducible refine' ev_base ?e ?h ?c ?n); (case e => rfl); (case h => walk_at "sh"); (case c => with_reducible assumption); (case n => with_reducible assumption))
  | ((with_reducible refine' ev_price ?e ?h ?c ?n); (case e => rfl); (case h => walk_at "sh"); (case c => with_reducible assumption); (case n => with_reducible assumption))
  | ((with_reducible refine' ev_steps ?e ?h ?c ?n); (case e => rfl); (case h => walk_at "sh"); (case c => with_reducible assumption); (case n => with_reducible assumption))
  | ((with_reducible refine' ev_prices ?e ?h ?c ?n); (case e => rfl); (case h => walk_at "sh"); (case c => with_reducible assumption); (case n => with_reducible assumption)))
section
variable {P : Program} {w : World} {K : Fr} {mg : Str → Option Value} {base : Heap}
open PySem.Spec PyProof.Rows LamX
/-! ### the law -/
def spLawT (T : Txt K mg) : Sp := fun vs H Q _ => ∃ (a : Addr) (ns : List Int), vs = [.ref a] ∧ SqL K H a (ns.map V.int) ∧ ns.length ≤ 63 ∧ Tabs (tabR T) H ∧ ∀ H', Q (.bl true) H'
theorem tabs_lst {L : List (Addr × Str)} {H : Hp} {l : Addr} {xs : List V} {o : HO} (t : Tabs L H) (e : H l = some (.lst xs)) : Tabs L (upd H l o) := fun p hp => by
  obtain ⟨ps, h1, h2, h3⟩ := t p hp
  refine ⟨ps, by rw [upd_ne (fun z => by rw [z, e] at h1; cases h1)]; exact h1, h2, fun pos cv hc => ?_⟩
  obtain ⟨c', e1, e2⟩ := h3 pos cv hc
  exact ⟨c', e1, by rw [upd_ne (fun z => by rw [z, e] at e2; unfold CodeO at e2; cases e2)]; exact e2⟩
/-- a sheet that a name holds, or one that is made -/
def EvSh (K : Fr) (C : Addr) (ta : TE) (σ : L2.St) (H : Hp) (S : Sh) : Prop := ∀ H1, Same H H1 → ∀ Q : VK, (∀ q H2, Same H1 H2 → ShAt K C H2 q S → Q (.ref q) H2) → ta σ H1 Q
theorem esh_var {C p : Addr} {S : Sh} {σ : L2.St} {H : Hp} {i : Nat} (e : σ[i]? = some (some (.ref p))) (h : ShAt K C H p S) : EvSh K C (tVar i) σ H S := fun H1 s Q k => ⟨_, e, k p H1 (Same.refl H1) (h.same s)⟩
theorem esh_made {C : Addr} {S : Sh} {σ : L2.St} {H : Hp} {E : XK} {ta : TE} (a : Ev K ta σ H (dR S)) (ok : S.Ok) : EvSh K C (tCall (spMade K C) [] E (tCons ta tNil)) σ H S := fun H1 s Q k =>
  a H1 s _ fun v H2 s2 rv => ⟨S, v, rfl, ok, rv, fun p H3 hS s3 => k p H3 (s2.trans s3) hS⟩
theorem esh_moved {C p : Addr} {S : Sh} {σ : L2.St} {H : Hp} {E : XK} {i : Nat} {ta tb : TE} {c : C2} {x : Int} (e : σ[i]? = some (some (.ref p))) (h : ShAt K C H p S) (a : Ev K ta σ H (dC c)) (b : Ev K tb σ H (.int x)) (ok : (S.move c x).Ok) :
    EvSh K C (tMeth C "moved" (spMoved K C) [] E (tVar i) (tCons ta (tCons tb tNil))) σ H (S.move c x) := fun H1 s Q k => by
  obtain ⟨dx, vb, vp, vs, vr, e1, r1, r2, r3, r4⟩ := h.ex
  refine ⟨_, e, p, dx, _, rfl, s _ _ e1, shF_no _ _ _ _ (by decide +kernel) (by decide +kernel) (by decide +kernel) (by decide +kernel), a H1 s _ fun v H2 s2 rv => b H2 (s.trans s2) _ fun w H3 s3 rw' => ?_⟩
  cases rw'.int_inv
  exact ⟨p, S, v, c, x, rfl, h.same ((s.trans s2).trans s3), rv.same s3, ok, fun q H4 hS s4 => k q H4 ((s2.trans s3).trans s4) hS⟩
theorem evb_sheet {C : Addr} {S : Sh} {E : XK} {te ta : TE} {σ : L2.St} {H : Hp} (hp : EvSh K C ta σ H S) (a : Ev K te σ H (dR S)) (st : S.steps.length ≤ 1000) (l2 : S.prices.length ≤ 1000) : EvB (tB (tCall (spIsSh K C) [] E (tCons ta (tCons te tNil)))) σ H true := fun H1 s Q k =>
  hp H1 s _ fun q H2 s2 hS => a H2 (s.trans s2) _ fun v H3 s3 rv => ⟨q, S, v, rfl, hS.same s3, rv, st, l2, fun H4 s4 => ⟨true, rfl, k H4 ((s2.trans s3).trans s4)⟩⟩
/-- sheet == sheet -/
theorem evb_eqSh {C : Addr} {S S' : Sh} {E : XK} {ta tb : TE} {σ : L2.St} {H : Hp} (a : EvSh K C ta σ H S) (b : EvSh K C tb σ H S') : EvB (tTest (tOp (rEqOwn K C (spEqS K C) E) ta tb)) σ H (decide (S.base = S'.base) && (decide (S.price = S'.price) && (decide (S.steps = S'.steps) && decide (S.prices = S'.prices)))) := fun H1 s Q k =>
  a H1 s _ fun p H2 s2 hS => b H2 (s.trans s2) _ fun q H3 s3 hS' => by
    have hS3 := hS.same s3
    obtain ⟨dx, vb, vp, vs, vr, e1, _⟩ := hS3.ex
    obtain ⟨dy, wb, wp, ws, wr, e2, _⟩ := hS'.ex
    exact ⟨p, dx, _, rfl, e1, ⟨q, rfl, .inl ⟨dy, _, e2⟩⟩, p, S, .ref q, rfl, hS3, .inl ⟨q, S', rfl, hS', fun H4 s4 => ⟨_, rfl, _, rfl, k H4 ((s2.trans s3).trans s4)⟩⟩⟩
/-- sheet == tuple -/
theorem evb_eqTu {C : Addr} {S : Sh} {ds : List PD} {E : XK} {ta tb : TE} {σ : L2.St} {H : Hp} (a : EvSh K C ta σ H S) (b : Ev K tb σ H (.tuple ds)) : EvB (tTest (tOp (rEqOwn K C (spEqS K C) E) ta tb)) σ H false := fun H1 s Q k =>
  a H1 s _ fun p H2 s2 hS => b H2 (s.trans s2) _ fun v H3 s3 rv => by
    have hS3 := hS.same s3
    obtain ⟨dx, vb, vp, vs, vr, e1, _⟩ := hS3.ex
    have rv' := rv
    obtain ⟨q, xs, rfl, hq, _⟩ := rv'.tup_inv
    exact ⟨p, dx, _, rfl, e1, ⟨q, rfl, .inr ⟨xs, hq⟩⟩, p, S, .ref q, rfl, hS3, .inr ⟨ds, rv, fun H4 s4 => ⟨_, rfl, _, rfl, k H4 ((s2.trans s3).trans s4)⟩⟩⟩
theorem s_setSh {C : Addr} {S : Sh} {ta : TE} {σ : L2.St} {H : Hp} {i : Nat} {u : TS} {D : Ends} (a : EvSh K C ta σ H S) (h : ∀ p H1, Same H H1 → ShAt K C H1 p S → u D (σ.set i (some (.ref p))) H1) : tSeq (tAsg ta (gName i)) u D σ H := a H (Same.refl H) _ h
def EvM4 (K : Fr) (ta : TA) (σ : L2.St) (H : Hp) (S : Sh) : Prop := ∀ H1, Same H H1 → ∀ Q : List V → Hp → Prop, (∀ v1 v2 v3 v4 H2, Same H1 H2 → Rep K H2 v1 (dC S.base) → Rep K H2 v2 (.int S.price) → RepS K H2 v3 (S.steps.map dC) → RepS K H2 v4 (S.prices.map .int) → Q [v1, v2, v3, v4] H2) → ta σ H1 Q
theorem esh_make (T : Txt K mg) {S : Sh} {ta : TA} {σ : L2.St} {H : Hp} {E : XK} (a : EvM4 K ta σ H S) (ok : S.Ok) : EvSh K T.C_Sheet (tMake T.C_Sheet (spInitS K T.C_Sheet) [] E ta) σ H S := fun H1 s Q k =>
  a H1 s _ fun v1 v2 v3 v4 H2 s2 q1 q2 q3 q4 => make_ok T (Q := Q) ok q1 q2 q3 q4 fun p H3 hS s3 => k p H3 (s2.trans s3) hS
theorem esh_make2 (T : Txt K mg) {b : C2} {x : Int} {ya yb : Addr} {ta : TA} {σ : L2.St} {H : Hp} {E : XK} (ea : ∀ H : Hp, SqT K H ya []) (eb : ∀ H : Hp, SqT K H yb []) (a : EvA K ta σ H [dC b, .int x]) (ok : (Sh.mk b x [] []).Ok) :
    EvSh K T.C_Sheet (tMake T.C_Sheet (spInitS K T.C_Sheet) [.ref ya, .ref yb] E ta) σ H ⟨b, x, [], []⟩ := fun H1 s Q k =>
  a H1 s _ fun vs H2 s2 rs => by
    obtain ⟨v1, v2, rfl, q1, q2⟩ := rs.inv2
    exact make_ok T (Q := Q) (S := ⟨b, x, [], []⟩) (v3 := .ref ya) (v4 := .ref yb) ok q1 q2 ⟨ya, [], rfl, .inr (ea H2), .nil⟩ ⟨yb, [], rfl, .inr (eb H2), .nil⟩ fun p H3 hS s3 => k p H3 (s2.trans s3) hS
/-- given[j].append(e), given a list of lists -/
theorem s_app {u : TS} {D : Ends} {σ : L2.St} {H : Hp} {i : Nat} {j : Int} {g p : Addr} {gs xs : List V} {te : TE} {d : PD} (e : σ[i]? = some (some (.ref g))) (hg : H g = some (.lst gs)) (hj : atI gs j = some (.ref p)) (hp : H p = some (.lst xs)) (hl : xs.length ≤ 1000) (a : Ev K te σ H d)
    (k : ∀ v H1, Same H H1 → H1 p = some (.lst xs) → u D σ (upd H1 p (.lst (xs ++ [v])))) : tSeq (tDrop (tBM K "list" rAppend (tOp (rIxL K) (tVar i) (tC (.int j))) (tCons te tNil))) u D σ H :=
  ⟨_, e, g, gs, j, .ref p, rfl, rfl, SqL.of hg, hj, .inl ⟨rfl, xs, SqL.of hp⟩, a H (Same.refl H) _ fun v H1 s1 _ => ⟨p, xs, v, rfl, rfl, s1 _ _ hp, by rw [sizeLine_eq]; omega, k v H1 s1 (s1 _ _ hp)⟩⟩
theorem s_asgL {ta : TA} {σ : L2.St} {H : Hp} {i : Nat} {u : TS} {D : Ends} (h : ta σ H fun xs H1 => xs.length ≤ sizeLine ∧ ∀ p, H1 p = none → u D (σ.set i (some (.ref p))) (upd H1 p (.lst xs))) : tSeq (tAsg (tLst ta) (gName i)) u D σ H := h
theorem tup_evl {ta : TE} {tr : TA} {ds : List PD} {σ : L2.St} {H : Hp} {Q : List V → Hp → Prop} (a : EvL K ta σ H ds) (h : ∀ p vs H1, Same H H1 → H p = none → H1 p = some (.lst vs) → RepAll K H1 vs ds → tr σ H1 fun ws H2 => Q (.ref p :: ws) H2) : tCons ta tr σ H Q := a H (Same.refl H) _ h
end
end LW
namespace LW
open PySem L2 LB
local macro_rules | `(tactic| walk_at "hp") => `(tactic| first
  | (with_reducible assumption) | (with_reducible exact Rep.int _) | (with_reducible exact Rep.bl _) | (with_reducible exact Rep.non) | (with_reducible exact Rep.str _)
  | ((with_reducible refine' Rep.same ?kk ?hh); (case kk => with_reducible assumption); (case hh => walk_at "hp"))
  | ((with_reducible refine' Rep.kt ?kk ?hh); (case kk => with_reducible assumption); (case hh => walk_at "hp")))
local macro_rules | `(tactic| walk_at "bd") => `(tactic| first
  | (with_reducible assumption)
  | exact bd_lit (n := 64) (by decide)
  | (with_reducible refine' Bd.mul ?_ ?_) <;> walk_at "bd"
  | (with_reducible refine' Bd.add ?_ ?_) <;> walk_at "bd"
  | (with_reducible refine' Bd.sub ?_ ?_) <;> walk_at "bd"
  | (with_reducible refine' Bd.neg ?_) <;> walk_at "bd")
local macro_rules | `(tactic| walk_at "ev") => `(tactic| first
  | (with_reducible exact ev_int) | (with_reducible exact ev_bl) | (with_reducible exact ev_non) | (with_reducible exact ev_str)
  | ((with_reducible refine' ev_var ?e ?hh); (case e => rfl); (case hh => walk_at "hp"))
  | (with_reducible refine' ev_add ?_ ?_) <;> walk_at "ev"
  | (with_reducible refine' ev_sub ?_ ?_) <;> walk_at "ev"
  | ((with_reducible refine' ev_mul ?m1 ?m2 ?m3); (case m1 => walk_at "ev"); (case m2 => walk_at "ev"); (case m3 => (refine' Bd.mulW ?b1 ?b2 ?b3; (case b1 => walk_at "bd"); (case b2 => walk_at "bd"); (case b3 => decide))))
  | ((with_reducible refine' ev_ix ?m1 ?m2); (case m1 => walk_at "ev"); (case m2 => rfl))
  | ((with_reducible refine' ev_tup ?m1 ?m2); (case m1 => walk_at "eva"); (case m2 => exact Nat.le_of_ble_eq_true rfl))
  | (with_reducible refine' ev_neg ?_) <;> walk_at "ev"
  | (with_reducible refine' ev_lt ?_ ?_) <;> walk_at "ev"
  | (with_reducible refine' ev_le ?_ ?_) <;> walk_at "ev"
  | (with_reducible refine' ev_gt ?_ ?_) <;> walk_at "ev"
  | (with_reducible refine' ev_ge ?_ ?_) <;> walk_at "ev"
  | (with_reducible refine' ev_eqI ?_ ?_) <;> walk_at "ev"
  | (with_reducible refine' ev_neI ?_ ?_) <;> walk_at "ev"
  | (with_reducible refine' ev_intI ?_) <;> walk_at "eva"
  | (with_reducible refine' ev_lenT ?_) <;> walk_at "eva"
  | walk_at "evx")
local macro_rules | `(tactic| walk_at "eva") => `(tactic| first
  | (with_reducible exact eva_nil)
  | ((with_reducible refine' eva_cons ?v1 ?v2); (case v1 => walk_at "ev"); (case v2 => walk_at "eva")))
local macro_rules | `(tactic| walk_at "evx") => `(tactic| first
  | ((with_reducible refine' ev_pget ?a ?b ?c); (case a => rfl); (case b => with_reducible assumption); (case c => first | (with_reducible exact p_at _) | (with_reducible exact p_dg _) | (with_reducible exact p_ct _) | (with_reducible exact p_fo _))))
local macro_rules | `(tactic| walk_at "sh") => `(tactic| first
  | (with_reducible assumption)
  | ((with_reducible refine' ShAt.same ?hh ?kk); (case kk => with_reducible assumption); (case hh => walk_at "sh"))
  | ((with_reducible refine' ShAt.kt ?hh ?kk); (case kk => with_reducible assumption); (case hh => walk_at "sh")))
local macro_rules | `(tactic| walk_at "evx") => `(tactic| first
  | ((with_reducible refine' ev_base ?e ?h ?c ?n); (case e => rfl); (case h => walk_at "sh"); (case c => with_reducible assumption); (case n => with_reducible assumption))
  | ((with_reducible refine' ev_price ?e ?h ?c ?n); (case e => rfl); (case h => walk_at "sh"); (case c => with_reducible assumption); (case n => with_reducible assumption))
  | ((with_reducible refine' ev_steps ?e ?h ?c ?n); (case e => rfl); (case h => walk_at "sh"); (case c => with_reducible assumption); (case n => with_reducible assumption))
  | ((with_reducible refine' ev_prices ?e ?h ?c ?n); (case e => rfl); (case h => walk_at "sh"); (case c => with_reducible assumption); (case n => with_reducible assumption)))
section
variable {P : Program} {w : World} {K : Fr} {mg : Str → Option Value} {base : Heap}
open PySem.Spec PyProof.Rows LamX
theorem steps_case {l : List C2} (h : areSteps l = true) : l.length ≤ 2 := areSteps_len h
set_option maxHeartbeats 4000000 in
theorem ok_law (T : Txt K mg) (hB : TabB base mg T.c_refuses T.P_refuses) : FnOk P w K mg base CX0 20 T.a_law T.f_law ["_law_script"] (spLawT T) := by
  refine T.d_law.F.ok sc_law (fun vs H Q E h => ?_) (fun cdv A outer s H vs Q E hr h => ?_)
  · obtain ⟨a, ns, rfl, _⟩ := h
    rfl
  · obtain ⟨a, ns, rfl, hS, hlen, ht, k⟩ := h
    refine ⟨_, (pss_cons (ps_set (i := 1) sc_law.nd rfl (Or.inr rfl) (pe_call (ok_pen T) (hr.mono (by decide)) rfl T.d_pen.m T.d_pen.F.kp T.d_pen.b .nil pass0 (pa_cons (pv 0) pa_nil)))
    (pss_cons (ps_set (i := 2) sc_law.nd rfl (Or.inl rfl) (pe_call (ok_draw T) (hr.mono (by decide)) rfl T.d_draw.m T.d_draw.F.kp T.d_draw.b .nil pass0 (pa_cons (pv 1) (pa_cons pe_int pa_nil))))
    (pss_cons (ps_set (i := 3) sc_law.nd rfl (Or.inl rfl) (pe_call (ok_steps T) (hr.mono (by decide)) rfl T.d_steps.m T.d_steps.F.kp T.d_steps.b .nil pass0 (pa_cons (pv 1) (pa_cons (pv 2) (pa_cons (pe_call (ok_pick T) (hr.mono (by decide)) rfl T.d_pick.m T.d_pick.F.kp T.d_pick.b .nil pass0 (pa_cons (pv 1) (pa_cons (pe_lst (pa_cons pe_int (pa_cons pe_int (pa_cons (pe_op op_pow pe_int pe_int) pa_nil)))) pa_nil))) pa_nil)))))
    (pss_cons (ps_set (i := 4) sc_law.nd rfl (Or.inl rfl) (pe_tup (pa_cons (pe_tup (pa_cons (pe_call (ok_wide T) (hr.mono (by decide)) rfl T.d_wide.m T.d_wide.F.kp T.d_wide.b .nil pass0 (pa_cons (pv 1) pa_nil)) (pa_cons (pe_call (ok_wide T) (hr.mono (by decide)) rfl T.d_wide.m T.d_wide.F.kp T.d_wide.b .nil pass0 (pa_cons (pv 1) pa_nil)) pa_nil))) (pa_cons (pe_call (ok_wide T) (hr.mono (by decide)) rfl T.d_wide.m T.d_wide.F.kp T.d_wide.b .nil pass0 (pa_cons (pv 1) pa_nil)) (pa_cons (pv 3) (pa_cons (pe_callTy call_tuple_of (by rfl) T.z_tuple (by decide +kernel) (pa_cons (pe_lc (own := [("_law_step", 10)]) (g := gName 10) rfl sc_law.nd (pi_tup (pv 3)) (blkOk_by (N := N_law) (sc := defScope s_law) (by decide +kernel)) (fun _ _ _ _ _ => (pg_name (i := 10) sc_law.nd rfl (Or.inl rfl))) (fun _ _ _ _ _ => pts_nil) (fun _ _ _ _ _ => (pe_call (ok_wide T) (hr.mono (by decide)) rfl T.d_wide.m T.d_wide.F.kp T.d_wide.b .nil pass0 (pa_cons (pv 1) pa_nil)))) pa_nil)) pa_nil))))))
    (pss_cons (ps_set (i := 5) sc_law.nd rfl (Or.inl rfl) (pe_lst (pa_cons (pe_callTy call_list_of (by rfl) T.z_list (by decide +kernel) (pa_cons (pv 3) pa_nil)) (pa_cons (pe_callTy call_list_of (by rfl) T.z_list (by decide +kernel) (pa_cons (pe_ix (ix_tK K) (pv 4) pe_int (fun _ _ => rfl)) pa_nil)) pa_nil))))
    (pss_cons (ps_set (i := 6) sc_law.nd rfl (Or.inl rfl) (pe_make T.k_Sheet (ok_init T) (hr.mono (by decide)) rfl T.g_Sheet T.b_init .nil pass0 (pa_cons (pe_ix (ix_tK K) (pv 4) pe_int (fun _ _ => rfl)) (pa_cons (pe_ix (ix_tK K) (pv 4) pe_int (fun _ _ => rfl)) (pa_cons (pe_ix (ix_lK K) (pv 5) pe_int (fun _ _ => rfl)) (pa_cons (pe_ix (ix_lK K) (pv 5) pe_int (fun _ _ => rfl)) pa_nil))))))
    (pss_cons (ps_expr (pe_bm PySem.F.plainAttrs_list PySem.F.slot_list_append PySem.F.type_list_append mt_append (pe_ix (ix_lK K) (pv 5) pe_int (fun _ _ => rfl)) (pa_cons (pe_tup (pa_cons pe_int (pa_cons pe_int pa_nil))) pa_nil)))
    (pss_cons (ps_expr (pe_bm PySem.F.plainAttrs_list PySem.F.slot_list_append PySem.F.type_list_append mt_append (pe_ix (ix_lK K) (pv 5) pe_int (fun _ _ => rfl)) (pa_cons pe_int pa_nil)))
    (pss_cons (ps_if (PW.pt (pw_or (pt_not (pt_val (pe_call (ok_is_sheet T) (hr.mono (by decide)) rfl T.d_is_sheet.m T.d_is_sheet.F.kp T.d_is_sheet.b .nil pass0 (pa_cons (pv 6) (pa_cons (pv 4) pa_nil))))) (pw_or (pt_not (pt_cmpR (op_eqOwn T.d_eq.m T.q_Sheet (ok_eq T) (hr.mono (by decide)) T.b_eq pass0) (pv 6) (pe_call (ok_made T) (hr.mono (by decide)) rfl T.d_made.m T.d_made.F.kp T.d_made.b .nil pass0 (pa_cons (pv 4) pa_nil)) (nomark _))) (pw_or1 (pt_not (pt_val (pe_call (ok_is_sheet T) (hr.mono (by decide)) rfl T.d_is_sheet.m T.d_is_sheet.F.kp T.d_is_sheet.b .nil pass0 (pa_cons (pe_call (ok_made T) (hr.mono (by decide)) rfl T.d_made.m T.d_made.F.kp T.d_made.b .nil pass0 (pa_cons (pv 4) pa_nil)) (pa_cons (pv 4) pa_nil))))))))) (pss_one (ps_ret pe_bl)) pss_nil)
    (pss_cons (ps_set (i := 7) sc_law.nd rfl (Or.inl rfl) (pe_call (ok_changed T) (hr.mono (by decide)) rfl T.d_changed.m T.d_changed.F.kp T.d_changed.b .nil pass0 (pa_cons (pv 1) (pa_cons (pv 4) pa_nil))))
    (pss_cons (ps_if (PW.pt (pw_or (pt_cmpR (op_eqOwn T.d_eq.m T.q_Sheet (ok_eq T) (hr.mono (by decide)) T.b_eq pass0) (pv 6) (pe_call (ok_made T) (hr.mono (by decide)) rfl T.d_made.m T.d_made.F.kp T.d_made.b .nil pass0 (pa_cons (pv 7) pa_nil)) (nomark _)) (pw_or (pt_cmpR (op_eqOwn T.d_eq.m T.q_Sheet (ok_eq T) (hr.mono (by decide)) T.b_eq pass0) (pv 6) (pv 4) (nomark _)) (pw_or1 (pt_not (pt_val (pe_call (ok_is_sheet T) (hr.mono (by decide)) rfl T.d_is_sheet.m T.d_is_sheet.F.kp T.d_is_sheet.b .nil pass0 (pa_cons (pe_call (ok_made T) (hr.mono (by decide)) rfl T.d_made.m T.d_made.F.kp T.d_made.b .nil pass0 (pa_cons (pv 7) pa_nil)) (pa_cons (pv 7) pa_nil))))))))) (pss_one (ps_ret pe_bl)) pss_nil)
    (pss_cons (ps_if (PW.pt (pw_and (pt_cmpR op_eq (pv 2) pe_int (nomark _)) (pw_and1 (pt_not (pt_val (pe_call (ok_is_sheet T) (hr.mono (by decide)) rfl T.d_is_sheet.m T.d_is_sheet.F.kp T.d_is_sheet.b .nil pass0 (pa_cons (pe_make T.k_Sheet (ok_init T) (hr.mono (by decide)) rfl T.g_Sheet T.y_init.bi (show Vals [V.ref T.y_init.ya, V.ref T.y_init.yb] [.ref T.y_init.ya, .ref T.y_init.yb] from .cons rfl (.cons rfl .nil)) pass0 (pa_cons (pe_ix (ix_tK K) (pv 4) pe_int (fun _ _ => rfl)) (pa_cons (pe_ix (ix_tK K) (pv 4) pe_int (fun _ _ => rfl)) pa_nil))) (pa_cons (pv 4) pa_nil)))))))) (pss_one (ps_ret pe_bl)) pss_nil)
    (pss_cons (ps_par (i := 8) (j := 9) rfl sc_law.nd rfl rfl (by decide) rfl rfl (pa_cons (pe_tup (pa_cons (pe_call (ok_wide T) (hr.mono (by decide)) rfl T.d_wide.m T.d_wide.F.kp T.d_wide.b .nil pass0 (pa_cons (pv 1) pa_nil)) (pa_cons (pe_call (ok_wide T) (hr.mono (by decide)) rfl T.d_wide.m T.d_wide.F.kp T.d_wide.b .nil pass0 (pa_cons (pv 1) pa_nil)) pa_nil))) (pa_cons (pe_call (ok_wide T) (hr.mono (by decide)) rfl T.d_wide.m T.d_wide.F.kp T.d_wide.b .nil pass0 (pa_cons (pv 1) pa_nil)) pa_nil)) rfl)
    (pss_cons (ps_if (PW.pt (pw_or (pt_not (pt_val (pe_call (ok_is_sheet T) (hr.mono (by decide)) rfl T.d_is_sheet.m T.d_is_sheet.F.kp T.d_is_sheet.b .nil pass0 (pa_cons (pe_meth (pv 6) T.c_Sheet T.d_moved.m (ok_moved T) (hr.mono (by decide)) T.b_moved .nil pass0 (pa_cons (pv 8) (pa_cons (pv 9) pa_nil))) (pa_cons (pe_call (ok_lmoved T) (hr.mono (by decide)) rfl T.d_lmoved.m T.d_lmoved.F.kp T.d_lmoved.b .nil pass0 (pa_cons (pv 4) (pa_cons (pv 8) (pa_cons (pv 9) pa_nil)))) pa_nil))))) (pw_or1 (pt_not (pt_val (pe_call (ok_is_sheet T) (hr.mono (by decide)) rfl T.d_is_sheet.m T.d_is_sheet.F.kp T.d_is_sheet.b .nil pass0 (pa_cons (pv 6) (pa_cons (pv 4) pa_nil)))))))) (pss_one (ps_ret pe_bl)) pss_nil)
    (pss_one (ps_ret (pe_call (ok_refuses T hB) (hr.mono (by decide)) rfl T.d_refuses.m T.d_refuses.F.kp T.d_refuses.b .nil pass0 (pa_cons (pv 1) (pa_cons (pv 4) pa_nil))))))))))))))))))), ?_⟩
    try dsimp only [cxOf, List.map]
    rw [show L2.start N_law [V.ref a] = [some (V.ref a), none, none, none, none, none, none, none, none, none, none] from rfl]
    have hc := T.c_Sheet
    -- the pen
    refine ⟨_, rfl, a, ns, rfl, hS, fun c d H1 s1 P1 => ?_⟩
    try dsimp only [gName]
    rw [show ([some (V.ref a), none, none, none, none, none, none, none, none, none, none] : L2.St).set 1 (some (V.ref d)) = [some (V.ref a), some (V.ref d), none, none, none, none, none, none, none, none, none] from rfl]
    have t1 := tabs_same ht s1
    clear ht hS s1
    -- how many steps
    refine s_drawTo (K := K) (m := 3) rfl P1 (by omega) (by decide) (by decide) ev_int fun jm H2 j0 j1 k2 P2 => ?_
    have t2 := tabs_kd t1 P1 k2
    clear t1 k2 P1
    obtain ⟨j, rfl⟩ : ∃ j : Nat, jm = (j : Int) := ⟨jm.toNat, by omega⟩
    rw [show ([some (V.ref a), some (V.ref d), none, none, none, none, none, none, none, none, none] : L2.St).set 2 (some (V.int (j : Int))) = [some (V.ref a), some (V.ref d), some (V.int j), none, none, none, none, none, none, none, none] from rfl]
    -- the steps
    refine ⟨_, rfl, _, rfl, ?_⟩
    refine c_pick (K := K) (i := 1) (σ := [some (V.ref a), some (V.ref d), some (V.int j), none, none, none, none, none, none, none, none]) (ds := [.int 1, .int 3, .int 100000]) rfl P2 (by omega) (evl_lst (eva_cons ev_int (eva_cons ev_int (eva_cons (ev_pow ev_int ev_int ⟨by decide, by decide, by decide⟩ rfl) eva_nil))) (Nat.le_of_ble_eq_true rfl)) (by decide) (by decide) fun vm x H3 hx rx k3 P3 => ?_
    have t3 := tabs_kd t2 P2 k3
    clear t2 k3 P2
    obtain ⟨m, rfl, m0, m1⟩ : ∃ m : Int, x = .int m ∧ 0 < m ∧ m < 1000000 := by
      simp at hx
      rcases hx with rfl | rfl | rfl
      · exact ⟨1, rfl, by decide, by decide⟩
      · exact ⟨3, rfl, by decide, by decide⟩
      · exact ⟨100000, rfl, by decide, by decide⟩
    cases rx.int_inv
    refine ⟨c, d, 0 + 1 + 1, j, m, rfl, by omega, P3, by omega, m0, m1, fun v3 l H4 ln st bl r3 k4 P4 => ?_⟩
    have t4 := tabs_kd t3 P3 k4
    clear t3 k4 P3 hx
    try dsimp only [gName]
    rw [show ([some (V.ref a), some (V.ref d), some (V.int j), none, none, none, none, none, none, none, none] : L2.St).set 3 (some v3) = [some (V.ref a), some (V.ref d), some (V.int j), some v3, none, none, none, none, none, none, none] from rfl]
    have h3 := r3
    obtain ⟨p3, xs3, rfl, hp3, ra3⟩ := h3.tup_inv
    have lx3 : xs3.length = l.length := by have := ra3.len; simpa using this
    have l2 := areSteps_len st
    -- the row
    refine c_wide (i := 1) (σ := [some (V.ref a), some (V.ref d), some (V.int j), some (V.ref p3), none, none, none, none, none, none, none]) rfl P4 (by omega) fun x1 H5 b1 k5 P5 => ?_
    refine c_wide (i := 1) (σ := [some (V.ref a), some (V.ref d), some (V.int j), some (V.ref p3), none, none, none, none, none, none, none]) rfl P5 (by omega) fun x2 H6 b2 k6 P6 => ?_
    refine ⟨(by show 2 ≤ sizeLine; decide), fun pb hpb => ?_⟩
    have s7 := same_upd (o := HO.tup [V.int x1, V.int x2]) hpb
    have rb7 : Rep K (upd H6 pb (HO.tup [V.int x1, V.int x2])) (.ref pb) (dC (x1, x2)) := .tup (SqT.of upd_same) (.cons (.int _) (.cons (.int _) .nil))
    generalize upd H6 pb (HO.tup [V.int x1, V.int x2]) = H7 at s7 rb7
    have P7 := P6.same s7
    have k47 : Kd d H4 H7 := (k5.trans k6).trans (kd_same s7)
    have r37 : Rep K H7 (.ref p3) (dCs l) := r3.kt (P4.kt k47)
    have t7 := tabs_kd t4 P4 k47
    have hp37 := kt_sqt (P4.kt k47) hp3
    clear k5 k6 s7 P6 P5 k47 P4 r3 t4 hp3 ra3 hpb h3
    refine c_wide (i := 1) (σ := [some (V.ref a), some (V.ref d), some (V.int j), some (V.ref p3), none, none, none, none, none, none, none]) rfl P7 (by omega) fun x3 H8 b3 k8 P8 => ?_
    have hp38 := kt_sqt (P7.kt k8) hp37
    refine ⟨_, rfl, _, rfl, p3, rfl, ⟨xs3, hp38⟩, fun D hD => ?_⟩
    refine lc_pen (K := K) (walk_tup (K := K) (a := p3) (xs := xs3)) (c := c) (d := d) (n0 := 0 + 1 + 1 + 60 + 12 + 12 + 12) (k := 12) (fun x => ∃ q, x = .int q ∧ Bd 210 q) (by omega) hD P8 (fun H kd => kt_sqt (P8.kt kd) hp38) (fun i H x H' y => y.1) ?_ ?_
    · intro v H9 n9 P9 hn9 k9 Q9 kk
      refine c_wide (σ := (wipe [some (V.ref a), some (V.ref d), some (V.int j), some (V.ref p3), none, none, none, none, none, none, none] [10]).set 10 (some v)) (i := 1) rfl P9 (by omega) fun x H5 bx k5 P5 => ?_
      exact kk (.int x) (.int x) H5 ⟨x, rfl, bx⟩ (.int x) k5 P5
    intro ws xs9 H9 hl9 hx9 k9 P9 hD9 ra9
    obtain ⟨pr, rfl, bp⟩ := ints_of hx9
    rw [List.length_map] at hl9
    refine ⟨D, ws, rfl, .inl ⟨SqL.of hD9, fun q hq => ?_⟩⟩
    have s10 := same_upd (o := HO.tup ws) hq
    have r10 : Rep K (upd H9 q (HO.tup ws)) (.ref q) (dIs pr) := .tup (SqT.of upd_same) (ra9.same s10)
    generalize upd H9 q (HO.tup ws) = H10 at s10 r10
    have k710 : Kd d H7 H10 := (k8.trans k9).trans (kd_same s10)
    have rb10 := rb7.kt (P7.kt k710)
    have r310 := r37.kt (P7.kt k710)
    have t10 := tabs_kd t7 P7 k710
    have P10 : PenAt c H10 d 200 := (P9.same s10).mono (by omega)
    have lnp : pr.length = l.length := by omega
    clear hq hD9 ra9 P9 k9 hD hp38 k8 s10 k710 t7 r37 rb7 P7 P8 hp37 hx9
    refine ⟨(by show 4 ≤ sizeLine; decide), fun pw hpw => ?_⟩
    have s11 := same_upd (o := HO.tup [V.ref pb, V.int x3, V.ref p3, V.ref q]) hpw
    obtain ⟨S, eS⟩ : ∃ S : Sh, S = ⟨(x1, x2), x3, l, pr⟩ := ⟨_, rfl⟩
    have r11 : Rep K (upd H10 pw (HO.tup [V.ref pb, V.int x3, V.ref p3, V.ref q])) (.ref pw) (dR S) := by
      rw [eS]
      exact .tup (SqT.of upd_same) (.cons (rb10.same s11) (.cons (.int _) (.cons (r310.same s11) (.cons (r10.same s11) .nil))))
    have r311 := r310.same s11
    have t11 := tabs_same t10 s11
    have P11 := P10.same s11
    generalize upd H10 pw (HO.tup [V.ref pb, V.int x3, V.ref p3, V.ref q]) = H11 at s11 r11 r311 t11 P11
    clear s11 r310 rb10 r10 P10 t10 hpw
    have sm : Sm S := by
      rw [eS]
      exact ⟨st, lnp, ⟨b1.mono (by decide), b2.mono (by decide)⟩, b3.mono (by decide), fun s hs => (bl s hs).mono (by decide), fun z hz => (bp z hz).mono (by decide)⟩
    have bb : BdC 210 S.base := by rw [eS]; exact ⟨b1, b2⟩
    have bs : ∀ s ∈ S.steps, BdC 210 s := by rw [eS]; exact bl
    have bq : ∀ s ∈ S.prices, Bd 210 s := by rw [eS]; exact bp
    have bx : Bd 210 S.price := by rw [eS]; exact b3
    have eSt : S.steps = l := by rw [eS]
    have sl : S.steps.length = j := by rw [eSt, ln]
    have l2S := areSteps_len sm.st
    have l1 : S.steps.length ≤ 1000 := by omega
    have l2' : S.prices.length ≤ 1000 := by rw [sm.ln]; exact l1
    try dsimp only [gName]
    rw [show ([some (V.ref a), some (V.ref d), some (V.int j), some (V.ref p3), none, none, none, none, none, none, none] : L2.St).set 4 (some (V.ref pw)) = [some (V.ref a), some (V.ref d), some (V.int j), some (V.ref p3), some (V.ref pw), none, none, none, none, none, none] from rfl]
    rw [← eSt] at r311
    clear eS bl bp b1 b2 b3 eSt lnp
    -- the lists that are handed over
    refine s_asgL (tup_evl (evl_list (K := K) (ev_var rfl r311)) fun g1 vs1 H12 s12 n1 hg1 ra1 => tup_evl (ds := S.prices.map .int) (evl_list (K := K) (ev_ix (ev_var rfl (r11.same s12)) rfl)) fun g2 vs2 H13 s13 n2 hg2 ra2 => ?_)
    have P12 := P11.same s12
    refine ⟨(by show 2 ≤ sizeLine; decide), fun gg hgg => ?_⟩
    have s14 := same_upd (o := HO.lst [V.ref g1, V.ref g2]) hgg
    have hgv : upd H13 gg (HO.lst [V.ref g1, V.ref g2]) gg = some (.lst [V.ref g1, V.ref g2]) := upd_same
    have s1114 := (s12.trans s13).trans s14
    have hg1' := s14 _ _ (s13 _ _ hg1)
    have hg2' := s14 _ _ hg2
    have ra1' := (ra1.same s13).same s14
    have ra2' := ra2.same s14
    have ng1 : g1 ≠ d ∧ g1 ≠ c := P11.ned n1
    have ng2 : g2 ≠ d ∧ g2 ≠ c := P12.ned n2
    have n12 : g2 ≠ g1 := fun z => by rw [z, hg1] at n2; cases n2
    have ngg1 : gg ≠ g1 := fun z => by rw [z, s13 _ _ hg1] at hgg; cases hgg
    have ngg2 : gg ≠ g2 := fun z => by rw [z, hg2] at hgg; cases hgg
    generalize upd H13 gg (HO.lst [V.ref g1, V.ref g2]) = H14 at s14 hgv s1114 hg1' hg2' ra1' ra2'
    have r14 := r11.same s1114
    have P14 := P11.same s1114
    have t14 := tabs_same t11 s1114
    clear s1114 s14 s13 s12 hgg hg1 hg2 ra1 ra2 n1 n2 P12 r11 P11 t11 r311
    try dsimp only [gName]
    rw [show ([some (V.ref a), some (V.ref d), some (V.int j), some (V.ref p3), some (V.ref pw), none, none, none, none, none, none] : L2.St).set 5 (some (V.ref gg)) = [some (V.ref a), some (V.ref d), some (V.int j), some (V.ref p3), some (V.ref pw), some (V.ref gg), none, none, none, none, none] from rfl]
    have len1 : vs1.length ≤ 1000 := by have := ra1'.len; simp at this; omega
    have len2 : vs2.length ≤ 1000 := by have := ra2'.len; simp at this; omega
    -- the sheet
    refine s_setSh (esh_make T (S := S) (fun G s Z kk => ?args) sm.ok) fun ps H15 s15 hS15 => ?_
    case args =>
      refine tup_ev (K := K) (d := dC S.base) (ev_ix (ev_var rfl (r14.same s)) rfl) fun w1 G1 e1 q1 => tup_ev (K := K) (d := .int S.price) (ev_ix (ev_var rfl (r14.same (s.trans e1))) rfl) fun w2 G2 e2 q2 => ?_
      have e02 := (s.trans e1).trans e2
      exact ⟨_, rfl, gg, _, 0, .ref g1, rfl, rfl, SqL.of (e02 _ _ hgv), rfl, _, rfl, gg, _, 1, .ref g2, rfl, rfl, SqL.of (e02 _ _ hgv), rfl, kk w1 w2 _ _ G2 (e1.trans e2) (q1.same e2) q2 (rep_lst (e02 _ _ hg1') (ra1'.same e02)) (rep_lst (e02 _ _ hg2') (ra2'.same e02))⟩
    have hgv5 := s15 _ _ hgv
    have hg15 := s15 _ _ hg1'
    have hg25 := s15 _ _ hg2'
    have r15 := r14.same s15
    have P15 := P14.same s15
    have t15 := tabs_same t14 s15
    clear s15 r14 P14 t14 ra1' ra2' hg1' hg2' hgv
    rw [show ([some (V.ref a), some (V.ref d), some (V.int j), some (V.ref p3), some (V.ref pw), some (V.ref gg), none, none, none, none, none] : L2.St).set 6 (some (V.ref ps)) = [some (V.ref a), some (V.ref d), some (V.int j), some (V.ref p3), some (V.ref pw), some (V.ref gg), some (V.ref ps), none, none, none, none] from rfl]
    -- the lists are changed
    refine s_app (K := K) (d := .tuple [.int 1, .int 1]) rfl hgv5 rfl hg15 len1 (ev_tup (eva_cons ev_int (eva_cons ev_int eva_nil)) (Nat.le_of_ble_eq_true rfl)) fun v16 H16 s16 hg16 => ?_
    have kt16 : Kt H15 (upd H16 g1 (.lst (vs1 ++ [v16]))) := fun b o e i => kt_lst hg16 b o (s16 _ _ e) i
    have P16 := (P15.same s16).upd (o := .lst (vs1 ++ [v16])) ng1.1 ng1.2
    have t16 := tabs_lst (o := .lst (vs1 ++ [v16])) (tabs_same t15 s16) hg16
    have hgv6 : upd H16 g1 (.lst (vs1 ++ [v16])) gg = some (.lst [V.ref g1, V.ref g2]) := by rw [upd_ne ngg1]; exact s16 _ _ hgv5
    have hg26 : upd H16 g1 (.lst (vs1 ++ [v16])) g2 = some (.lst vs2) := by rw [upd_ne n12]; exact s16 _ _ hg25
    have r16 := r15.kt kt16
    have hS16 := hS15.kt kt16
    generalize upd H16 g1 (.lst (vs1 ++ [v16])) = H17 at kt16 P16 t16 hgv6 hg26 r16 hS16
    clear kt16 s16 hg16 r15 hS15 t15 P15 hgv5 hg15 hg25
    refine s_app (K := K) (d := .int 7) rfl hgv6 rfl hg26 len2 ev_int fun v18 H18 s18 hg28 => ?_
    have kt18 : Kt H17 (upd H18 g2 (.lst (vs2 ++ [v18]))) := fun b o e i => kt_lst hg28 b o (s18 _ _ e) i
    have P18 := (P16.same s18).upd (o := .lst (vs2 ++ [v18])) ng2.1 ng2.2
    have t18 := tabs_lst (o := .lst (vs2 ++ [v18])) (tabs_same t16 s18) hg28
    have r18 := r16.kt kt18
    have hS18 := hS16.kt kt18
    generalize upd H18 g2 (.lst (vs2 ++ [v18])) = H19 at kt18 P18 t18 r18 hS18
    clear kt18 s18 hg28 r16 hS16 t16 P16 hgv6 hg26 ng1 ng2 n12 ngg1 ngg2 len1 len2
    -- it is the sheet of the row
    refine s_ifr (c := (!true) || ((!(decide (S.base = S.base) && (decide (S.price = S.price) && (decide (S.steps = S.steps) && decide (S.prices = S.prices))))) || (!true))) (evb_or (evb_not (evb_sheet (K := K) (esh_var rfl hS18) (ev_var rfl r18) l1 l2')) fun _ => evb_or (evb_not (evb_eqSh (K := K) (esh_var rfl hS18) (esh_made (ev_var rfl r18) sm.ok))) fun _ => evb_not (evb_sheet (K := K) (esh_made (ev_var rfl r18) sm.ok) (ev_var rfl r18) l1 l2')) (fun ht => by simp at ht) (fun _ H20 s20 => ?_)
    have r20 := r18.same s20
    have hS20 := hS18.same s20
    have P20 := P18.same s20
    have t20 := tabs_same t18 s20
    clear r18 hS18 P18 t18 s20
    -- one part changed
    refine ⟨_, rfl, _, rfl, c, d, 200, S, .ref pw, rfl, P20, by omega, sm, bb, bs, bq, bx, r20, fun v7 S' H21 sm' ne r7 k21 P21 => ?_⟩
    have r21 := r20.kt (P20.kt k21)
    have hS21 := hS20.kt (P20.kt k21)
    have t21 := tabs_kd t20 P20 k21
    clear r20 hS20 t20 k21 P20
    try dsimp only [gName]
    rw [show ([some (V.ref a), some (V.ref d), some (V.int j), some (V.ref p3), some (V.ref pw), some (V.ref gg), some (V.ref ps), none, none, none, none] : L2.St).set 7 (some v7) = [some (V.ref a), some (V.ref d), some (V.int j), some (V.ref p3), some (V.ref pw), some (V.ref gg), some (V.ref ps), some v7, none, none, none] from rfl]
    have l1c : S'.steps.length ≤ 1000 := by have := areSteps_len sm'.st; omega
    have l2c : S'.prices.length ≤ 1000 := by rw [sm'.ln]; exact l1c
    have hX : (decide (S.base = S'.base) && (decide (S.price = S'.price) && (decide (S.steps = S'.steps) && decide (S.prices = S'.prices)))) = false := by
      cases hx : (decide (S.base = S'.base) && (decide (S.price = S'.price) && (decide (S.steps = S'.steps) && decide (S.prices = S'.prices))))
      · rfl
      · simp at hx
        exact absurd hx ne
    refine s_ifr (c := (decide (S.base = S'.base) && (decide (S.price = S'.price) && (decide (S.steps = S'.steps) && decide (S.prices = S'.prices)))) || (false || (!true))) (evb_or (evb_eqSh (K := K) (esh_var rfl hS21) (esh_made (ev_var rfl r7) sm'.ok)) fun _ => evb_or (evb_eqTu (K := K) (ds := [dC S.base, .int S.price, dCs S.steps, dIs S.prices]) (esh_var rfl hS21) (ev_var rfl r21)) fun _ => evb_not (evb_sheet (K := K) (esh_made (ev_var rfl r7) sm'.ok) (ev_var rfl r7) l1c l2c)) (fun ht => by rw [hX] at ht; simp at ht) (fun _ H22 s22 => ?_)
    have r22 := r21.same s22
    have hS22 := hS21.same s22
    have P22 := P21.same s22
    have t22 := tabs_same t21 s22
    clear r21 hS21 P21 t21 s22 r7 hX ne l1c l2c
    -- without steps
    refine s_ifr (c := decide ((j : Int) = 0) && (!true)) (evb_and (evb_test (K := K) (ev_eqI (ev_var rfl (.int _)) ev_int)) fun h0 => evb_not ?t) (fun ht => by simp at ht) (fun _ H23 s23 => ?_)
    case t =>
      have h0' : S.steps.length = 0 := by have := of_decide_eq_true h0; omega
      have e1 : S.steps = [] := List.length_eq_zero_iff.mp h0'
      have e2 : S.prices = [] := List.length_eq_zero_iff.mp (by rw [sm.ln]; exact h0')
      have eR : dR S = dR ⟨S.base, S.price, [], []⟩ := by unfold dR; rw [e1, e2]
      have ok0 : (Sh.mk S.base S.price [] []).Ok := ⟨rfl, rfl, ⟨sm.b0.1.mono (by decide), sm.b0.2.mono (by decide)⟩, sm.b1.mono (by decide), fun s hs => by simp at hs, fun s hs => by simp at hs⟩
      have r0 : Rep K H22 (.ref pw) (dR ⟨S.base, S.price, [], []⟩) := by rw [← eR]; exact r22
      exact evb_sheet (K := K) (S := ⟨S.base, S.price, [], []⟩) (esh_make2 T T.y_init.ea T.y_init.eb (eva_cons (ev_ix (ev_var rfl r0) rfl) (eva_cons (ev_ix (ev_var rfl r0) rfl) eva_nil)) ok0) (ev_var rfl r0) (Nat.zero_le _) (Nat.zero_le _)
    have r23 := r22.same s23
    have hS23 := hS22.same s23
    have P23 := P22.same s23
    have t23 := tabs_same t22 s23
    clear r22 hS22 P22 t22 s23
    -- moved
    refine c_wide (i := 1) (σ := [some (V.ref a), some (V.ref d), some (V.int j), some (V.ref p3), some (V.ref pw), some (V.ref gg), some (V.ref ps), some v7, none, none, none]) rfl P23 (by omega) fun y1 H24 c1 k24 P24 => ?_
    refine c_wide (i := 1) (σ := [some (V.ref a), some (V.ref d), some (V.int j), some (V.ref p3), some (V.ref pw), some (V.ref gg), some (V.ref ps), some v7, none, none, none]) rfl P24 (by omega) fun y2 H25 c2 k25 P25 => ?_
    refine ⟨(by show 2 ≤ sizeLine; decide), fun pc hpc => ?_⟩
    have s26 := same_upd (o := HO.tup [V.int y1, V.int y2]) hpc
    have rc26 : Rep K (upd H25 pc (HO.tup [V.int y1, V.int y2])) (.ref pc) (dC (y1, y2)) := .tup (SqT.of upd_same) (.cons (.int _) (.cons (.int _) .nil))
    generalize upd H25 pc (HO.tup [V.int y1, V.int y2]) = H26 at s26 rc26
    have P26 := P25.same s26
    have k26 : Kd d H23 H26 := (k24.trans k25).trans (kd_same s26)
    refine c_wide (i := 1) (σ := [some (V.ref a), some (V.ref d), some (V.int j), some (V.ref p3), some (V.ref pw), some (V.ref gg), some (V.ref ps), some v7, none, none, none]) rfl P26 (by omega) fun y3 H27 c3 k27 P27 => ?_
    have k2327 := k26.trans k27
    have r27 := r23.kt (P23.kt k2327)
    have hS27 := hS23.kt (P23.kt k2327)
    have t27 := tabs_kd t23 P23 k2327
    have rc27 := rc26.kt (P26.kt k27)
    clear r23 hS23 t23 k2327 P23 P24 P25 P26 k24 k25 k26 k27 s26 hpc rc26
    refine ⟨_, _, rfl, ?_⟩
    try dsimp only [gName]
    rw [show (([some (V.ref a), some (V.ref d), some (V.int j), some (V.ref p3), some (V.ref pw), some (V.ref gg), some (V.ref ps), some v7, none, none, none] : L2.St).set 8 (some (V.ref pc))).set 9 (some (V.int y3)) = [some (V.ref a), some (V.ref d), some (V.int j), some (V.ref p3), some (V.ref pw), some (V.ref gg), some (V.ref ps), some v7, some (V.ref pc), some (V.int y3), none] from rfl]
    have okm : (S.move (y1, y2) y3).Ok := ⟨sm.st, sm.ln, ⟨(Bd.add sm.b0.1 c1).mono (by decide), (Bd.add sm.b0.2 c2).mono (by decide)⟩, (Bd.add sm.b1 c3).mono (by decide), fun s m => (sm.b2 s m).mono (by decide), fun s m => (sm.b3 s m).mono (by decide)⟩
    refine s_ifr (c := (!true) || (!true)) (evb_or (evb_not (evb_sheet (K := K) (S := S.move (y1, y2) y3) (esh_moved rfl hS27 (ev_var rfl rc27) (ev_var rfl (.int _)) okm) (ev_call (ds := [dR S, dC (y1, y2), .int y3]) (eva_cons (ev_var rfl r27) (eva_cons (ev_var rfl rc27) (eva_cons (ev_var rfl (.int _)) eva_nil))) ⟨S, (y1, y2), y3, rfl, rfl⟩) l1 l2')) fun _ => evb_not (evb_sheet (K := K) (esh_var rfl hS27) (ev_var rfl r27) l1 l2')) (fun ht => by simp at ht) (fun _ H28 s28 => ?_)
    exact ⟨_, rfl, _, rfl, c, d, _, S, .ref pw, rfl, P27.same s28, by omega, sm, bs, r27.same s28, tabs_same t27 s28, fun H' => k H'⟩
end
end LW
namespace LW
open PySem L2 LB
section
/-- of the def called x: its code object and its table, as the head leaves them -/
def TabOf (K : Fr) (mg : Str → Option Value) (h : Heap) (x : Str) : Prop := ∀ {a c P : Addr} {o : Obj} {fd : FuncData} {ec : Value} {ed : Option Addr} {ev : Array Value} {es : Array (Option Value)},
  mg x = some (.ref a) → K.lookup a = some o → o.data = .func fd → fd.code = .ref c → K.lookup c = some ⟨ec, ed, .fields ev, es⟩ → ev[11]? = some (.ref P) → h.get? P = some (PySem.W.tabObj #[]) ∧ PySem.W.CodeHd h c P
theorem all_mk {l : PySem.W.OpenLaw} {w : World} {K : Fr} {h : Heap} {mg : Str → Option Value} {fa : Addr} (X : K.In h) (G : h.Ns mainGlobals mg) (hfa : mg "law" = some (.ref fa))
    {a_pcross : Addr} {od_pcross an_pcross : Option Addr} {sl_pcross : Array (Option Value)} {oc_pcross kV_pcross dc_pcross pm_pcross cd_pcross ct_pcross : Value}
    {a_are_steps : Addr} {od_are_steps an_are_steps : Option Addr} {sl_are_steps : Array (Option Value)} {oc_are_steps kV_are_steps dc_are_steps pm_are_steps cd_are_steps ct_are_steps : Value}
    {a_pen : Addr} {od_pen an_pen : Option Addr} {sl_pen : Array (Option Value)} {oc_pen kV_pen dc_pen pm_pen cd_pen ct_pen : Value}
    {a_draw : Addr} {od_draw an_draw : Option Addr} {sl_draw : Array (Option Value)} {oc_draw kV_draw dc_draw pm_draw cd_draw ct_draw : Value}
    {a_pick : Addr} {od_pick an_pick : Option Addr} {sl_pick : Array (Option Value)} {oc_pick kV_pick dc_pick pm_pick cd_pick ct_pick : Value}
    {a_lcross : Addr} {od_lcross an_lcross : Option Addr} {sl_lcross : Array (Option Value)} {oc_lcross kV_lcross dc_lcross pm_lcross cd_lcross ct_lcross : Value}
    {a_lplus : Addr} {od_lplus an_lplus : Option Addr} {sl_lplus : Array (Option Value)} {oc_lplus kV_lplus dc_lplus pm_lplus cd_lplus ct_lplus : Value}
    {a_lmoved : Addr} {od_lmoved an_lmoved : Option Addr} {sl_lmoved : Array (Option Value)} {oc_lmoved kV_lmoved dc_lmoved pm_lmoved cd_lmoved ct_lmoved : Value}
    {a_wide : Addr} {od_wide an_wide : Option Addr} {sl_wide : Array (Option Value)} {oc_wide kV_wide dc_wide pm_wide cd_wide ct_wide : Value}
    {a_lexact : Addr} {od_lexact an_lexact : Option Addr} {sl_lexact : Array (Option Value)} {oc_lexact kV_lexact dc_lexact pm_lexact cd_lexact ct_lexact : Value}
    {a_near : Addr} {od_near an_near : Option Addr} {sl_near : Array (Option Value)} {oc_near kV_near dc_near pm_near cd_near ct_near : Value}
    {a_steps : Addr} {od_steps an_steps : Option Addr} {sl_steps : Array (Option Value)} {oc_steps kV_steps dc_steps pm_steps cd_steps ct_steps : Value}
    {a_made : Addr} {od_made an_made : Option Addr} {sl_made : Array (Option Value)} {oc_made kV_made dc_made pm_made cd_made ct_made : Value}
    {a_is_sheet : Addr} {od_is_sheet an_is_sheet : Option Addr} {sl_is_sheet : Array (Option Value)} {oc_is_sheet kV_is_sheet dc_is_sheet pm_is_sheet cd_is_sheet ct_is_sheet : Value}
    {a_changed : Addr} {od_changed an_changed : Option Addr} {sl_changed : Array (Option Value)} {oc_changed kV_changed dc_changed pm_changed cd_changed ct_changed : Value}
    {a_bad_steps : Addr} {od_bad_steps an_bad_steps : Option Addr} {sl_bad_steps : Array (Option Value)} {oc_bad_steps kV_bad_steps dc_bad_steps pm_bad_steps cd_bad_steps ct_bad_steps : Value}
    {a_refused : Addr} {od_refused an_refused : Option Addr} {sl_refused : Array (Option Value)} {oc_refused kV_refused dc_refused pm_refused cd_refused ct_refused : Value}
    {a_refuses co_refuses Pt_refuses : Addr} {ec_refuses : Value} {ed_refuses : Option Addr} {ev_refuses : Array Value} {es_refuses : Array (Option Value)} {od_refuses an_refuses : Option Addr} {sl_refuses : Array (Option Value)} {oc_refuses kV_refuses dc_refuses pm_refuses ct_refuses : Value}
    {a_law : Addr} {od_law an_law : Option Addr} {sl_law : Array (Option Value)} {oc_law kV_law dc_law pm_law cd_law ct_law : Value}
    {C_Sheet : Addr}
    {C_JourneyError : Addr}
    {C_BadSheet N_BadSheet : Addr} {nm_BadSheet q_BadSheet : Str} {bs_BadSheet : List Value} {sn_BadSheet : List Str} {sub_BadSheet : List Value} {ab_BadSheet : Bool} {col_BadSheet : Option Bool} {dd_BadSheet : Option Addr} {m0_BadSheet m1_BadSheet m2_BadSheet m3_BadSheet m5_BadSheet : Option Value}
    {a_init : Addr} {od_init an_init : Option Addr} {sl_init : Array (Option Value)} {oc_init kV_init dc_init pm_init cd_init ct_init : Value}
    {T_init ya_init yb_init : Addr} {tc_init : Value} {td_init da_init db_init : Option Addr} {tn_init na_init nb_init : Nat} {ts_init sa_init sb_init : Array (Option Value)}
    {a_eq : Addr} {od_eq an_eq : Option Addr} {sl_eq : Array (Option Value)} {oc_eq kV_eq dc_eq pm_eq cd_eq ct_eq : Value}
    {a_moved : Addr} {od_moved an_moved : Option Addr} {sl_moved : Array (Option Value)} {oc_moved kV_moved dc_moved pm_moved cd_moved ct_moved : Value}
    {a_iBadSheet : Addr} {od_iBadSheet an_iBadSheet : Option Addr} {sl_iBadSheet : Array (Option Value)} {oc_iBadSheet kV_iBadSheet dc_iBadSheet pm_iBadSheet cd_iBadSheet ct_iBadSheet : Value}
    (m_pcross : PySem.W.nsIn K mainGlobals "cross" = some (some (.ref a_pcross)))
    (l_pcross : K.lookup a_pcross = some ⟨oc_pcross, od_pcross, .func (PySem.W.fnOf "cross" "cross" (defArgs s_pcross) (defBody s_pcross) (defScope s_pcross) .none kV_pcross dc_pcross pm_pcross an_pcross cd_pcross ct_pcross), sl_pcross⟩)
    (o_pcross : PySem.W.codeIn K cd_pcross "cross" = true)
    (k_pcross : PySem.W.keepIn K (.ref a_pcross) = true)
    (m_are_steps : PySem.W.nsIn K mainGlobals "_are_steps" = some (some (.ref a_are_steps)))
    (l_are_steps : K.lookup a_are_steps = some ⟨oc_are_steps, od_are_steps, .func (PySem.W.fnOf "_are_steps" "_are_steps" (defArgs s_are_steps) (defBody s_are_steps) (defScope s_are_steps) .none kV_are_steps dc_are_steps pm_are_steps an_are_steps cd_are_steps ct_are_steps), sl_are_steps⟩)
    (o_are_steps : PySem.W.codeIn K cd_are_steps "_are_steps" = true)
    (k_are_steps : PySem.W.keepIn K (.ref a_are_steps) = true)
    (m_pen : PySem.W.nsIn K mainGlobals "_law_pen" = some (some (.ref a_pen)))
    (l_pen : K.lookup a_pen = some ⟨oc_pen, od_pen, .func (PySem.W.fnOf "_law_pen" "_law_pen" (defArgs s_pen) (defBody s_pen) (defScope s_pen) .none kV_pen dc_pen pm_pen an_pen cd_pen ct_pen), sl_pen⟩)
    (o_pen : PySem.W.codeIn K cd_pen "_law_pen" = true)
    (k_pen : PySem.W.keepIn K (.ref a_pen) = true)
    (m_draw : PySem.W.nsIn K mainGlobals "_law_draw" = some (some (.ref a_draw)))
    (l_draw : K.lookup a_draw = some ⟨oc_draw, od_draw, .func (PySem.W.fnOf "_law_draw" "_law_draw" (defArgs s_draw) (defBody s_draw) (defScope s_draw) .none kV_draw dc_draw pm_draw an_draw cd_draw ct_draw), sl_draw⟩)
    (o_draw : PySem.W.codeIn K cd_draw "_law_draw" = true)
    (k_draw : PySem.W.keepIn K (.ref a_draw) = true)
    (m_pick : PySem.W.nsIn K mainGlobals "_law_pick" = some (some (.ref a_pick)))
    (l_pick : K.lookup a_pick = some ⟨oc_pick, od_pick, .func (PySem.W.fnOf "_law_pick" "_law_pick" (defArgs s_pick) (defBody s_pick) (defScope s_pick) .none kV_pick dc_pick pm_pick an_pick cd_pick ct_pick), sl_pick⟩)
    (o_pick : PySem.W.codeIn K cd_pick "_law_pick" = true)
    (k_pick : PySem.W.keepIn K (.ref a_pick) = true)
    (m_lcross : PySem.W.nsIn K mainGlobals "_law_cross" = some (some (.ref a_lcross)))
    (l_lcross : K.lookup a_lcross = some ⟨oc_lcross, od_lcross, .func (PySem.W.fnOf "_law_cross" "_law_cross" (defArgs s_lcross) (defBody s_lcross) (defScope s_lcross) .none kV_lcross dc_lcross pm_lcross an_lcross cd_lcross ct_lcross), sl_lcross⟩)
    (o_lcross : PySem.W.codeIn K cd_lcross "_law_cross" = true)
    (k_lcross : PySem.W.keepIn K (.ref a_lcross) = true)
    (m_lplus : PySem.W.nsIn K mainGlobals "_law_plus" = some (some (.ref a_lplus)))
    (l_lplus : K.lookup a_lplus = some ⟨oc_lplus, od_lplus, .func (PySem.W.fnOf "_law_plus" "_law_plus" (defArgs s_lplus) (defBody s_lplus) (defScope s_lplus) .none kV_lplus dc_lplus pm_lplus an_lplus cd_lplus ct_lplus), sl_lplus⟩)
    (o_lplus : PySem.W.codeIn K cd_lplus "_law_plus" = true)
    (k_lplus : PySem.W.keepIn K (.ref a_lplus) = true)
    (m_lmoved : PySem.W.nsIn K mainGlobals "_law_moved" = some (some (.ref a_lmoved)))
    (l_lmoved : K.lookup a_lmoved = some ⟨oc_lmoved, od_lmoved, .func (PySem.W.fnOf "_law_moved" "_law_moved" (defArgs s_lmoved) (defBody s_lmoved) (defScope s_lmoved) .none kV_lmoved dc_lmoved pm_lmoved an_lmoved cd_lmoved ct_lmoved), sl_lmoved⟩)
    (o_lmoved : PySem.W.codeIn K cd_lmoved "_law_moved" = true)
    (k_lmoved : PySem.W.keepIn K (.ref a_lmoved) = true)
    (m_wide : PySem.W.nsIn K mainGlobals "_law_wide" = some (some (.ref a_wide)))
    (l_wide : K.lookup a_wide = some ⟨oc_wide, od_wide, .func (PySem.W.fnOf "_law_wide" "_law_wide" (defArgs s_wide) (defBody s_wide) (defScope s_wide) .none kV_wide dc_wide pm_wide an_wide cd_wide ct_wide), sl_wide⟩)
    (o_wide : PySem.W.codeIn K cd_wide "_law_wide" = true)
    (k_wide : PySem.W.keepIn K (.ref a_wide) = true)
    (m_lexact : PySem.W.nsIn K mainGlobals "_law_exact" = some (some (.ref a_lexact)))
    (l_lexact : K.lookup a_lexact = some ⟨oc_lexact, od_lexact, .func (PySem.W.fnOf "_law_exact" "_law_exact" (defArgs s_lexact) (defBody s_lexact) (defScope s_lexact) .none kV_lexact dc_lexact pm_lexact an_lexact cd_lexact ct_lexact), sl_lexact⟩)
    (o_lexact : PySem.W.codeIn K cd_lexact "_law_exact" = true)
    (k_lexact : PySem.W.keepIn K (.ref a_lexact) = true)
    (m_near : PySem.W.nsIn K mainGlobals "_law_near" = some (some (.ref a_near)))
    (l_near : K.lookup a_near = some ⟨oc_near, od_near, .func (PySem.W.fnOf "_law_near" "_law_near" (defArgs s_near) (defBody s_near) (defScope s_near) .none kV_near dc_near pm_near an_near cd_near ct_near), sl_near⟩)
    (o_near : PySem.W.codeIn K cd_near "_law_near" = true)
    (k_near : PySem.W.keepIn K (.ref a_near) = true)
    (m_steps : PySem.W.nsIn K mainGlobals "_law_steps" = some (some (.ref a_steps)))
    (l_steps : K.lookup a_steps = some ⟨oc_steps, od_steps, .func (PySem.W.fnOf "_law_steps" "_law_steps" (defArgs s_steps) (defBody s_steps) (defScope s_steps) .none kV_steps dc_steps pm_steps an_steps cd_steps ct_steps), sl_steps⟩)
    (o_steps : PySem.W.codeIn K cd_steps "_law_steps" = true)
    (k_steps : PySem.W.keepIn K (.ref a_steps) = true)
    (m_made : PySem.W.nsIn K mainGlobals "_law_made" = some (some (.ref a_made)))
    (l_made : K.lookup a_made = some ⟨oc_made, od_made, .func (PySem.W.fnOf "_law_made" "_law_made" (defArgs s_made) (defBody s_made) (defScope s_made) .none kV_made dc_made pm_made an_made cd_made ct_made), sl_made⟩)
    (o_made : PySem.W.codeIn K cd_made "_law_made" = true)
    (k_made : PySem.W.keepIn K (.ref a_made) = true)
    (m_is_sheet : PySem.W.nsIn K mainGlobals "_law_is_sheet" = some (some (.ref a_is_sheet)))
    (l_is_sheet : K.lookup a_is_sheet = some ⟨oc_is_sheet, od_is_sheet, .func (PySem.W.fnOf "_law_is_sheet" "_law_is_sheet" (defArgs s_is_sheet) (defBody s_is_sheet) (defScope s_is_sheet) .none kV_is_sheet dc_is_sheet pm_is_sheet an_is_sheet cd_is_sheet ct_is_sheet), sl_is_sheet⟩)
    (o_is_sheet : PySem.W.codeIn K cd_is_sheet "_law_is_sheet" = true)
    (k_is_sheet : PySem.W.keepIn K (.ref a_is_sheet) = true)
    (m_changed : PySem.W.nsIn K mainGlobals "_law_changed" = some (some (.ref a_changed)))
    (l_changed : K.lookup a_changed = some ⟨oc_changed, od_changed, .func (PySem.W.fnOf "_law_changed" "_law_changed" (defArgs s_changed) (defBody s_changed) (defScope s_changed) .none kV_changed dc_changed pm_changed an_changed cd_changed ct_changed), sl_changed⟩)
    (o_changed : PySem.W.codeIn K cd_changed "_law_changed" = true)
    (k_changed : PySem.W.keepIn K (.ref a_changed) = true)
    (m_bad_steps : PySem.W.nsIn K mainGlobals "_law_bad_steps" = some (some (.ref a_bad_steps)))
    (l_bad_steps : K.lookup a_bad_steps = some ⟨oc_bad_steps, od_bad_steps, .func (PySem.W.fnOf "_law_bad_steps" "_law_bad_steps" (defArgs s_bad_steps) (defBody s_bad_steps) (defScope s_bad_steps) .none kV_bad_steps dc_bad_steps pm_bad_steps an_bad_steps cd_bad_steps ct_bad_steps), sl_bad_steps⟩)
    (o_bad_steps : PySem.W.codeIn K cd_bad_steps "_law_bad_steps" = true)
    (k_bad_steps : PySem.W.keepIn K (.ref a_bad_steps) = true)
    (m_refused : PySem.W.nsIn K mainGlobals "_law_refused" = some (some (.ref a_refused)))
    (l_refused : K.lookup a_refused = some ⟨oc_refused, od_refused, .func (PySem.W.fnOf "_law_refused" "_law_refused" (defArgs s_refused) (defBody s_refused) (defScope s_refused) .none kV_refused dc_refused pm_refused an_refused cd_refused ct_refused), sl_refused⟩)
    (o_refused : PySem.W.codeIn K cd_refused "_law_refused" = true)
    (k_refused : PySem.W.keepIn K (.ref a_refused) = true)
    (m_refuses : PySem.W.nsIn K mainGlobals "_law_refuses" = some (some (.ref a_refuses)))
    (l_refuses : K.lookup a_refuses = some ⟨oc_refuses, od_refuses, .func (PySem.W.fnOf "_law_refuses" "_law_refuses" (defArgs s_refuses) (defBody s_refuses) (defScope s_refuses) .none kV_refuses dc_refuses pm_refuses an_refuses (.ref co_refuses) ct_refuses), sl_refuses⟩)
    (o_refuses : PySem.W.codeIn K (.ref co_refuses) "_law_refuses" = true)
    (k_refuses : PySem.W.keepIn K (.ref a_refuses) = true)
    (m_law : PySem.W.nsIn K mainGlobals "law" = some (some (.ref a_law)))
    (l_law : K.lookup a_law = some ⟨oc_law, od_law, .func (PySem.W.fnOf "law" "law" (defArgs s_law) (defBody s_law) (defScope s_law) .none kV_law dc_law pm_law an_law cd_law ct_law), sl_law⟩)
    (o_law : PySem.W.codeIn K cd_law "law" = true)
    (k_law : PySem.W.keepIn K (.ref a_law) = true)
    (g_Sheet : PySem.W.nsIn K mainGlobals "Sheet" = some (some (.ref C_Sheet)))
    (pg_Sheet : PySem.W.plainGet K C_Sheet Str.empty = true)
    (hd_Sheet : PySem.W.hasDictIn K C_Sheet = true)
    (po_Sheet : PySem.W.plainOver K C_Sheet = true)
    (sa_Sheet : PySem.W.findIn K (.ref C_Sheet) "__setattr__" = some (some (.builtin "object.__setattr__")))
    (n_Sheet_base : PySem.W.findIn K (.ref C_Sheet) "base" = some none)
    (n_Sheet_price : PySem.W.findIn K (.ref C_Sheet) "price" = some none)
    (n_Sheet_steps : PySem.W.findIn K (.ref C_Sheet) "steps" = some none)
    (n_Sheet_prices : PySem.W.findIn K (.ref C_Sheet) "prices" = some none)
    (cl_Sheet : PySem.W.findIn K (.ref C_Sheet) "__class__" = some (some (.builtin "object.__class__")))
    (mo_Sheet : PySem.W.mroIn K C_Sheet (.type "object") = some true)
    (q_Sheet : PySem.W.notFirst K C_Sheet (.type "tuple") = true)
    (r_Sheet : PySem.W.kitOne K (.type "tuple") (.ref C_Sheet) = some false)
    (mk_Sheet : PySem.W.makesIn K C_Sheet = true)
    (kc_Sheet : PySem.W.keepIn K (.ref C_Sheet) = true)
    (g_JourneyError : PySem.W.nsIn K mainGlobals "JourneyError" = some (some (.ref C_JourneyError)))
    (ic_JourneyError : PySem.W.isClsIn K C_JourneyError = true)
    (tc_JourneyError : PySem.W.typeIn K (.ref C_JourneyError) = some (.type "type"))
    (sg_x : PySem.W.specialIn K (.builtin "object.__class__") "__get__" = some (some (.builtin "getset_descriptor.__get__")))
    (tk_x : PySem.W.takesIn K (.builtin "object.__class__") = some true)
    (g_BadSheet : PySem.W.nsIn K mainGlobals "BadSheet" = some (some (.ref C_BadSheet)))
    (xl_BadSheet : K.lookup C_BadSheet = some (excClassObj nm_BadSheet q_BadSheet C_BadSheet N_BadSheet bs_BadSheet [.ref C_JourneyError, .type "ValueError", .type "Exception", .type "BaseException", .type "object"] true sn_BadSheet sub_BadSheet ab_BadSheet col_BadSheet dd_BadSheet m0_BadSheet m1_BadSheet m2_BadSheet m3_BadSheet m5_BadSheet "ValueError.__new__"))
    (sa_BadSheet : PySem.W.findIn K (.ref C_BadSheet) "__setattr__" = some (some (.builtin "object.__setattr__")))
    (ga_BadSheet : PySem.W.findIn K (.ref C_BadSheet) "__getattribute__" = some (some (.builtin "BaseException.__getattribute__")))
    (gg_BadSheet : PySem.W.findIn K (.ref C_BadSheet) "__getattr__" = some none)
    (cl_BadSheet : PySem.W.findIn K (.ref C_BadSheet) "__class__" = some (some (.builtin "object.__class__")))
    (kp_BadSheet : PySem.W.keepIn K (.ref C_BadSheet) = true)
    (n_BadSheet_what : PySem.W.findIn K (.ref C_BadSheet) "what" = some none)
    (y_BadSheet : PySem.W.exmOne K (.ref C_BadSheet) (.ref C_BadSheet) = some true)
    (nd_x : [C_JourneyError, C_BadSheet].Nodup)
    (m_init : PySem.W.findIn K (.ref C_Sheet) "__init__" = some (some (.ref a_init)))
    (i_init : PySem.W.isFn K (.ref a_init) = true)
    (l_init : K.lookup a_init = some ⟨oc_init, od_init, .func (PySem.W.fnOf "__init__" "Sheet.__init__" (defArgs s_init) (defBody s_init) (defScope s_init) (.ref T_init) kV_init dc_init pm_init an_init cd_init ct_init), sl_init⟩)
    (o_init : PySem.W.codeIn K cd_init "Sheet.__init__" = true)
    (k_init : PySem.W.keepIn K (.ref a_init) = true)
    (t_init : K.lookup T_init = some ⟨tc_init, td_init, .seq #[.ref ya_init, .ref yb_init] tn_init, ts_init⟩)
    (ta_init : K.lookup ya_init = some ⟨.type "tuple", da_init, .seq #[] na_init, sa_init⟩)
    (tb_init : K.lookup yb_init = some ⟨.type "tuple", db_init, .seq #[] nb_init, sb_init⟩)
    (m_eq : PySem.W.findIn K (.ref C_Sheet) "__eq__" = some (some (.ref a_eq)))
    (i_eq : PySem.W.isFn K (.ref a_eq) = true)
    (l_eq : K.lookup a_eq = some ⟨oc_eq, od_eq, .func (PySem.W.fnOf "__eq__" "Sheet.__eq__" (defArgs s_eq) (defBody s_eq) (defScope s_eq) .none kV_eq dc_eq pm_eq an_eq cd_eq ct_eq), sl_eq⟩)
    (o_eq : PySem.W.codeIn K cd_eq "Sheet.__eq__" = true)
    (k_eq : PySem.W.keepIn K (.ref a_eq) = true)
    (m_moved : PySem.W.findIn K (.ref C_Sheet) "moved" = some (some (.ref a_moved)))
    (i_moved : PySem.W.isFn K (.ref a_moved) = true)
    (l_moved : K.lookup a_moved = some ⟨oc_moved, od_moved, .func (PySem.W.fnOf "moved" "Sheet.moved" (defArgs s_moved) (defBody s_moved) (defScope s_moved) .none kV_moved dc_moved pm_moved an_moved cd_moved ct_moved), sl_moved⟩)
    (o_moved : PySem.W.codeIn K cd_moved "Sheet.moved" = true)
    (k_moved : PySem.W.keepIn K (.ref a_moved) = true)
    (m_iBadSheet : PySem.W.findIn K (.ref C_BadSheet) "__init__" = some (some (.ref a_iBadSheet)))
    (i_iBadSheet : PySem.W.isFn K (.ref a_iBadSheet) = true)
    (l_iBadSheet : K.lookup a_iBadSheet = some ⟨oc_iBadSheet, od_iBadSheet, .func (PySem.W.fnOf "__init__" "BadSheet.__init__" (defArgs s_iBadSheet) (defBody s_iBadSheet) (defScope s_iBadSheet) .none kV_iBadSheet dc_iBadSheet pm_iBadSheet an_iBadSheet cd_iBadSheet ct_iBadSheet), sl_iBadSheet⟩)
    (o_iBadSheet : PySem.W.codeIn K cd_iBadSheet "BadSheet.__init__" = true)
    (k_iBadSheet : PySem.W.keepIn K (.ref a_iBadSheet) = true)
    (z_len : PySem.W.nsIn K mainGlobals "len" = some none)
    (z_any : PySem.W.nsIn K mainGlobals "any" = some none)
    (z_tuple : PySem.W.nsIn K mainGlobals "tuple" = some none)
    (z_int : PySem.W.nsIn K mainGlobals "int" = some none)
    (z_list : PySem.W.nsIn K mainGlobals "list" = some none)
    (z_zip : PySem.W.nsIn K mainGlobals "zip" = some none)
    (z_range : PySem.W.nsIn K mainGlobals "range" = some none)
    (z_all : PySem.W.nsIn K mainGlobals "all" = some none)
    (z_isinstance : PySem.W.nsIn K mainGlobals "isinstance" = some none)
    (z_bool : PySem.W.nsIn K mainGlobals "bool" = some none)
    (z_abs : PySem.W.nsIn K mainGlobals "abs" = some none)
    (tl_refuses : K.lookup co_refuses = some ⟨ec_refuses, ed_refuses, .fields ev_refuses, es_refuses⟩)
    (tv_refuses : ev_refuses[11]? = some (.ref Pt_refuses))
    (tn_refuses : K.lookup Pt_refuses = none)
    (own : TabOf K mg h "_law_refuses") :
    LamX.LawAtS l w K CX0 20 63 "_law_script" mg fa h := by
  have e := hfa.symm.trans (PySem.W.mg_of X G m_law)
  cases e
  have F_pcross := fun_mkD (st := s_pcross) l_pcross o_pcross k_pcross
  have b_pcross : Binds K (PySem.W.fnOf "cross" "cross" (defArgs s_pcross) (defBody s_pcross) (defScope s_pcross) .none kV_pcross dc_pcross pm_pcross an_pcross cd_pcross ct_pcross) ["one", "other"] [] := .all fun us hl => match us, hl with | [_, _], _ => rfl
  have F_are_steps := fun_mkD (st := s_are_steps) l_are_steps o_are_steps k_are_steps
  have b_are_steps : Binds K (PySem.W.fnOf "_are_steps" "_are_steps" (defArgs s_are_steps) (defBody s_are_steps) (defScope s_are_steps) .none kV_are_steps dc_are_steps pm_are_steps an_are_steps cd_are_steps ct_are_steps) ["steps"] [] := .all fun us hl => match us, hl with | [_], _ => rfl
  have F_pen := fun_mkD (st := s_pen) l_pen o_pen k_pen
  have b_pen : Binds K (PySem.W.fnOf "_law_pen" "_law_pen" (defArgs s_pen) (defBody s_pen) (defScope s_pen) .none kV_pen dc_pen pm_pen an_pen cd_pen ct_pen) ["_law_script"] [] := .all fun us hl => match us, hl with | [_], _ => rfl
  have F_draw := fun_mkD (st := s_draw) l_draw o_draw k_draw
  have b_draw : Binds K (PySem.W.fnOf "_law_draw" "_law_draw" (defArgs s_draw) (defBody s_draw) (defScope s_draw) .none kV_draw dc_draw pm_draw an_draw cd_draw ct_draw) ["_law_pen_here", "_law_many"] [] := .all fun us hl => match us, hl with | [_, _], _ => rfl
  have F_pick := fun_mkD (st := s_pick) l_pick o_pick k_pick
  have b_pick : Binds K (PySem.W.fnOf "_law_pick" "_law_pick" (defArgs s_pick) (defBody s_pick) (defScope s_pick) .none kV_pick dc_pick pm_pick an_pick cd_pick ct_pick) ["_law_pen_here", "_law_some"] [] := .all fun us hl => match us, hl with | [_, _], _ => rfl
  have F_lcross := fun_mkD (st := s_lcross) l_lcross o_lcross k_lcross
  have b_lcross : Binds K (PySem.W.fnOf "_law_cross" "_law_cross" (defArgs s_lcross) (defBody s_lcross) (defScope s_lcross) .none kV_lcross dc_lcross pm_lcross an_lcross cd_lcross ct_lcross) ["_law_one", "_law_two"] [] := .all fun us hl => match us, hl with | [_, _], _ => rfl
  have F_lplus := fun_mkD (st := s_lplus) l_lplus o_lplus k_lplus
  have b_lplus : Binds K (PySem.W.fnOf "_law_plus" "_law_plus" (defArgs s_lplus) (defBody s_lplus) (defScope s_lplus) .none kV_lplus dc_lplus pm_lplus an_lplus cd_lplus ct_lplus) ["_law_one", "_law_two"] [] := .all fun us hl => match us, hl with | [_, _], _ => rfl
  have F_lmoved := fun_mkD (st := s_lmoved) l_lmoved o_lmoved k_lmoved
  have b_lmoved : Binds K (PySem.W.fnOf "_law_moved" "_law_moved" (defArgs s_lmoved) (defBody s_lmoved) (defScope s_lmoved) .none kV_lmoved dc_lmoved pm_lmoved an_lmoved cd_lmoved ct_lmoved) ["_law_sheet", "_law_shift", "_law_price"] [] := .all fun us hl => match us, hl with | [_, _, _], _ => rfl
  have F_wide := fun_mkD (st := s_wide) l_wide o_wide k_wide
  have b_wide : Binds K (PySem.W.fnOf "_law_wide" "_law_wide" (defArgs s_wide) (defBody s_wide) (defScope s_wide) .none kV_wide dc_wide pm_wide an_wide cd_wide ct_wide) ["_law_pen_here"] [] := .all fun us hl => match us, hl with | [_], _ => rfl
  have F_lexact := fun_mkD (st := s_lexact) l_lexact o_lexact k_lexact
  have b_lexact : Binds K (PySem.W.fnOf "_law_exact" "_law_exact" (defArgs s_lexact) (defBody s_lexact) (defScope s_lexact) .none kV_lexact dc_lexact pm_lexact an_lexact cd_lexact ct_lexact) ["_law_told", "_law_due"] [] := .all fun us hl => match us, hl with | [_, _], _ => rfl
  have F_near := fun_mkD (st := s_near) l_near o_near k_near
  have b_near : Binds K (PySem.W.fnOf "_law_near" "_law_near" (defArgs s_near) (defBody s_near) (defScope s_near) .none kV_near dc_near pm_near an_near cd_near ct_near) ["_law_pen_here", "_law_wide_here"] [] := .all fun us hl => match us, hl with | [_, _], _ => rfl
  have F_steps := fun_mkD (st := s_steps) l_steps o_steps k_steps
  have b_steps : Binds K (PySem.W.fnOf "_law_steps" "_law_steps" (defArgs s_steps) (defBody s_steps) (defScope s_steps) .none kV_steps dc_steps pm_steps an_steps cd_steps ct_steps) ["_law_pen_here", "_law_many", "_law_wide_here"] [] := .all fun us hl => match us, hl with | [_, _, _], _ => rfl
  have F_made := fun_mkD (st := s_made) l_made o_made k_made
  have b_made : Binds K (PySem.W.fnOf "_law_made" "_law_made" (defArgs s_made) (defBody s_made) (defScope s_made) .none kV_made dc_made pm_made an_made cd_made ct_made) ["_law_row"] [] := .all fun us hl => match us, hl with | [_], _ => rfl
  have F_is_sheet := fun_mkD (st := s_is_sheet) l_is_sheet o_is_sheet k_is_sheet
  have b_is_sheet : Binds K (PySem.W.fnOf "_law_is_sheet" "_law_is_sheet" (defArgs s_is_sheet) (defBody s_is_sheet) (defScope s_is_sheet) .none kV_is_sheet dc_is_sheet pm_is_sheet an_is_sheet cd_is_sheet ct_is_sheet) ["_law_told", "_law_row"] [] := .all fun us hl => match us, hl with | [_, _], _ => rfl
  have F_changed := fun_mkD (st := s_changed) l_changed o_changed k_changed
  have b_changed : Binds K (PySem.W.fnOf "_law_changed" "_law_changed" (defArgs s_changed) (defBody s_changed) (defScope s_changed) .none kV_changed dc_changed pm_changed an_changed cd_changed ct_changed) ["_law_pen_here", "_law_row"] [] := .all fun us hl => match us, hl with | [_, _], _ => rfl
  have F_bad_steps := fun_mkD (st := s_bad_steps) l_bad_steps o_bad_steps k_bad_steps
  have b_bad_steps : Binds K (PySem.W.fnOf "_law_bad_steps" "_law_bad_steps" (defArgs s_bad_steps) (defBody s_bad_steps) (defScope s_bad_steps) .none kV_bad_steps dc_bad_steps pm_bad_steps an_bad_steps cd_bad_steps ct_bad_steps) ["_law_pen_here", "_law_steps_here"] [] := .all fun us hl => match us, hl with | [_, _], _ => rfl
  have F_refused := fun_mkD (st := s_refused) l_refused o_refused k_refused
  have b_refused : Binds K (PySem.W.fnOf "_law_refused" "_law_refused" (defArgs s_refused) (defBody s_refused) (defScope s_refused) .none kV_refused dc_refused pm_refused an_refused cd_refused ct_refused) ["_law_call"] [] := .all fun us hl => match us, hl with | [_], _ => rfl
  have F_refuses := fun_mkD (st := s_refuses) l_refuses o_refuses k_refuses
  have b_refuses : Binds K (PySem.W.fnOf "_law_refuses" "_law_refuses" (defArgs s_refuses) (defBody s_refuses) (defScope s_refuses) .none kV_refuses dc_refuses pm_refuses an_refuses (.ref co_refuses) ct_refuses) ["_law_pen_here", "_law_row"] [] := .all fun us hl => match us, hl with | [_, _], _ => rfl
  have F_law := fun_mkD (st := s_law) l_law o_law k_law
  have b_law : Binds K (PySem.W.fnOf "law" "law" (defArgs s_law) (defBody s_law) (defScope s_law) .none kV_law dc_law pm_law an_law cd_law ct_law) ["_law_script"] [] := .all fun us hl => match us, hl with | [_], _ => rfl
  have F_init := fun_mkD (st := s_init) l_init o_init k_init
  have y_init : Dfl2 K (PySem.W.fnOf "__init__" "Sheet.__init__" (defArgs s_init) (defBody s_init) (defScope s_init) (.ref T_init) kV_init dc_init pm_init an_init cd_init ct_init) ["self", "base", "price", "steps", "prices"] := ⟨ya_init, yb_init, bnd_dfl2 t_init rfl fun us hl => match us, hl with | [_, _, _], _ => ⟨_, rfl, rfl⟩, sqt_emp ta_init, sqt_emp tb_init⟩
  have b_init : Binds K (PySem.W.fnOf "__init__" "Sheet.__init__" (defArgs s_init) (defBody s_init) (defScope s_init) (.ref T_init) kV_init dc_init pm_init an_init cd_init ct_init) ["self", "base", "price", "steps", "prices"] [] := bnd_dflt t_init rfl fun us hl => match us, hl with | [_, _, _, _, _], _ => ⟨_, rfl, rfl⟩
  have F_eq := fun_mkD (st := s_eq) l_eq o_eq k_eq
  have b_eq : Binds K (PySem.W.fnOf "__eq__" "Sheet.__eq__" (defArgs s_eq) (defBody s_eq) (defScope s_eq) .none kV_eq dc_eq pm_eq an_eq cd_eq ct_eq) ["self", "other"] [] := .all fun us hl => match us, hl with | [_, _], _ => rfl
  have F_moved := fun_mkD (st := s_moved) l_moved o_moved k_moved
  have b_moved : Binds K (PySem.W.fnOf "moved" "Sheet.moved" (defArgs s_moved) (defBody s_moved) (defScope s_moved) .none kV_moved dc_moved pm_moved an_moved cd_moved ct_moved) ["self", "shift", "price"] [] := .all fun us hl => match us, hl with | [_, _, _], _ => rfl
  have F_iBadSheet := fun_mkD (st := s_iBadSheet) l_iBadSheet o_iBadSheet k_iBadSheet
  have b_iBadSheet : Binds K (PySem.W.fnOf "__init__" "BadSheet.__init__" (defArgs s_iBadSheet) (defBody s_iBadSheet) (defScope s_iBadSheet) .none kV_iBadSheet dc_iBadSheet pm_iBadSheet an_iBadSheet cd_iBadSheet ct_iBadSheet) ["self", "what"] [] := .all fun us hl => match us, hl with | [_, _], _ => rfl
  obtain ⟨hTab, hHd⟩ := own (PySem.W.mg_of X G m_refuses) l_refuses rfl rfl tl_refuses tv_refuses
  let TX : Txt K mg := { a_pcross := a_pcross, f_pcross := _, d_pcross := ⟨F_pcross, PySem.W.mg_of X G m_pcross, b_pcross⟩, a_are_steps := a_are_steps, f_are_steps := _, d_are_steps := ⟨F_are_steps, PySem.W.mg_of X G m_are_steps, b_are_steps⟩, a_pen := a_pen, f_pen := _, d_pen := ⟨F_pen, PySem.W.mg_of X G m_pen, b_pen⟩, a_draw := a_draw, f_draw := _, d_draw := ⟨F_draw, PySem.W.mg_of X G m_draw, b_draw⟩, a_pick := a_pick, f_pick := _, d_pick := ⟨F_pick, PySem.W.mg_of X G m_pick, b_pick⟩, a_lcross := a_lcross, f_lcross := _, d_lcross := ⟨F_lcross, PySem.W.mg_of X G m_lcross, b_lcross⟩, a_lplus := a_lplus, f_lplus := _, d_lplus := ⟨F_lplus, PySem.W.mg_of X G m_lplus, b_lplus⟩, a_lmoved := a_lmoved, f_lmoved := _, d_lmoved := ⟨F_lmoved, PySem.W.mg_of X G m_lmoved, b_lmoved⟩, a_wide := a_wide, f_wide := _, d_wide := ⟨F_wide, PySem.W.mg_of X G m_wide, b_wide⟩, a_lexact := a_lexact, f_lexact := _, d_lexact := ⟨F_lexact, PySem.W.mg_of X G m_lexact, b_lexact⟩, a_near := a_near, f_near := _, d_near := ⟨F_near, PySem.W.mg_of X G m_near, b_near⟩, a_steps := a_steps, f_steps := _, d_steps := ⟨F_steps, PySem.W.mg_of X G m_steps, b_steps⟩, a_made := a_made, f_made := _, d_made := ⟨F_made, PySem.W.mg_of X G m_made, b_made⟩, a_is_sheet := a_is_sheet, f_is_sheet := _, d_is_sheet := ⟨F_is_sheet, PySem.W.mg_of X G m_is_sheet, b_is_sheet⟩, a_changed := a_changed, f_changed := _, d_changed := ⟨F_changed, PySem.W.mg_of X G m_changed, b_changed⟩, a_bad_steps := a_bad_steps, f_bad_steps := _, d_bad_steps := ⟨F_bad_steps, PySem.W.mg_of X G m_bad_steps, b_bad_steps⟩, a_refused := a_refused, f_refused := _, d_refused := ⟨F_refused, PySem.W.mg_of X G m_refused, b_refused⟩, a_refuses := a_refuses, f_refuses := _, d_refuses := ⟨F_refuses, PySem.W.mg_of X G m_refuses, b_refuses⟩, a_law := _, f_law := _, d_law := ⟨F_law, PySem.W.mg_of X G m_law, b_law⟩, C_Sheet := C_Sheet, c_Sheet := ⟨pg_Sheet, hd_Sheet, po_Sheet, sa_Sheet⟩, g_Sheet := PySem.W.mg_of X G g_Sheet, n_Sheet_base := n_Sheet_base, n_Sheet_price := n_Sheet_price, n_Sheet_steps := n_Sheet_steps, n_Sheet_prices := n_Sheet_prices, i_Sheet := ⟨cl_Sheet, sg_x, tk_x, mo_Sheet⟩, q_Sheet := q_Sheet, r_Sheet := r_Sheet, C_JourneyError := C_JourneyError, g_JourneyError := PySem.W.mg_of X G g_JourneyError, C_BadSheet := C_BadSheet, e_BadSheet := exk_of xl_BadSheet sa_BadSheet ga_BadSheet gg_BadSheet cl_BadSheet kp_BadSheet sg_x tk_x, g_BadSheet := PySem.W.mg_of X G g_BadSheet, n_BadSheet_what := n_BadSheet_what, y_BadSheet := y_BadSheet, kits := kits_of (exl_cons (exl_of xl_BadSheet)  exl_nil ) ic_JourneyError tc_JourneyError nd_x, y_init := y_init, a_init := a_init, f_init := _, d_init := ⟨F_init, ⟨m_init, i_init, k_init⟩⟩, b_init := b_init, k_Sheet := ⟨mk_Sheet, m_init, i_init, kc_Sheet⟩, a_eq := a_eq, f_eq := _, d_eq := ⟨F_eq, ⟨m_eq, i_eq, k_eq⟩⟩, b_eq := b_eq, a_moved := a_moved, f_moved := _, d_moved := ⟨F_moved, ⟨m_moved, i_moved, k_moved⟩⟩, b_moved := b_moved, a_iBadSheet := a_iBadSheet, f_iBadSheet := _, d_iBadSheet := ⟨F_iBadSheet, ⟨m_iBadSheet, i_iBadSheet, k_iBadSheet⟩⟩, b_iBadSheet := b_iBadSheet, c_refuses := co_refuses, P_refuses := Pt_refuses, t_refuses := ⟨_, _, _, _, _, _, _, _, _, l_refuses, rfl, o_refuses⟩, z_len := PySem.W.mg_none_of X G z_len, z_any := PySem.W.mg_none_of X G z_any, z_tuple := PySem.W.mg_none_of X G z_tuple, z_int := PySem.W.mg_none_of X G z_int, z_list := PySem.W.mg_none_of X G z_list, z_zip := PySem.W.mg_none_of X G z_zip, z_range := PySem.W.mg_none_of X G z_range, z_all := PySem.W.mg_none_of X G z_all, z_isinstance := PySem.W.mg_none_of X G z_isinstance, z_bool := PySem.W.mg_none_of X G z_bool, z_abs := PySem.W.mg_none_of X G z_abs }
  exact ⟨PySem.W.fnOf "law" "law" (defArgs s_law) (defBody s_law) (defScope s_law) .none kV_law dc_law pm_law an_law cd_law ct_law, [(co_refuses, Pt_refuses)], spLawT TX, fun p hp => by rw [List.mem_singleton.mp hp]; exact hTab, fun p hp => by rw [List.mem_singleton.mp hp]; exact tn_refuses, fun p hp => by rw [List.mem_singleton.mp hp]; exact hHd, fun s v => .of_eq rfl, fun H a ns hl _ hP hS => ⟨a, ns, rfl, hS, hl, fun p hp => by rw [List.mem_singleton.mp hp]; exact LamX.TabS.nil (hP _ (List.mem_singleton.mpr rfl)), fun _ => rfl⟩, fun base _ _ hB => ok_law TX (hB _ (List.mem_singleton.mpr rfl))⟩
theorem walk {l : PySem.W.OpenLaw} {q : Program} {loose : List Str} {XP : (Str → Option Value) → Heap → Prop} {YP : World → Heap → Prop} {d : DefRec} {K : Params → Fr} (x : Str) (hn : l.most = some 63) (hdf : d.params.defaults = [])
    (hx : (PyProof.Rows.recsOf q).any (fun e => e.name == x) = true) (hY : ∀ (w : World) (h : Heap), YP w h → (K w.params).In h)
    (F : ∀ (w : World) (mg : Str → Option Value) (fa : Addr) (h : Heap), (K w.params).In h → h.Ns mainGlobals mg → mg d.name = some (.ref fa) → TabOf (K w.params) mg h x → LamX.LawAtS l w (K w.params) CX0 20 63 "_law_script" mg fa h) :
    PySem.W.WalkO q loose XP YP l.row.toRowW d [] (fun f vs => PySem.call f vs) := by
  refine Att.attach_callB hn hdf fun w s₀ s mg mb fa _ _ _ _ a vs ns G Y _ _ _ em obj hin len bits gens => ?_
  have KX := hY w _ Y
  have own : TabOf (K w.params) mg s.heap x := by
    intro b c P o fd ec ed ev es k1 k2 k3 k4 k5 k6
    obtain ⟨r, mr, er⟩ := List.any_eq_true.mp hx
    obtain ⟨b', o', fd', c', P', t1, t2, t3, t4, t5, t6⟩ := G.T.tab r mr
    rw [show r.name = x from beq_iff_eq.mp er, k1] at t1
    cases t1
    rw [KX _ _ k2] at t2
    cases t2
    rw [k3] at t3
    cases t3
    rw [k4] at t4
    cases t4
    have hd := PySem.W.CodeHd.of t5 t6
    obtain ⟨⟨oc, vc, y1, _, y3, y4⟩, y5⟩ := t6
    rw [KX _ _ k5] at y1
    cases y1
    cases y3
    rw [k6] at y4
    cases y4
    exact ⟨y5, hd⟩
  obtain ⟨fd, cs, sp, u1, u2, u3, u4, u5, u6⟩ := F w mg fa _ KX G.T.g em own
  exact LamX.law_callTs KX G.T.g G.T.b G.T.builtins G.T.nolimit gens u1 u2 u3 G.T.bmain obj hin (Nat.le_trans len (by decide)) ⟨rfl, by decide, by decide⟩ u6 u4 (fun H hH hS => u5 H a ns len bits hH hS) fun _ _ _ z => z
end
end LW
open PySem PySem.W PyProof.Rows
set_option maxRecDepth 100000 in
set_option maxHeartbeats 0 in
theorem PySem.Challenge.cw_alljourneys_k03_sheets_made_and_moved_holds : PySem.Challenge.rw_alljourneys_k03_sheets_made_and_moved.Holds := by
  w_on; o_law; k_head; (case hw => w_witness2)
  k_fill
  refine LW.walk (l := PySem.Challenge.rw_alljourneys_k03_sheets_made_and_moved) "_law_refuses" rfl rfl (by decide +kernel) (fun w h Y => PySem.W.km_in_of Y) ?F
  case F =>
    intro w mg fa h KX G hmg own
    refine' LW.all_mk KX G hmg ?m_pcross ?l_pcross ?o_pcross ?k_pcross ?m_are_steps ?l_are_steps ?o_are_steps ?k_are_steps ?m_pen ?l_pen ?o_pen ?k_pen ?m_draw ?l_draw ?o_draw ?k_draw ?m_pick ?l_pick ?o_pick ?k_pick ?m_lcross ?l_lcross ?o_lcross ?k_lcross ?m_lplus ?l_lplus ?o_lplus ?k_lplus ?m_lmoved ?l_lmoved ?o_lmoved ?k_lmoved ?m_wide ?l_wide ?o_wide ?k_wide ?m_lexact ?l_lexact ?o_lexact ?k_lexact ?m_near ?l_near ?o_near ?k_near ?m_steps ?l_steps ?o_steps ?k_steps ?m_made ?l_made ?o_made ?k_made ?m_is_sheet ?l_is_sheet ?o_is_sheet ?k_is_sheet ?m_changed ?l_changed ?o_changed ?k_changed ?m_bad_steps ?l_bad_steps ?o_bad_steps ?k_bad_steps ?m_refused ?l_refused ?o_refused ?k_refused ?m_refuses ?l_refuses ?o_refuses ?k_refuses ?m_law ?l_law ?o_law ?k_law ?g_Sheet ?pg_Sheet ?hd_Sheet ?po_Sheet ?sa_Sheet ?n_Sheet_base ?n_Sheet_price ?n_Sheet_steps ?n_Sheet_prices ?cl_Sheet ?mo_Sheet ?q_Sheet ?r_Sheet ?mk_Sheet ?kc_Sheet ?g_JourneyError ?ic_JourneyError ?tc_JourneyError ?sg_x ?tk_x ?g_BadSheet ?xl_BadSheet ?sa_BadSheet ?ga_BadSheet ?gg_BadSheet ?cl_BadSheet ?kp_BadSheet ?n_BadSheet_what ?y_BadSheet ?nd_x ?m_init ?i_init ?l_init ?o_init ?k_init ?t_init ?ta_init ?tb_init ?m_eq ?i_eq ?l_eq ?o_eq ?k_eq ?m_moved ?i_moved ?l_moved ?o_moved ?k_moved ?m_iBadSheet ?i_iBadSheet ?l_iBadSheet ?o_iBadSheet ?k_iBadSheet ?z_len ?z_any ?z_tuple ?z_int ?z_list ?z_zip ?z_range ?z_all ?z_isinstance ?z_bool ?z_abs ?tl_refuses ?tv_refuses ?tn_refuses own
    (case m_pcross => k_is); (case l_pcross => k_is); (case o_pcross => k_is); (case k_pcross => k_is); (case m_are_steps => k_is); (case l_are_steps => k_is); (case o_are_steps => k_is); (case k_are_steps => k_is)
    (case m_pen => k_is); (case l_pen => k_is); (case o_pen => k_is); (case k_pen => k_is); (case m_draw => k_is); (case l_draw => k_is); (case o_draw => k_is); (case k_draw => k_is)
    (case m_pick => k_is); (case l_pick => k_is); (case o_pick => k_is); (case k_pick => k_is); (case m_lcross => k_is); (case l_lcross => k_is); (case o_lcross => k_is); (case k_lcross => k_is)
    (case m_lplus => k_is); (case l_lplus => k_is); (case o_lplus => k_is); (case k_lplus => k_is); (case m_lmoved => k_is); (case l_lmoved => k_is); (case o_lmoved => k_is); (case k_lmoved => k_is)
    (case m_wide => k_is); (case l_wide => k_is); (case o_wide => k_is); (case k_wide => k_is); (case m_lexact => k_is); (case l_lexact => k_is); (case o_lexact => k_is); (case k_lexact => k_is)
    (case m_near => k_is); (case l_near => k_is); (case o_near => k_is); (case k_near => k_is); (case m_steps => k_is); (case l_steps => k_is); (case o_steps => k_is); (case k_steps => k_is)
    (case m_made => k_is); (case l_made => k_is); (case o_made => k_is); (case k_made => k_is); (case m_is_sheet => k_is); (case l_is_sheet => k_is); (case o_is_sheet => k_is); (case k_is_sheet => k_is)
    (case m_changed => k_is); (case l_changed => k_is); (case o_changed => k_is); (case k_changed => k_is); (case m_bad_steps => k_is); (case l_bad_steps => k_is); (case o_bad_steps => k_is); (case k_bad_steps => k_is)
    (case m_refused => k_is); (case l_refused => k_is); (case o_refused => k_is); (case k_refused => k_is); (case m_refuses => k_is); (case l_refuses => k_is); (case o_refuses => k_is); (case k_refuses => k_is)
    (case m_law => k_is); (case l_law => k_is); (case o_law => k_is); (case k_law => k_is); (case g_Sheet => k_is); (case pg_Sheet => k_is); (case hd_Sheet => k_is); (case po_Sheet => k_is)
    (case sa_Sheet => k_is); (case n_Sheet_base => k_is); (case n_Sheet_price => k_is); (case n_Sheet_steps => k_is); (case n_Sheet_prices => k_is); (case cl_Sheet => k_is); (case mo_Sheet => k_is); (case q_Sheet => k_is)
    (case r_Sheet => kit_is); (case mk_Sheet => k_is); (case kc_Sheet => k_is); (case g_JourneyError => k_is); (case ic_JourneyError => k_is); (case tc_JourneyError => k_is); (case sg_x => k_is); (case tk_x => k_is)
    (case g_BadSheet => k_is); (case xl_BadSheet => k_is); (case sa_BadSheet => k_is); (case ga_BadSheet => k_is); (case gg_BadSheet => k_is); (case cl_BadSheet => k_is); (case kp_BadSheet => k_is); (case n_BadSheet_what => k_is)
    (case y_BadSheet => kts_exm); (case nd_x => decide); (case m_init => k_is); (case i_init => k_is); (case l_init => k_is); (case o_init => k_is); (case k_init => k_is); (case t_init => k_is)
    (case ta_init => k_is); (case tb_init => k_is); (case m_eq => k_is); (case i_eq => k_is); (case l_eq => k_is); (case o_eq => k_is); (case k_eq => k_is); (case m_moved => k_is)
    (case i_moved => k_is); (case l_moved => k_is); (case o_moved => k_is); (case k_moved => k_is); (case m_iBadSheet => k_is); (case i_iBadSheet => k_is); (case l_iBadSheet => k_is); (case o_iBadSheet => k_is)
    (case k_iBadSheet => k_is); (case z_len => k_is); (case z_any => k_is); (case z_tuple => k_is); (case z_int => k_is); (case z_list => k_is); (case z_zip => k_is); (case z_range => k_is)
    (case z_all => k_is); (case z_isinstance => k_is); (case z_bool => k_is); (case z_abs => k_is); (case tl_refuses => k_is); (case tv_refuses => rfl); (case tn_refuses => rfl)
