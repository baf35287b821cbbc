/- Contracts of the program's functions, part 15: own work, joined in build order. -/
import Derived.Test.YtfkkomppfghagaaGreatDoorJ14
import Derived.Maps.AppendAt
import Derived.Laws.AppendOwnNone
import Derived.Deep.Slices
import Derived.Deep.Grids
import Derived.ChangeSlices
import Derived.ProofKit
import Derived.SizedLaws
import Derived.OpenShut
namespace Go.Proofs.YtfkkomppfghagaaGreatDoor
open Go.RowKit
set_option maxRecDepth 100000
set_option linter.unusedVariables false
structure Fc (p q N D n : Nat) : Prop where
  low : Nat.gcd p q = 1
  pos : 0 < q
  dpos : 0 < D
  val : p * D = N * q
  s1 : p < P n
  s2 : q < P n
theorem Fc.rs1 {p q N D n : Nat} (h : Fc p q N D n) (hn : n ≤ 90) : RS p := ⟨Nat.lt_of_lt_of_le h.s1 (P_le hn)⟩
theorem Fc.rs2 {p q N D n : Nat} (h : Fc p q N D n) (hn : n ≤ 90) : RS q := ⟨Nat.lt_of_lt_of_le h.s2 (P_le hn)⟩
theorem Fc.own {p q n : Nat} (h1 : Nat.gcd p q = 1) (h2 : 0 < q) (h3 : p < P n) (h4 : q < P n) : Fc p q p q n := ⟨h1, h2, h2, rfl, h3, h4⟩
theorem add_cross {p q x y : Nat} (hq : 0 < q) (hy : 0 < y) (h1 : Nat.gcd p q = 1) (h2 : Nat.gcd x y = 1) : addP p q x y * (q * y) = (p * y + x * q) * addQ p q x y := by
  obtain ⟨e1, e2⟩ := add_same hq hy h1 h2
  obtain ⟨_, t2, _⟩ := low_terms (p * y + x * q) (q * y) (Nat.mul_pos hq hy)
  rw [e1, e2] at t2
  exact t2
theorem mulP_lt {x y n m : Nat} (h : x < P n) (k : y < P m) : x * y < P (n + m) := by
  rw [P_add]
  exact Nat.mul_lt_mul'' h k
theorem P_up {x n m : Nat} (h : x < P n) (hm : n ≤ m) : x < P m := Nat.lt_of_lt_of_le h (P_le hm)
theorem val_add {p q x y N1 D1 N2 D2 A B : Nat} (hq : 0 < q) (hy : 0 < y) (v1 : p * D1 = N1 * q) (v2 : x * D2 = N2 * y) (e : A * (q * y) = (p * y + x * q) * B) : A * (D1 * D2) = (N1 * D2 + N2 * D1) * B := by
  refine Nat.eq_of_mul_eq_mul_right (Nat.mul_pos hq hy) ?_
  have h1 : A * (D1 * D2) * (q * y) = A * (q * y) * (D1 * D2) := by grind
  have h2 : (p * y + x * q) * B * (D1 * D2) = (p * D1 * y * D2 + x * D2 * q * D1) * B := by grind
  rw [h1, e, h2, v1, v2]
  grind
theorem val_mul {p q x y N1 D1 N2 D2 A B : Nat} (hq : 0 < q) (hy : 0 < y) (v1 : p * D1 = N1 * q) (v2 : x * D2 = N2 * y) (e : A * (q * y) = p * x * B) : A * (D1 * D2) = N1 * N2 * B := by
  refine Nat.eq_of_mul_eq_mul_right (Nat.mul_pos hq hy) ?_
  have h1 : A * (D1 * D2) * (q * y) = A * (q * y) * (D1 * D2) := by grind
  have h2 : p * x * B * (D1 * D2) = p * D1 * (x * D2) * B := by grind
  rw [h1, e, h2, v1, v2]
  grind
theorem Fc.add {p q N1 D1 n x y N2 D2 m : Nat} (h : Fc p q N1 D1 n) (k : Fc x y N2 D2 m) (hn : n ≤ 90) (hm : m ≤ 90) : ∃ A B, Fc A B (N1 * D2 + N2 * D1) (D1 * D2) (n + m + 1) ∧ (A = addP p q x y ∧ B = addQ p q x y) ∧ ∀ v u w, Rt w v p q → Rt w u x y → Tab w → Calls Tryz.prog 35 #[v, u] w (MakesR w A B) := by
  have low := add_low h.pos k.pos h.low k.low (A := addA p q x y) rfl rfl
  have d1 : y / Nat.gcd q y < P m := Nat.lt_of_le_of_lt (Nat.div_le_self _ _) k.s2
  have d2 : q / Nat.gcd q y < P n := Nat.lt_of_le_of_lt (Nat.div_le_self _ _) h.s2
  have h1 : addA p q x y < P (n + m + 1) := P_twice (mulP_lt h.s1 d1) (by rw [Nat.add_comm n m]; exact mulP_lt k.s1 d2)
  have h2 : addQ p q x y < P (n + m) := mulP_lt d2 (Nat.lt_of_le_of_lt (Nat.div_le_self _ _) k.s2)
  exact ⟨_, _, ⟨low.2.1, low.2.2, Nat.mul_pos h.dpos k.dpos, val_add h.pos k.pos h.val k.val (add_cross h.pos k.pos h.low k.low), Nat.lt_of_le_of_lt (Nat.div_le_self _ _) h1, P_up h2 (by omega)⟩, ⟨rfl, rfl⟩, fun v u w e1 e2 hT => ratAdd_any v u p q x y w e1 e2 (h.rs1 hn) (h.rs2 hn) (k.rs1 hm) (k.rs2 hm) hT⟩
theorem Fc.mul {p q N1 D1 n x y N2 D2 m : Nat} (h : Fc p q N1 D1 n) (k : Fc x y N2 D2 m) (hn : n ≤ 90) (hm : m ≤ 90) : ∃ A B, Fc A B (N1 * N2) (D1 * D2) (n + m) ∧ ∀ v u w, Rt w v p q → Rt w u x y → Tab w → Calls Tryz.prog 36 #[v, u] w (MakesR w A B) := by
  have low := mul_low h.pos k.pos h.low k.low
  exact ⟨_, _, ⟨low.1, low.2.1, Nat.mul_pos h.dpos k.dpos, val_mul h.pos k.pos h.val k.val low.2.2, mulP_lt (Nat.lt_of_le_of_lt (Nat.div_le_self _ _) h.s1) (Nat.lt_of_le_of_lt (Nat.div_le_self _ _) k.s1), mulP_lt (Nat.lt_of_le_of_lt (Nat.div_le_self _ _) h.s2) (Nat.lt_of_le_of_lt (Nat.div_le_self _ _) k.s2)⟩, fun v u w e1 e2 hT => ratMul_any v u p q x y w e1 e2 (h.rs1 hn) (h.rs2 hn) (k.rs1 hm) (k.rs2 hm) hT⟩
theorem Fc.cross {p q N1 D1 n x y N2 D2 m : Nat} (h : Fc p q N1 D1 n) (k : Fc x y N2 D2 m) : (p * y) * (D1 * D2) = (N1 * D2) * (q * y) ∧ (x * q) * (D1 * D2) = (N2 * D1) * (q * y) := by
  constructor
  · have : (p * y) * (D1 * D2) = p * D1 * (y * D2) := by grind
    rw [this, h.val]
    grind
  have : (x * q) * (D1 * D2) = x * D2 * (q * D1) := by grind
  rw [this, k.val]
  grind
theorem Fc.le {p q N1 D1 n x y N2 D2 m : Nat} (h : Fc p q N1 D1 n) (k : Fc x y N2 D2 m) : x * q ≤ p * y ↔ N2 * D1 ≤ N1 * D2 := by
  obtain ⟨e1, e2⟩ := h.cross k
  have hd := Nat.mul_pos h.dpos k.dpos
  have hq := Nat.mul_pos h.pos k.pos
  rw [← Nat.mul_le_mul_right_iff hd, e1, e2, Nat.mul_le_mul_right_iff hq]
theorem Fc.zero {p q N D n : Nat} (h : Fc p q N D n) : p = 0 ↔ N = 0 := by
  have h1 := h.val
  have h2 := h.pos
  have h3 := h.dpos
  constructor
  · rintro rfl
    rw [Nat.zero_mul] at h1
    rcases Nat.mul_eq_zero.1 h1.symm with e | e
    · exact e
    omega
  rintro rfl
  rw [Nat.zero_mul] at h1
  rcases Nat.mul_eq_zero.1 h1 with e | e
  · exact e
  omega
theorem Fc.div {p q N1 D1 n x y N2 D2 m : Nat} (h : Fc p q N1 D1 n) (k : Fc x y N2 D2 m) (hn : n ≤ 90) (hm : m ≤ 90) (h0 : 0 < N2) : ∃ A B, Fc A B (N1 * D2) (D1 * N2) (n + m) ∧ ∀ v u w, Rt w v p q → Rt w u x y → Tab w → Calls Tryz.prog 38 #[v, u] w (MakesRB w A B true) := by
  have x0 : 0 < x := Nat.pos_of_ne_zero fun e => by have := k.zero.1 e; omega
  have low := mul_low (p := p) (q := q) (x := y) (y := x) h.pos x0 h.low (by rw [Nat.gcd_comm]; exact k.low)
  exact ⟨_, _, ⟨low.1, low.2.1, Nat.mul_pos h.dpos h0, val_mul (x := y) (y := x) (N2 := D2) (D2 := N2) h.pos x0 h.val (by rw [Nat.mul_comm y, Nat.mul_comm D2]; exact k.val.symm) low.2.2, mulP_lt (Nat.lt_of_le_of_lt (Nat.div_le_self _ _) h.s1) (Nat.lt_of_le_of_lt (Nat.div_le_self _ _) k.s2), mulP_lt (Nat.lt_of_le_of_lt (Nat.div_le_self _ _) h.s2) (Nat.lt_of_le_of_lt (Nat.div_le_self _ _) k.s1)⟩, fun v u w e1 e2 hT => ratDiv_yes v u p q x y w e1 e2 (h.rs1 hn) (h.rs2 hn) (k.rs1 hm) (k.rs2 hm) x0 hT⟩
theorem cmp_scale {a b c d s t : Nat} (hs : 0 < s) (ht : 0 < t) (e1 : a * s = c * t) (e2 : b * s = d * t) : cmpI a b = cmpI c d := by
  have l1 : a < b ↔ c < d := by rw [← Nat.mul_lt_mul_right hs, e1, e2, Nat.mul_lt_mul_right ht]
  have l2 : b < a ↔ d < c := by rw [← Nat.mul_lt_mul_right hs, e1, e2, Nat.mul_lt_mul_right ht]
  unfold cmpI
  by_cases h1 : a < b
  · rw [if_pos h1, if_pos (l1.1 h1)]
  rw [if_neg h1, if_neg (fun e => h1 (l1.2 e))]
  by_cases h2 : b < a
  · have h3 := l2.1 h2
    rw [if_neg (by omega), if_neg (by omega)]
  have h3 : ¬ d < c := fun e => h2 (l2.2 e)
  have h4 : ¬ c < d := fun e => h1 (l1.2 e)
  rw [if_pos (by omega), if_pos (by omega)]
theorem Fc.cmp {p q N1 D1 n x y N2 D2 m : Nat} (h : Fc p q N1 D1 n) (k : Fc x y N2 D2 m) (hn : n ≤ 90) (hm : m ≤ 90) {z : Int} (hz : cmpI (N1 * D2) (N2 * D1) = z) : ∀ v u w, Rt w v p q → Rt w u x y → Calls Tryz.prog 21 #[v, u] w fun e w' => e = .returned (.int .i64 z) ∧ Below w.heap.size w w' := fun v u w e1 e2 => by
  have := ratCmp_any v u p q x y w e1 e2 (h.rs1 hn) (h.rs2 hn) (k.rs1 hm) (k.rs2 hm)
  rw [cmp_scale (Nat.mul_pos h.dpos k.dpos) (Nat.mul_pos h.pos k.pos) (h.cross k).1 (h.cross k).2, hz] at this
  exact this
theorem cmpI_same {x y : Nat} (h : x = y) : cmpI x y = 0 := by unfold cmpI; rw [if_neg (by omega), if_pos h]
def tri (a b c : Nat) : Nat → Nat := fun i => if i = 0 then a else if i = 1 then b else c
def Three (w : World) (v : Value) (X Y : Nat → Nat) : Prop := ∃ (g : Nat) (E E' : Nat → Value), v = .slice (some ⟨g, 0, none⟩) 3 3 ∧ g < w.heap.size ∧ ∀ i, i < 3 → w.cell? ⟨g, i * 2, none⟩ = some (E i) ∧ w.cell? ⟨g, i * 2 + 1, none⟩ = some (E' i) ∧ Rt w (.agg #[E i, E' i]) (X i) (Y i)
theorem Three.mono {w w' : World} {v : Value} {X Y : Nat → Nat} (h : Three w v X Y) (hb : Below w.heap.size w w') : Three w' v X Y := by
  obtain ⟨g, E, E', e, hg, he⟩ := h
  exact ⟨g, E, E', e, Nat.lt_of_lt_of_le hg hb.size, fun i hi => ⟨cell_later hb (he i hi).1, cell_later hb (he i hi).2.1, (he i hi).2.2.mono hb⟩⟩
theorem Fc.sum {p1 q1 N1 D1 n1 p2 q2 N2 D2 n2 p3 q3 N3 D3 n3 : Nat} (h1 : Fc p1 q1 N1 D1 n1) (h2 : Fc p2 q2 N2 D2 n2) (h3 : Fc p3 q3 N3 D3 n3) (hn : n1 + n2 + n3 + 4 ≤ 90) : ∃ A B, Fc A B ((N1 * D2 + N2 * D1) * D3 + N3 * (D1 * D2)) (D1 * D2 * D3) (n1 + n2 + n3 + 4) ∧ ∀ v w, Three w v (tri p1 p2 p3) (tri q1 q2 q3) → Tab w → Calls Tryz.prog 37 #[v] w (MakesR w A B) := by
  have z : Fc 0 1 0 1 1 := ⟨by simp, by omega, by omega, rfl, by rw [P_one]; omega, by rw [P_one]; omega⟩
  obtain ⟨A1, B1, f1, g1, _⟩ := z.add h1 (by omega) (by omega)
  obtain ⟨A2, B2, f2, g2, _⟩ := f1.add h2 (by omega) (by omega)
  obtain ⟨A3, B3, f3, g3, _⟩ := f2.add h3 (by omega) (by omega)
  have e1 : sumPQ (tri p1 p2 p3) (tri q1 q2 q3) 1 = (A1, B1) := by
    rw [g1.1, g1.2]
    rfl
  have e2 : sumPQ (tri p1 p2 p3) (tri q1 q2 q3) 2 = (A2, B2) := by
    rw [g2.1, g2.2, sumPQ, e1]
    rfl
  have e3 : sumPQ (tri p1 p2 p3) (tri q1 q2 q3) 3 = (A3, B3) := by
    rw [g3.1, g3.2, sumPQ, e2]
    rfl
  refine ⟨A3, B3, ⟨f3.low, f3.pos, Nat.mul_pos (Nat.mul_pos h1.dpos h2.dpos) h3.dpos, ?_, P_up f3.s1 (by omega), P_up f3.s2 (by omega)⟩, fun v w hv hT => ?_⟩
  · have := f3.val
    simp only [Nat.zero_mul, Nat.one_mul, Nat.mul_one, Nat.zero_add] at this
    exact this
  obtain ⟨g, E, E', rfl, hg, he⟩ := hv
  have hs : ∀ i, i < 3 → RS (tri p1 p2 p3 i) ∧ RS (tri q1 q2 q3 i) ∧ RS (sumPQ (tri p1 p2 p3) (tri q1 q2 q3) i).1 ∧ RS (sumPQ (tri p1 p2 p3) (tri q1 q2 q3) i).2 := fun i hi => by
    match i, hi with
    | 0, _ => exact ⟨h1.rs1 (by omega), h1.rs2 (by omega), z.rs1 (by omega), z.rs2 (by omega)⟩
    | 1, _ => rw [e1]; exact ⟨h2.rs1 (by omega), h2.rs2 (by omega), f1.rs1 (by omega), f1.rs2 (by omega)⟩
    | 2, _ => rw [e2]; exact ⟨h3.rs1 (by omega), h3.rs2 (by omega), f2.rs1 (by omega), f2.rs2 (by omega)⟩
  have := ratSum_any g 3 3 E E' (tri p1 p2 p3) (tri q1 q2 q3) w (by omega) (by omega) (by omega) he hs hg hT
  rw [e3] at this
  exact this
def MSpec : Type := { R : World → Value → Prop // ∀ {w w' : World} {v : Value}, R w v → Below w.heap.size w w' → R w' v }
def Spec.m (s : Spec) : MSpec := ⟨s.1, fun h hb => s.2.mono h hb⟩
theorem Fc.dvd {p q N D n : Nat} (h : Fc p q N D n) : p ∣ N ∧ q ∣ D := by
  refine ⟨Nat.Coprime.dvd_of_dvd_mul_right h.low ⟨D, h.val.symm⟩, ?_⟩
  exact Nat.Coprime.dvd_of_dvd_mul_left (Nat.Coprime.symm h.low) ⟨N, by rw [h.val, Nat.mul_comm]⟩
theorem Fc.le1 {p q N D n : Nat} (h : Fc p q N D n) : p ≤ N := by
  rcases Nat.eq_zero_or_pos N with e | e
  · rw [h.zero.2 e]
    omega
  exact Nat.le_of_dvd e h.dvd.1
theorem Fc.le2 {p q N D n : Nat} (h : Fc p q N D n) : q ≤ D := Nat.le_of_dvd h.dpos h.dvd.2
theorem Fc.norm {p q N D n m : Nat} (h : Fc p q N D n) (hN : N < P m) (hD : D < P m) : Fc p q N D m :=
  ⟨h.low, h.pos, h.dpos, h.val, Nat.lt_of_le_of_lt h.le1 hN, Nat.lt_of_le_of_lt h.le2 hD⟩
theorem Fc.scale {p q N D k n N' D' : Nat} (h : Fc p q N' D' n) (hN : N' = N * k) (hD : D' = D * k) (hk : 0 < k) : Fc p q N D n := by
  subst hN hD
  refine ⟨h.low, h.pos, Nat.pos_of_ne_zero fun e => ?_, ?_, h.s1, h.s2⟩
  · have := h.dpos
    rw [e, Nat.zero_mul] at this
    omega
  refine Nat.eq_of_mul_eq_mul_right hk ?_
  have := h.val
  rw [Nat.mul_assoc, this]
  grind
theorem Fc.one {p q p' q' N D n m : Nat} (h : Fc p q N D n) (k : Fc p' q' N D m) : p = p' ∧ q = q' := by
  have e : p * q' = p' * q := by
    refine Nat.eq_of_mul_eq_mul_right h.dpos ?_
    have h1 := h.val
    have h2 := k.val
    rw [show p * q' * D = p * D * q' by grind, h1, show p' * q * D = p' * D * q by grind, h2]
    grind
  have a1 : q ∣ q' := Nat.Coprime.dvd_of_dvd_mul_left (Nat.Coprime.symm h.low) ⟨p', by rw [e, Nat.mul_comm]⟩
  have a2 : q' ∣ q := Nat.Coprime.dvd_of_dvd_mul_left (Nat.Coprime.symm k.low) ⟨p, by rw [← e, Nat.mul_comm]⟩
  have e2 : q = q' := Nat.dvd_antisymm a1 a2
  subst e2
  exact ⟨Nat.eq_of_mul_eq_mul_right h.pos e, rfl⟩
structure Fb (S : Nat → Prop) (W W' : World) : Prop where
  os : W'.os = W.os
  tape : W'.tape = W.tape
  output : W'.output = W.output
  size : W.heap.size ≤ W'.heap.size
  block : ∀ k, k < W.heap.size → ¬ S k → W'.heap[k]? = W.heap[k]?
theorem Fb.refl (S : Nat → Prop) (W : World) : Fb S W W := ⟨rfl, rfl, rfl, Nat.le_refl _, fun _ _ _ => rfl⟩
theorem Fb.trans {S : Nat → Prop} {a b c : World} (h : Fb S a b) (k : Fb S b c) : Fb S a c :=
  ⟨k.os.trans h.os, k.tape.trans h.tape, k.output.trans h.output, Nat.le_trans h.size k.size, fun i hi hn => (k.block i (Nat.lt_of_lt_of_le hi h.size) hn).trans (h.block i hi hn)⟩
theorem Fb.of {S : Nat → Prop} {a b : World} (h : Below a.heap.size a b) : Fb S a b := ⟨h.os, h.tape, h.output, h.size, fun i hi _ => h.block i hi⟩
theorem Fb.go {S : Nat → Prop} {a b c : World} (h : Fb S a b) (k : Below b.heap.size b c) : Fb S a c := h.trans (Fb.of k)
theorem Fb.set {S : Nat → Prop} {a b : World} (h : Fb S a b) {x : Addr} (hx : S x.block) (u : Value) : Fb S a (b.setCell x u) :=
  h.trans ⟨rfl, rfl, rfl, by simp [World.setCell], fun k hk hn => Below.heap_setCell _ _ _ _ fun e => hn (e ▸ hx)⟩
theorem Fb.below {S : Nat → Prop} {a b : World} (h : Fb S a b) {lb : Nat} (hl : lb ≤ a.heap.size) (hs : ∀ k, S k → lb ≤ k) : Below lb a b :=
  ⟨h.os, h.tape, h.output, h.size, fun k hk => h.block k (by omega) fun e => by have := hs k e; omega⟩
theorem Fb.cell {S : Nat → Prop} {a b : World} (h : Fb S a b) {p : Addr} {v : Value} (hv : a.cell? p = some v) (hn : ¬ S p.block) : b.cell? p = some v :=
  (World.cell?_of_block (w := a) (h.block p.block (World.block_lt_of_cell? _ _ hv) hn)).trans hv
theorem Fb.heap {S : Nat → Prop} {a b : World} (h : Fb S a b) {k : Nat} {o : Obj} (hv : a.heap[k]? = some o) (hn : ¬ S k) : b.heap[k]? = some o :=
  (h.block k (Array.getElem?_eq_some_iff.1 hv).1 hn).trans hv
def Odd (W : World) (b : Nat) : Prop := ∀ i k n, W.cell? ⟨b, i, none⟩ = some (.int k n) → k = .i64
theorem Words.fb {S : Nat → Prop} {W W' : World} {b o n : Nat} {F : Nat → Nat} (h : Words W b o n F) (f : Fb S W W') (hn : ∀ k, S k → Odd W k) : Words W' b o n F := fun i hi =>
  f.cell (h i hi) fun hs => by have := hn b hs (o + i) _ _ (h i hi); cases this
theorem Sl.fb {S : Nat → Prop} {W W' : World} {a : Option Addr} {n cap : Nat} {F : Nat → Nat} (h : Sl W a n cap F) (f : Fb S W W') (hn : ∀ k, S k → Odd W k) : Sl W' a n cap F := by
  obtain ⟨h1, h2, h3, h4⟩ := h
  refine ⟨h1, h2, h3, h4.imp id ?_⟩
  rintro ⟨b, o, ha, hw⟩
  exact ⟨b, o, ha, hw.fb f hn⟩
theorem IsNat.fb {S : Nat → Prop} {W W' : World} {v : Value} {x : Nat} (h : IsNat W v x) (f : Fb S W W') (hn : ∀ k, S k → Odd W k) : IsNat W' v x := by
  obtain ⟨a, n, cap, F, rfl, hs, h0, h1, hv⟩ := h
  exact ⟨a, n, cap, F, rfl, hs.fb f hn, h0, h1, hv⟩
theorem RNat.fb {S : Nat → Prop} {W W' : World} {v : Value} {x : Nat} (h : RNat W v x) (f : Fb S W W') (hn : ∀ k, S k → Odd W k) : RNat W' v x := by
  obtain ⟨a, n, cap, F, e, hs, hd, h1, hv⟩ := h
  exact ⟨a, n, cap, F, e, hs.fb f hn, hd, h1, hv⟩
theorem Rt.fb {S : Nat → Prop} {W W' : World} {v : Value} {p q : Nat} (h : Rt W v p q) (f : Fb S W W') (hn : ∀ k, S k → Odd W k) : Rt W' v p q := by
  obtain ⟨a, n, c, a', n', c', e, h1, h2⟩ := h.raw
  exact ⟨⟨a, n, c, a', n', c', e, h1.fb f hn, h2.fb f hn⟩, h.pos, h.low⟩
theorem RRt.fb {S : Nat → Prop} {W W' : World} {v : Value} {p q : Nat} (h : RRt W v p q) (f : Fb S W W') (hn : ∀ k, S k → Odd W k) : RRt W' v p q := by
  obtain ⟨a, n, c, a', n', c', e, h1, h2⟩ := h
  exact ⟨a, n, c, a', n', c', e, h1.fb f hn, h2.fb f hn⟩
theorem Tab.fb {S : Nat → Prop} {W W' : World} (h : Tab W) (f : Fb S W W') (hn : ∀ k, S k → Odd W k) : Tab W' := fun j hj =>
  f.cell (h j hj) fun hs => by have := hn _ hs _ _ _ (h j hj); cases this
def isSl (v : Value) : Prop := ∃ a n c, v = .slice a n c
theorem Rt.sl {W : World} {u1 u2 : Value} {p q : Nat} (h : Rt W (.agg #[u1, u2]) p q) : isSl u1 ∧ isSl u2 := by
  obtain ⟨a, n, c, a', n', c', e, _, _⟩ := h.raw
  injection e with e
  injection e with e
  injection e with e1 e
  injection e with e2 e
  exact ⟨⟨_, _, _, e1⟩, ⟨_, _, _, e2⟩⟩
def fcs (L : List (Value × Value)) : List Value := L.flatMap fun x => [x.1, x.2]
theorem fcs_len (L : List (Value × Value)) : (fcs L).length = L.length * 2 := by
  induction L with
  | nil => rfl
  | cons x r ih =>
    show ([x.1, x.2] ++ fcs r).length = _
    rw [List.length_append, ih]
    simp only [List.length_cons, List.length_nil]
    omega
theorem fcs_app (L M : List (Value × Value)) : fcs (L ++ M) = fcs L ++ fcs M := by simp [fcs]
theorem fcs_get (L : List (Value × Value)) (i : Nat) (hi : i < L.length) : (fcs L)[i * 2]? = some (L[i].1) ∧ (fcs L)[i * 2 + 1]? = some (L[i].2) := by
  induction L generalizing i with
  | nil => simp at hi
  | cons x r ih =>
    show ([x.1, x.2] ++ fcs r)[i * 2]? = _ ∧ ([x.1, x.2] ++ fcs r)[i * 2 + 1]? = _
    cases i with
    | zero => simp
    | succ j =>
      have h := ih j (by simpa using hi)
      rw [List.getElem?_append_right (by simp; omega), List.getElem?_append_right (by simp; omega)]
      have e1 : (j + 1) * 2 - [x.1, x.2].length = j * 2 := by simp; omega
      have e2 : (j + 1) * 2 + 1 - [x.1, x.2].length = j * 2 + 1 := by simp; omega
      rw [e1, e2]
      simpa using h
def Fw (base : Nat) (W : World) (v : Value) (L : List (Value × Value)) : Prop := W.ownsRow base 47 2 v L.length (fcs L)
theorem Fw.nil (base : Nat) (W : World) : Fw base W (.slice none 0 0) [] := ⟨rfl, .inl ⟨rfl, rfl⟩⟩
theorem Fw.own {base : Nat} {W : World} {v : Value} {L : List (Value × Value)} (h : Fw base W v L) {k : Nat} (hk : v.ownBlock = some k) : base ≤ k ∧ ∃ cs, W.heap[k]? = some (.cells cs 47) := by
  rcases h.2 with ⟨e, _⟩ | ⟨g, cap', cur, e, hb', hg, _⟩
  · rw [e] at hk
    cases hk
  rw [e] at hk
  cases hk
  exact ⟨hb', cur, hg⟩
theorem Fw.kept {base : Nat} {W W' : World} {v : Value} {L : List (Value × Value)} (h : Fw base W v L) (hk : ∀ k, v.ownBlock = some k → W'.heap[k]? = W.heap[k]?) : Fw base W' v L := by
  refine ⟨h.1, h.2.imp id ?_⟩
  rintro ⟨g, cap, cur, e, hb, hg, rest⟩
  exact ⟨g, cap, cur, e, hb, (hk g (by rw [e]; rfl)).trans hg, rest⟩
theorem Fw.below {base : Nat} {W W' : World} {v : Value} {L : List (Value × Value)} (h : Fw base W v L) (hB : Below W.heap.size W W') : Fw base W' v L := h.kept fun k hk => by
  obtain ⟨_, cs, e⟩ := h.own hk
  exact hB.block _ (Array.getElem?_eq_some_iff.1 e).1
theorem Tryz.infoFr : (Tryz.prog.info? 47).map (fun i => (i.zero, i.size, i.bytes)) = some (some (.agg #[.slice none 0 0, .slice none 0 0]), 2, 48) := by kernel_rfl
theorem ax_addF (b o j : Nat) : (⟨b, o, none⟩ : Addr).add j = ⟨b, o + j, none⟩ := by unfold Addr.add; split <;> simp_all
theorem Fw.sl {base : Nat} {W : World} {v : Value} {L : List (Value × Value)} (h : Fw base W v L) : ∃ a cap, v = .slice a L.length cap ∧ L.length ≤ cap ∧ cap ≤ 9223372036854775807 ∧ (0 < L.length → ∃ g, a = some ⟨g, 0, none⟩ ∧ g < W.heap.size ∧ base ≤ g ∧ ∀ i, (hi : i < L.length) → W.cell? ⟨g, i * 2, none⟩ = some (L[i].1) ∧ W.cell? ⟨g, i * 2 + 1, none⟩ = some (L[i].2)) := by
  rcases h.2 with ⟨e, e0⟩ | ⟨g, cap, cur, e, hb', hg, h1, h2, h3, h4⟩
  · refine ⟨none, 0, by rw [e]; congr 1; omega, by omega, by omega, fun h => by omega⟩
  refine ⟨_, cap, e, h1, by simp only [maxLen] at h2; omega, fun _ => ⟨g, rfl, (Array.getElem?_eq_some_iff.1 hg).1, hb', fun i hi => ?_⟩⟩
  have e4 : ∀ j, j < L.length * 2 → cur[j]? = (fcs L)[j]? := fun j hj => by
    have q4 := congrArg (fun l => l[j]?) h4
    rw [List.getElem?_take_of_lt hj, Array.getElem?_toList] at q4
    exact q4
  obtain ⟨f1, f2⟩ := fcs_get L i hi
  have a1 := e4 (i * 2) (by omega)
  have a2 := e4 (i * 2 + 1) (by omega)
  rw [f1] at a1
  rw [f2] at a2
  simp only [World.cell?, hg]
  simp [a1, a2]
def Fw2 (base : Nat) (W : World) (v : Value) (L : List (Value × Value)) : Prop := W.ownsRow base 53 2 v L.length (fcs L)
theorem Fw2.nil (base : Nat) (W : World) : Fw2 base W (.slice none 0 0) [] := ⟨rfl, .inl ⟨rfl, rfl⟩⟩
theorem Fw2.own {base : Nat} {W : World} {v : Value} {L : List (Value × Value)} (h : Fw2 base W v L) {k : Nat} (hk : v.ownBlock = some k) : base ≤ k ∧ ∃ cs, W.heap[k]? = some (.cells cs 53) := by
  rcases h.2 with ⟨e, _⟩ | ⟨g, cap', cur, e, hb', hg, _⟩
  · rw [e] at hk
    cases hk
  rw [e] at hk
  cases hk
  exact ⟨hb', cur, hg⟩
theorem Fw2.kept {base : Nat} {W W' : World} {v : Value} {L : List (Value × Value)} (h : Fw2 base W v L) (hk : ∀ k, v.ownBlock = some k → W'.heap[k]? = W.heap[k]?) : Fw2 base W' v L := by
  refine ⟨h.1, h.2.imp id ?_⟩
  rintro ⟨g, cap, cur, e, hb, hg, rest⟩
  exact ⟨g, cap, cur, e, hb, (hk g (by rw [e]; rfl)).trans hg, rest⟩
theorem Fw2.below {base : Nat} {W W' : World} {v : Value} {L : List (Value × Value)} (h : Fw2 base W v L) (hB : Below W.heap.size W W') : Fw2 base W' v L := h.kept fun k hk => by
  obtain ⟨_, cs, e⟩ := h.own hk
  exact hB.block _ (Array.getElem?_eq_some_iff.1 e).1
theorem Tryz.infoFr2 : (Tryz.prog.info? 53).map (fun i => (i.zero, i.size, i.bytes)) = some (some (.agg #[.slice none 0 0, .slice none 0 0]), 2, 48) := by kernel_rfl
theorem Fw2.sl {base : Nat} {W : World} {v : Value} {L : List (Value × Value)} (h : Fw2 base W v L) : ∃ a cap, v = .slice a L.length cap ∧ L.length ≤ cap ∧ cap ≤ 9223372036854775807 ∧ (0 < L.length → ∃ g, a = some ⟨g, 0, none⟩ ∧ g < W.heap.size ∧ base ≤ g ∧ ∀ i, (hi : i < L.length) → W.cell? ⟨g, i * 2, none⟩ = some (L[i].1) ∧ W.cell? ⟨g, i * 2 + 1, none⟩ = some (L[i].2)) := by
  rcases h.2 with ⟨e, e0⟩ | ⟨g, cap, cur, e, hb', hg, h1, h2, h3, h4⟩
  · refine ⟨none, 0, by rw [e]; congr 1; omega, by omega, by omega, fun h => by omega⟩
  refine ⟨_, cap, e, h1, by simp only [maxLen] at h2; omega, fun _ => ⟨g, rfl, (Array.getElem?_eq_some_iff.1 hg).1, hb', fun i hi => ?_⟩⟩
  have e4 : ∀ j, j < L.length * 2 → cur[j]? = (fcs L)[j]? := fun j hj => by
    have q4 := congrArg (fun l => l[j]?) h4
    rw [List.getElem?_take_of_lt hj, Array.getElem?_toList] at q4
    exact q4
  obtain ⟨f1, f2⟩ := fcs_get L i hi
  have a1 := e4 (i * 2) (by omega)
  have a2 := e4 (i * 2 + 1) (by omega)
  rw [f1] at a1
  rw [f2] at a2
  simp only [World.cell?, hg]
  simp [a1, a2]
theorem odd_slices {W : World} {k : Nat} {cur : Array Value} {t : TypeId} (hc : W.heap[k]? = some (.cells cur t)) (hi : ∀ x ∈ cur.toList, isSl x) : Odd W k := by
  intro i kk n e
  have e2 : cur[i]? = some (.int kk n) := by simpa [World.cell?, hc] using e
  obtain ⟨hl, hv⟩ := Array.getElem?_eq_some_iff.1 e2
  obtain ⟨a, m, c, hm⟩ := hi _ (Array.getElem_mem_toList hl)
  rw [hv] at hm
  cases hm
theorem isSl_zeros (n : Nat) : ∀ x ∈ (Builtin.zeroCells (Value.agg #[.slice none 0 0, .slice none 0 0]).cells n).toList, isSl x := by
  intro x hx
  simp [Builtin.zeroCells, Value.cells] at hx
  obtain ⟨j, _, hx⟩ := hx
  rcases (show j % 2 = 0 ∨ j % 2 = 1 by omega) with e | e <;> simp [e] at hx <;> exact ⟨none, 0, 0, hx.symm⟩
structure Fo (base : Nat) (W : World) (v : Value) (L : List (Value × Value)) : Prop where
  row : Fw base W v L
  odd : ∀ k, v.ownBlock = some k → ∃ cur, W.heap[k]? = some (.cells cur 47) ∧ ∀ x ∈ cur.toList, isSl x
theorem Fo.nil (base : Nat) (W : World) : Fo base W (.slice none 0 0) [] := ⟨Fw.nil _ _, fun k h => by cases h⟩
theorem Fo.kept {base : Nat} {W W' : World} {v : Value} {L : List (Value × Value)} (h : Fo base W v L) (hk : ∀ k, v.ownBlock = some k → W'.heap[k]? = W.heap[k]?) : Fo base W' v L := by
  refine ⟨h.row.kept hk, fun k e => ?_⟩
  obtain ⟨cur, hc, hi⟩ := h.odd k e
  exact ⟨cur, (hk k e).trans hc, hi⟩
theorem Fo.below {base : Nat} {W W' : World} {v : Value} {L : List (Value × Value)} (h : Fo base W v L) (hB : Below W.heap.size W W') : Fo base W' v L := h.kept fun k hk => by
  obtain ⟨_, cs, e⟩ := h.row.own hk
  exact hB.block _ (Array.getElem?_eq_some_iff.1 e).1
theorem Fo.oddK {base : Nat} {W : World} {v : Value} {L : List (Value × Value)} (h : Fo base W v L) : ∀ k, some k = v.ownBlock → Odd W k := fun k e => by
  obtain ⟨cur, hc, hi⟩ := h.odd k e.symm
  exact odd_slices hc hi
theorem app_fo (w : World) (ty : TypeId) (base : Nat) (v : Value) (L : List (Value × Value)) (hown : Fo base w v L) (b : Nat) (y : Value × Value) (h0 : w.cell? ⟨b, 0, none⟩ = some y.1) (h1 : w.cell? ⟨b, 1, none⟩ = some y.2) (s0 : isSl y.1) (s1 : isSl y.2) (hlim : L.length ≤ 1000000) (hb : base ≤ w.heap.size) :
    ∃ v' w', (Builtin.append_ #[28, 28] ty #[v, .slice (some ⟨b, 0, none⟩) 1 1]).run Tryz.prog w = .ok v' w' ∧ Fo base w' v' (L ++ [y]) ∧ w.grownBy w' v.ownBlock ∧ (v'.ownBlock = v.ownBlock ∨ v'.ownBlock = some w.heap.size) := by
  obtain ⟨i, hi, hz, hsz, hby⟩ := info_parts Tryz.infoFr
  have hnews : ∀ j u, (fcs [y])[j]? = some u → w.cell? ((⟨b, 0, none⟩ : Addr).add j) = some u := fun j u hj => by
    rw [ax_addF, Nat.zero_add]
    match j, hj with
    | 0, hj => cases hj; exact h0
    | 1, hj => cases hj; exact h1
    | j + 2, hj => simp [fcs] at hj
  have onek : ∀ x ∈ fcs [y], isSl x := fun x hx => by
    simp [fcs] at hx
    rcases hx with rfl | rfl
    · exact s0
    exact s1
  have one : ∀ u ∈ fcs [y], u.oneCell' = true := fun u hu => by
    obtain ⟨a, n, c, rfl⟩ := onek u hu
    rfl
  have hl1 : (fcs [y]).length = 1 * 2 := by rw [fcs_len]; rfl
  obtain ⟨v', w', hr, r1, r2, _, r4⟩ := run_append_own_at (P := Tryz.prog) w base 28 ty 47 i _ 2 48 Tryz.underlying28 hi hz hsz hby rfl (by omega) v _ _ hown.row ⟨b, 0, none⟩ 1 1 (fcs [y]) rfl hnews one (by simp only [maxLen]; omega) (by omega) hb
  refine ⟨v', w', hr, ⟨?_, ?_⟩, r2, r4⟩
  · show World.ownsRow _ _ _ _ _ _ _
    rw [List.length_append, fcs_app]
    exact r1
  intro g' hg'
  rcases hown.row.2 with ⟨e, e0⟩ | ⟨g, cap, cur, e, hbg, hg, hnc, hcm, hcs, htake⟩
  · subst e
    have q := run_append_nil (P := Tryz.prog) w 28 ty 47 i _ Tryz.underlying28 hi hz ⟨b, 0, none⟩ 1 1 (fcs [y]) (by rw [hsz]; exact hl1) hnews (by omega) (by omega) (by rw [hby]; omega)
    rw [hr] at q
    injection q with q1 q2
    rw [q1] at hg'
    cases hg'
    rw [q2]
    refine ⟨_, heap_alloc_new w.drew _, fun x hx => ?_⟩
    rw [Array.toList_append, List.mem_append] at hx
    rcases hx with hx | hx
    · exact onek x (by simpa using hx)
    exact isSl_zeros _ x hx
  subst e
  obtain ⟨c2, hc2, hi2⟩ := hown.odd g rfl
  rw [hg] at hc2
  injection hc2 with hc2
  injection hc2 with hc2
  subst hc2
  by_cases hroom : L.length + 1 ≤ cap
  · have q := run_append_room (P := Tryz.prog) w 28 ty 47 i Tryz.underlying28 hi g L.length cap cur hg ⟨b, 0, none⟩ 1 1 (fcs [y]) (by rw [hsz]; exact hl1) hnews one hroom (by rw [hsz, hl1, hcs]; omega)
    rw [hr] at q
    injection q with q1 q2
    rw [q1] at hg'
    cases hg'
    rw [q2]
    refine ⟨_, setRow_heap w g cur _ 47 _ hg, fun x hx => ?_⟩
    rw [List.mem_append, List.mem_append] at hx
    rcases hx with (hx | hx) | hx
    · exact hi2 x (List.mem_of_mem_take hx)
    · exact onek x hx
    exact hi2 x (List.mem_of_mem_drop hx)
  have holds : ∀ j u, (fcs L)[j]? = some u → w.cell? ((⟨g, 0, none⟩ : Addr).add j) = some u := World.ownsRow.cells (g := g) hown.row rfl
  have q := run_append_grow (P := Tryz.prog) w 28 ty 47 i _ Tryz.underlying28 hi hz ⟨g, 0, none⟩ L.length cap (fcs L) (by rw [hsz]; exact fcs_len L) holds ⟨b, 0, none⟩ 1 1 (fcs [y]) (by rw [hsz]; exact hl1) hnews (by omega) (by omega) (by rw [hby]; exact growslice_fits (by omega) (by omega))
  rw [hr] at q
  injection q with q1 q2
  rw [q1] at hg'
  cases hg'
  rw [q2]
  refine ⟨_, heap_alloc_new w.drew _, ?_⟩
  intro x hx
  rw [Array.toList_append, List.mem_append, Array.toList_append, List.mem_append] at hx
  rcases hx with (hx | hx) | hx
  · exact hi2 x (List.mem_of_mem_take (by rw [htake]; simpa using hx))
  · exact onek x (by simpa using hx)
  exact isSl_zeros _ x hx
theorem wp_appF {w : World} {ops : Array Oper} {rest : List Oper} {o : Oper} {a : Act} {Q : Exit → Act → World → Prop} (hgd : o.guard = none) (s x : Operand)
    (ho : o.op = .call { callee := .builtin .append, args := #[s, x], argTypes := #[28, 28] }) (base : Nat) (v : Value) (L : List (Value × Value)) (hs : a.eval s = v) (hown : Fo base w v L)
    (b : Nat) (y : Value × Value) (hx : a.eval x = .slice (some ⟨b, 0, none⟩) 1 1) (h0 : w.cell? ⟨b, 0, none⟩ = some y.1) (h1 : w.cell? ⟨b, 1, none⟩ = some y.2) (s0 : isSl y.1) (s1 : isSl y.2) (hlim : L.length ≤ 1000000) (hb : base ≤ w.heap.size)
    (h : ∀ v' w', Hid (Fo base w' v' (L ++ [y]) ∧ w.grownBy w' v.ownBlock) → wpList Tryz.prog ops Q rest (a.put o.dst v') w') : wpList Tryz.prog ops Q (o :: rest) a w := by
  refine wpList_plain hgd fun K hK => ?_
  obtain ⟨v', w', hr, h2, h3, h4⟩ := app_fo w o.type base v L hown b y h0 h1 s0 s1 hlim hb
  unfold Oper.wp execOp
  simp only [ho, resolve, invoke, builtin, Sem.run_bind, Sem.run_pure, Result.andThen_ok, List.map_toArray, List.map_cons, List.map_nil, hs, hx, hr]
  exact hK _ _ (h v' w' ⟨h2, h3⟩)
structure Fo2 (base : Nat) (W : World) (v : Value) (L : List (Value × Value)) : Prop where
  row : Fw2 base W v L
  odd : ∀ k, v.ownBlock = some k → ∃ cur, W.heap[k]? = some (.cells cur 53) ∧ ∀ x ∈ cur.toList, isSl x
theorem Fo2.nil (base : Nat) (W : World) : Fo2 base W (.slice none 0 0) [] := ⟨Fw2.nil _ _, fun k h => by cases h⟩
theorem Fo2.kept {base : Nat} {W W' : World} {v : Value} {L : List (Value × Value)} (h : Fo2 base W v L) (hk : ∀ k, v.ownBlock = some k → W'.heap[k]? = W.heap[k]?) : Fo2 base W' v L := by
  refine ⟨h.row.kept hk, fun k e => ?_⟩
  obtain ⟨cur, hc, hi⟩ := h.odd k e
  exact ⟨cur, (hk k e).trans hc, hi⟩
theorem Fo2.below {base : Nat} {W W' : World} {v : Value} {L : List (Value × Value)} (h : Fo2 base W v L) (hB : Below W.heap.size W W') : Fo2 base W' v L := h.kept fun k hk => by
  obtain ⟨_, cs, e⟩ := h.row.own hk
  exact hB.block _ (Array.getElem?_eq_some_iff.1 e).1
theorem Fo2.oddK {base : Nat} {W : World} {v : Value} {L : List (Value × Value)} (h : Fo2 base W v L) : ∀ k, some k = v.ownBlock → Odd W k := fun k e => by
  obtain ⟨cur, hc, hi⟩ := h.odd k e.symm
  exact odd_slices hc hi
theorem app_fo2 (w : World) (ty : TypeId) (base : Nat) (v : Value) (L : List (Value × Value)) (hown : Fo2 base w v L) (b : Nat) (y : Value × Value) (h0 : w.cell? ⟨b, 0, none⟩ = some y.1) (h1 : w.cell? ⟨b, 1, none⟩ = some y.2) (s0 : isSl y.1) (s1 : isSl y.2) (hlim : L.length ≤ 1000000) (hb : base ≤ w.heap.size) :
    ∃ v' w', (Builtin.append_ #[29, 29] ty #[v, .slice (some ⟨b, 0, none⟩) 1 1]).run Tryz.prog w = .ok v' w' ∧ Fo2 base w' v' (L ++ [y]) ∧ w.grownBy w' v.ownBlock ∧ (v'.ownBlock = v.ownBlock ∨ v'.ownBlock = some w.heap.size) := by
  obtain ⟨i, hi, hz, hsz, hby⟩ := info_parts Tryz.infoFr2
  have hnews : ∀ j u, (fcs [y])[j]? = some u → w.cell? ((⟨b, 0, none⟩ : Addr).add j) = some u := fun j u hj => by
    rw [ax_addF, Nat.zero_add]
    match j, hj with
    | 0, hj => cases hj; exact h0
    | 1, hj => cases hj; exact h1
    | j + 2, hj => simp [fcs] at hj
  have onek : ∀ x ∈ fcs [y], isSl x := fun x hx => by
    simp [fcs] at hx
    rcases hx with rfl | rfl
    · exact s0
    exact s1
  have one : ∀ u ∈ fcs [y], u.oneCell' = true := fun u hu => by
    obtain ⟨a, n, c, rfl⟩ := onek u hu
    rfl
  have hl1 : (fcs [y]).length = 1 * 2 := by rw [fcs_len]; rfl
  obtain ⟨v', w', hr, r1, r2, _, r4⟩ := run_append_own_at (P := Tryz.prog) w base 29 ty 53 i _ 2 48 Tryz.underlying29 hi hz hsz hby rfl (by omega) v _ _ hown.row ⟨b, 0, none⟩ 1 1 (fcs [y]) rfl hnews one (by simp only [maxLen]; omega) (by omega) hb
  refine ⟨v', w', hr, ⟨?_, ?_⟩, r2, r4⟩
  · show World.ownsRow _ _ _ _ _ _ _
    rw [List.length_append, fcs_app]
    exact r1
  intro g' hg'
  rcases hown.row.2 with ⟨e, e0⟩ | ⟨g, cap, cur, e, hbg, hg, hnc, hcm, hcs, htake⟩
  · subst e
    have q := run_append_nil (P := Tryz.prog) w 29 ty 53 i _ Tryz.underlying29 hi hz ⟨b, 0, none⟩ 1 1 (fcs [y]) (by rw [hsz]; exact hl1) hnews (by omega) (by omega) (by rw [hby]; omega)
    rw [hr] at q
    injection q with q1 q2
    rw [q1] at hg'
    cases hg'
    rw [q2]
    refine ⟨_, heap_alloc_new w.drew _, fun x hx => ?_⟩
    rw [Array.toList_append, List.mem_append] at hx
    rcases hx with hx | hx
    · exact onek x (by simpa using hx)
    exact isSl_zeros _ x hx
  subst e
  obtain ⟨c2, hc2, hi2⟩ := hown.odd g rfl
  rw [hg] at hc2
  injection hc2 with hc2
  injection hc2 with hc2
  subst hc2
  by_cases hroom : L.length + 1 ≤ cap
  · have q := run_append_room (P := Tryz.prog) w 29 ty 53 i Tryz.underlying29 hi g L.length cap cur hg ⟨b, 0, none⟩ 1 1 (fcs [y]) (by rw [hsz]; exact hl1) hnews one hroom (by rw [hsz, hl1, hcs]; omega)
    rw [hr] at q
    injection q with q1 q2
    rw [q1] at hg'
    cases hg'
    rw [q2]
    refine ⟨_, setRow_heap w g cur _ 53 _ hg, fun x hx => ?_⟩
    rw [List.mem_append, List.mem_append] at hx
    rcases hx with (hx | hx) | hx
    · exact hi2 x (List.mem_of_mem_take hx)
    · exact onek x hx
    exact hi2 x (List.mem_of_mem_drop hx)
  have holds : ∀ j u, (fcs L)[j]? = some u → w.cell? ((⟨g, 0, none⟩ : Addr).add j) = some u := World.ownsRow.cells (g := g) hown.row rfl
  have q := run_append_grow (P := Tryz.prog) w 29 ty 53 i _ Tryz.underlying29 hi hz ⟨g, 0, none⟩ L.length cap (fcs L) (by rw [hsz]; exact fcs_len L) holds ⟨b, 0, none⟩ 1 1 (fcs [y]) (by rw [hsz]; exact hl1) hnews (by omega) (by omega) (by rw [hby]; exact growslice_fits (by omega) (by omega))
  rw [hr] at q
  injection q with q1 q2
  rw [q1] at hg'
  cases hg'
  rw [q2]
  refine ⟨_, heap_alloc_new w.drew _, ?_⟩
  intro x hx
  rw [Array.toList_append, List.mem_append, Array.toList_append, List.mem_append] at hx
  rcases hx with (hx | hx) | hx
  · exact hi2 x (List.mem_of_mem_take (by rw [htake]; simpa using hx))
  · exact onek x (by simpa using hx)
  exact isSl_zeros _ x hx
theorem wp_appF2 {w : World} {ops : Array Oper} {rest : List Oper} {o : Oper} {a : Act} {Q : Exit → Act → World → Prop} (hgd : o.guard = none) (s x : Operand)
    (ho : o.op = .call { callee := .builtin .append, args := #[s, x], argTypes := #[29, 29] }) (base : Nat) (v : Value) (L : List (Value × Value)) (hs : a.eval s = v) (hown : Fo2 base w v L)
    (b : Nat) (y : Value × Value) (hx : a.eval x = .slice (some ⟨b, 0, none⟩) 1 1) (h0 : w.cell? ⟨b, 0, none⟩ = some y.1) (h1 : w.cell? ⟨b, 1, none⟩ = some y.2) (s0 : isSl y.1) (s1 : isSl y.2) (hlim : L.length ≤ 1000000) (hb : base ≤ w.heap.size)
    (h : ∀ v' w', Hid (Fo2 base w' v' (L ++ [y]) ∧ w.grownBy w' v.ownBlock) → wpList Tryz.prog ops Q rest (a.put o.dst v') w') : wpList Tryz.prog ops Q (o :: rest) a w := by
  refine wpList_plain hgd fun K hK => ?_
  obtain ⟨v', w', hr, h2, h3, h4⟩ := app_fo2 w o.type base v L hown b y h0 h1 s0 s1 hlim hb
  unfold Oper.wp execOp
  simp only [ho, resolve, invoke, builtin, Sem.run_bind, Sem.run_pure, Result.andThen_ok, List.map_toArray, List.map_cons, List.map_nil, hs, hx, hr]
  exact hK _ _ (h v' w' ⟨h2, h3⟩)
end Go.Proofs.YtfkkomppfghagaaGreatDoor
namespace Go.Proofs.YtfkkomppfghagaaGreatDoor
open Go.RowKit Go.ChangeShapes
set_option maxRecDepth 100000
set_option linter.unusedVariables false
theorem i64_and65535G (n : Int) : bits .and .i64 n 65535 = n % 65536 := by
  have h127 : (BitVec.ofInt 64 65535).toNat = 2 ^ 16 - 1 := by decide
  have key : (BitVec.ofInt 64 n &&& BitVec.ofInt 64 65535).toNat = (n % ((2 ^ 64 : Nat) : Int)).toNat % 2 ^ 16 := by
    rw [BitVec.toNat_and, BitVec.toNat_ofInt, h127, Nat.and_two_pow_sub_one_eq_mod]
  show IntKind.i64.wrap ((BitVec.ofInt 64 n &&& BitVec.ofInt 64 65535).toNat : Nat) = n % 65536
  rw [key, IntKind.wrap_i64]
  omega
theorem i64_and4095G (n : Int) : bits .and .i64 n 4095 = n % 4096 := by
  have h127 : (BitVec.ofInt 64 4095).toNat = 2 ^ 12 - 1 := by decide
  have key : (BitVec.ofInt 64 n &&& BitVec.ofInt 64 4095).toNat = (n % ((2 ^ 64 : Nat) : Int)).toNat % 2 ^ 12 := by
    rw [BitVec.toNat_and, BitVec.toNat_ofInt, h127, Nat.and_two_pow_sub_one_eq_mod]
  show IntKind.i64.wrap ((BitVec.ofInt 64 n &&& BitVec.ofInt 64 4095).toNat : Nat) = n % 4096
  rw [key, IntKind.wrap_i64]
  omega
theorem i64_and1023G (n : Int) : bits .and .i64 n 1023 = n % 1024 := by
  have h127 : (BitVec.ofInt 64 1023).toNat = 2 ^ 10 - 1 := by decide
  have key : (BitVec.ofInt 64 n &&& BitVec.ofInt 64 1023).toNat = (n % ((2 ^ 64 : Nat) : Int)).toNat % 2 ^ 10 := by
    rw [BitVec.toNat_and, BitVec.toNat_ofInt, h127, Nat.and_two_pow_sub_one_eq_mod]
  show IntKind.i64.wrap ((BitVec.ofInt 64 n &&& BitVec.ofInt 64 1023).toNat : Nat) = n % 1024
  rw [key, IntKind.wrap_i64]
  omega
def AbIn (w : World) (a : Option Addr) (n : Nat) (F : Nat → Nat → Int) : Prop :=
  n = 0 ∨ ∃ g o, a = some ⟨g, o, none⟩ ∧ ∀ i, i < n → ∀ j, j < 2 → w.cell? ⟨g, o + i * 2 + j, none⟩ = some (.int .i64 (F i j))
theorem AbIn.at {w w' : World} {a : Option Addr} {n : Nat} {F : Nat → Nat → Int} (h : AbIn w a n F) (hb : Below w.heap.size w w') {i : Nat} (hi : i < n) : ∃ g o, a = some ⟨g, o, none⟩ ∧ w'.cell? ⟨g, o + i * 2, none⟩ = some (.int .i64 (F i 0)) ∧ w'.cell? ⟨g, o + i * 2 + 1, none⟩ = some (.int .i64 (F i 1)) := by
  rcases h with e | ⟨g, o, e, h⟩
  · omega
  exact ⟨g, o, e, cell_later hb (h i hi 0 (by omega)), cell_later hb (h i hi 1 (by omega))⟩
theorem ab_add_more (a : Addr) (m j : Nat) : (a.add m).add j = a.add (m + j) := by
  unfold Addr.add
  rcases Nat.eq_zero_or_pos m with e | e
  · subst e; simp
  rcases Nat.eq_zero_or_pos j with e2 | e2
  · subst e2; simp
  rw [if_neg (by omega), if_neg (by omega), if_neg (by omega)]
  simp [Nat.add_assoc]
theorem ab_steps {K : Nat} {H : Type} {enc : TypeId × Value → H} {P : Program} {w : World} {base : Nat} {spare : Nat → Bool} {held : Bool} {t e c : TypeId} {fuel : Nat} {cs : List Value} {x : DataW H × List MemPlace}
    (ht : P.underlying t = some (.slice e)) (he : P.underlying e = some (.array K c)) (ce : P.cellsOf e = K) (cc : P.cellsOf c = 1) (hc : P.underlying c = some (.int .i64)) (h : DataW.trod enc P w base spare held fuel t cs = some x) :
    cs = [.slice none 0 0] ∨ ∃ (a : Addr) (len cap : Nat), cs = [.slice (some a) len cap] ∧ len ≤ cap ∧ cap ≤ maxLen ∧ ∀ i j, i < len → j < K → ∃ v, w.cell? (a.add (i * K + j)) = some (.int .i64 v) ∧ (Lit.int .i64 v).wf = true := by
  rcases Deep.open_slice ht h with ⟨h0, _⟩ | ⟨a, len, cap, m, n, D, Pl, rfl, hb, hl, hm, hmm, _, hx⟩
  · exact .inl h0
  refine .inr ⟨a, len, cap, rfl, hl, hm, fun i j hi hj => ?_⟩
  have hlm : len ≤ m := by rw [hmm]; split <;> omega
  obtain ⟨cs', h1, h2⟩ := hx i (by omega)
  rw [ce] at h1
  obtain ⟨_, hlen, hcell⟩ := World.cells?_some h1
  obtain ⟨xs, k, _, _, _, hxl, hff⟩ := DataW.trod_array he h2
  have g := hff j hj
  rw [cc, Nat.mul_one] at g
  have hxj : ∃ y, xs[j]? = some y := ⟨_, List.getElem?_eq_getElem (by omega)⟩
  obtain ⟨y, hy⟩ := hxj
  rw [hy] at g
  obtain ⟨v, hv, _, hw⟩ := DataW.trod_int hc g
  refine ⟨v, ?_, hw⟩
  have e1 := hcell j hj
  rw [ab_add_more] at e1
  rw [e1]
  have e2 := congrArg (fun l => l[0]?) hv
  simpa using e2
theorem ab_of {w : World} {a : Addr} {len : Nat} (h : ∀ i j, i < len → j < 2 → ∃ v, w.cell? (a.add (i * 2 + j)) = some (.int .i64 v) ∧ (Lit.int .i64 v).wf = true) :
    ∃ F, AbIn w (some a) len F := by
  refine ⟨fun i j => intOf ((w.cell? (a.add (i * 2 + j))).getD undef), ?_⟩
  rcases Nat.eq_zero_or_pos len with e | e
  · exact .inl e
  obtain ⟨b, off, spot⟩ := a
  obtain ⟨v, hc, _⟩ := h 0 0 e (by omega)
  have hspot : spot = none := by simpa [Addr.add] using World.cell?_spot hc
  subst hspot
  refine .inr ⟨b, off, rfl, fun i hi j hj => ?_⟩
  obtain ⟨v, hv, _⟩ := h i j hi hj
  rw [ax_addF] at hv
  have e3 : off + i * 2 + j = off + (i * 2 + j) := by omega
  rw [e3, hv]
  show some (Value.int IntKind.i64 v) = some (Value.int IntKind.i64 (intOf ((w.cell? (Addr.add ⟨b, off, none⟩ (i * 2 + j))).getD undef)))
  rw [ax_addF, hv]
  rfl
theorem pairs_of {H : Type} {enc : TypeId × Value → H} {w : World} {base : Nat} {spare : Nat → Bool} {held : Bool} {fuel : Nat} {a : Option Addr} {len cap : Nat} {x : DataW H × List MemPlace} (h : DataW.trod enc Tryz.prog w base spare held fuel 23 (Value.slice a len cap).cells.toList = some x) : (∃ F, AbIn w a len F) ∧ len ≤ cap ∧ cap ≤ maxLen := by
  rcases ab_steps (K := 2) Tryz.underlying23 Tryz.underlying78 (by kernel_rfl) (by kernel_rfl) Tryz.underlying3 h with hcs | ⟨y, l, c, hcs, hl, hm, hcell⟩
  · simp [Value.cells] at hcs
    obtain ⟨rfl, rfl, rfl⟩ := hcs
    exact ⟨⟨fun _ _ => 0, .inl rfl⟩, by omega, by simp [maxLen]⟩
  simp [Value.cells] at hcs
  obtain ⟨rfl, rfl, rfl⟩ := hcs
  exact ⟨ab_of hcell, hl, hm⟩
end Go.Proofs.YtfkkomppfghagaaGreatDoor
namespace Go.Proofs.YtfkkomppfghagaaGreatDoor
set_option linter.unusedVariables false
def sm1 (M : Nat → Nat) : Nat → Nat
  | 0 => 0
  | n + 1 => sm1 M n + M n
def sm2 (M : Nat → Nat) : Nat → Nat
  | 0 => 0
  | n + 1 => sm2 M n + M n * M n
theorem sm1_congr {M M' : Nat → Nat} : ∀ n, (∀ i, i < n → M i = M' i) → sm1 M n = sm1 M' n
  | 0, _ => rfl
  | n + 1, h => by rw [sm1, sm1, sm1_congr n fun i hi => h i (by omega), h n (by omega)]
theorem sm2_congr {M M' : Nat → Nat} : ∀ n, (∀ i, i < n → M i = M' i) → sm2 M n = sm2 M' n
  | 0, _ => rfl
  | n + 1, h => by rw [sm2, sm2, sm2_congr n fun i hi => h i (by omega), h n (by omega)]
theorem sm1_mul (M : Nat → Nat) (k : Nat) : ∀ n, sm1 (fun i => M i * k) n = sm1 M n * k
  | 0 => by simp [sm1]
  | n + 1 => by rw [sm1, sm1, sm1_mul M k n]; grind
theorem sm2_mul (M : Nat → Nat) (k : Nat) : ∀ n, sm2 (fun i => M i * k) n = sm2 M n * (k * k)
  | 0 => by simp [sm2]
  | n + 1 => by rw [sm2, sm2, sm2_mul M k n]; grind
def far (M : Nat → Nat) (x : Int) : Nat → Int
  | 0 => 0
  | n + 1 => far M x n + ((M n : Int) - x) * ((M n : Int) - x)
theorem sq_nn (a : Int) : 0 ≤ a * a := by
  rcases Int.le_total 0 a with h | h
  · exact Int.mul_nonneg h h
  exact Int.mul_nonneg_of_nonpos_of_nonpos h h
theorem far_nn (M : Nat → Nat) (x : Int) : ∀ n, 0 ≤ far M x n
  | 0 => Int.le_refl _
  | n + 1 => Int.add_nonneg (far_nn M x n) (sq_nn _)
theorem far_eq (M : Nat → Nat) (x : Int) : ∀ n, far M x n = (sm2 M n : Int) - 2 * (sm1 M n : Int) * x + (n : Int) * (x * x)
  | 0 => by simp [far, sm1, sm2]
  | n + 1 => by
    rw [far, far_eq M x n, sm1, sm2]
    push_cast
    grind
def gapQ (M : Nat → Nat) (n : Nat) : Int := (n : Int) * (sm2 M n : Int) - (sm1 M n : Int) * (sm1 M n : Int)
theorem gapQ_succ (M : Nat → Nat) (n : Nat) : gapQ M (n + 1) = gapQ M n + far M (M n : Int) n := by
  rw [far_eq]
  unfold gapQ
  rw [sm1, sm2]
  push_cast
  grind
theorem gapQ_nn (M : Nat → Nat) : ∀ n, 0 ≤ gapQ M n
  | 0 => by simp [gapQ, sm1]
  | n + 1 => by rw [gapQ_succ]; exact Int.add_nonneg (gapQ_nn M n) (far_nn _ _ _)
theorem far_zero {M : Nat → Nat} {x : Int} : ∀ n, far M x n = 0 → ∀ i, i < n → (M i : Int) = x
  | 0, _, i, hi => by omega
  | n + 1, h, i, hi => by
    rw [far] at h
    have h1 := far_nn M x n
    have h2 := sq_nn ((M n : Int) - x)
    rcases Nat.lt_or_ge i n with c | c
    · exact far_zero n (by omega) i c
    obtain rfl : i = n := by omega
    have h3 : ((M i : Int) - x) * ((M i : Int) - x) = 0 := by omega
    rcases Int.mul_eq_zero.1 h3 with h4 | h4 <;> omega
theorem far_same {M : Nat → Nat} {x : Int} : ∀ n, (∀ i, i < n → (M i : Int) = x) → far M x n = 0
  | 0, _ => rfl
  | n + 1, h => by rw [far, far_same n fun i hi => h i (by omega), h n (by omega)]; simp
theorem gapQ_same {M : Nat → Nat} : ∀ n, gapQ M n = 0 ↔ ∀ i, i < n → M i = M 0
  | 0 => by simp [gapQ, sm1]
  | n + 1 => by
    rw [gapQ_succ]
    have h1 := gapQ_nn M n
    have h2 := far_nn M (M n : Int) n
    constructor
    · intro h i hi
      have h3 := far_zero n (show far M (M n : Int) n = 0 by omega)
      have h4 : ∀ j, j < n + 1 → M j = M n := fun j hj => by
        rcases Nat.lt_or_ge j n with c | c
        · exact_mod_cast h3 j c
        obtain rfl : j = n := by omega
        rfl
      rw [h4 i hi, h4 0 (by omega)]
    intro h
    have h3 := (gapQ_same n).2 fun i hi => h i (by omega)
    have h4 := far_same (M := M) (x := (M n : Int)) n fun i hi => by rw [h i (by omega), h n (by omega)]
    omega
theorem sq_le (M : Nat → Nat) (n : Nat) : sm1 M n * sm1 M n ≤ n * sm2 M n := by
  have h := gapQ_nn M n
  unfold gapQ at h
  have : ((sm1 M n * sm1 M n : Nat) : Int) ≤ ((n * sm2 M n : Nat) : Int) := by push_cast; omega
  exact_mod_cast this
theorem sq_eq (M : Nat → Nat) (n : Nat) : sm1 M n * sm1 M n = n * sm2 M n ↔ ∀ i, i < n → M i = M 0 := by
  rw [← gapQ_same]
  unfold gapQ
  constructor
  · intro h
    have : ((sm1 M n * sm1 M n : Nat) : Int) = ((n * sm2 M n : Nat) : Int) := by rw [h]
    push_cast at this
    omega
  intro h
  have : ((sm1 M n * sm1 M n : Nat) : Int) = ((n * sm2 M n : Nat) : Int) := by push_cast; omega
  exact_mod_cast this
theorem sq_ge (M : Nat → Nat) : ∀ n, sm2 M n ≤ sm1 M n * sm1 M n
  | 0 => by simp [sm1, sm2]
  | n + 1 => by
    have := sq_ge M n
    rw [sm1, sm2]
    have e : (sm1 M n + M n) * (sm1 M n + M n) = sm1 M n * sm1 M n + (2 * (sm1 M n * M n)) + M n * M n := by grind
    omega
theorem sm2_zero {M : Nat → Nat} : ∀ n, sm2 M n = 0 ↔ ∀ i, i < n → M i = 0
  | 0 => by simp [sm2]
  | n + 1 => by
    rw [sm2]
    constructor
    · intro h i hi
      rcases Nat.lt_or_ge i n with c | c
      · exact (sm2_zero n).1 (by omega) i c
      obtain rfl : i = n := by omega
      rcases Nat.mul_eq_zero.1 (show M i * M i = 0 by omega) with h | h <;> exact h
    intro h
    rw [(sm2_zero n).2 fun i hi => h i (by omega), h n (by omega)]
def pr1 (D : Nat → Nat) : Nat → Nat
  | 0 => 1
  | n + 1 => pr1 D n * D n
def nu1 (X D : Nat → Nat) : Nat → Nat
  | 0 => 0
  | n + 1 => nu1 X D n * D n + X n * pr1 D n
def nu2 (X D : Nat → Nat) : Nat → Nat
  | 0 => 0
  | n + 1 => nu2 X D n * (D n * D n) + X n * X n * (pr1 D n * pr1 D n)
theorem pr1_pos {D : Nat → Nat} : ∀ n, (∀ i, i < n → 0 < D i) → 0 < pr1 D n
  | 0, _ => by simp [pr1]
  | n + 1, h => Nat.mul_pos (pr1_pos n fun i hi => h i (by omega)) (h n (by omega))
def whl (X D : Nat → Nat) (E : Nat) : Nat → Nat := fun i => X i * (E / D i)
theorem pr1_dvd (D : Nat → Nat) : ∀ n i, i < n → D i ∣ pr1 D n
  | n + 1, i, hi => by
    rw [pr1]
    rcases Nat.lt_or_ge i n with c | c
    · exact Nat.dvd_trans (pr1_dvd D n i c) (Nat.dvd_mul_right _ _)
    obtain rfl : i = n := by omega
    exact Nat.dvd_mul_left _ _
theorem nu_whl (X D : Nat → Nat) : ∀ n, (∀ i, i < n → 0 < D i) → nu1 X D n = sm1 (whl X D (pr1 D n)) n ∧ nu2 X D n = sm2 (whl X D (pr1 D n)) n
  | 0, _ => ⟨rfl, rfl⟩
  | n + 1, h => by
    obtain ⟨h1, h2⟩ := nu_whl X D n fun i hi => h i (by omega)
    have hn := h n (by omega)
    have e : ∀ i, i < n → whl X D (pr1 D (n + 1)) i = whl X D (pr1 D n) i * D n := fun i hi => by
      obtain ⟨c, hc⟩ := pr1_dvd D n i hi
      have hi' := h i (by omega)
      unfold whl
      rw [pr1, hc, Nat.mul_assoc, Nat.mul_div_cancel_left _ hi', Nat.mul_div_cancel_left _ hi', Nat.mul_assoc]
    have e2 : whl X D (pr1 D (n + 1)) n = X n * pr1 D n := by
      unfold whl
      rw [pr1, Nat.mul_div_cancel _ hn]
    constructor
    · rw [nu1, sm1, sm1_congr n e, sm1_mul, e2, h1]
    rw [nu2, sm2, sm2_congr n e, sm2_mul, e2, h2]
    grind
end Go.Proofs.YtfkkomppfghagaaGreatDoor
namespace Go.Proofs.YtfkkomppfghagaaGreatDoor
open Go.RowKit
set_option maxRecDepth 100000
set_option linter.unusedVariables false
set_option maxHeartbeats 8000000 in
theorem ratMulInt_yes (v : Value) (p q k : Nat) (w : World) (h : Rt w v p q) (hp : RS p) (hq : RS q) (hk : k ≤ 9223372036854775807) (hT : Tab w) :
    Calls Tryz.prog 24 #[v, .int .i64 (k : Int)] w (MakesRB w (mulP p q k 1) (mulQ p q k 1) true) := by
  obtain ⟨p1, m1, d1, p2, m2, d2, e0, _, _⟩ := h.raw
  subst e0
  have S1 : Hid _ := (((sx_start w).addF h).box (.slice p1 m1 d1) (.slice p2 m2 d2) 47 _ rfl).box (.slice none 0 0) (.slice none 0 0) 47 _ rfl
  simp only [World.size_alloc] at S1
  obtain ⟨w0, hw0⟩ : ∃ w0, w0 = (w.alloc (.cells #[.slice p1 m1 d1, .slice p2 m2 d2] 47)).alloc (.cells #[.slice none 0 0, .slice none 0 0] 47) := ⟨_, rfl⟩
  have f6 : w0.frozen? ⟨w.heap.size + 1, 0, none⟩ = false := by rw [hw0]; simp [go_sem]
  have f7 : w0.frozen? ⟨w.heap.size + 1, 1, none⟩ = false := by rw [hw0]; simp [go_sem]
  have HH : Hid (RS p ∧ RS q ∧ RS k ∧ RS 1 ∧ Tab w) := ⟨hp, hq, rs_word (by omega), rs_word (by omega), hT⟩
  have HO : Hid (∀ w, Tab w → Calls Tryz.prog 20 #[.int .i64 (k : Int), .int .i64 1] w (MakesRB w k 1 true)) := fun w hT => by
    have := ratOf_yes k 1 w (by omega) (by omega) (by omega) hT
    rw [Nat.gcd_one_right, Nat.div_one, Nat.div_one] at this
    exact this
  clear h hp hq hT
  go_enter Tryz.func24, Tryz.ntmps24
  go_wp2_with fail
  rw [← hw0] at S1
  rw [← hw0]
  obtain ⟨b2, hb2⟩ : ∃ b2, b2 = w.heap.size := ⟨_, rfl⟩
  have HB : Hid (w.heap.size ≤ b2 + 1) := by show _ ≤ _; omega
  rw [← hb2] at S1 f6 f7
  rw [← hb2]
  clear hw0 hb2
  have FZ : Hid (w0.frozen? ⟨b2 + 1, 0, none⟩ = false ∧ w0.frozen? ⟨b2 + 1, 1, none⟩ = false) := ⟨f6, f7⟩
  clear f6 f7
  refine (HO.out _ (HH.out.2.2.2.2.go S1.out.bel)).mono ?_
  rintro e w7 ⟨v7, rfl, hv, hb⟩
  obtain ⟨a7, n7, c7, a8, n8, c8, ev, _, _⟩ := hv.raw
  subst ev
  have hbb := bel_go hb (bel_al (o := .cells #[.slice a7 n7 c7, .slice a8 n8 c8] 47) (bel_refl _))
  have FZ : Hid ((w7.alloc (.cells #[.slice a7 n7 c7, .slice a8 n8 c8] 47)).frozen? ⟨b2 + 1, 0, none⟩ = false ∧ (w7.alloc (.cells #[.slice a7 n7 c7, .slice a8 n8 c8] 47)).frozen? ⟨b2 + 1, 1, none⟩ = false) := ⟨(hbb.frozen (World.block_lt_of_cell? _ _ (S1.out.cel (b2 + 1) 0 (.slice none 0 0)))).trans FZ.out.1, (hbb.frozen (World.block_lt_of_cell? _ _ (S1.out.cel (b2 + 1) 1 (.slice none 0 0)))).trans FZ.out.2⟩
  have S3 : Hid _ := ((S1.out.go hb).addF hv).box (.slice a7 n7 c7) (.slice a8 n8 c8) 47 _ rfl
  clear hv hb hbb S1
  have z1 := S3.out.cel b2 0 (.slice p1 m1 d1)
  have z2 := S3.out.cel b2 1 (.slice p2 m2 d2)
  go_wp2_with fail
  clear z1 z2
  refine (ratMul_any _ _ p q k 1 _ (S3.out.fr (.agg #[.slice p1 m1 d1, .slice p2 m2 d2]) p q) (S3.out.fr (.agg #[.slice a7 n7 c7, .slice a8 n8 c8]) k 1) HH.out.1 HH.out.2.1 HH.out.2.2.1 HH.out.2.2.2.1 (HH.out.2.2.2.2.go S3.out.bel)).mono ?_
  rintro e w13 ⟨v13, rfl, hv, hb⟩
  obtain ⟨p7, q7, r7, p8, q8, r8, ev, _, _⟩ := hv.raw
  subst ev
  have x0 := cell_later hb (S3.out.cel (b2 + 1) 0 (.slice none 0 0))
  have x1 := cell_later hb (S3.out.cel (b2 + 1) 1 (.slice none 0 0))
  have f0 : w13.frozen? ⟨b2 + 1, 0, none⟩ = false := (hb.frozen (World.block_lt_of_cell? _ _ (S3.out.cel (b2 + 1) 0 (.slice none 0 0)))).trans FZ.out.1
  have f1 : w13.frozen? ⟨b2 + 1, 1, none⟩ = false := (hb.frozen (World.block_lt_of_cell? _ _ (S3.out.cel (b2 + 1) 1 (.slice none 0 0)))).trans FZ.out.2
  have Z : Hid _ := rat_put (w0 := w) (v := .slice p7 q7 r7) (u := .slice p8 q8 r8) x0 x1 hv (bel_go S3.out.bel hb) HB.out
  clear hv hb S3 FZ
  go_wp2_with fail
  exact bodyPost_ret (v := .tuple #[.agg #[.slice p7 q7 r7, .slice p8 q8 r8], .bool true]) (by simp [results, Tryz.results24, go_sem, x0, x1]) rfl ⟨_, rfl, Z.out.1, Z.out.2⟩
theorem Fc.mulInt {p q N D n k : Nat} (h : Fc p q N D n) (hn : n ≤ 90) (hk : k ≤ 9223372036854775807) : ∃ A B, Fc A B (N * k) D (n + 1) ∧ ∀ v w, Rt w v p q → Tab w → Calls Tryz.prog 24 #[v, .int .i64 (k : Int)] w (MakesRB w A B true) := by
  have kk : Fc k 1 k 1 1 := ⟨Nat.gcd_one_right _, by omega, by omega, rfl, by rw [P_one]; omega, by rw [P_one]; omega⟩
  have low := mul_low h.pos kk.pos h.low kk.low
  have s1 : mulP p q k 1 < P (n + 1) := mulP_lt (Nat.lt_of_le_of_lt (Nat.div_le_self _ _) h.s1) (Nat.lt_of_le_of_lt (Nat.div_le_self _ _) kk.s1)
  have s2 : mulQ p q k 1 < P (n + 1) := mulP_lt (Nat.lt_of_le_of_lt (Nat.div_le_self _ _) h.s2) (Nat.lt_of_le_of_lt (Nat.div_le_self _ _) kk.s2)
  have vv := val_mul h.pos kk.pos h.val kk.val low.2.2
  rw [Nat.mul_one] at vv
  exact ⟨_, _, ⟨low.1, low.2.1, h.dpos, vv, s1, s2⟩, fun v w e hT => ratMulInt_yes v p q k w e (h.rs1 hn) (h.rs2 hn) hk hT⟩
end Go.Proofs.YtfkkomppfghagaaGreatDoor
