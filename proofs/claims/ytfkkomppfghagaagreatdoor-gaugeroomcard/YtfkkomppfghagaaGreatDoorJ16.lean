/- Contracts of the program's functions, part 16: own work, joined in build order. -/
import Derived.Test.YtfkkomppfghagaaGreatDoorJ15
import Derived.Maps.AppendAt
import Derived.Laws.AppendOwnNone
import Derived.Deep.Cut
import Derived.Deep.CutRange
namespace Go.Proofs.YtfkkomppfghagaaGreatDoor
open Go.RowKit
set_option maxRecDepth 100000
set_option linter.unusedVariables false
structure Fc (p q N D n : Nat) : Prop where
  low : Nat.gcd p q = 1
  pos : 0 < q
  dpos : 0 < D
  val : p * D = N * q
  s1 : p < P n
  s2 : q < P n
theorem Fc.rs1 {p q N D n : Nat} (h : Fc p q N D n) (hn : n ≤ 90) : RS p := ⟨Nat.lt_of_lt_of_le h.s1 (P_le hn)⟩
theorem Fc.rs2 {p q N D n : Nat} (h : Fc p q N D n) (hn : n ≤ 90) : RS q := ⟨Nat.lt_of_lt_of_le h.s2 (P_le hn)⟩
theorem Fc.own {p q n : Nat} (h1 : Nat.gcd p q = 1) (h2 : 0 < q) (h3 : p < P n) (h4 : q < P n) : Fc p q p q n := ⟨h1, h2, h2, rfl, h3, h4⟩
theorem add_cross {p q x y : Nat} (hq : 0 < q) (hy : 0 < y) (h1 : Nat.gcd p q = 1) (h2 : Nat.gcd x y = 1) : addP p q x y * (q * y) = (p * y + x * q) * addQ p q x y := by
  obtain ⟨e1, e2⟩ := add_same hq hy h1 h2
  obtain ⟨_, t2, _⟩ := low_terms (p * y + x * q) (q * y) (Nat.mul_pos hq hy)
  rw [e1, e2] at t2
  exact t2
theorem mulP_lt {x y n m : Nat} (h : x < P n) (k : y < P m) : x * y < P (n + m) := by
  rw [P_add]
  exact Nat.mul_lt_mul'' h k
theorem P_up {x n m : Nat} (h : x < P n) (hm : n ≤ m) : x < P m := Nat.lt_of_lt_of_le h (P_le hm)
theorem val_add {p q x y N1 D1 N2 D2 A B : Nat} (hq : 0 < q) (hy : 0 < y) (v1 : p * D1 = N1 * q) (v2 : x * D2 = N2 * y) (e : A * (q * y) = (p * y + x * q) * B) : A * (D1 * D2) = (N1 * D2 + N2 * D1) * B := by
  refine Nat.eq_of_mul_eq_mul_right (Nat.mul_pos hq hy) ?_
  have h1 : A * (D1 * D2) * (q * y) = A * (q * y) * (D1 * D2) := by grind
  have h2 : (p * y + x * q) * B * (D1 * D2) = (p * D1 * y * D2 + x * D2 * q * D1) * B := by grind
  rw [h1, e, h2, v1, v2]
  grind
theorem val_mul {p q x y N1 D1 N2 D2 A B : Nat} (hq : 0 < q) (hy : 0 < y) (v1 : p * D1 = N1 * q) (v2 : x * D2 = N2 * y) (e : A * (q * y) = p * x * B) : A * (D1 * D2) = N1 * N2 * B := by
  refine Nat.eq_of_mul_eq_mul_right (Nat.mul_pos hq hy) ?_
  have h1 : A * (D1 * D2) * (q * y) = A * (q * y) * (D1 * D2) := by grind
  have h2 : p * x * B * (D1 * D2) = p * D1 * (x * D2) * B := by grind
  rw [h1, e, h2, v1, v2]
  grind
theorem Fc.add {p q N1 D1 n x y N2 D2 m : Nat} (h : Fc p q N1 D1 n) (k : Fc x y N2 D2 m) (hn : n ≤ 90) (hm : m ≤ 90) : ∃ A B, Fc A B (N1 * D2 + N2 * D1) (D1 * D2) (n + m + 1) ∧ (A = addP p q x y ∧ B = addQ p q x y) ∧ ∀ v u w, Rt w v p q → Rt w u x y → Tab w → Calls Tryz.prog 35 #[v, u] w (MakesR w A B) := by
  have low := add_low h.pos k.pos h.low k.low (A := addA p q x y) rfl rfl
  have d1 : y / Nat.gcd q y < P m := Nat.lt_of_le_of_lt (Nat.div_le_self _ _) k.s2
  have d2 : q / Nat.gcd q y < P n := Nat.lt_of_le_of_lt (Nat.div_le_self _ _) h.s2
  have h1 : addA p q x y < P (n + m + 1) := P_twice (mulP_lt h.s1 d1) (by rw [Nat.add_comm n m]; exact mulP_lt k.s1 d2)
  have h2 : addQ p q x y < P (n + m) := mulP_lt d2 (Nat.lt_of_le_of_lt (Nat.div_le_self _ _) k.s2)
  exact ⟨_, _, ⟨low.2.1, low.2.2, Nat.mul_pos h.dpos k.dpos, val_add h.pos k.pos h.val k.val (add_cross h.pos k.pos h.low k.low), Nat.lt_of_le_of_lt (Nat.div_le_self _ _) h1, P_up h2 (by omega)⟩, ⟨rfl, rfl⟩, fun v u w e1 e2 hT => ratAdd_any v u p q x y w e1 e2 (h.rs1 hn) (h.rs2 hn) (k.rs1 hm) (k.rs2 hm) hT⟩
theorem Fc.mul {p q N1 D1 n x y N2 D2 m : Nat} (h : Fc p q N1 D1 n) (k : Fc x y N2 D2 m) (hn : n ≤ 90) (hm : m ≤ 90) : ∃ A B, Fc A B (N1 * N2) (D1 * D2) (n + m) ∧ ∀ v u w, Rt w v p q → Rt w u x y → Tab w → Calls Tryz.prog 36 #[v, u] w (MakesR w A B) := by
  have low := mul_low h.pos k.pos h.low k.low
  exact ⟨_, _, ⟨low.1, low.2.1, Nat.mul_pos h.dpos k.dpos, val_mul h.pos k.pos h.val k.val low.2.2, mulP_lt (Nat.lt_of_le_of_lt (Nat.div_le_self _ _) h.s1) (Nat.lt_of_le_of_lt (Nat.div_le_self _ _) k.s1), mulP_lt (Nat.lt_of_le_of_lt (Nat.div_le_self _ _) h.s2) (Nat.lt_of_le_of_lt (Nat.div_le_self _ _) k.s2)⟩, fun v u w e1 e2 hT => ratMul_any v u p q x y w e1 e2 (h.rs1 hn) (h.rs2 hn) (k.rs1 hm) (k.rs2 hm) hT⟩
theorem Fc.cross {p q N1 D1 n x y N2 D2 m : Nat} (h : Fc p q N1 D1 n) (k : Fc x y N2 D2 m) : (p * y) * (D1 * D2) = (N1 * D2) * (q * y) ∧ (x * q) * (D1 * D2) = (N2 * D1) * (q * y) := by
  constructor
  · have : (p * y) * (D1 * D2) = p * D1 * (y * D2) := by grind
    rw [this, h.val]
    grind
  have : (x * q) * (D1 * D2) = x * D2 * (q * D1) := by grind
  rw [this, k.val]
  grind
theorem Fc.le {p q N1 D1 n x y N2 D2 m : Nat} (h : Fc p q N1 D1 n) (k : Fc x y N2 D2 m) : x * q ≤ p * y ↔ N2 * D1 ≤ N1 * D2 := by
  obtain ⟨e1, e2⟩ := h.cross k
  have hd := Nat.mul_pos h.dpos k.dpos
  have hq := Nat.mul_pos h.pos k.pos
  rw [← Nat.mul_le_mul_right_iff hd, e1, e2, Nat.mul_le_mul_right_iff hq]
theorem Fc.zero {p q N D n : Nat} (h : Fc p q N D n) : p = 0 ↔ N = 0 := by
  have h1 := h.val
  have h2 := h.pos
  have h3 := h.dpos
  constructor
  · rintro rfl
    rw [Nat.zero_mul] at h1
    rcases Nat.mul_eq_zero.1 h1.symm with e | e
    · exact e
    omega
  rintro rfl
  rw [Nat.zero_mul] at h1
  rcases Nat.mul_eq_zero.1 h1 with e | e
  · exact e
  omega
theorem Fc.div {p q N1 D1 n x y N2 D2 m : Nat} (h : Fc p q N1 D1 n) (k : Fc x y N2 D2 m) (hn : n ≤ 90) (hm : m ≤ 90) (h0 : 0 < N2) : ∃ A B, Fc A B (N1 * D2) (D1 * N2) (n + m) ∧ ∀ v u w, Rt w v p q → Rt w u x y → Tab w → Calls Tryz.prog 38 #[v, u] w (MakesRB w A B true) := by
  have x0 : 0 < x := Nat.pos_of_ne_zero fun e => by have := k.zero.1 e; omega
  have low := mul_low (p := p) (q := q) (x := y) (y := x) h.pos x0 h.low (by rw [Nat.gcd_comm]; exact k.low)
  exact ⟨_, _, ⟨low.1, low.2.1, Nat.mul_pos h.dpos h0, val_mul (x := y) (y := x) (N2 := D2) (D2 := N2) h.pos x0 h.val (by rw [Nat.mul_comm y, Nat.mul_comm D2]; exact k.val.symm) low.2.2, mulP_lt (Nat.lt_of_le_of_lt (Nat.div_le_self _ _) h.s1) (Nat.lt_of_le_of_lt (Nat.div_le_self _ _) k.s2), mulP_lt (Nat.lt_of_le_of_lt (Nat.div_le_self _ _) h.s2) (Nat.lt_of_le_of_lt (Nat.div_le_self _ _) k.s1)⟩, fun v u w e1 e2 hT => ratDiv_yes v u p q x y w e1 e2 (h.rs1 hn) (h.rs2 hn) (k.rs1 hm) (k.rs2 hm) x0 hT⟩
theorem cmp_scale {a b c d s t : Nat} (hs : 0 < s) (ht : 0 < t) (e1 : a * s = c * t) (e2 : b * s = d * t) : cmpI a b = cmpI c d := by
  have l1 : a < b ↔ c < d := by rw [← Nat.mul_lt_mul_right hs, e1, e2, Nat.mul_lt_mul_right ht]
  have l2 : b < a ↔ d < c := by rw [← Nat.mul_lt_mul_right hs, e1, e2, Nat.mul_lt_mul_right ht]
  unfold cmpI
  by_cases h1 : a < b
  · rw [if_pos h1, if_pos (l1.1 h1)]
  rw [if_neg h1, if_neg (fun e => h1 (l1.2 e))]
  by_cases h2 : b < a
  · have h3 := l2.1 h2
    rw [if_neg (by omega), if_neg (by omega)]
  have h3 : ¬ d < c := fun e => h2 (l2.2 e)
  have h4 : ¬ c < d := fun e => h1 (l1.2 e)
  rw [if_pos (by omega), if_pos (by omega)]
theorem Fc.cmp {p q N1 D1 n x y N2 D2 m : Nat} (h : Fc p q N1 D1 n) (k : Fc x y N2 D2 m) (hn : n ≤ 90) (hm : m ≤ 90) {z : Int} (hz : cmpI (N1 * D2) (N2 * D1) = z) : ∀ v u w, Rt w v p q → Rt w u x y → Calls Tryz.prog 21 #[v, u] w fun e w' => e = .returned (.int .i64 z) ∧ Below w.heap.size w w' := fun v u w e1 e2 => by
  have := ratCmp_any v u p q x y w e1 e2 (h.rs1 hn) (h.rs2 hn) (k.rs1 hm) (k.rs2 hm)
  rw [cmp_scale (Nat.mul_pos h.dpos k.dpos) (Nat.mul_pos h.pos k.pos) (h.cross k).1 (h.cross k).2, hz] at this
  exact this
theorem cmpI_same {x y : Nat} (h : x = y) : cmpI x y = 0 := by unfold cmpI; rw [if_neg (by omega), if_pos h]
def tri (a b c : Nat) : Nat → Nat := fun i => if i = 0 then a else if i = 1 then b else c
def Three (w : World) (v : Value) (X Y : Nat → Nat) : Prop := ∃ (g : Nat) (E E' : Nat → Value), v = .slice (some ⟨g, 0, none⟩) 3 3 ∧ g < w.heap.size ∧ ∀ i, i < 3 → w.cell? ⟨g, i * 2, none⟩ = some (E i) ∧ w.cell? ⟨g, i * 2 + 1, none⟩ = some (E' i) ∧ Rt w (.agg #[E i, E' i]) (X i) (Y i)
theorem Three.mono {w w' : World} {v : Value} {X Y : Nat → Nat} (h : Three w v X Y) (hb : Below w.heap.size w w') : Three w' v X Y := by
  obtain ⟨g, E, E', e, hg, he⟩ := h
  exact ⟨g, E, E', e, Nat.lt_of_lt_of_le hg hb.size, fun i hi => ⟨cell_later hb (he i hi).1, cell_later hb (he i hi).2.1, (he i hi).2.2.mono hb⟩⟩
theorem Fc.sum {p1 q1 N1 D1 n1 p2 q2 N2 D2 n2 p3 q3 N3 D3 n3 : Nat} (h1 : Fc p1 q1 N1 D1 n1) (h2 : Fc p2 q2 N2 D2 n2) (h3 : Fc p3 q3 N3 D3 n3) (hn : n1 + n2 + n3 + 4 ≤ 90) : ∃ A B, Fc A B ((N1 * D2 + N2 * D1) * D3 + N3 * (D1 * D2)) (D1 * D2 * D3) (n1 + n2 + n3 + 4) ∧ ∀ v w, Three w v (tri p1 p2 p3) (tri q1 q2 q3) → Tab w → Calls Tryz.prog 37 #[v] w (MakesR w A B) := by
  have z : Fc 0 1 0 1 1 := ⟨by simp, by omega, by omega, rfl, by rw [P_one]; omega, by rw [P_one]; omega⟩
  obtain ⟨A1, B1, f1, g1, _⟩ := z.add h1 (by omega) (by omega)
  obtain ⟨A2, B2, f2, g2, _⟩ := f1.add h2 (by omega) (by omega)
  obtain ⟨A3, B3, f3, g3, _⟩ := f2.add h3 (by omega) (by omega)
  have e1 : sumPQ (tri p1 p2 p3) (tri q1 q2 q3) 1 = (A1, B1) := by
    rw [g1.1, g1.2]
    rfl
  have e2 : sumPQ (tri p1 p2 p3) (tri q1 q2 q3) 2 = (A2, B2) := by
    rw [g2.1, g2.2, sumPQ, e1]
    rfl
  have e3 : sumPQ (tri p1 p2 p3) (tri q1 q2 q3) 3 = (A3, B3) := by
    rw [g3.1, g3.2, sumPQ, e2]
    rfl
  refine ⟨A3, B3, ⟨f3.low, f3.pos, Nat.mul_pos (Nat.mul_pos h1.dpos h2.dpos) h3.dpos, ?_, P_up f3.s1 (by omega), P_up f3.s2 (by omega)⟩, fun v w hv hT => ?_⟩
  · have := f3.val
    simp only [Nat.zero_mul, Nat.one_mul, Nat.mul_one, Nat.zero_add] at this
    exact this
  obtain ⟨g, E, E', rfl, hg, he⟩ := hv
  have hs : ∀ i, i < 3 → RS (tri p1 p2 p3 i) ∧ RS (tri q1 q2 q3 i) ∧ RS (sumPQ (tri p1 p2 p3) (tri q1 q2 q3) i).1 ∧ RS (sumPQ (tri p1 p2 p3) (tri q1 q2 q3) i).2 := fun i hi => by
    match i, hi with
    | 0, _ => exact ⟨h1.rs1 (by omega), h1.rs2 (by omega), z.rs1 (by omega), z.rs2 (by omega)⟩
    | 1, _ => rw [e1]; exact ⟨h2.rs1 (by omega), h2.rs2 (by omega), f1.rs1 (by omega), f1.rs2 (by omega)⟩
    | 2, _ => rw [e2]; exact ⟨h3.rs1 (by omega), h3.rs2 (by omega), f2.rs1 (by omega), f2.rs2 (by omega)⟩
  have := ratSum_any g 3 3 E E' (tri p1 p2 p3) (tri q1 q2 q3) w (by omega) (by omega) (by omega) he hs hg hT
  rw [e3] at this
  exact this
def MSpec : Type := { R : World → Value → Prop // ∀ {w w' : World} {v : Value}, R w v → Below w.heap.size w w' → R w' v }
def Spec.m (s : Spec) : MSpec := ⟨s.1, fun h hb => s.2.mono h hb⟩
theorem Fc.dvd {p q N D n : Nat} (h : Fc p q N D n) : p ∣ N ∧ q ∣ D := by
  refine ⟨Nat.Coprime.dvd_of_dvd_mul_right h.low ⟨D, h.val.symm⟩, ?_⟩
  exact Nat.Coprime.dvd_of_dvd_mul_left (Nat.Coprime.symm h.low) ⟨N, by rw [h.val, Nat.mul_comm]⟩
theorem Fc.le1 {p q N D n : Nat} (h : Fc p q N D n) : p ≤ N := by
  rcases Nat.eq_zero_or_pos N with e | e
  · rw [h.zero.2 e]
    omega
  exact Nat.le_of_dvd e h.dvd.1
theorem Fc.le2 {p q N D n : Nat} (h : Fc p q N D n) : q ≤ D := Nat.le_of_dvd h.dpos h.dvd.2
theorem Fc.norm {p q N D n m : Nat} (h : Fc p q N D n) (hN : N < P m) (hD : D < P m) : Fc p q N D m :=
  ⟨h.low, h.pos, h.dpos, h.val, Nat.lt_of_le_of_lt h.le1 hN, Nat.lt_of_le_of_lt h.le2 hD⟩
theorem Fc.scale {p q N D k n N' D' : Nat} (h : Fc p q N' D' n) (hN : N' = N * k) (hD : D' = D * k) (hk : 0 < k) : Fc p q N D n := by
  subst hN hD
  refine ⟨h.low, h.pos, Nat.pos_of_ne_zero fun e => ?_, ?_, h.s1, h.s2⟩
  · have := h.dpos
    rw [e, Nat.zero_mul] at this
    omega
  refine Nat.eq_of_mul_eq_mul_right hk ?_
  have := h.val
  rw [Nat.mul_assoc, this]
  grind
theorem Fc.one {p q p' q' N D n m : Nat} (h : Fc p q N D n) (k : Fc p' q' N D m) : p = p' ∧ q = q' := by
  have e : p * q' = p' * q := by
    refine Nat.eq_of_mul_eq_mul_right h.dpos ?_
    have h1 := h.val
    have h2 := k.val
    rw [show p * q' * D = p * D * q' by grind, h1, show p' * q * D = p' * D * q by grind, h2]
    grind
  have a1 : q ∣ q' := Nat.Coprime.dvd_of_dvd_mul_left (Nat.Coprime.symm h.low) ⟨p', by rw [e, Nat.mul_comm]⟩
  have a2 : q' ∣ q := Nat.Coprime.dvd_of_dvd_mul_left (Nat.Coprime.symm k.low) ⟨p, by rw [← e, Nat.mul_comm]⟩
  have e2 : q = q' := Nat.dvd_antisymm a1 a2
  subst e2
  exact ⟨Nat.eq_of_mul_eq_mul_right h.pos e, rfl⟩
structure Fb (S : Nat → Prop) (W W' : World) : Prop where
  os : W'.os = W.os
  tape : W'.tape = W.tape
  output : W'.output = W.output
  size : W.heap.size ≤ W'.heap.size
  block : ∀ k, k < W.heap.size → ¬ S k → W'.heap[k]? = W.heap[k]?
theorem Fb.refl (S : Nat → Prop) (W : World) : Fb S W W := ⟨rfl, rfl, rfl, Nat.le_refl _, fun _ _ _ => rfl⟩
theorem Fb.trans {S : Nat → Prop} {a b c : World} (h : Fb S a b) (k : Fb S b c) : Fb S a c :=
  ⟨k.os.trans h.os, k.tape.trans h.tape, k.output.trans h.output, Nat.le_trans h.size k.size, fun i hi hn => (k.block i (Nat.lt_of_lt_of_le hi h.size) hn).trans (h.block i hi hn)⟩
theorem Fb.of {S : Nat → Prop} {a b : World} (h : Below a.heap.size a b) : Fb S a b := ⟨h.os, h.tape, h.output, h.size, fun i hi _ => h.block i hi⟩
theorem Fb.go {S : Nat → Prop} {a b c : World} (h : Fb S a b) (k : Below b.heap.size b c) : Fb S a c := h.trans (Fb.of k)
theorem Fb.set {S : Nat → Prop} {a b : World} (h : Fb S a b) {x : Addr} (hx : S x.block) (u : Value) : Fb S a (b.setCell x u) :=
  h.trans ⟨rfl, rfl, rfl, by simp [World.setCell], fun k hk hn => Below.heap_setCell _ _ _ _ fun e => hn (e ▸ hx)⟩
theorem Fb.below {S : Nat → Prop} {a b : World} (h : Fb S a b) {lb : Nat} (hl : lb ≤ a.heap.size) (hs : ∀ k, S k → lb ≤ k) : Below lb a b :=
  ⟨h.os, h.tape, h.output, h.size, fun k hk => h.block k (by omega) fun e => by have := hs k e; omega⟩
theorem Fb.cell {S : Nat → Prop} {a b : World} (h : Fb S a b) {p : Addr} {v : Value} (hv : a.cell? p = some v) (hn : ¬ S p.block) : b.cell? p = some v :=
  (World.cell?_of_block (w := a) (h.block p.block (World.block_lt_of_cell? _ _ hv) hn)).trans hv
theorem Fb.heap {S : Nat → Prop} {a b : World} (h : Fb S a b) {k : Nat} {o : Obj} (hv : a.heap[k]? = some o) (hn : ¬ S k) : b.heap[k]? = some o :=
  (h.block k (Array.getElem?_eq_some_iff.1 hv).1 hn).trans hv
def Odd (W : World) (b : Nat) : Prop := ∀ i k n, W.cell? ⟨b, i, none⟩ = some (.int k n) → k = .i64
theorem Words.fb {S : Nat → Prop} {W W' : World} {b o n : Nat} {F : Nat → Nat} (h : Words W b o n F) (f : Fb S W W') (hn : ∀ k, S k → Odd W k) : Words W' b o n F := fun i hi =>
  f.cell (h i hi) fun hs => by have := hn b hs (o + i) _ _ (h i hi); cases this
theorem Sl.fb {S : Nat → Prop} {W W' : World} {a : Option Addr} {n cap : Nat} {F : Nat → Nat} (h : Sl W a n cap F) (f : Fb S W W') (hn : ∀ k, S k → Odd W k) : Sl W' a n cap F := by
  obtain ⟨h1, h2, h3, h4⟩ := h
  refine ⟨h1, h2, h3, h4.imp id ?_⟩
  rintro ⟨b, o, ha, hw⟩
  exact ⟨b, o, ha, hw.fb f hn⟩
theorem IsNat.fb {S : Nat → Prop} {W W' : World} {v : Value} {x : Nat} (h : IsNat W v x) (f : Fb S W W') (hn : ∀ k, S k → Odd W k) : IsNat W' v x := by
  obtain ⟨a, n, cap, F, rfl, hs, h0, h1, hv⟩ := h
  exact ⟨a, n, cap, F, rfl, hs.fb f hn, h0, h1, hv⟩
theorem RNat.fb {S : Nat → Prop} {W W' : World} {v : Value} {x : Nat} (h : RNat W v x) (f : Fb S W W') (hn : ∀ k, S k → Odd W k) : RNat W' v x := by
  obtain ⟨a, n, cap, F, e, hs, hd, h1, hv⟩ := h
  exact ⟨a, n, cap, F, e, hs.fb f hn, hd, h1, hv⟩
theorem Rt.fb {S : Nat → Prop} {W W' : World} {v : Value} {p q : Nat} (h : Rt W v p q) (f : Fb S W W') (hn : ∀ k, S k → Odd W k) : Rt W' v p q := by
  obtain ⟨a, n, c, a', n', c', e, h1, h2⟩ := h.raw
  exact ⟨⟨a, n, c, a', n', c', e, h1.fb f hn, h2.fb f hn⟩, h.pos, h.low⟩
theorem RRt.fb {S : Nat → Prop} {W W' : World} {v : Value} {p q : Nat} (h : RRt W v p q) (f : Fb S W W') (hn : ∀ k, S k → Odd W k) : RRt W' v p q := by
  obtain ⟨a, n, c, a', n', c', e, h1, h2⟩ := h
  exact ⟨a, n, c, a', n', c', e, h1.fb f hn, h2.fb f hn⟩
theorem Tab.fb {S : Nat → Prop} {W W' : World} (h : Tab W) (f : Fb S W W') (hn : ∀ k, S k → Odd W k) : Tab W' := fun j hj =>
  f.cell (h j hj) fun hs => by have := hn _ hs _ _ _ (h j hj); cases this
def isSl (v : Value) : Prop := ∃ a n c, v = .slice a n c
theorem Rt.sl {W : World} {u1 u2 : Value} {p q : Nat} (h : Rt W (.agg #[u1, u2]) p q) : isSl u1 ∧ isSl u2 := by
  obtain ⟨a, n, c, a', n', c', e, _, _⟩ := h.raw
  injection e with e
  injection e with e
  injection e with e1 e
  injection e with e2 e
  exact ⟨⟨_, _, _, e1⟩, ⟨_, _, _, e2⟩⟩
set_option maxHeartbeats 8000000 in
theorem ratMulInt_yes (v : Value) (p q k : Nat) (w : World) (h : Rt w v p q) (hp : RS p) (hq : RS q) (hk : k ≤ 9223372036854775807) (hT : Tab w) :
    Calls Tryz.prog 24 #[v, .int .i64 (k : Int)] w (MakesRB w (mulP p q k 1) (mulQ p q k 1) true) := by
  obtain ⟨p1, m1, d1, p2, m2, d2, e0, _, _⟩ := h.raw
  subst e0
  have S1 : Hid _ := (((sx_start w).addF h).box (.slice p1 m1 d1) (.slice p2 m2 d2) 47 _ rfl).box (.slice none 0 0) (.slice none 0 0) 47 _ rfl
  simp only [World.size_alloc] at S1
  obtain ⟨w0, hw0⟩ : ∃ w0, w0 = (w.alloc (.cells #[.slice p1 m1 d1, .slice p2 m2 d2] 47)).alloc (.cells #[.slice none 0 0, .slice none 0 0] 47) := ⟨_, rfl⟩
  have f6 : w0.frozen? ⟨w.heap.size + 1, 0, none⟩ = false := by rw [hw0]; simp [go_sem]
  have f7 : w0.frozen? ⟨w.heap.size + 1, 1, none⟩ = false := by rw [hw0]; simp [go_sem]
  have HH : Hid (RS p ∧ RS q ∧ RS k ∧ RS 1 ∧ Tab w) := ⟨hp, hq, rs_word (by omega), rs_word (by omega), hT⟩
  have HO : Hid (∀ w, Tab w → Calls Tryz.prog 20 #[.int .i64 (k : Int), .int .i64 1] w (MakesRB w k 1 true)) := fun w hT => by
    have := ratOf_yes k 1 w (by omega) (by omega) (by omega) hT
    rw [Nat.gcd_one_right, Nat.div_one, Nat.div_one] at this
    exact this
  clear h hp hq hT
  go_enter Tryz.func24, Tryz.ntmps24
  go_wp2_with fail
  rw [← hw0] at S1
  rw [← hw0]
  obtain ⟨b2, hb2⟩ : ∃ b2, b2 = w.heap.size := ⟨_, rfl⟩
  have HB : Hid (w.heap.size ≤ b2 + 1) := by show _ ≤ _; omega
  rw [← hb2] at S1 f6 f7
  rw [← hb2]
  clear hw0 hb2
  have FZ : Hid (w0.frozen? ⟨b2 + 1, 0, none⟩ = false ∧ w0.frozen? ⟨b2 + 1, 1, none⟩ = false) := ⟨f6, f7⟩
  clear f6 f7
  refine (HO.out _ (HH.out.2.2.2.2.go S1.out.bel)).mono ?_
  rintro e w7 ⟨v7, rfl, hv, hb⟩
  obtain ⟨a7, n7, c7, a8, n8, c8, ev, _, _⟩ := hv.raw
  subst ev
  have hbb := bel_go hb (bel_al (o := .cells #[.slice a7 n7 c7, .slice a8 n8 c8] 47) (bel_refl _))
  have FZ : Hid ((w7.alloc (.cells #[.slice a7 n7 c7, .slice a8 n8 c8] 47)).frozen? ⟨b2 + 1, 0, none⟩ = false ∧ (w7.alloc (.cells #[.slice a7 n7 c7, .slice a8 n8 c8] 47)).frozen? ⟨b2 + 1, 1, none⟩ = false) := ⟨(hbb.frozen (World.block_lt_of_cell? _ _ (S1.out.cel (b2 + 1) 0 (.slice none 0 0)))).trans FZ.out.1, (hbb.frozen (World.block_lt_of_cell? _ _ (S1.out.cel (b2 + 1) 1 (.slice none 0 0)))).trans FZ.out.2⟩
  have S3 : Hid _ := ((S1.out.go hb).addF hv).box (.slice a7 n7 c7) (.slice a8 n8 c8) 47 _ rfl
  clear hv hb hbb S1
  have z1 := S3.out.cel b2 0 (.slice p1 m1 d1)
  have z2 := S3.out.cel b2 1 (.slice p2 m2 d2)
  go_wp2_with fail
  clear z1 z2
  refine (ratMul_any _ _ p q k 1 _ (S3.out.fr (.agg #[.slice p1 m1 d1, .slice p2 m2 d2]) p q) (S3.out.fr (.agg #[.slice a7 n7 c7, .slice a8 n8 c8]) k 1) HH.out.1 HH.out.2.1 HH.out.2.2.1 HH.out.2.2.2.1 (HH.out.2.2.2.2.go S3.out.bel)).mono ?_
  rintro e w13 ⟨v13, rfl, hv, hb⟩
  obtain ⟨p7, q7, r7, p8, q8, r8, ev, _, _⟩ := hv.raw
  subst ev
  have x0 := cell_later hb (S3.out.cel (b2 + 1) 0 (.slice none 0 0))
  have x1 := cell_later hb (S3.out.cel (b2 + 1) 1 (.slice none 0 0))
  have f0 : w13.frozen? ⟨b2 + 1, 0, none⟩ = false := (hb.frozen (World.block_lt_of_cell? _ _ (S3.out.cel (b2 + 1) 0 (.slice none 0 0)))).trans FZ.out.1
  have f1 : w13.frozen? ⟨b2 + 1, 1, none⟩ = false := (hb.frozen (World.block_lt_of_cell? _ _ (S3.out.cel (b2 + 1) 1 (.slice none 0 0)))).trans FZ.out.2
  have Z : Hid _ := rat_put (w0 := w) (v := .slice p7 q7 r7) (u := .slice p8 q8 r8) x0 x1 hv (bel_go S3.out.bel hb) HB.out
  clear hv hb S3 FZ
  go_wp2_with fail
  exact bodyPost_ret (v := .tuple #[.agg #[.slice p7 q7 r7, .slice p8 q8 r8], .bool true]) (by simp [results, Tryz.results24, go_sem, x0, x1]) rfl ⟨_, rfl, Z.out.1, Z.out.2⟩
theorem Fc.mulInt {p q N D n k : Nat} (h : Fc p q N D n) (hn : n ≤ 90) (hk : k ≤ 9223372036854775807) : ∃ A B, Fc A B (N * k) D (n + 1) ∧ ∀ v w, Rt w v p q → Tab w → Calls Tryz.prog 24 #[v, .int .i64 (k : Int)] w (MakesRB w A B true) := by
  have kk : Fc k 1 k 1 1 := ⟨Nat.gcd_one_right _, by omega, by omega, rfl, by rw [P_one]; omega, by rw [P_one]; omega⟩
  have low := mul_low h.pos kk.pos h.low kk.low
  have s1 : mulP p q k 1 < P (n + 1) := mulP_lt (Nat.lt_of_le_of_lt (Nat.div_le_self _ _) h.s1) (Nat.lt_of_le_of_lt (Nat.div_le_self _ _) kk.s1)
  have s2 : mulQ p q k 1 < P (n + 1) := mulP_lt (Nat.lt_of_le_of_lt (Nat.div_le_self _ _) h.s2) (Nat.lt_of_le_of_lt (Nat.div_le_self _ _) kk.s2)
  have vv := val_mul h.pos kk.pos h.val kk.val low.2.2
  rw [Nat.mul_one] at vv
  exact ⟨_, _, ⟨low.1, low.2.1, h.dpos, vv, s1, s2⟩, fun v w e hT => ratMulInt_yes v p q k w e (h.rs1 hn) (h.rs2 hn) hk hT⟩
theorem pr1_le {D : Nat → Nat} : ∀ n, (∀ i, i < n → D i < P 1) → pr1 D n ≤ P n
  | 0, _ => by simp [pr1, P_zero]
  | n + 1, h => by
    rw [pr1, P_add]
    exact Nat.mul_le_mul (pr1_le n fun i hi => h i (by omega)) (Nat.le_of_lt (h n (by omega)))
theorem nu1_le {X D : Nat → Nat} : ∀ n, (∀ i, i < n → X i < P 1 ∧ D i < P 1) → nu1 X D n ≤ n * P n
  | 0, _ => by simp [nu1]
  | n + 1, h => by
    have h1 := nu1_le n fun i hi => h i (by omega)
    have h2 := pr1_le (D := D) n fun i hi => (h i (by omega)).2
    have h3 := h n (by omega)
    have a1 : nu1 X D n * D n ≤ n * P n * P 1 := Nat.mul_le_mul h1 (Nat.le_of_lt h3.2)
    have a2 : X n * pr1 D n ≤ P 1 * P n := Nat.mul_le_mul (Nat.le_of_lt h3.1) h2
    rw [nu1, P_add]
    generalize P 1 = a at *
    generalize P n = b at *
    have e1 : (n + 1) * (b * a) = n * b * a + a * b := by grind
    omega
theorem nu2_le {X D : Nat → Nat} : ∀ n, (∀ i, i < n → X i < P 1 ∧ D i < P 1) → nu2 X D n ≤ n * P (2 * n)
  | 0, _ => by simp [nu2]
  | n + 1, h => by
    have h1 := nu2_le n fun i hi => h i (by omega)
    have h2 := pr1_le (D := D) n fun i hi => (h i (by omega)).2
    have h3 := h n (by omega)
    have b1 : D n * D n ≤ P 1 * P 1 := Nat.mul_le_mul (Nat.le_of_lt h3.2) (Nat.le_of_lt h3.2)
    have b2 : X n * X n ≤ P 1 * P 1 := Nat.mul_le_mul (Nat.le_of_lt h3.1) (Nat.le_of_lt h3.1)
    have b3 : pr1 D n * pr1 D n ≤ P n * P n := Nat.mul_le_mul h2 h2
    have a1 : nu2 X D n * (D n * D n) ≤ n * P (2 * n) * (P 1 * P 1) := Nat.mul_le_mul h1 b1
    have a2 : X n * X n * (pr1 D n * pr1 D n) ≤ P 1 * P 1 * (P n * P n) := Nat.mul_le_mul b2 b3
    rw [nu2, show 2 * (n + 1) = n + n + (1 + 1) by omega, P_add, P_add, P_add]
    rw [show 2 * n = n + n by omega, P_add] at a1
    generalize P 1 = a at *
    generalize P n = b at *
    have e1 : (n + 1) * (b * b * (a * a)) = n * (b * b) * (a * a) + a * a * (b * b) := by grind
    omega
theorem few_lt {x n m k : Nat} (h : x ≤ n * P k) (hn : n ≤ 1000) (hk : k + 1 ≤ m) : x < P m := by
  refine Nat.lt_of_lt_of_le (?_ : x < P (k + 1)) (P_le hk)
  rw [P_add, P_one]
  have := P_pos k
  have : n * P k ≤ 1000 * P k := Nat.mul_le_mul hn (Nat.le_refl _)
  omega
structure Fq (n : Nat) (X Y N D : Nat → Nat) : Prop where
  few : n ≤ 15
  fc : ∀ i, i < n → Fc (X i) (Y i) (N i) (D i) 1
  lt : ∀ i, i < n → N i < P 1 ∧ D i < P 1
theorem Fq.pos {n : Nat} {X Y N D : Nat → Nat} (h : Fq n X Y N D) : ∀ i, i < n → 0 < D i := fun i hi => (h.fc i hi).dpos
theorem Fq.size {n : Nat} {X Y N D : Nat → Nat} (h : Fq n X Y N D) {i : Nat} (hi : i ≤ n) : nu1 N D i < P 16 ∧ pr1 D i < P 16 ∧ nu2 N D i < P 31 ∧ pr1 D i * pr1 D i < P 31 ∧ 0 < pr1 D i := by
  have hf := h.few
  have h1 := nu1_le i fun j hj => h.lt j (by omega)
  have h2 := pr1_le (D := D) i fun j hj => (h.lt j (by omega)).2
  have h3 := nu2_le i fun j hj => h.lt j (by omega)
  have h4 : pr1 D i * pr1 D i ≤ P (2 * i) := by rw [show 2 * i = i + i by omega, P_add]; exact Nat.mul_le_mul h2 h2
  exact ⟨few_lt h1 (by omega) (by omega), few_lt (n := 1) (by omega) (by omega) (show i + 1 ≤ 16 by omega), few_lt h3 (by omega) (by omega), few_lt (n := 1) (by omega) (by omega) (show 2 * i + 1 ≤ 31 by omega), pr1_pos i fun j hj => h.pos j (by omega)⟩
theorem Fq.sum {n : Nat} {X Y N D : Nat → Nat} (h : Fq n X Y N D) : ∀ i, i ≤ n → Fc (sumPQ X Y i).1 (sumPQ X Y i).2 (nu1 N D i) (pr1 D i) 16
  | 0, _ => ⟨by simp [sumPQ], by simp [sumPQ], by simp [pr1], by simp [sumPQ, nu1], by simp [sumPQ, P_pos], by
      show 1 < P 16
      exact Nat.lt_of_lt_of_le (by rw [P_one]; omega) (P_le (show 1 ≤ 16 by omega))⟩
  | i + 1, hi => by
    have h1 := Fq.sum h i (by omega)
    obtain ⟨A, B, f, ⟨eA, eB⟩, _⟩ := h1.add (h.fc i (by omega)) (by omega) (by omega)
    have hs := h.size hi
    have f' := f.norm (m := 16) (by rw [show nu1 N D i * D i + N i * pr1 D i = nu1 N D (i + 1) from rfl]; exact hs.1) (by rw [show pr1 D i * D i = pr1 D (i + 1) from rfl]; exact hs.2.1)
    rw [eA, eB] at f'
    exact f'
theorem Fq.square {n : Nat} {X Y N D : Nat → Nat} (h : Fq n X Y N D) {i : Nat} (hi : i < n) {p q : Nat} (f : Fc p q (nu2 N D i) (pr1 D i * pr1 D i) 31) :
    ∃ A B p' q', Fc p' q' (nu2 N D (i + 1)) (pr1 D (i + 1) * pr1 D (i + 1)) 31 ∧ (∀ v w, Rt w v (X i) (Y i) → Tab w → Calls Tryz.prog 36 #[v, v] w (MakesR w A B)) ∧ (∀ v u w, Rt w v p q → Rt w u A B → Tab w → Calls Tryz.prog 35 #[v, u] w (MakesR w p' q')) := by
  obtain ⟨A, B, f1, c1⟩ := (h.fc i hi).mul (h.fc i hi) (by omega) (by omega)
  obtain ⟨p', q', f2, _, c2⟩ := f.add f1 (by omega) (by omega)
  have hs := h.size (show i + 1 ≤ n by omega)
  have e1 : nu2 N D i * (D i * D i) + N i * N i * (pr1 D i * pr1 D i) = nu2 N D (i + 1) := rfl
  have e2 : pr1 D i * pr1 D i * (D i * D i) = pr1 D (i + 1) * pr1 D (i + 1) := by rw [pr1]; grind
  rw [e1, e2] at f2
  exact ⟨A, B, p', q', f2.norm hs.2.2.1 hs.2.2.2.1, fun v w e hT => c1 v v w e e hT, fun v u w a b hT => c2 v u w a b hT⟩
theorem Fq.last {n : Nat} {X Y N D : Nat → Nat} (h : Fq n X Y N D) {p q : Nat} (f : Fc p q (nu2 N D n) (pr1 D n * pr1 D n) 31) :
    ∃ A B a b, Fc a b (nu2 N D n * n) (pr1 D n * pr1 D n) 32 ∧ (∀ v u w, Rt w v (sumPQ X Y n).1 (sumPQ X Y n).2 → Rt w u (sumPQ X Y n).1 (sumPQ X Y n).2 → Tab w → Calls Tryz.prog 36 #[v, u] w (MakesR w A B)) ∧
      (∀ v w, Rt w v p q → Tab w → Calls Tryz.prog 24 #[v, .int .i64 (n : Int)] w (MakesRB w a b true)) ∧
      (0 < nu2 N D n * n → ∃ x y, Fc x y (nu1 N D n * nu1 N D n) (nu2 N D n * n) 64 ∧ ∀ v u w, Rt w v A B → Rt w u a b → Tab w → Calls Tryz.prog 38 #[v, u] w (MakesRB w x y true)) ∧
      (nu2 N D n * n = 0 → ∀ v u w, Rt w v A B → Rt w u a b → Tab w → Calls Tryz.prog 38 #[v, u] w (MakesRB w 0 1 false)) := by
  have hf := h.few
  obtain ⟨A, B, f1, c1⟩ := (h.sum n (Nat.le_refl _)).mul (h.sum n (Nat.le_refl _)) (by omega) (by omega)
  obtain ⟨a, b, f2, c2⟩ := f.mulInt (k := n) (by omega) (by omega)
  have hs := h.size (Nat.le_refl n)
  refine ⟨A, B, a, b, f2, c1, c2, fun h0 => ?_, fun h0 v u w e1 e2 hT => ?_⟩
  · obtain ⟨x, y, f3, c3⟩ := f1.div f2 (by omega) (by omega) h0
    exact ⟨x, y, f3.scale (k := pr1 D n * pr1 D n) rfl (Nat.mul_comm _ _) (Nat.mul_pos hs.2.2.2.2 hs.2.2.2.2), fun v u w a b hT => c3 v u w a b hT⟩
  exact ratDiv_no v u A B a b w e1 e2 (f1.rs1 (by omega)) (f1.rs2 (by omega)) (f2.rs1 (by omega)) (f2.rs2 (by omega)) (f2.zero.2 h0) hT
def fcs (L : List (Value × Value)) : List Value := L.flatMap fun x => [x.1, x.2]
theorem fcs_len (L : List (Value × Value)) : (fcs L).length = L.length * 2 := by
  induction L with
  | nil => rfl
  | cons x r ih =>
    show ([x.1, x.2] ++ fcs r).length = _
    rw [List.length_append, ih]
    simp only [List.length_cons, List.length_nil]
    omega
theorem fcs_app (L M : List (Value × Value)) : fcs (L ++ M) = fcs L ++ fcs M := by simp [fcs]
theorem fcs_get (L : List (Value × Value)) (i : Nat) (hi : i < L.length) : (fcs L)[i * 2]? = some (L[i].1) ∧ (fcs L)[i * 2 + 1]? = some (L[i].2) := by
  induction L generalizing i with
  | nil => simp at hi
  | cons x r ih =>
    show ([x.1, x.2] ++ fcs r)[i * 2]? = _ ∧ ([x.1, x.2] ++ fcs r)[i * 2 + 1]? = _
    cases i with
    | zero => simp
    | succ j =>
      have h := ih j (by simpa using hi)
      rw [List.getElem?_append_right (by simp; omega), List.getElem?_append_right (by simp; omega)]
      have e1 : (j + 1) * 2 - [x.1, x.2].length = j * 2 := by simp; omega
      have e2 : (j + 1) * 2 + 1 - [x.1, x.2].length = j * 2 + 1 := by simp; omega
      rw [e1, e2]
      simpa using h
def Fw (base : Nat) (W : World) (v : Value) (L : List (Value × Value)) : Prop := W.ownsRow base 47 2 v L.length (fcs L)
theorem Fw.nil (base : Nat) (W : World) : Fw base W (.slice none 0 0) [] := ⟨rfl, .inl ⟨rfl, rfl⟩⟩
theorem Fw.own {base : Nat} {W : World} {v : Value} {L : List (Value × Value)} (h : Fw base W v L) {k : Nat} (hk : v.ownBlock = some k) : base ≤ k ∧ ∃ cs, W.heap[k]? = some (.cells cs 47) := by
  rcases h.2 with ⟨e, _⟩ | ⟨g, cap', cur, e, hb', hg, _⟩
  · rw [e] at hk
    cases hk
  rw [e] at hk
  cases hk
  exact ⟨hb', cur, hg⟩
theorem Fw.kept {base : Nat} {W W' : World} {v : Value} {L : List (Value × Value)} (h : Fw base W v L) (hk : ∀ k, v.ownBlock = some k → W'.heap[k]? = W.heap[k]?) : Fw base W' v L := by
  refine ⟨h.1, h.2.imp id ?_⟩
  rintro ⟨g, cap, cur, e, hb, hg, rest⟩
  exact ⟨g, cap, cur, e, hb, (hk g (by rw [e]; rfl)).trans hg, rest⟩
theorem Fw.below {base : Nat} {W W' : World} {v : Value} {L : List (Value × Value)} (h : Fw base W v L) (hB : Below W.heap.size W W') : Fw base W' v L := h.kept fun k hk => by
  obtain ⟨_, cs, e⟩ := h.own hk
  exact hB.block _ (Array.getElem?_eq_some_iff.1 e).1
theorem Tryz.infoFr : (Tryz.prog.info? 47).map (fun i => (i.zero, i.size, i.bytes)) = some (some (.agg #[.slice none 0 0, .slice none 0 0]), 2, 48) := by kernel_rfl
theorem ax_addF (b o j : Nat) : (⟨b, o, none⟩ : Addr).add j = ⟨b, o + j, none⟩ := by unfold Addr.add; split <;> simp_all
theorem Fw.sl {base : Nat} {W : World} {v : Value} {L : List (Value × Value)} (h : Fw base W v L) : ∃ a cap, v = .slice a L.length cap ∧ L.length ≤ cap ∧ cap ≤ 9223372036854775807 ∧ (0 < L.length → ∃ g, a = some ⟨g, 0, none⟩ ∧ g < W.heap.size ∧ base ≤ g ∧ ∀ i, (hi : i < L.length) → W.cell? ⟨g, i * 2, none⟩ = some (L[i].1) ∧ W.cell? ⟨g, i * 2 + 1, none⟩ = some (L[i].2)) := by
  rcases h.2 with ⟨e, e0⟩ | ⟨g, cap, cur, e, hb', hg, h1, h2, h3, h4⟩
  · refine ⟨none, 0, by rw [e]; congr 1; omega, by omega, by omega, fun h => by omega⟩
  refine ⟨_, cap, e, h1, by simp only [maxLen] at h2; omega, fun _ => ⟨g, rfl, (Array.getElem?_eq_some_iff.1 hg).1, hb', fun i hi => ?_⟩⟩
  have e4 : ∀ j, j < L.length * 2 → cur[j]? = (fcs L)[j]? := fun j hj => by
    have q4 := congrArg (fun l => l[j]?) h4
    rw [List.getElem?_take_of_lt hj, Array.getElem?_toList] at q4
    exact q4
  obtain ⟨f1, f2⟩ := fcs_get L i hi
  have a1 := e4 (i * 2) (by omega)
  have a2 := e4 (i * 2 + 1) (by omega)
  rw [f1] at a1
  rw [f2] at a2
  simp only [World.cell?, hg]
  simp [a1, a2]
set_option maxHeartbeats 8000000 in
theorem ratSumG_any (g n cap : Nat) (E E' : Nat → Value) (X Y : Nat → Nat) (w : World) (hn : n ≤ 1000) (hc : n ≤ cap) (hc2 : cap ≤ 9223372036854775807) (he : ∀ i, i < n → w.cell? ⟨g, i * 2, none⟩ = some (E i) ∧ w.cell? ⟨g, i * 2 + 1, none⟩ = some (E' i) ∧ Rt w (.agg #[E i, E' i]) (X i) (Y i)) (hs : ∀ i, i < n → RL (X i) ∧ RL (Y i) ∧ RL (sumPQ X Y i).1 ∧ RL (sumPQ X Y i).2) (hg : g < w.heap.size) (hT : Tab w) :
    Calls Tryz.prog 37 #[.slice (some ⟨g, 0, none⟩) n cap] w (MakesR w (sumPQ X Y n).1 (sumPQ X Y n).2) := by
  obtain ⟨w0, hw0⟩ : ∃ w0, w0 = (w.alloc (.cells #[.slice none 0 0, .slice none 0 0] 47)).alloc (.cells #[.slice none 0 0, .slice none 0 0] 47) := ⟨_, rfl⟩
  have ba : Below w.heap.size w w0 := by rw [hw0]; exact bel_al (bel_al (bel_refl w))
  have S0 : Hid (SumS w w0 w.heap.size g n E E' X Y (sumPQ X Y 0).1 (sumPQ X Y 0).2 none 0 0 none 0 0) := by
    refine ⟨rt_zero _, ?_, ?_, ?_, ?_, ?_, ?_, ?_, ?_, fun i hi => ⟨cell_later ba (he i hi).1, cell_later ba (he i hi).2.1, (he i hi).2.2.mono ba⟩, ba, hg, Nat.le_refl _⟩ <;> rw [hw0] <;> simp [go_sem]
  have HS : Hid (∀ i, i < n → RL (X i) ∧ RL (Y i) ∧ RL (sumPQ X Y i).1 ∧ RL (sumPQ X Y i).2) := hs
  have HT : Hid (Tab w) := hT
  clear he hs hT ba hg
  go_enter Tryz.func37, Tryz.ntmps37
  go_wp2_with fail
  rw [← hw0]
  obtain ⟨b, hb⟩ : ∃ b, b = w.heap.size := ⟨_, rfl⟩
  rw [← hb] at S0
  rw [← hb]
  clear hw0 hb
  go_loopw [8] (fun t wr => ∃ (i : Nat) (a : Option Addr) (m c : Nat) (a' : Option Addr) (m' c' : Nat), i ≤ n ∧ t = .int .i64 (i : Int) ∧ SumS w wr b g n E E' X Y (sumPQ X Y i).1 (sumPQ X Y i).2 a m c a' m' c') (fun t _ => n - (intOf t).toNat)
  case atStart => exact ⟨0, _, _, _, _, _, _, by omega, rfl, S0.out⟩
  case round =>
    clear S0
    obtain ⟨i, a, m, c, a', m', c', hi, rfl, hS⟩ := hrel
    have S1 : Hid _ := hS
    clear hS
    by_cases hin : i < n
    · obtain ⟨p1, m1, d1, p2, m2, d2, ev, _, _⟩ := (S1.out.el i hin).2.2.raw
      have e1 : E i = .slice p1 m1 d1 := by simp at ev; exact ev.1
      have e2 : E' i = .slice p2 m2 d2 := by simp at ev; exact ev.2
      have z0 := (S1.out.el i hin).1
      have z1 := (S1.out.el i hin).2.1
      rw [e1] at z0
      rw [e2] at z1
      have hR := (S1.out.el i hin).2.2
      rw [e1, e2] at hR
      have bl := bel_al (o := .cells #[.slice p1 m1 d1, .slice p2 m2 d2] 47) (bel_refl wr)
      have S2 : Hid _ := S1.out.go bl
      have HR : Hid _ := hR.mono bl
      have y0 := S2.out.c0
      have y1 := S2.out.c1
      clear e1 e2 ev hR bl
      go_wp2_with fail
      obtain ⟨w5, hw⟩ : ∃ w5, w5 = wr.alloc (.cells #[.slice p1 m1 d1, .slice p2 m2 d2] 47) := ⟨_, rfl⟩
      rw [← hw] at S2 HR
      rw [← hw]
      clear hw y0 y1 z0 z1
      refine (ratAddL_any _ _ (sumPQ X Y i).1 (sumPQ X Y i).2 (X i) (Y i) _ S2.out.rt HR.out (HS.out i hin).2.2.1 (HS.out i hin).2.2.2 (HS.out i hin).1 (HS.out i hin).2.1 (HT.out.go S2.out.bel)).mono ?_
      rintro e w6 ⟨v6, rfl, hv, hb⟩
      obtain ⟨q1, k1, e1, q2, k2, e2, ev, _, _⟩ := hv.raw
      subst ev
      have S3 : Hid _ := S2.out.go hb
      have S4 : Hid _ := S3.out.set hv
      have y0 := S3.out.c0
      have y1 := S3.out.c1
      have x0 := S3.out.f0
      have x1 := S3.out.f1
      clear hv hb S2 HR S1 S3
      go_wp2_with fail
      go_roundw
      case rel => exact ⟨i + 1, _, _, _, _, _, _, by omega, by go_num, S4.out⟩
      case measure => simp [intOf]; omega
    obtain rfl : i = n := by omega
    have y0 := S1.out.c0
    have y1 := S1.out.c1
    have z0 := S1.out.r0
    have z1 := S1.out.r1
    have x0 := S1.out.g0
    have x1 := S1.out.g1
    have Z : Hid _ := rat_put (w0 := w) (v := .slice a m c) (u := .slice a' m' c') z0 z1 S1.out.rt S1.out.bel S1.out.lo
    clear S1
    go_wp2_with fail
    exact bodyPost_ret (v := .agg #[.slice a m c, .slice a' m' c']) (by simp [results, Tryz.results37, go_sem, z0, z1]) rfl ⟨_, rfl, Z.out.1, Z.out.2⟩
theorem bel_drew {B : Nat} {a w : World} (h : Below B a w) : Below B a w.drew := ⟨h.os, h.tape, h.output, h.size, h.block⟩
theorem rt_slices {w : World} {v : Value} {p q : Nat} (h : Rt w v p q) : ∃ a n c a' n' c', v = .agg #[.slice a n c, .slice a' n' c'] := by
  obtain ⟨a, n, c, a', n', c', e, _⟩ := h.raw
  exact ⟨a, n, c, a', n', c', e⟩
def MkB (W : World) (p q : Nat) (e : Ending) (w' : World) : Prop := ∃ (a : Option Addr) (n c : Nat) (a' : Option Addr) (n' c' : Nat), e = .returned (.agg #[.slice a n c, .slice a' n' c']) ∧ Hid (Rt w' (.agg #[.slice a n c, .slice a' n' c']) p q ∧ Below W.heap.size W w')
theorem mkb_of {W w : World} (hb : Below W.heap.size W w) {p q : Nat} {e : Ending} {w' : World} (h : MakesR w p q e w') : MkB W p q e w' := by
  obtain ⟨v, rfl, hv, hb'⟩ := h
  obtain ⟨a, n, c, a', n', c', rfl⟩ := rt_slices hv
  exact ⟨a, n, c, a', n', c', rfl, hv, bel_go hb hb'⟩
def MkC (W : World) (p q : Nat) (ok : Bool) (e : Ending) (w' : World) : Prop := ∃ (a : Option Addr) (n c : Nat) (a' : Option Addr) (n' c' : Nat), e = .returned (.tuple #[.agg #[.slice a n c, .slice a' n' c'], .bool ok]) ∧ Hid (Rt w' (.agg #[.slice a n c, .slice a' n' c']) p q ∧ Below W.heap.size W w')
theorem mkc_of {W w : World} (hb : Below W.heap.size W w) {p q : Nat} {ok : Bool} {e : Ending} {w' : World} (h : MakesRB w p q ok e w') : MkC W p q ok e w' := by
  obtain ⟨v, rfl, hv, hb'⟩ := h
  obtain ⟨a, n, c, a', n', c', rfl⟩ := rt_slices hv
  exact ⟨a, n, c, a', n', c', rfl, hv, bel_go hb hb'⟩
set_option maxHeartbeats 16000000 in
theorem jain_walk (Res : Nat → Nat → Bool → Prop) (g n cap : Nat) (E E' : Nat → Value) (X Y N D : Nat → Nat) (w : World) (F : Fq n X Y N D) (hc : n ≤ cap) (hc2 : cap ≤ 9223372036854775807) (he : ∀ i, i < n → w.cell? ⟨g, i * 2, none⟩ = some (E i) ∧ w.cell? ⟨g, i * 2 + 1, none⟩ = some (E' i) ∧ Rt w (.agg #[E i, E' i]) (X i) (Y i)) (hg : g < w.heap.size) (hT : Tab w)
    (LS : ∀ p q, Fc p q (nu2 N D n) (pr1 D n * pr1 D n) 31 → ∃ A B a b x y ok, Res x y ok ∧ (∀ v u w, Rt w v (sumPQ X Y n).1 (sumPQ X Y n).2 → Rt w u (sumPQ X Y n).1 (sumPQ X Y n).2 → Tab w → Calls Tryz.prog 36 #[v, u] w (MakesR w A B)) ∧
      (∀ v w, Rt w v p q → Tab w → Calls Tryz.prog 24 #[v, .int .i64 (n : Int)] w (MakesRB w a b true)) ∧
      (∀ v u w, Rt w v A B → Rt w u a b → Tab w → Calls Tryz.prog 38 #[v, u] w (MakesRB w x y ok))) :
    Calls Tryz.prog 13 #[.slice (some ⟨g, 0, none⟩) n cap] w fun e w' => ∃ x y ok, Res x y ok ∧ MakesRB w x y ok e w' := by
  obtain ⟨w0, hw0⟩ : ∃ w0, w0 = (w.alloc (.cells #[.slice none 0 0, .slice none 0 0] 47)).alloc (.cells #[.slice none 0 0, .slice none 0 0] 47) := ⟨_, rfl⟩
  have ba : Below w.heap.size w w0 := by rw [hw0]; exact bel_al (bel_al (bel_refl w))
  have S0 : Hid (SumS w w0 w.heap.size g n E E' X Y 0 1 none 0 0 none 0 0) := by
    refine ⟨rt_zero _, ?_, ?_, ?_, ?_, ?_, ?_, ?_, ?_, fun i hi => ⟨cell_later ba (he i hi).1, cell_later ba (he i hi).2.1, (he i hi).2.2.mono ba⟩, ba, hg, Nat.le_refl _⟩ <;> rw [hw0] <;> simp [go_sem]
  have FF : Hid (Fq n X Y N D) := F
  have HL : Hid _ := LS
  have HT : Hid (Tab w) := hT
  have FC0 : Hid (Fc 0 1 (nu2 N D 0) (pr1 D 0 * pr1 D 0) 31) := ⟨by simp, by simp, by simp [pr1], by simp [nu2], P_pos _, Nat.lt_of_lt_of_le (by rw [P_one]; omega) (P_le (show 1 ≤ 31 by omega))⟩
  have hn15 : n ≤ 15 := F.few
  have HG0 : Hid (g < w.heap.size) := hg
  clear he hT ba hg F LS
  go_enter Tryz.func13, Tryz.ntmps13
  go_wp2_with fail
  rw [← hw0]
  obtain ⟨b, hb⟩ : ∃ b, b = w.heap.size := ⟨_, rfl⟩
  rw [← hb] at S0
  rw [← hb]
  clear hw0 hb
  go_loopw [12] (fun t wr => ∃ (i p q : Nat) (a : Option Addr) (m c : Nat) (a' : Option Addr) (m' c' : Nat), i ≤ n ∧ t = .int .i64 (i : Int) ∧ Fc p q (nu2 N D i) (pr1 D i * pr1 D i) 31 ∧ SumS w wr b g n E E' X Y p q a m c a' m' c') (fun t _ => n - (intOf t).toNat)
  case atStart => exact ⟨0, _, _, _, _, _, _, _, _, by omega, rfl, FC0.out, S0.out⟩
  case round =>
    clear S0
    obtain ⟨i, p, q, a, m, c, a', m', c', hi, rfl, hF, hS⟩ := hrel
    have S1 : Hid _ := hS
    have HF : Hid _ := hF
    clear hS hF
    by_cases hin : i < n
    · obtain ⟨p1, m1, d1, p2, m2, d2, ev, _, _⟩ := (S1.out.el i hin).2.2.raw
      have e1 : E i = .slice p1 m1 d1 := by simp at ev; exact ev.1
      have e2 : E' i = .slice p2 m2 d2 := by simp at ev; exact ev.2
      have z0 := (S1.out.el i hin).1
      have z1 := (S1.out.el i hin).2.1
      rw [e1] at z0
      rw [e2] at z1
      have hR := (S1.out.el i hin).2.2
      rw [e1, e2] at hR
      have bl := bel_al (o := .cells #[.slice p1 m1 d1, .slice p2 m2 d2] 47) (bel_refl wr)
      have S2 : Hid _ := S1.out.go bl
      have HR : Hid _ := hR.mono bl
      clear e1 e2 ev hR bl
      obtain ⟨A, B, p', q', f', cM, cA⟩ := FF.out.square hin HF.out
      go_upto_region 5 with fail
      obtain ⟨w5, hw⟩ : ∃ w5, w5 = wr.alloc (.cells #[.slice p1 m1 d1, .slice p2 m2 d2] 47) := ⟨_, rfl⟩
      obtain ⟨b6, hb6⟩ : ∃ b6, b6 = wr.heap.size := ⟨_, rfl⟩
      have k6 : w5.cell? ⟨b6, 0, none⟩ = some (.slice p1 m1 d1) := by rw [hw, hb6]; simp [go_sem]
      have k7 : w5.cell? ⟨b6, 1, none⟩ = some (.slice p2 m2 d2) := by rw [hw, hb6]; simp [go_sem]
      rw [← hw] at S2 HR
      rw [← hw, ← hb6]
      have y0 := S2.out.c0
      have y1 := S2.out.c1
      have x0 := S2.out.f0
      have x1 := S2.out.f1
      have KC : Hid (∀ w9, Below w5.heap.size w5 w9 → w9.cell? ⟨b6, 0, none⟩ = some (.slice p1 m1 d1) ∧ w9.cell? ⟨b6, 1, none⟩ = some (.slice p2 m2 d2) ∧ w9.cell? ⟨b + 1, 0, none⟩ = some (.slice a m c) ∧ w9.cell? ⟨b + 1, 1, none⟩ = some (.slice a' m' c') ∧ w9.frozen? ⟨b + 1, 0, none⟩ = false ∧ w9.frozen? ⟨b + 1, 1, none⟩ = false) := fun w9 h9 => ⟨cell_later h9 k6, cell_later h9 k7, (S2.out.go h9).c0, (S2.out.go h9).c1, (S2.out.go h9).f0, (S2.out.go h9).f1⟩
      have CM : Hid (∀ w9, Below w5.heap.size w5 w9 → Calls Tryz.prog 36 #[.agg #[.slice p1 m1 d1, .slice p2 m2 d2], .agg #[.slice p1 m1 d1, .slice p2 m2 d2]] w9 (MkB w5 A B)) := fun w9 h9 => (cM _ w9 (HR.out.mono h9) (HT.out.go (bel_go S2.out.bel h9))).mono fun _ _ h => mkb_of h9 h
      have CA : Hid (∀ (r : Option Addr) (k d : Nat) (r' : Option Addr) (k' d' : Nat) (w9 : World), Hid (Rt w9 (.agg #[.slice r k d, .slice r' k' d']) A B ∧ Below w5.heap.size w5 w9) → Calls Tryz.prog 35 #[.agg #[.slice a m c, .slice a' m' c'], .agg #[.slice r k d, .slice r' k' d']] w9 (MkB w5 p' q')) := fun r k d r' k' d' w9 h9 => (cA _ _ w9 (S2.out.go h9.out.2).rt h9.out.1 (HT.out.go (bel_go S2.out.bel h9.out.2))).mono fun _ _ h => mkb_of h9.out.2 h
      have FN : Hid (Fc p' q' (nu2 N D (i + 1)) (pr1 D (i + 1) * pr1 D (i + 1)) 31) := f'
      clear hw hb6 z0 z1 HR f' cM cA HF S1
      go_region_with (first
        | (go_at_call 36; refine Calls.mono (CM.out _ (show Below _ _ _ from (by with_reducible exact bel_drew (Below.refl _ _)))) ?_; rintro e w6 ⟨r1, i1, j1, r2, i2, j2, rfl, hM⟩; obtain ⟨c6, c7, c0, c1, g0, g1⟩ := KC.out _ hM.out.2)
        | (go_at_call 35; refine Calls.mono (CA.out _ _ _ _ _ _ _ hM) ?_; rintro e w7 ⟨r3, i3, j3, r4, i4, j4, rfl, hA⟩; obtain ⟨l6, l7, l0, l1, m0, m1⟩ := KC.out _ hA.out.2))
      all_goals
        go_wp2_with fail
        go_roundw
        case rel => exact ⟨i + 1, p', q', _, _, _, _, _, _, by omega, by go_num, FN.out, (S2.out.go hA.out.2).set hA.out.1⟩
        case measure => simp [intOf]; omega
    obtain rfl : i = n := by omega
    obtain ⟨A, B, ia, ib, x, y, ok, hres, cM, cI, cD⟩ := HL.out p q HF.out
    have HX : Hid (∀ j, j < i → RL (X j) ∧ RL (Y j) ∧ RL (sumPQ X Y j).1 ∧ RL (sumPQ X Y j).2) := fun j hj => ⟨((FF.out.fc j hj).rs1 (by omega)).l, ((FF.out.fc j hj).rs2 (by omega)).l, ((FF.out.sum j (by omega)).rs1 (by omega)).l, ((FF.out.sum j (by omega)).rs2 (by omega)).l⟩
    have CS : Hid (Calls Tryz.prog 37 #[.slice (some ⟨g, 0, none⟩) i cap] wr (MakesR wr (sumPQ X Y i).1 (sumPQ X Y i).2)) := ratSumG_any g i cap E E' X Y wr (by omega) hc hc2 (fun j hj => S1.out.el j hj) HX.out (Nat.lt_of_lt_of_le HG0.out S1.out.bel.size) (HT.out.go S1.out.bel)
    have CI : Hid _ := cI
    have CM0 : Hid _ := cM
    have CD0 : Hid _ := cD
    have HR : Hid (Res x y ok) := hres
    clear cM cI cD hres HL FC0 HX HF
    go_upto_region 8 with (go_at_call 37; refine CS.out.mono ?_; rintro e w7 ⟨v7, rfl, hv7, hb7⟩; obtain ⟨r1, i1, j1, r2, i2, j2, rfl⟩ := rt_slices hv7)
    have bl7 := bel_al (o := .cells #[.slice r1 i1 j1, .slice r2 i2 j2] 47) (bel_refl w7)
    obtain ⟨w8, hw8⟩ : ∃ w8, w8 = w7.alloc (.cells #[.slice r1 i1 j1, .slice r2 i2 j2] 47) := ⟨_, rfl⟩
    obtain ⟨b7, hb7'⟩ : ∃ b7, b7 = w7.heap.size := ⟨_, rfl⟩
    have k0 : w8.cell? ⟨b7, 0, none⟩ = some (.slice r1 i1 j1) := by rw [hw8, hb7']; simp [go_sem]
    have k1 : w8.cell? ⟨b7, 1, none⟩ = some (.slice r2 i2 j2) := by rw [hw8, hb7']; simp [go_sem]
    rw [← hw8] at bl7
    have S8 : Hid _ := (S1.out.go hb7).go bl7
    have R7 : Hid _ := hv7.mono bl7
    have y0 := S8.out.c0
    have y1 := S8.out.c1
    have CI8 : Hid (Calls Tryz.prog 24 #[.agg #[.slice a m c, .slice a' m' c'], .int .i64 (i : Int)] w8 (MakesRB w8 ia ib true)) := CI.out _ w8 S8.out.rt (HT.out.go S8.out.bel)
    rw [← hw8, ← hb7']
    clear hw8 hb7' bl7 hb7 hv7 S1 CS CI
    go_upto_region 9 with (go_at_call 24; refine CI8.out.mono ?_; rintro e w9 ⟨v9, rfl, hv9, hb9⟩; obtain ⟨r3, i3, j3, r4, i4, j4, rfl⟩ := rt_slices hv9)
    have bl9 := bel_al (o := .cells #[.slice r3 i3 j3, .slice r4 i4 j4] 47) (bel_refl w9)
    obtain ⟨wa, hwa⟩ : ∃ wa, wa = w9.alloc (.cells #[.slice r3 i3 j3, .slice r4 i4 j4] 47) := ⟨_, rfl⟩
    obtain ⟨b8, hb8⟩ : ∃ b8, b8 = w9.heap.size := ⟨_, rfl⟩
    have k2 : wa.cell? ⟨b8, 0, none⟩ = some (.slice r3 i3 j3) := by rw [hwa, hb8]; simp [go_sem]
    have k3 : wa.cell? ⟨b8, 1, none⟩ = some (.slice r4 i4 j4) := by rw [hwa, hb8]; simp [go_sem]
    rw [← hwa] at bl9
    have b8a := bel_go hb9 bl9
    have SA : Hid _ := S8.out.go b8a
    have R7a : Hid _ := R7.out.mono b8a
    have R9a : Hid _ := hv9.mono bl9
    have l0 := cell_later b8a k0
    have l1 := cell_later b8a k1
    have z0 := SA.out.r0
    have z1 := SA.out.r1
    have f0 := SA.out.g0
    have f1 := SA.out.g1
    rw [← hwa, ← hb8]
    have KC : Hid (∀ w', Below wa.heap.size wa w' → w'.cell? ⟨b7, 0, none⟩ = some (.slice r1 i1 j1) ∧ w'.cell? ⟨b7, 1, none⟩ = some (.slice r2 i2 j2) ∧ w'.cell? ⟨b8, 0, none⟩ = some (.slice r3 i3 j3) ∧ w'.cell? ⟨b8, 1, none⟩ = some (.slice r4 i4 j4) ∧ w'.cell? ⟨b, 0, none⟩ = some (.slice none 0 0) ∧ w'.cell? ⟨b, 1, none⟩ = some (.slice none 0 0) ∧ w'.frozen? ⟨b, 0, none⟩ = false ∧ w'.frozen? ⟨b, 1, none⟩ = false) := fun w' h' => ⟨cell_later h' l0, cell_later h' l1, cell_later h' k2, cell_later h' k3, (SA.out.go h').r0, (SA.out.go h').r1, (SA.out.go h').g0, (SA.out.go h').g1⟩
    have CM : Hid (∀ w', Below wa.heap.size wa w' → Calls Tryz.prog 36 #[.agg #[.slice r1 i1 j1, .slice r2 i2 j2], .agg #[.slice r1 i1 j1, .slice r2 i2 j2]] w' (MkB wa A B)) := fun w' h' => (CM0.out _ _ w' (R7a.out.mono h') (R7a.out.mono h') (HT.out.go (bel_go SA.out.bel h'))).mono fun _ _ h => mkb_of h' h
    have CD : Hid (∀ (s : Option Addr) (k d : Nat) (s' : Option Addr) (k' d' : Nat) (w' : World), Hid (Rt w' (.agg #[.slice s k d, .slice s' k' d']) A B ∧ Below wa.heap.size wa w') → Calls Tryz.prog 38 #[.agg #[.slice s k d, .slice s' k' d'], .agg #[.slice r3 i3 j3, .slice r4 i4 j4]] w' (MkC wa x y ok)) := fun s k d s' k' d' w' h' => (CD0.out _ _ w' h'.out.1 (R9a.out.mono h'.out.2) (HT.out.go (bel_go SA.out.bel h'.out.2))).mono fun _ _ h => mkc_of h'.out.2 h
    clear hwa hb8 bl9 b8a R7 R7a R9a S8 CI8 CM0 CD0 hv9 hb9 y0 y1 k0 k1
    go_region_with (first
      | (go_at_call 36; refine Calls.mono (CM.out _ (show Below _ _ _ from (by with_reducible exact bel_drew (Below.refl _ _)))) ?_; rintro e w6 ⟨s1, i5, j5, s2, i6, j6, rfl, hM⟩; obtain ⟨c0, c1, c2, c3, c4, c5, c6, c7⟩ := KC.out _ hM.out.2)
      | (go_at_call 38; refine Calls.mono (CD.out _ _ _ _ _ _ _ hM) ?_; rintro e wb ⟨s3, i7, j7, s4, i8, j8, rfl, hD⟩; obtain ⟨d0, d1, d2, d3, d4, d5, d6, d7⟩ := KC.out _ hD.out.2))
    all_goals
      have Z : Hid _ := rat_put (w0 := w) (v := .slice s3 i7 j7) (u := .slice s4 i8 j8) d4 d5 hD.out.1 (bel_go SA.out.bel hD.out.2) SA.out.lo
      go_wp2_with fail
      exact bodyPost_ret (v := .tuple #[.agg #[.slice s3 i7 j7, .slice s4 i8 j8], .bool ok]) (by simp [results, Tryz.results13, go_sem, d4, d5]) rfl ⟨_, _, _, HR.out, _, rfl, Z.out.1, Z.out.2⟩
theorem jain_any (g n cap : Nat) (E E' : Nat → Value) (X Y N D : Nat → Nat) (w : World) (F : Fq n X Y N D) (hc : n ≤ cap) (hc2 : cap ≤ 9223372036854775807) (he : ∀ i, i < n → w.cell? ⟨g, i * 2, none⟩ = some (E i) ∧ w.cell? ⟨g, i * 2 + 1, none⟩ = some (E' i) ∧ Rt w (.agg #[E i, E' i]) (X i) (Y i)) (hg : g < w.heap.size) (hT : Tab w) :
    Calls Tryz.prog 13 #[.slice (some ⟨g, 0, none⟩) n cap] w fun e w' => ∃ x y ok, (ok = decide (0 < nu2 N D n) ∧ RS x ∧ RS y ∧ (nu2 N D n = 0 → x = 0 ∧ y = 1) ∧ (0 < nu2 N D n → Fc x y (nu1 N D n * nu1 N D n) (nu2 N D n * n) 64)) ∧ MakesRB w x y ok e w' := by
  refine jain_walk _ g n cap E E' X Y N D w F hc hc2 he hg hT fun p q f => ?_
  obtain ⟨A, B, a, b, f2, c1, c2, c3, c4⟩ := F.last f
  by_cases h0 : nu2 N D n = 0
  · refine ⟨A, B, a, b, 0, 1, false, ⟨by simp [h0], rs_few (by omega), rs_few (by omega), fun _ => ⟨rfl, rfl⟩, fun h => by omega⟩, c1, c2, c4 (by rw [h0, Nat.zero_mul])⟩
  have hn0 : 0 < n := Nat.pos_of_ne_zero fun e => h0 (by rw [e]; rfl)
  have hp : 0 < nu2 N D n * n := Nat.mul_pos (by omega) hn0
  obtain ⟨x, y, f3, c5⟩ := c3 hp
  exact ⟨A, B, a, b, x, y, true, ⟨by simp; omega, f3.rs1 (by omega), f3.rs2 (by omega), fun h => by omega, fun _ => f3⟩, c1, c2, c5⟩
theorem fc_nought (m : Nat) (hm : 1 ≤ m) : Fc 0 1 0 1 m := ⟨by simp, by omega, by omega, by simp, P_pos _, Nat.lt_of_lt_of_le (by rw [P_one]; omega) (P_le hm)⟩
end Go.Proofs.YtfkkomppfghagaaGreatDoor
namespace Go.Proofs.YtfkkomppfghagaaGreatDoor
open Go.RowKit
set_option maxRecDepth 100000
set_option linter.unusedVariables false
structure SY (w0 w : World) (N M : List (Value × Nat)) (F G : List (Value × Nat × Nat)) (C : List (Nat × Nat × Value)) (Z : List Nat) : Prop where
  sx : SX w0 w N M F G C
  fzs : ∀ b ∈ Z, (∀ i, w.frozen? ⟨b, i, none⟩ = false) ∧ w0.heap.size ≤ b ∧ b < w.heap.size
def Sto1 (R : Nat) (w : World) (v : Value) (w' : World) : Prop := ∃ u, v = .agg #[u] ∧ w' = w.setCell ⟨R, 0, none⟩ u
section
variable {w0 w : World} {N M : List (Value × Nat)} {F G : List (Value × Nat × Nat)} {C : List (Nat × Nat × Value)} {Z : List Nat}
theorem sy_start (w : World) : SY w w [] [] [] [] [] [] := ⟨sx_start w, fun _ h => by cases h⟩
theorem SY.bel (h : SY w0 w N M F G C Z) : Below w0.heap.size w0 w := h.sx.bel
theorem SY.go (h : SY w0 w N M F G C Z) {w' : World} (hb : Below w.heap.size w w') : SY w0 w' N M F G C Z :=
  ⟨h.sx.go hb, fun b hz => ⟨fun i => (hb.frozen (p := ⟨b, i, none⟩) (h.fzs b hz).2.2).trans ((h.fzs b hz).1 i), (h.fzs b hz).2.1, Nat.lt_of_lt_of_le (h.fzs b hz).2.2 hb.size⟩⟩
theorem SY.at (h : SY w0 w N M F G C Z) (v : Value) (x : Nat) (hm : (v, x) ∈ N := by simp) : IsNat w v x := h.sx.nats _ hm
theorem SY.rat (h : SY w0 w N M F G C Z) (v : Value) (x : Nat) (hm : (v, x) ∈ M := by simp) : RNat w v x := h.sx.rnats _ hm
theorem SY.fr (h : SY w0 w N M F G C Z) (v : Value) (p q : Nat) (hm : (v, p, q) ∈ F := by simp) : Rt w v p q := h.sx.frs _ hm
theorem SY.rfr (h : SY w0 w N M F G C Z) (v : Value) (p q : Nat) (hm : (v, p, q) ∈ G := by simp) : RRt w v p q := h.sx.rfrs _ hm
theorem SY.cel (h : SY w0 w N M F G C Z) (b i : Nat) (u : Value) (hm : (b, i, u) ∈ C := by simp) : w.cell? ⟨b, i, none⟩ = some u := h.sx.cells _ hm
theorem SY.cell (h : SY w0 w N M F G C Z) (b : Nat) (u : Value) (hm : (b, 0, u) ∈ C := by simp) : w.cell? ⟨b, 0, none⟩ = some u := h.sx.cells _ hm
theorem SY.fz (h : SY w0 w N M F G C Z) (b i : Nat) (hm : b ∈ Z := by simp) : w.frozen? ⟨b, i, none⟩ = false := (h.fzs b hm).1 i
theorem SY.lo (h : SY w0 w N M F G C Z) (b : Nat) (hm : b ∈ Z := by simp) : w0.heap.size ≤ b := (h.fzs b hm).2.1
theorem SY.lt (h : SY w0 w N M F G C Z) (b : Nat) (hm : b ∈ Z := by simp) : b < w.heap.size := (h.fzs b hm).2.2
theorem SY.addN (h : SY w0 w N M F G C Z) {v : Value} {x : Nat} (hv : IsNat w v x) : SY w0 w ((v, x) :: N) M F G C Z := ⟨h.sx.addN hv, h.fzs⟩
theorem SY.addM (h : SY w0 w N M F G C Z) {v : Value} {x : Nat} (hv : RNat w v x) : SY w0 w N ((v, x) :: M) F G C Z := ⟨h.sx.addM hv, h.fzs⟩
theorem SY.addF (h : SY w0 w N M F G C Z) {v : Value} {x y : Nat} (hv : Rt w v x y) : SY w0 w N M ((v, x, y) :: F) G C Z := ⟨h.sx.addF hv, h.fzs⟩
theorem SY.addG (h : SY w0 w N M F G C Z) {v : Value} {x y : Nat} (hv : RRt w v x y) : SY w0 w N M F ((v, x, y) :: G) C Z := ⟨h.sx.addG hv, h.fzs⟩
theorem SY.addC (h : SY w0 w N M F G C Z) {b i : Nat} {v : Value} (hv : w.cell? ⟨b, i, none⟩ = some v) : SY w0 w N M F G ((b, i, v) :: C) Z := ⟨h.sx.addC hv, h.fzs⟩
theorem SY.addZ (h : SY w0 w N M F G C Z) {b : Nat} (hv : ∀ i, w.frozen? ⟨b, i, none⟩ = false) (h1 : w0.heap.size ≤ b) (h2 : b < w.heap.size) : SY w0 w N M F G C (b :: Z) :=
  ⟨h.sx, fun x hx => by
    rcases List.mem_cons.1 hx with e | e
    · subst e; exact ⟨hv, h1, h2⟩
    exact h.fzs x e⟩
theorem SY.box1 (h : SY w0 w N M F G C Z) (u : Value) (t : TypeId) (g : Nat) (hg : g = w.heap.size) : SY w0 (w.alloc (.cells #[u] t)) N M F G ((g, 0, u) :: C) (g :: Z) := by
  subst hg
  have k := h.go (w' := w.alloc (.cells #[u] t)) (bel_al (Below.refl _ _))
  exact SY.addZ ⟨h.sx.box1 u t _ rfl, k.fzs⟩ (fun i => by simp [go_sem]) h.bel.size (by simp)
theorem SY.box (h : SY w0 w N M F G C Z) (u u' : Value) (t : TypeId) (g : Nat) (hg : g = w.heap.size) : SY w0 (w.alloc (.cells #[u, u'] t)) N M F G ((g, 0, u) :: (g, 1, u') :: C) (g :: Z) := by
  subst hg
  have k := h.go (w' := w.alloc (.cells #[u, u'] t)) (bel_al (Below.refl _ _))
  exact SY.addZ ⟨h.sx.box u u' t _ rfl, k.fzs⟩ (fun i => by simp [go_sem]) h.bel.size (by simp)
theorem SY.set (h : SY w0 w N M F G C Z) {b i : Nat} {a : Option Addr} {n c : Nat} (hc : w.cell? ⟨b, i, none⟩ = some (.slice a n c)) (hlo : w0.heap.size ≤ b) (C' : List (Nat × Nat × Value)) (hC : ∀ p ∈ C', p ∈ C ∧ p.1 ≠ b) (u : Value) : SY w0 (w.setCell ⟨b, i, none⟩ u) N M F G C' Z :=
  ⟨h.sx.set hc hlo C' hC u, fun x hx => ⟨fun j => by rw [World.frozen?_setCell]; exact (h.fzs x hx).1 j, (h.fzs x hx).2.1, by simpa [go_sem] using (h.fzs x hx).2.2⟩⟩
theorem SY.sub (h : SY w0 w N M F G C Z) (N' M' : List (Value × Nat)) (F' G' : List (Value × Nat × Nat)) (C' : List (Nat × Nat × Value)) (Z' : List Nat) (h1 : ∀ p ∈ N', p ∈ N) (h2 : ∀ p ∈ M', p ∈ M) (h3 : ∀ p ∈ F', p ∈ F) (h4 : ∀ p ∈ G', p ∈ G) (h5 : ∀ p ∈ C', p ∈ C) (h6 : ∀ p ∈ Z', p ∈ Z) : SY w0 w N' M' F' G' C' Z' :=
  ⟨⟨fun p hp => h.sx.nats p (h1 p hp), fun p hp => h.sx.rnats p (h2 p hp), fun p hp => h.sx.frs p (h3 p hp), fun p hp => h.sx.rfrs p (h4 p hp), fun p hp => h.sx.cells p (h5 p hp), h.sx.bel⟩, fun b hb => h.fzs b (h6 b hb)⟩
theorem SY.ret1 (h : SY w0 w N M F G C Z) {r : Nat} {v : Value} {x : Nat} (hc : w.cell? ⟨r, 0, none⟩ = some (.slice none 0 0)) (hz : r ∈ Z) (hv : IsNat w v x) (u : Value) : IsNat (w.setCell ⟨r, 0, none⟩ u) v x ∧ Below w0.heap.size w0 (w.setCell ⟨r, 0, none⟩ u) :=
  ⟨hv.setCell (no_int_slice hc) u, h.bel.setCell (p := ⟨r, 0, none⟩) (h.lo r hz) u⟩
end
end Go.Proofs.YtfkkomppfghagaaGreatDoor
