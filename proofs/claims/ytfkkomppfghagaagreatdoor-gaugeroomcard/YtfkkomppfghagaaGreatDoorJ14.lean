/- Contracts of the program's functions, part 14: own work, joined in build order. -/
import Derived.Test.YtfkkomppfghagaaGreatDoorJ13
namespace Go.Proofs.YtfkkomppfghagaaGreatDoor
open Go.RowKit
set_option maxRecDepth 100000
set_option linter.unusedVariables false
set_option maxHeartbeats 8000000 in
theorem fraction_any (v u : Value) (f s o t g A : Nat) (w : World) (h : IsCom w v f s o t g) (k : IsNat w u A) (hA : A < P 198) (hg : g < P 198) (hg0 : 0 < g) (ho : o < P 99) (ht : t < P 198) (hl : Nat.gcd (A / Nat.gcd A g) (o * (t / Nat.gcd A g)) = 1) (hl0 : 0 < o * (t / Nat.gcd A g)) (hT : Tab w) :
    Calls Tryz.prog 68 #[v, u] w (MakesR w (A / Nat.gcd A g) (o * (t / Nat.gcd A g))) := by
  obtain ⟨a1, n1, c1, a2, n2, c2, a3, n3, c3, a4, n4, c4, a5, n5, c5, ev, h1, h2, h3, h4, h5⟩ := h
  subst ev
  obtain ⟨b, m, d, rfl⟩ := k.isAgg
  obtain ⟨w0, hw0⟩ : ∃ w0, w0 = ((w.alloc (.cells #[.slice a1 n1 c1, .slice a2 n2 c2, .slice a3 n3 c3, .slice a4 n4 c4, .slice a5 n5 c5] 123)).alloc (.cells #[.slice b m d] 45)).alloc (.cells #[.slice none 0 0, .slice none 0 0] 47) := ⟨_, rfl⟩
  have ba : Below w.heap.size w w0 := by rw [hw0]; exact bel_al (bel_al (bel_al (bel_refl w)))
  have e2 : w0.cell? ⟨w.heap.size, 2, none⟩ = some (.slice a3 n3 c3) := by rw [hw0]; simp [go_sem]
  have e3 : w0.cell? ⟨w.heap.size, 3, none⟩ = some (.slice a4 n4 c4) := by rw [hw0]; simp [go_sem]
  have e4 : w0.cell? ⟨w.heap.size, 4, none⟩ = some (.slice a5 n5 c5) := by rw [hw0]; simp [go_sem]
  have e5 : w0.cell? ⟨w.heap.size + 1, 0, none⟩ = some (.slice b m d) := by rw [hw0]; simp [go_sem]
  have e6 : w0.cell? ⟨w.heap.size + 1 + 1, 0, none⟩ = some (.slice none 0 0) := by rw [hw0]; simp [go_sem]
  have e7 : w0.cell? ⟨w.heap.size + 1 + 1, 1, none⟩ = some (.slice none 0 0) := by rw [hw0]; simp [go_sem]
  have f6 : w0.frozen? ⟨w.heap.size + 1 + 1, 0, none⟩ = false := by rw [hw0]; simp [go_sem]
  have f7 : w0.frozen? ⟨w.heap.size + 1 + 1, 1, none⟩ = false := by rw [hw0]; simp [go_sem]
  have HH : Hid (IsNat w0 (.agg #[.slice b m d]) A ∧ IsNat w0 (.agg #[.slice a3 n3 c3]) o ∧ IsNat w0 (.agg #[.slice a4 n4 c4]) t ∧ IsNat w0 (.agg #[.slice a5 n5 c5]) g ∧ Below w.heap.size w w0) := ⟨k.mono ba, h3.mono ba, h4.mono ba, h5.mono ba, ba⟩
  have HS : Hid (A < P 198 ∧ g < P 198 ∧ 0 < g ∧ o < P 99 ∧ t < P 198 ∧ Tab w0) := ⟨hA, hg, hg0, ho, ht, hT.go ba⟩
  obtain ⟨q, eq⟩ : ∃ q, q = Nat.gcd A g := ⟨_, rfl⟩
  have HL : Hid (Nat.gcd (A / q) (o * (t / q)) = 1 ∧ 0 < o * (t / q) ∧ 0 < q ∧ q < P 198) := ⟨by rw [eq]; exact hl, by rw [eq]; exact hl0, by rw [eq]; exact Nat.gcd_pos_of_pos_right _ hg0, by rw [eq]; exact Nat.lt_of_le_of_lt (Nat.gcd_le_right _ hg0) hg⟩
  have EQ : Hid (q = Nat.gcd A g) := eq
  clear h1 h2 h3 h4 h5 k hA hg hg0 ho ht hl hl0 hT ba eq
  go_enter Tryz.func68, Tryz.ntmps68
  go_wp2_with fail
  rw [← hw0]
  clear hw0
  refine (gcd_any _ _ A g _ HH.out.1 HH.out.2.2.2.1 HS.out.1 HS.out.2.1 HS.out.2.2.2.2.2).mono ?_
  rintro e w1 ⟨v1, rfl, hv1, hb1⟩
  obtain ⟨b1, m1, d1, rfl⟩ := hv1.isAgg
  rw [← EQ.out] at hv1
  obtain ⟨w3, hw3⟩ : ∃ w3, w3 = w1.alloc (.cells #[.slice b1 m1 d1] 45) := ⟨_, rfl⟩
  have b3 : Below w0.heap.size w0 w3 := by rw [hw3]; exact bel_go hb1 (bel_al (bel_refl w1))
  have d2 := cell_later b3 e2
  have d3 := cell_later b3 e3
  have d5 := cell_later b3 e5
  have d6 := cell_later b3 e6
  have d7 := cell_later b3 e7
  have g6 : w3.frozen? ⟨w.heap.size + 1 + 1, 0, none⟩ = false := (b3.frozen (World.block_lt_of_cell? _ _ e6)).trans f6
  have g7 : w3.frozen? ⟨w.heap.size + 1 + 1, 1, none⟩ = false := (b3.frozen (World.block_lt_of_cell? _ _ e7)).trans f7
  have d9 : w3.cell? ⟨w1.heap.size, 0, none⟩ = some (.slice b1 m1 d1) := by rw [hw3]; simp [go_sem]
  have I3 : Hid (IsNat w3 (.agg #[.slice b m d]) A ∧ IsNat w3 (.agg #[.slice a3 n3 c3]) o ∧ IsNat w3 (.agg #[.slice a4 n4 c4]) t ∧ IsNat w3 (.agg #[.slice b1 m1 d1]) q ∧ Below w.heap.size w w3) := ⟨HH.out.1.mono b3, HH.out.2.1.mono b3, HH.out.2.2.1.mono b3, by rw [hw3]; exact hv1.mono (bel_al (bel_refl w1)), bel_go HH.out.2.2.2.2 b3⟩
  have nb0 : w.heap.size + 1 + 1 < w1.heap.size := World.block_lt_of_cell? _ _ (cell_later hb1 e6)
  go_wp2_with fail
  rw [← hw3]
  obtain ⟨b6, hb6⟩ : ∃ b6, b6 = w1.heap.size := ⟨_, rfl⟩
  rw [← hb6] at d9 nb0
  rw [← hb6]
  have nb : ¬ w.heap.size + 1 + 1 = b6 := by omega
  have nb' : ¬ b6 = w.heap.size + 1 + 1 := by omega
  clear hv1 hb1 b3 e2 e3 e4 e5 e6 e7 f6 f7 hw3 hb6 nb0 HH
  go_region_held3 (fun w' => w'.cell? ⟨w.heap.size, 2, none⟩ = some (.slice a3 n3 c3) ∧ w'.cell? ⟨w.heap.size, 3, none⟩ = some (.slice a4 n4 c4) ∧ w'.cell? ⟨w.heap.size + 1, 0, none⟩ = some (.slice b m d) ∧ w'.cell? ⟨b6, 0, none⟩ = some (.slice b1 m1 d1)) (first | (simp [go_sem, *]; done) | (trace_state; fail))
    (first
      | (go_at_call_of 70 (Value.agg #[Value.slice b m d]); refine Calls.mono (over_any _ _ A q _ (IsNat.mono I3.out.1 ?_) (IsNat.mono I3.out.2.2.2.1 ?_) HS.out.1 HL.out.2.2.2 HL.out.2.2.1) ?_; (first | exact bel_refl _ | exact bel_dr (bel_refl _)); (first | exact bel_refl _ | exact bel_dr (bel_refl _)); rintro e w4 ⟨v4, rfl, hv4, hb4⟩; have hb4 : Below w3.heap.size w3 w4 := (by first | exact hb4 | exact bel_undrew hb4); obtain ⟨p4, q4, r4, rfl⟩ := hv4.isAgg; have x2 := cell_later hb4 d2; have x3 := cell_later hb4 d3; have x5 := cell_later hb4 d5; have x6 := cell_later hb4 d6; have x7 := cell_later hb4 d7; have x9 := cell_later hb4 d9; have y6 : w4.frozen? ⟨w.heap.size + 1 + 1, 0, none⟩ = false := (hb4.frozen (World.block_lt_of_cell? _ _ d6)).trans g6; have y7 : w4.frozen? ⟨w.heap.size + 1 + 1, 1, none⟩ = false := (hb4.frozen (World.block_lt_of_cell? _ _ d7)).trans g7; have I4 : Hid (IsNat w4 (.agg #[.slice p4 q4 r4]) (A / q) ∧ IsNat w4 (.agg #[.slice a3 n3 c3]) o ∧ IsNat w4 (.agg #[.slice a4 n4 c4]) t ∧ IsNat w4 (.agg #[.slice b1 m1 d1]) q ∧ Below w.heap.size w w4) := ⟨hv4, I3.out.2.1.mono hb4, I3.out.2.2.1.mono hb4, I3.out.2.2.2.1.mono hb4, bel_go I3.out.2.2.2.2 hb4⟩; clear hv4 hb4)
      | (go_at_call 70; refine Calls.mono (over_any _ _ t q _ I4.out.2.2.1 I4.out.2.2.2.1 HS.out.2.2.2.2.1 HL.out.2.2.2 HL.out.2.2.1) ?_; rintro e w5 ⟨v5, rfl, hv5, hb5⟩; obtain ⟨p5, q5, r5, rfl⟩ := hv5.isAgg; have z2 := cell_later hb5 x2; have z3 := cell_later hb5 x3; have z5 := cell_later hb5 x5; have z6 := cell_later hb5 x6; have z7 := cell_later hb5 x7; have z9 := cell_later hb5 x9; have u6 : w5.frozen? ⟨w.heap.size + 1 + 1, 0, none⟩ = false := (hb5.frozen (World.block_lt_of_cell? _ _ x6)).trans y6; have u7 : w5.frozen? ⟨w.heap.size + 1 + 1, 1, none⟩ = false := (hb5.frozen (World.block_lt_of_cell? _ _ x7)).trans y7; have I5 : Hid (IsNat w5 (.agg #[.slice p4 q4 r4]) (A / q) ∧ IsNat w5 (.agg #[.slice a3 n3 c3]) o ∧ IsNat w5 (.agg #[.slice p5 q5 r5]) (t / q) ∧ Below w.heap.size w w5) := ⟨I4.out.1.mono hb5, I4.out.2.1.mono hb5, hv5, bel_go I4.out.2.2.2.2 hb5⟩; clear hv5 hb5)
      | (go_at_call 52; refine Calls.mono (mul_short _ _ o (t / q) _ I5.out.2.1 I5.out.2.2.1 (fits_P HS.out.2.2.2.1 (by omega)) (fits_P (Nat.lt_of_le_of_lt (Nat.div_le_self _ _) HS.out.2.2.2.2.1) (by omega)) (.inl HS.out.2.2.2.1)) ?_; rintro e w6 ⟨v6, rfl, hv6, hb6⟩; obtain ⟨p6, q6, r6, rfl⟩ := hv6.isAgg; have k2 := cell_later hb6 z2; have k3 := cell_later hb6 z3; have k5 := cell_later hb6 z5; have k6 := cell_later hb6 z6; have k7 := cell_later hb6 z7; have k9 := cell_later hb6 z9; have j6 : w6.frozen? ⟨w.heap.size + 1 + 1, 0, none⟩ = false := (hb6.frozen (World.block_lt_of_cell? _ _ z6)).trans u6; have j7 : w6.frozen? ⟨w.heap.size + 1 + 1, 1, none⟩ = false := (hb6.frozen (World.block_lt_of_cell? _ _ z7)).trans u7; have I6 : Hid (IsNat w6 (.agg #[.slice p4 q4 r4]) (A / q) ∧ IsNat w6 (.agg #[.slice p6 q6 r6]) (o * (t / q)) ∧ Below w.heap.size w w6) := ⟨I5.out.1.mono hb6, hv6, bel_go I5.out.2.2.2 hb6⟩; clear hv6 hb6)
      | (go_at_call 71; refine Calls.mono (inLowest_any _ _ (A / q) (o * (t / q)) _ I6.out.1 I6.out.2.1 (fits_P (Nat.lt_of_le_of_lt (Nat.div_le_self _ _) HS.out.1) (by omega)) HL.out.2.1 HL.out.1) ?_; rintro e w7 ⟨v7, rfl, hv7, hb7⟩; have l2 := cell_later hb7 k2; have l3 := cell_later hb7 k3; have l5 := cell_later hb7 k5; have l6 := cell_later hb7 k6; have l7 := cell_later hb7 k7; have l9 := cell_later hb7 k9; have i6 : w7.frozen? ⟨w.heap.size + 1 + 1, 0, none⟩ = false := (hb7.frozen (World.block_lt_of_cell? _ _ k6)).trans j6; have i7 : w7.frozen? ⟨w.heap.size + 1 + 1, 1, none⟩ = false := (hb7.frozen (World.block_lt_of_cell? _ _ k7)).trans j7; obtain ⟨p7, q7, r7, p8, q8, r8, ev7, _, _⟩ := hv7.raw; subst ev7; have I7 : Hid (Rt w7 (.agg #[.slice p7 q7 r7, .slice p8 q8 r8]) (A / q) (o * (t / q)) ∧ Below w.heap.size w w7) := ⟨hv7, bel_go I6.out.2.2 hb7⟩; clear hv7 hb7))
  have Z : Hid _ := rat_put (w0 := w) (v := .slice p7 q7 r7) (u := .slice p8 q8 r8) l6 l7 I7.out.1 I7.out.2 (by omega)
  rw [EQ.out] at Z
  go_wp2_with fail
  exact bodyPost_ret (v := .agg #[.slice p7 q7 r7, .slice p8 q8 r8]) (by simp [results, Tryz.results68, go_sem, l6, l7]) rfl ⟨_, rfl, Z.out.1, Z.out.2⟩
def addA (p q x y : Nat) : Nat := p * (y / Nat.gcd q y) + x * (q / Nat.gcd q y)
def addP (p q x y : Nat) : Nat := addA p q x y / Nat.gcd (addA p q x y) (Nat.gcd q y)
def addQ (p q x y : Nat) : Nat := q / Nat.gcd q y * (y / Nat.gcd (addA p q x y) (Nat.gcd q y))
theorem RS.mul {x y : Nat} (h : RS x) (k : RS y) : x * y < P 180 := by
  rw [show 180 = 90 + 90 from rfl, P_add]
  exact Nat.mul_lt_mul'' h.lt k.lt
theorem P_twice {x y n : Nat} (h : x < P n) (k : y < P n) : x + y < P (n + 1) := by
  rw [P_succ]
  omega
theorem RL.mul {x y : Nat} (h : RL x) (k : RL y) : x * y < P 194 := by
  rw [show 194 = 97 + 97 from rfl, P_add]
  exact Nat.mul_lt_mul'' h.lt k.lt
set_option maxHeartbeats 8000000 in
theorem ratAddL_any (v u : Value) (p q x y : Nat) (w : World) (h : Rt w v p q) (k : Rt w u x y) (hp : RL p) (hq : RL q) (hr : RL x) (hs : RL y) (hT : Tab w) :
    Calls Tryz.prog 35 #[v, u] w (MakesR w (addP p q x y) (addQ p q x y)) := by
  obtain ⟨a, n, c, a', n', c', e0, _, _⟩ := h.raw
  subst e0
  obtain ⟨b, m, d, b', m', d', e1, _, _⟩ := k.raw
  subst e1
  obtain ⟨w0, hw0⟩ : ∃ w0, w0 = ((w.alloc (.cells #[.slice a n c, .slice a' n' c'] 47)).alloc (.cells #[.slice b m d, .slice b' m' d'] 47)).alloc (.cells #[.slice none 0 0, .slice none 0 0] 47) := ⟨_, rfl⟩
  have ba : Below w.heap.size w w0 := by rw [hw0]; exact bel_al (bel_al (bel_al (bel_refl w)))
  have e6 : w0.cell? ⟨w.heap.size + 1 + 1, 0, none⟩ = some (.slice none 0 0) := by rw [hw0]; simp [go_sem]
  have e7 : w0.cell? ⟨w.heap.size + 1 + 1, 1, none⟩ = some (.slice none 0 0) := by rw [hw0]; simp [go_sem]
  have f6 : w0.frozen? ⟨w.heap.size + 1 + 1, 0, none⟩ = false := by rw [hw0]; simp [go_sem]
  have f7 : w0.frozen? ⟨w.heap.size + 1 + 1, 1, none⟩ = false := by rw [hw0]; simp [go_sem]
  have g0 : 0 < Nat.gcd q y := Nat.gcd_pos_of_pos_left _ h.pos
  have hg : RL (Nat.gcd q y) := hq.le (Nat.gcd_le_left _ h.pos)
  have ho : RL (q / Nat.gcd q y) := hq.le (Nat.div_le_self _ _)
  have hy' : RL (y / Nat.gcd q y) := hs.le (Nat.div_le_self _ _)
  have low := add_low h.pos k.pos h.low k.low (A := addA p q x y) rfl rfl
  have HH : Hid (Rt w0 (.agg #[.slice a n c, .slice a' n' c']) p q ∧ Rt w0 (.agg #[.slice b m d, .slice b' m' d']) x y ∧ RL p ∧ RL q ∧ RL x ∧ RL y ∧ Tab w0 ∧ Below w.heap.size w w0) := ⟨h.mono ba, k.mono ba, hp, hq, hr, hs, hT.go ba, ba⟩
  have HS : Hid (Fits (p * (y / Nat.gcd q y)) ∧ Fits (x * (q / Nat.gcd q y)) ∧ addA p q x y < P 198 ∧ Nat.gcd q y < P 198 ∧ 0 < Nat.gcd q y ∧ q / Nat.gcd q y < P 99 ∧ y < P 198) := ⟨fits_P (hp.mul hy') (by omega), fits_P (hr.mul ho) (by omega), Nat.lt_trans (P_twice (hp.mul hy') (hr.mul ho)) (P_lt (by omega)), hg.p198, g0, ho.p99, hs.p198⟩
  have HL : Hid _ := low
  clear h k hp hq hr hs hT ba g0 hg ho hy' low
  go_enter Tryz.func35, Tryz.ntmps35
  go_wp2_with fail
  rw [← hw0]
  clear hw0
  refine (broughtL_any _ _ p q x y _ HH.out.1 HH.out.2.1 HH.out.2.2.1 HH.out.2.2.2.1 HH.out.2.2.2.2.1 HH.out.2.2.2.2.2.1 HH.out.2.2.2.2.2.2.1).mono ?_
  rintro e w1 ⟨v1, rfl, hv1, hb1⟩
  obtain ⟨a1, n1, c1, a2, n2, c2, a3, n3, c3, a4, n4, c4, a5, n5, c5, ev, h1, h2, h3, h4, h5⟩ := hv1
  subst ev
  obtain ⟨w3, hw3⟩ : ∃ w3, w3 = w1.alloc (.cells #[.slice a1 n1 c1, .slice a2 n2 c2, .slice a3 n3 c3, .slice a4 n4 c4, .slice a5 n5 c5] 123) := ⟨_, rfl⟩
  have b13 : Below w1.heap.size w1 w3 := by rw [hw3]; exact bel_al (bel_refl w1)
  have b3 : Below w0.heap.size w0 w3 := bel_go hb1 b13
  have d6 := cell_later b3 e6
  have d7 := cell_later b3 e7
  have g6 : w3.frozen? ⟨w.heap.size + 1 + 1, 0, none⟩ = false := (b3.frozen (World.block_lt_of_cell? _ _ e6)).trans f6
  have g7 : w3.frozen? ⟨w.heap.size + 1 + 1, 1, none⟩ = false := (b3.frozen (World.block_lt_of_cell? _ _ e7)).trans f7
  have s0 : w3.cell? ⟨w1.heap.size, 0, none⟩ = some (.slice a1 n1 c1) := by rw [hw3]; simp [go_sem]
  have s1 : w3.cell? ⟨w1.heap.size, 1, none⟩ = some (.slice a2 n2 c2) := by rw [hw3]; simp [go_sem]
  have s2 : w3.cell? ⟨w1.heap.size, 2, none⟩ = some (.slice a3 n3 c3) := by rw [hw3]; simp [go_sem]
  have s3 : w3.cell? ⟨w1.heap.size, 3, none⟩ = some (.slice a4 n4 c4) := by rw [hw3]; simp [go_sem]
  have s4 : w3.cell? ⟨w1.heap.size, 4, none⟩ = some (.slice a5 n5 c5) := by rw [hw3]; simp [go_sem]
  have I3 : Hid (IsNat w3 (.agg #[.slice a1 n1 c1]) (p * (y / Nat.gcd q y)) ∧ IsNat w3 (.agg #[.slice a2 n2 c2]) (x * (q / Nat.gcd q y)) ∧ IsCom w3 (.agg #[.slice a1 n1 c1, .slice a2 n2 c2, .slice a3 n3 c3, .slice a4 n4 c4, .slice a5 n5 c5]) (p * (y / Nat.gcd q y)) (x * (q / Nat.gcd q y)) (q / Nat.gcd q y) y (Nat.gcd q y) ∧ Tab w3 ∧ Below w.heap.size w w3) := ⟨h1.mono b13, h2.mono b13, ⟨_, _, _, _, _, _, _, _, _, _, _, _, _, _, _, rfl, h1.mono b13, h2.mono b13, h3.mono b13, h4.mono b13, h5.mono b13⟩, HH.out.2.2.2.2.2.2.1.go b3, bel_go HH.out.2.2.2.2.2.2.2 b3⟩
  have nb0 : w.heap.size + 1 + 1 < w1.heap.size := World.block_lt_of_cell? _ _ (cell_later hb1 e6)
  go_wp2_with fail
  rw [← hw3]
  obtain ⟨b6, hb6⟩ : ∃ b6, b6 = w1.heap.size := ⟨_, rfl⟩
  rw [← hb6] at s0 s1 s2 s3 s4 nb0
  rw [← hb6]
  have nb : ¬ w.heap.size + 1 + 1 = b6 := by omega
  have nb' : ¬ b6 = w.heap.size + 1 + 1 := by omega
  clear h1 h2 h3 h4 h5 hb1 b13 b3 e6 e7 f6 f7 hw3 hb6 nb0 HH
  go_region_held3 (fun w' => w'.cell? ⟨b6, 0, none⟩ = some (.slice a1 n1 c1) ∧ w'.cell? ⟨b6, 1, none⟩ = some (.slice a2 n2 c2) ∧ w'.cell? ⟨b6, 2, none⟩ = some (.slice a3 n3 c3) ∧ w'.cell? ⟨b6, 3, none⟩ = some (.slice a4 n4 c4) ∧ w'.cell? ⟨b6, 4, none⟩ = some (.slice a5 n5 c5)) (first | (simp [go_sem, *]; done) | (trace_state; fail))
    (first
      | (go_at_call 26; refine Calls.mono (add_any _ _ (p * (y / Nat.gcd q y)) (x * (q / Nat.gcd q y)) _ (IsNat.mono I3.out.1 ?_) (IsNat.mono I3.out.2.1 ?_) HS.out.1 HS.out.2.1) ?_; (first | exact bel_refl _ | exact bel_dr (bel_refl _)); (first | exact bel_refl _ | exact bel_dr (bel_refl _)); rintro e w4 ⟨v4, rfl, hv4, hb4⟩; have hb4 : Below w3.heap.size w3 w4 := (by first | exact hb4 | exact bel_undrew hb4); obtain ⟨p4, q4, r4, rfl⟩ := hv4.isAgg; have x0 := cell_later hb4 s0; have x1 := cell_later hb4 s1; have x2 := cell_later hb4 s2; have x3 := cell_later hb4 s3; have x4 := cell_later hb4 s4; have x6 := cell_later hb4 d6; have x7 := cell_later hb4 d7; have y6 : w4.frozen? ⟨w.heap.size + 1 + 1, 0, none⟩ = false := (hb4.frozen (World.block_lt_of_cell? _ _ d6)).trans g6; have y7 : w4.frozen? ⟨w.heap.size + 1 + 1, 1, none⟩ = false := (hb4.frozen (World.block_lt_of_cell? _ _ d7)).trans g7; have I4 : Hid (IsNat w4 (.agg #[.slice p4 q4 r4]) (addA p q x y) ∧ IsCom w4 (.agg #[.slice a1 n1 c1, .slice a2 n2 c2, .slice a3 n3 c3, .slice a4 n4 c4, .slice a5 n5 c5]) (p * (y / Nat.gcd q y)) (x * (q / Nat.gcd q y)) (q / Nat.gcd q y) y (Nat.gcd q y) ∧ Tab w4 ∧ Below w.heap.size w w4) := ⟨hv4, I3.out.2.2.1.mono hb4, I3.out.2.2.2.1.go hb4, bel_go I3.out.2.2.2.2 hb4⟩; clear hv4 hb4)
      | (go_at_call 68; refine Calls.mono (fraction_any _ _ _ _ _ _ _ (addA p q x y) _ I4.out.2.1 I4.out.1 HS.out.2.2.1 HS.out.2.2.2.1 HS.out.2.2.2.2.1 HS.out.2.2.2.2.2.1 HS.out.2.2.2.2.2.2 HL.out.2.1 HL.out.2.2 I4.out.2.2.1) ?_; rintro e w7 ⟨v7, rfl, hv7, hb7⟩; have l0 := cell_later hb7 x0; have l1 := cell_later hb7 x1; have l2 := cell_later hb7 x2; have l3 := cell_later hb7 x3; have l4 := cell_later hb7 x4; have l6 := cell_later hb7 x6; have l7 := cell_later hb7 x7; have i6 : w7.frozen? ⟨w.heap.size + 1 + 1, 0, none⟩ = false := (hb7.frozen (World.block_lt_of_cell? _ _ x6)).trans y6; have i7 : w7.frozen? ⟨w.heap.size + 1 + 1, 1, none⟩ = false := (hb7.frozen (World.block_lt_of_cell? _ _ x7)).trans y7; obtain ⟨p7, q7, r7, p8, q8, r8, ev7, _, _⟩ := hv7.raw; subst ev7; have I7 : Hid (Rt w7 (.agg #[.slice p7 q7 r7, .slice p8 q8 r8]) (addP p q x y) (addQ p q x y) ∧ Below w.heap.size w w7) := ⟨hv7, bel_go I4.out.2.2.2 hb7⟩; clear hv7 hb7))
  have Z : Hid _ := rat_put (w0 := w) (v := .slice p7 q7 r7) (u := .slice p8 q8 r8) l6 l7 I7.out.1 I7.out.2 (by omega)
  go_wp2_with fail
  exact bodyPost_ret (v := .agg #[.slice p7 q7 r7, .slice p8 q8 r8]) (by simp [results, Tryz.results35, go_sem, l6, l7]) rfl ⟨_, rfl, Z.out.1, Z.out.2⟩
theorem ratAdd_any (v u : Value) (p q x y : Nat) (w : World) (h : Rt w v p q) (k : Rt w u x y) (hp : RS p) (hq : RS q) (hr : RS x) (hs : RS y) (hT : Tab w) :
    Calls Tryz.prog 35 #[v, u] w (MakesR w (addP p q x y) (addQ p q x y)) := ratAddL_any v u p q x y w h k hp.l hq.l hr.l hs.l hT
def sRt (p q : Nat) : Spec := ⟨fun w v => Rt w v p q, ⟨fun h hb => h.mono hb, fun h hp u => h.setCell hp u⟩⟩
def sRRt (p q : Nat) : Spec := ⟨fun w v => RRt w v p q, ⟨fun h hb => h.mono hb, fun h hp u => h.setCell hp u⟩⟩
def sRtB (p q : Nat) (ok : Bool) : Spec := ⟨fun w v => ∃ u, v = .tuple #[u, .bool ok] ∧ Rt w u p q, ⟨fun ⟨u, e, h⟩ hb => ⟨u, e, h.mono hb⟩, fun ⟨u, e, h⟩ hp x => ⟨u, e, h.setCell hp x⟩⟩⟩
def sRRtB (p q : Nat) (ok : Bool) : Spec := ⟨fun w v => ∃ u, v = .tuple #[u, .bool ok] ∧ RRt w u p q, ⟨fun ⟨u, e, h⟩ hb => ⟨u, e, h.mono hb⟩, fun ⟨u, e, h⟩ hp x => ⟨u, e, h.setCell hp x⟩⟩⟩
def Box2 (w0 : World) (L : Nat → Bool) (vs : Nat → Value) (w : World) (b : Nat × Nat × Nat) : Prop :=
  ∃ bk, vs b.1 = .pointer (some ⟨bk, 0, none⟩) ∧ w0.heap.size ≤ bk ∧ bk < w.heap.size ∧ w.frozen? ⟨bk, 0, none⟩ = false ∧ w.frozen? ⟨bk, 1, none⟩ = false ∧ (L b.2.1 = false → w.cell? ⟨bk, 0, none⟩ = some (.slice none 0 0) ∧ w.cell? ⟨bk, 1, none⟩ = some (.slice none 0 0)) ∧ (L b.2.1 = true → L b.2.2 = true ∧ ∃ u u', vs b.2.2 = .agg #[u, u'] ∧ w.cell? ⟨bk, 0, none⟩ = some u ∧ w.cell? ⟨bk, 1, none⟩ = some u')
structure JC (w0 : World) (specs : List Spec) (b : Nat × Nat × Nat) (L : Nat → Bool) (vs : Nat → Value) (w : World) : Prop where
  bel : Below w0.heap.size w0 w
  sp : ∀ i, L i = true → (specs.getD i sAny).1 w (vs i)
  bx : L b.1 = true → Box2 w0 L vs w b
  cl : L b.2.1 = true → L b.1 = true
theorem JC.start (w : World) (specs : List Spec) (b : Nat × Nat × Nat) : JC w specs b (fun _ => false) (fun _ => undef) w.drew :=
  ⟨bel_dr (Below.refl _ _), (fun _ h => by cases h), (fun h => by cases h), (fun h => by cases h)⟩
theorem JC.step {w0 : World} {specs : List Spec} {b : Nat × Nat × Nat} {L : Nat → Bool} {vs : Nat → Value} {w w' : World} (h : JC w0 specs b L vs w) {i : Nat} (hL : L i = false) (hf : freeB [b] i = true) (hb : Below w.heap.size w w') {v : Value} (hs : (specs.getD i sAny).1 w' v) : JC w0 specs b (updB L i) (updV vs i v) w' := by
  have hne : b.1 ≠ i ∧ b.2.1 ≠ i := by simpa [freeB] using hf
  have oldV : ∀ j, L j = true → updV vs i v j = vs j := fun j hj => by
    have : j ≠ i := fun e => by rw [e, hL] at hj; cases hj
    simp [updV, this]
  refine ⟨bel_go h.bel hb, fun j hj => ?_, fun hLb => ?_, fun hs' => ?_⟩
  · by_cases e : j = i
    · subst e
      simpa [updV] using hs
    have hj' : L j = true := by simpa [updB, e] using hj
    rw [oldV j hj']
    exact (specs.getD j sAny).2.mono (h.sp j hj') hb
  · have hLb' : L b.1 = true := by simpa [updB, hne.1] using hLb
    obtain ⟨bk, e1, e2, e3, e4, e4', e5, e6⟩ := h.bx hLb'
    have hc0 : w'.cell? ⟨bk, 0, none⟩ = w.cell? ⟨bk, 0, none⟩ := hb.cell (p := ⟨bk, 0, none⟩) e3
    have hc1 : w'.cell? ⟨bk, 1, none⟩ = w.cell? ⟨bk, 1, none⟩ := hb.cell (p := ⟨bk, 1, none⟩) e3
    refine ⟨bk, by rw [oldV _ hLb']; exact e1, e2, Nat.lt_of_lt_of_le e3 hb.size, (hb.frozen (p := ⟨bk, 0, none⟩) e3).trans e4, (hb.frozen (p := ⟨bk, 1, none⟩) e3).trans e4', fun hs' => ?_, fun hs' => ?_⟩
    · rw [hc0, hc1]
      exact e5 (by simpa [updB, hne.2] using hs')
    obtain ⟨q1, u, u', q2, q3, q4⟩ := e6 (by simpa [updB, hne.2] using hs')
    refine ⟨by unfold updB; split <;> simp_all, u, u', ?_, by rw [hc0]; exact q3, by rw [hc1]; exact q4⟩
    rw [oldV _ q1]
    exact q2
  have := h.cl (by simpa [updB, hne.2] using hs')
  unfold updB; split <;> simp_all
theorem JC.alloc {w0 : World} {specs : List Spec} {b : Nat × Nat × Nat} {L : Nat → Bool} {vs : Nat → Value} {w : World} (h : JC w0 specs b L vs w) {i : Nat} (hL : L i = false) (hi : b.1 = i) (hns : b.2.1 ≠ i) (hsp : specs.getD i sAny = sAny) (t : TypeId) :
    JC w0 specs b (updB L i) (updV vs i (.pointer (some ⟨w.heap.size, 0, none⟩))) (w.alloc (.cells #[.slice none 0 0, .slice none 0 0] t)) := by
  have hb : Below w.heap.size w (w.alloc (.cells #[.slice none 0 0, .slice none 0 0] t)) := (Below.refl _ _).alloc (Nat.le_refl _) _
  have oldV : ∀ j, L j = true → updV vs i (.pointer (some ⟨w.heap.size, 0, none⟩)) j = vs j := fun j hj => by
    have : j ≠ i := fun e => by rw [e, hL] at hj; cases hj
    simp [updV, this]
  have hst : L b.2.1 = false := by
    cases hs' : L b.2.1
    · rfl
    have := h.cl hs'
    rw [hi, hL] at this
    cases this
  refine ⟨bel_go h.bel hb, fun j hj => ?_, fun _ => ?_, fun hs' => ?_⟩
  · by_cases e : j = i
    · subst e
      rw [hsp]
      trivial
    have hj' : L j = true := by simpa [updB, e] using hj
    rw [oldV j hj']
    exact (specs.getD j sAny).2.mono (h.sp j hj') hb
  · refine ⟨w.heap.size, by rw [hi]; simp [updV], h.bel.size, by simp, by simp [go_sem], by simp [go_sem], fun _ => by simp [go_sem], fun hs' => ?_⟩
    simp [updB, hns, hst] at hs'
  simp [updB, hns, hst] at hs'
theorem JC.store {w0 : World} {specs : List Spec} {b : Nat × Nat × Nat} {L : Nat → Bool} {vs : Nat → Value} {w : World} (h : JC w0 specs b L vs w) (hL : L b.2.1 = false) (hA : L b.1 = true) (hV : L b.2.2 = true) (hone : b.1 ≠ b.2.1) (hsp : specs.getD b.2.1 sAny = sAny) {bk : Nat} {u u' : Value} (hp : vs b.1 = .pointer (some ⟨bk, 0, none⟩)) (hu : vs b.2.2 = .agg #[u, u']) :
    JC w0 specs b (updB L b.2.1) (updV vs b.2.1 undef) ((w.setCell ⟨bk, 0, none⟩ u).setCell ⟨bk, 1, none⟩ u') := by
  have oldV : ∀ j, L j = true → updV vs b.2.1 undef j = vs j := fun j hj => by
    have : j ≠ b.2.1 := fun e => by rw [e, hL] at hj; cases hj
    simp [updV, this]
  obtain ⟨bk', e1, e2, e3, e4, e4', e5, e6⟩ := h.bx hA
  obtain rfl : bk' = bk := by rw [e1] at hp; cases hp; rfl
  obtain ⟨hc0, hc1⟩ := e5 hL
  obtain ⟨n1, n2⟩ := two_set hc0 hc1 u
  have hd : (w.setCell ⟨bk', 0, none⟩ u).cell? ⟨bk', 1, none⟩ = some (.slice none 0 0) := by rw [World.cell?_setCell_other (h := by simp), hc1]
  refine ⟨(h.bel.setCell (p := ⟨bk', 0, none⟩) e2 u).setCell (p := ⟨bk', 1, none⟩) e2 u', fun j hj => ?_, fun _ => ?_, fun _ => ?_⟩
  · by_cases e : j = b.2.1
    · subst e
      rw [hsp]
      trivial
    have hj' : L j = true := by simpa [updB, e] using hj
    rw [oldV j hj']
    exact (specs.getD j sAny).2.set ((specs.getD j sAny).2.set (h.sp j hj') n1 u) n2 u'
  · refine ⟨bk', by rw [oldV _ hA]; exact e1, e2, by simpa [World.setCell] using e3, by simp [World.frozen?_setCell, e4], by simp [World.frozen?_setCell, e4'], fun hs' => ?_, fun _ => ⟨?_, u, u', ?_, ?_, ?_⟩⟩
    · simp [updB] at hs'
    · unfold updB; split <;> simp_all
    · rw [oldV _ hV]; exact hu
    · rw [World.cell?_setCell_other (h := by simp)]
      simp [go_sem, hc0]
    simp [go_sem, hd]
  simp [updB, hone, hA]
structure RG (x : Nat) : Prop where
  lt : x < P 900
theorem RG.fits {x : Nat} (h : RG x) : Fits x := fits_P h.lt (by omega)
theorem RG.rfits {x : Nat} (h : RG x) : RFits x := rfits_P h.lt (by omega)
theorem RS.g {x : Nat} (h : RS x) : RG x := ⟨Nat.lt_trans h.lt (P_lt (by omega))⟩
structure SX (w0 w : World) (N M : List (Value × Nat)) (F G : List (Value × Nat × Nat)) (C : List (Nat × Nat × Value)) : Prop where
  nats : ∀ p ∈ N, IsNat w p.1 p.2
  rnats : ∀ p ∈ M, RNat w p.1 p.2
  frs : ∀ p ∈ F, Rt w p.1 p.2.1 p.2.2
  rfrs : ∀ p ∈ G, RRt w p.1 p.2.1 p.2.2
  cells : ∀ p ∈ C, w.cell? ⟨p.1, p.2.1, none⟩ = some p.2.2
  bel : Below w0.heap.size w0 w
theorem SX.go {w0 w : World} {N M : List (Value × Nat)} {F G : List (Value × Nat × Nat)} {C : List (Nat × Nat × Value)} (h : SX w0 w N M F G C) {w' : World} (hb : Below w.heap.size w w') : SX w0 w' N M F G C :=
  ⟨fun p hp => (h.nats p hp).mono hb, fun p hp => (h.rnats p hp).mono hb, fun p hp => (h.frs p hp).mono hb, fun p hp => (h.rfrs p hp).mono hb, fun p hp => cell_later hb (h.cells p hp), bel_go h.bel hb⟩
theorem SX.at {w0 w : World} {N M : List (Value × Nat)} {F G : List (Value × Nat × Nat)} {C : List (Nat × Nat × Value)} (h : SX w0 w N M F G C) (v : Value) (x : Nat) (hm : (v, x) ∈ N := by simp) : IsNat w v x := h.nats _ hm
theorem SX.rat {w0 w : World} {N M : List (Value × Nat)} {F G : List (Value × Nat × Nat)} {C : List (Nat × Nat × Value)} (h : SX w0 w N M F G C) (v : Value) (x : Nat) (hm : (v, x) ∈ M := by simp) : RNat w v x := h.rnats _ hm
theorem SX.fr {w0 w : World} {N M : List (Value × Nat)} {F G : List (Value × Nat × Nat)} {C : List (Nat × Nat × Value)} (h : SX w0 w N M F G C) (v : Value) (p q : Nat) (hm : (v, p, q) ∈ F := by simp) : Rt w v p q := h.frs _ hm
theorem SX.rfr {w0 w : World} {N M : List (Value × Nat)} {F G : List (Value × Nat × Nat)} {C : List (Nat × Nat × Value)} (h : SX w0 w N M F G C) (v : Value) (p q : Nat) (hm : (v, p, q) ∈ G := by simp) : RRt w v p q := h.rfrs _ hm
theorem SX.cel {w0 w : World} {N M : List (Value × Nat)} {F G : List (Value × Nat × Nat)} {C : List (Nat × Nat × Value)} (h : SX w0 w N M F G C) (b i : Nat) (u : Value) (hm : (b, i, u) ∈ C := by simp) : w.cell? ⟨b, i, none⟩ = some u := h.cells _ hm
theorem SX.cell {w0 w : World} {N M : List (Value × Nat)} {F G : List (Value × Nat × Nat)} {C : List (Nat × Nat × Value)} (h : SX w0 w N M F G C) (b : Nat) (u : Value) (hm : (b, 0, u) ∈ C := by simp) : w.cell? ⟨b, 0, none⟩ = some u := h.cells _ hm
theorem SX.addN {w0 w : World} {N M : List (Value × Nat)} {F G : List (Value × Nat × Nat)} {C : List (Nat × Nat × Value)} (h : SX w0 w N M F G C) {v : Value} {x : Nat} (hv : IsNat w v x) : SX w0 w ((v, x) :: N) M F G C :=
  ⟨fun p hp => by
    rcases List.mem_cons.1 hp with e | e
    · subst e; exact hv
    exact h.nats p e, h.rnats, h.frs, h.rfrs, h.cells, h.bel⟩
theorem SX.addM {w0 w : World} {N M : List (Value × Nat)} {F G : List (Value × Nat × Nat)} {C : List (Nat × Nat × Value)} (h : SX w0 w N M F G C) {v : Value} {x : Nat} (hv : RNat w v x) : SX w0 w N ((v, x) :: M) F G C :=
  ⟨h.nats, fun p hp => by
    rcases List.mem_cons.1 hp with e | e
    · subst e; exact hv
    exact h.rnats p e, h.frs, h.rfrs, h.cells, h.bel⟩
theorem SX.addF {w0 w : World} {N M : List (Value × Nat)} {F G : List (Value × Nat × Nat)} {C : List (Nat × Nat × Value)} (h : SX w0 w N M F G C) {v : Value} {x y : Nat} (hv : Rt w v x y) : SX w0 w N M ((v, x, y) :: F) G C :=
  ⟨h.nats, h.rnats, fun p hp => by
    rcases List.mem_cons.1 hp with e | e
    · subst e; exact hv
    exact h.frs p e, h.rfrs, h.cells, h.bel⟩
theorem SX.addG {w0 w : World} {N M : List (Value × Nat)} {F G : List (Value × Nat × Nat)} {C : List (Nat × Nat × Value)} (h : SX w0 w N M F G C) {v : Value} {x y : Nat} (hv : RRt w v x y) : SX w0 w N M F ((v, x, y) :: G) C :=
  ⟨h.nats, h.rnats, h.frs, fun p hp => by
    rcases List.mem_cons.1 hp with e | e
    · subst e; exact hv
    exact h.rfrs p e, h.cells, h.bel⟩
theorem SX.addC {w0 w : World} {N M : List (Value × Nat)} {F G : List (Value × Nat × Nat)} {C : List (Nat × Nat × Value)} (h : SX w0 w N M F G C) {b i : Nat} {v : Value} (hv : w.cell? ⟨b, i, none⟩ = some v) : SX w0 w N M F G ((b, i, v) :: C) :=
  ⟨h.nats, h.rnats, h.frs, h.rfrs, fun p hp => by
    rcases List.mem_cons.1 hp with e | e
    · subst e; exact hv
    exact h.cells p e, h.bel⟩
theorem SX.box1 {w0 w : World} {N M : List (Value × Nat)} {F G : List (Value × Nat × Nat)} {C : List (Nat × Nat × Value)} (h : SX w0 w N M F G C) (u : Value) (t : TypeId) (g : Nat) (hg : g = w.heap.size) : SX w0 (w.alloc (.cells #[u] t)) N M F G ((g, 0, u) :: C) := by
  subst hg
  exact (h.go (w' := w.alloc (.cells #[u] t)) (bel_al (Below.refl _ _))).addC (by simp)
theorem SX.box {w0 w : World} {N M : List (Value × Nat)} {F G : List (Value × Nat × Nat)} {C : List (Nat × Nat × Value)} (h : SX w0 w N M F G C) (u u' : Value) (t : TypeId) (g : Nat) (hg : g = w.heap.size) : SX w0 (w.alloc (.cells #[u, u'] t)) N M F G ((g, 0, u) :: (g, 1, u') :: C) := by
  subst hg
  have h' := h.go (w' := w.alloc (.cells #[u, u'] t)) (bel_al (Below.refl _ _))
  exact (h'.addC (b := w.heap.size) (i := 1) (v := u') (by simp)).addC (by simp)
theorem SX.set {w0 w : World} {N M : List (Value × Nat)} {F G : List (Value × Nat × Nat)} {C : List (Nat × Nat × Value)} (h : SX w0 w N M F G C) {b i : Nat} {a : Option Addr} {n c : Nat} (hc : w.cell? ⟨b, i, none⟩ = some (.slice a n c)) (hlo : w0.heap.size ≤ b) (C' : List (Nat × Nat × Value)) (hC : ∀ p ∈ C', p ∈ C ∧ p.1 ≠ b) (u : Value) : SX w0 (w.setCell ⟨b, i, none⟩ u) N M F G C' :=
  ⟨fun p hp => (h.nats p hp).setCell (no_int_slice hc) u, fun p hp => (h.rnats p hp).setCell (no_int_slice hc) u, fun p hp => (h.frs p hp).setCell (no_int_slice hc) u, fun p hp => (h.rfrs p hp).setCell (no_int_slice hc) u,
    fun p hp => by
      rw [World.cell?_setCell_far _ _ _ _ (by simpa using Ne.symm (hC p hp).2)]
      exact h.cells p (hC p hp).1,
    h.bel.setCell (p := ⟨b, i, none⟩) hlo u⟩
theorem sx_start (w : World) : SX w w [] [] [] [] [] := ⟨(fun _ h => by cases h), (fun _ h => by cases h), (fun _ h => by cases h), (fun _ h => by cases h), (fun _ h => by cases h), Below.refl _ _⟩
structure JD (w0 : World) (specs : List Spec) (needs : List (List Nat)) (st val : Nat) (oth : List Nat) (Sto : World → Value → World → Prop) (L : Nat → Bool) (vs : Nat → Value) (w : World) : Prop where
  core : L st = false → JB w0 specs [] L vs w
  cl : ∀ j, L j = true → ∀ k ∈ needs.getD j [], L k = true
  fin : L st = true → (∀ j ∈ oth, L j = true) ∧ ∃ w1, Below w0.heap.size w0 w1 ∧ (specs.getD val sAny).1 w1 (vs val) ∧ Sto w1 (vs val) w
theorem JD.start (w : World) (specs : List Spec) (needs : List (List Nat)) (st val : Nat) (oth : List Nat) (Sto : World → Value → World → Prop) : JD w specs needs st val oth Sto (fun _ => false) (fun _ => undef) w.drew :=
  ⟨fun _ => JB.start _ _ _, (fun _ h => by cases h), (fun h => by cases h)⟩
theorem nd_nil {L : Nat → Bool} : ∀ k ∈ ([] : List Nat), L k = true := fun _ h => by cases h
theorem nd_cons {L : Nat → Bool} {a : Nat} {l : List Nat} (h : L a = true) (k : ∀ j ∈ l, L j = true) : ∀ j ∈ a :: l, L j = true := fun j hj => by
  rcases List.mem_cons.1 hj with e | e
  · rw [e]; exact h
  exact k j e
theorem JD.open {w0 : World} {specs : List Spec} {needs : List (List Nat)} {st val : Nat} {oth : List Nat} {Sto : World → Value → World → Prop} {L : Nat → Bool} {vs : Nat → Value} {w : World} (h : JD w0 specs needs st val oth Sto L vs w) {i : Nat} (hL : L i = false) (hi : i ∈ oth) : JB w0 specs [] L vs w :=
  h.core (by
    cases e : L st
    · rfl
    have := (h.fin e).1 i hi
    rw [hL] at this
    cases this)
theorem JD.step {w0 : World} {specs : List Spec} {needs : List (List Nat)} {st val : Nat} {oth : List Nat} {Sto : World → Value → World → Prop} {L : Nat → Bool} {vs : Nat → Value} {w : World} (h : JD w0 specs needs st val oth Sto L vs w) {i : Nat} (hL : L i = false) (hi : i ∈ oth) (hne : i ≠ st) {nd : List Nat} (he : needs.getD i [] = nd) (hn : ∀ k ∈ nd, L k = true) {v : Value} {w' : World} (k : JB w0 specs [] (updB L i) (updV vs i v) w') : JD w0 specs needs st val oth Sto (updB L i) (updV vs i v) w' := by
  refine ⟨fun _ => k, fun j hj m hm => ?_, fun hs => ?_⟩
  · by_cases e : j = i
    · subst e
      rw [he] at hm
      have := hn m hm
      unfold updB; split <;> simp_all
    have := h.cl j (by simpa [updB, e] using hj) m hm
    unfold updB; split <;> simp_all
  have hs' : L st = true := by simpa [updB, hne.symm] using hs
  have := (h.fin hs').1 i hi
  rw [hL] at this
  cases this
theorem JD.put {w0 : World} {specs : List Spec} {needs : List (List Nat)} {st val : Nat} {oth : List Nat} {Sto : World → Value → World → Prop} {L : Nat → Bool} {vs : Nat → Value} {w : World} (h : JD w0 specs needs st val oth Sto L vs w) (hL : L st = false) (hv : val ≠ st) {nd : List Nat} (he : needs.getD st [] = nd) (hn : ∀ k ∈ nd, L k = true) (ho : ∀ j ∈ oth, L j = true) (hV : L val = true) {w' : World} (hs : Sto w (vs val) w') : JD w0 specs needs st val oth Sto (updB L st) (updV vs st undef) w' := by
  have J := h.core hL
  refine ⟨fun e => ?_, fun j hj m hm => ?_, fun _ => ⟨fun j hj => ?_, w, J.bel, ?_, ?_⟩⟩
  · simp [updB] at e
  · by_cases e : j = st
    · subst e
      rw [he] at hm
      have := hn m hm
      unfold updB; split <;> simp_all
    have := h.cl j (by simpa [updB, e] using hj) m hm
    unfold updB; split <;> simp_all
  · have := ho j hj
    unfold updB; split <;> simp_all
  · have : updV vs st undef val = vs val := by simp [updV, hv]
    rw [this]
    exact J.sp val hV
  have : updV vs st undef val = vs val := by simp [updV, hv]
  rw [this]
  exact hs
def Sto2 (R : Nat) (w : World) (v : Value) (w' : World) : Prop := ∃ u u', v = .agg #[u, u'] ∧ w' = (w.setCell ⟨R, 0, none⟩ u).setCell ⟨R, 1, none⟩ u'
theorem low_one {a b c d : Nat} (h1 : Nat.gcd a b = 1) (h2 : Nat.gcd c d = 1) (hb : 0 < b) (hd : 0 < d) (e : a * d = c * b) : a = c ∧ b = d := by
  have h1' : Nat.Coprime a b := h1
  have h2' : Nat.Coprime c d := h2
  have d1 : b ∣ d := h1'.symm.dvd_of_dvd_mul_left ⟨c, by rw [e, Nat.mul_comm]⟩
  have d2 : d ∣ b := h2'.symm.dvd_of_dvd_mul_left ⟨a, by rw [← e, Nat.mul_comm]⟩
  have hbd : b = d := Nat.dvd_antisymm d1 d2
  subst hbd
  exact ⟨Nat.eq_of_mul_eq_mul_right hb e, rfl⟩
theorem low_terms (x Y : Nat) (hY : 0 < Y) : Nat.gcd (x / Nat.gcd x Y) (Y / Nat.gcd x Y) = 1 ∧ x / Nat.gcd x Y * Y = x * (Y / Nat.gcd x Y) ∧ 0 < Y / Nat.gcd x Y := by
  have g0 : 0 < Nat.gcd x Y := Nat.gcd_pos_of_pos_right _ hY
  refine ⟨?_, ?_, Nat.div_pos (Nat.gcd_le_right _ hY) g0⟩
  · rw [Nat.gcd_div (Nat.gcd_dvd_left _ _) (Nat.gcd_dvd_right _ _), Nat.div_self g0]
  obtain ⟨a, ha⟩ := Nat.gcd_dvd_left x Y
  obtain ⟨b, hb⟩ := Nat.gcd_dvd_right x Y
  generalize Nat.gcd x Y = g at *
  subst ha hb
  rw [Nat.mul_div_cancel_left _ g0, Nat.mul_div_cancel_left _ g0]
  grind
theorem radd_parts {w0 w : World} {r : Nat} {p q : Nat} {a6 a7 : Option Addr} {n6 k6 n7 k7 : Nat} (x0 : w.cell? ⟨r, 0, none⟩ = some (.slice none 0 0)) (x1 : w.cell? ⟨r, 1, none⟩ = some (.slice none 0 0)) :
    ((w.setCell ⟨r, 0, none⟩ (.slice a6 n6 k6)).setCell ⟨r, 1, none⟩ (.slice a7 n7 k7)).cell? ⟨r, 0, none⟩ = some (.slice a6 n6 k6) ∧ ((w.setCell ⟨r, 0, none⟩ (.slice a6 n6 k6)).setCell ⟨r, 1, none⟩ (.slice a7 n7 k7)).cell? ⟨r, 1, none⟩ = some (.slice a7 n7 k7) := by
  have hd : (w.setCell ⟨r, 0, none⟩ (.slice a6 n6 k6)).cell? ⟨r, 1, none⟩ = some (.slice none 0 0) := by rw [World.cell?_setCell_other (h := by simp), x1]
  constructor
  · rw [World.cell?_setCell_other (h := by simp)]
    simp [go_sem, x0]
  simp [go_sem, hd]
set_option maxHeartbeats 4000000 in
theorem radd2_any (v u : Value) (p q x y : Nat) (w : World) (h : RRt w v p q) (k : RRt w u x y) (hp : RS p) (hq : RS q) (hx : RS x) (hy : RS y) (hq0 : 0 < q) (hy0 : 0 < y) :
    Calls Tryz.prog 40 #[v, u] w (MakesRR w ((p * y + x * q) / Nat.gcd (p * y + x * q) (q * y)) ((q * y) / Nat.gcd (p * y + x * q) (q * y))) := by
  obtain ⟨p1, n1, c1, p2, n2, c2, e0, g1, g2⟩ := h
  subst e0
  obtain ⟨p3, n3, c3, p4, n4, c4, e1, g3, g4⟩ := k
  subst e1
  have S0 : Hid _ := ((((((sx_start w).addM g1).addM g2).addM g3).addM g4).box (.slice p1 n1 c1) (.slice p2 n2 c2) 53 _ rfl).box (.slice p3 n3 c3) (.slice p4 n4 c4) 53 _ rfl
  simp only [World.size_alloc] at S0
  have S1 : Hid _ := S0.out.box (.slice none 0 0) (.slice none 0 0) 53 _ rfl
  simp only [World.size_alloc] at S1
  obtain ⟨w0, hw0⟩ : ∃ w0, w0 = ((w.alloc (.cells #[.slice p1 n1 c1, .slice p2 n2 c2] 53)).alloc (.cells #[.slice p3 n3 c3, .slice p4 n4 c4] 53)).alloc (.cells #[.slice none 0 0, .slice none 0 0] 53) := ⟨_, rfl⟩
  have f6 : w0.frozen? ⟨w.heap.size + 1 + 1, 0, none⟩ = false := by rw [hw0]; simp [go_sem]
  have f7 : w0.frozen? ⟨w.heap.size + 1 + 1, 1, none⟩ = false := by rw [hw0]; simp [go_sem]
  have s1 : RSome (p * y + x * q) := ⟨Nat.lt_of_lt_of_le (by rw [← P_B]; exact P_twice (hp.mul hy) (hx.mul hq)) (B_le (show 2 * 181 ≤ 1000000 by omega))⟩
  have s2 : RSome (q * y) := ⟨Nat.lt_of_lt_of_le (by rw [← P_B]; exact hq.mul hy) (B_le (show 2 * 180 ≤ 1000000 by omega))⟩
  have HH : Hid (RS p ∧ RS q ∧ RS x ∧ RS y ∧ RFits (p * y) ∧ RFits (x * q) ∧ RSome (p * y + x * q) ∧ RSome (q * y) ∧ 0 < q * y) := ⟨hp, hq, hx, hy, rfits_P (hp.mul hy) (by omega), rfits_P (hx.mul hq) (by omega), s1, s2, Nat.mul_pos hq0 hy0⟩
  clear g1 g2 g3 g4 hp hq hx hy hq0 hy0 s1 s2 S0
  go_enter Tryz.func40, Tryz.ntmps40
  go_wp2_with fail
  rw [← hw0] at S1
  rw [← hw0]
  obtain ⟨b2, hb2⟩ : ∃ b2, b2 = w.heap.size := ⟨_, rfl⟩
  have HB : Hid (w.heap.size ≤ b2 + 1 + 1) := by show _ ≤ _; omega
  rw [← hb2] at S1 f6 f7
  rw [← hb2]
  clear hw0 hb2
  have e6 := S1.out.cel (b2 + 1 + 1) 0 (.slice none 0 0)
  have e7 := S1.out.cel (b2 + 1 + 1) 1 (.slice none 0 0)
  refine wp_region_inv (JD w0 [sEq (.pointer (some ⟨b2, 0, none⟩)), sR (p), sEq (.pointer (some ⟨b2 + 1, 1, none⟩)), sR (y), sR (p * y), sEq (.pointer (some ⟨b2 + 1, 0, none⟩)), sR (x), sEq (.pointer (some ⟨b2, 1, none⟩)), sR (q), sR (x * q), sR (p * y + x * q), sEq (.pointer (some ⟨b2, 1, none⟩)), sR (q), sEq (.pointer (some ⟨b2 + 1, 1, none⟩)), sR (y), sR (q * y), sRRt ((p * y + x * q) / Nat.gcd (p * y + x * q) (q * y)) ((q * y) / Nat.gcd (p * y + x * q) (q * y)), sAny] [[], [0], [], [2], [1, 3], [], [5], [], [7], [6, 8], [4, 9], [], [11], [], [13], [12, 14], [10, 15], [16]] 17 16 [0, 1, 2, 3, 4, 5, 6, 7, 8, 9, 10, 11, 12, 13, 14, 15, 16] (Sto2 (b2 + 1 + 1))) 22 (by kernel_rfl) rfl (by kernel_rfl) (JD.start _ _ _ _ _ _ _) (fun HG HN => ⟨?_, ?_, ?_, ?_, ?_, ?_, ?_, ?_, ?_, ?_, ?_, ?_, ?_, ?_, ?_, ?_, ?_, ?_, trivial⟩) ?_
  · intro L vs a w' hJ hF hP hL
    have hK := hJ
    have hJ := hK.open hL (by decide)
    have q2 : (a.tmps[2]?).getD undef = .pointer (some ⟨b2, 0, none⟩) := hF.old 2 rfl
    exact run_val (v := .pointer (some ⟨b2, 0, none⟩)) rfl (by simp [execOp, go_sem, q2]) ⟨_, rfl, hK.step hL (by decide) (by decide) rfl (nd_nil) <| hJ.step hL rfl (Below.refl _ _) (by exact rfl)⟩
  · intro L vs a w' hJ hF hP hL
    have hK := hJ
    have hJ := hK.open hL (by decide)
    have p0 : L 0 = true := hP ⟨0, .data⟩ (by simp) rfl
    have s0 : vs 0 = .pointer (some ⟨b2, 0, none⟩) := hJ.sp 0 p0
    have q5 := hF.slot 0 5 rfl p0
    have cb := cell_later hJ.bel (S1.out.cel (b2) 0 (.slice p1 n1 c1))
    exact run_val (v := .agg #[.slice p1 n1 c1]) rfl (by simp [execOp, go_sem, q5, s0, cb]) ⟨_, rfl, hK.step hL (by decide) (by decide) rfl (nd_cons p0 (nd_nil)) <| hJ.step hL rfl (Below.refl _ _) (by exact ((S1.out.rat (.agg #[.slice p1 n1 c1]) (p)).mono hJ.bel))⟩
  · intro L vs a w' hJ hF hP hL
    have hK := hJ
    have hJ := hK.open hL (by decide)
    have q3 : (a.tmps[3]?).getD undef = .pointer (some ⟨b2 + 1, 0, none⟩) := hF.old 3 rfl
    exact run_val (v := .pointer (some ⟨b2 + 1, 1, none⟩)) rfl (by simp [execOp, go_sem, q3]) ⟨_, rfl, hK.step hL (by decide) (by decide) rfl (nd_nil) <| hJ.step hL rfl (Below.refl _ _) (by exact rfl)⟩
  · intro L vs a w' hJ hF hP hL
    have hK := hJ
    have hJ := hK.open hL (by decide)
    have p2 : L 2 = true := hP ⟨2, .data⟩ (by simp) rfl
    have s2 : vs 2 = .pointer (some ⟨b2 + 1, 1, none⟩) := hJ.sp 2 p2
    have q7 := hF.slot 2 7 rfl p2
    have cb := cell_later hJ.bel (S1.out.cel (b2 + 1) 1 (.slice p4 n4 c4))
    exact run_val (v := .agg #[.slice p4 n4 c4]) rfl (by simp [execOp, go_sem, q7, s2, cb]) ⟨_, rfl, hK.step hL (by decide) (by decide) rfl (nd_cons p2 (nd_nil)) <| hJ.step hL rfl (Below.refl _ _) (by exact ((S1.out.rat (.agg #[.slice p4 n4 c4]) (y)).mono hJ.bel))⟩
  · intro L vs a w' hJ hF hP hL
    have hK := hJ
    have hJ := hK.open hL (by decide)
    have p1 : L 1 = true := hP ⟨1, .data⟩ (by simp) rfl
    have s1 : RNat w' (vs 1) (p) := hJ.sp 1 p1
    have q6 := hF.slot 1 6 rfl p1
    have p3 : L 3 = true := hP ⟨3, .data⟩ (by simp) rfl
    have s3 : RNat w' (vs 3) (y) := hJ.sp 3 p3
    have q8 := hF.slot 3 8 rfl p3
    refine run_call (f := 61) (args := #[vs 1, vs 3]) rfl (by simp [go_sem, q6, q8]) (rtimes_any _ _ p y _ s1 s3 HH.out.1.rfits HH.out.2.2.2.1.rfits) ?_
    rintro e w2 ⟨v, rfl, hv, hb⟩
    exact ⟨_, rfl, _, rfl, hK.step hL (by decide) (by decide) rfl (nd_cons p1 (nd_cons p3 (nd_nil))) <| hJ.step hL rfl hb (by exact hv)⟩
  · intro L vs a w' hJ hF hP hL
    have hK := hJ
    have hJ := hK.open hL (by decide)
    have q3 : (a.tmps[3]?).getD undef = .pointer (some ⟨b2 + 1, 0, none⟩) := hF.old 3 rfl
    exact run_val (v := .pointer (some ⟨b2 + 1, 0, none⟩)) rfl (by simp [execOp, go_sem, q3]) ⟨_, rfl, hK.step hL (by decide) (by decide) rfl (nd_nil) <| hJ.step hL rfl (Below.refl _ _) (by exact rfl)⟩
  · intro L vs a w' hJ hF hP hL
    have hK := hJ
    have hJ := hK.open hL (by decide)
    have p5 : L 5 = true := hP ⟨5, .data⟩ (by simp) rfl
    have s5 : vs 5 = .pointer (some ⟨b2 + 1, 0, none⟩) := hJ.sp 5 p5
    have q10 := hF.slot 5 10 rfl p5
    have cb := cell_later hJ.bel (S1.out.cel (b2 + 1) 0 (.slice p3 n3 c3))
    exact run_val (v := .agg #[.slice p3 n3 c3]) rfl (by simp [execOp, go_sem, q10, s5, cb]) ⟨_, rfl, hK.step hL (by decide) (by decide) rfl (nd_cons p5 (nd_nil)) <| hJ.step hL rfl (Below.refl _ _) (by exact ((S1.out.rat (.agg #[.slice p3 n3 c3]) (x)).mono hJ.bel))⟩
  · intro L vs a w' hJ hF hP hL
    have hK := hJ
    have hJ := hK.open hL (by decide)
    have q2 : (a.tmps[2]?).getD undef = .pointer (some ⟨b2, 0, none⟩) := hF.old 2 rfl
    exact run_val (v := .pointer (some ⟨b2, 1, none⟩)) rfl (by simp [execOp, go_sem, q2]) ⟨_, rfl, hK.step hL (by decide) (by decide) rfl (nd_nil) <| hJ.step hL rfl (Below.refl _ _) (by exact rfl)⟩
  · intro L vs a w' hJ hF hP hL
    have hK := hJ
    have hJ := hK.open hL (by decide)
    have p7 : L 7 = true := hP ⟨7, .data⟩ (by simp) rfl
    have s7 : vs 7 = .pointer (some ⟨b2, 1, none⟩) := hJ.sp 7 p7
    have q12 := hF.slot 7 12 rfl p7
    have cb := cell_later hJ.bel (S1.out.cel (b2) 1 (.slice p2 n2 c2))
    exact run_val (v := .agg #[.slice p2 n2 c2]) rfl (by simp [execOp, go_sem, q12, s7, cb]) ⟨_, rfl, hK.step hL (by decide) (by decide) rfl (nd_cons p7 (nd_nil)) <| hJ.step hL rfl (Below.refl _ _) (by exact ((S1.out.rat (.agg #[.slice p2 n2 c2]) (q)).mono hJ.bel))⟩
  · intro L vs a w' hJ hF hP hL
    have hK := hJ
    have hJ := hK.open hL (by decide)
    have p6 : L 6 = true := hP ⟨6, .data⟩ (by simp) rfl
    have s6 : RNat w' (vs 6) (x) := hJ.sp 6 p6
    have q11 := hF.slot 6 11 rfl p6
    have p8 : L 8 = true := hP ⟨8, .data⟩ (by simp) rfl
    have s8 : RNat w' (vs 8) (q) := hJ.sp 8 p8
    have q13 := hF.slot 8 13 rfl p8
    refine run_call (f := 61) (args := #[vs 6, vs 8]) rfl (by simp [go_sem, q11, q13]) (rtimes_any _ _ x q _ s6 s8 HH.out.2.2.1.rfits HH.out.2.1.rfits) ?_
    rintro e w2 ⟨v, rfl, hv, hb⟩
    exact ⟨_, rfl, _, rfl, hK.step hL (by decide) (by decide) rfl (nd_cons p6 (nd_cons p8 (nd_nil))) <| hJ.step hL rfl hb (by exact hv)⟩
  · intro L vs a w' hJ hF hP hL
    have hK := hJ
    have hJ := hK.open hL (by decide)
    have p4 : L 4 = true := hP ⟨4, .data⟩ (by simp) rfl
    have s4 : RNat w' (vs 4) (p * y) := hJ.sp 4 p4
    have q9 := hF.slot 4 9 rfl p4
    have p9 : L 9 = true := hP ⟨9, .data⟩ (by simp) rfl
    have s9 : RNat w' (vs 9) (x * q) := hJ.sp 9 p9
    have q14 := hF.slot 9 14 rfl p9
    refine run_call (f := 59) (args := #[vs 4, vs 9]) rfl (by simp [go_sem, q9, q14]) (rplus_any _ _ (p * y) (x * q) _ s4 s9 HH.out.2.2.2.2.1 HH.out.2.2.2.2.2.1) ?_
    rintro e w2 ⟨v, rfl, hv, hb⟩
    exact ⟨_, rfl, _, rfl, hK.step hL (by decide) (by decide) rfl (nd_cons p4 (nd_cons p9 (nd_nil))) <| hJ.step hL rfl hb (by exact hv)⟩
  · intro L vs a w' hJ hF hP hL
    have hK := hJ
    have hJ := hK.open hL (by decide)
    have q2 : (a.tmps[2]?).getD undef = .pointer (some ⟨b2, 0, none⟩) := hF.old 2 rfl
    exact run_val (v := .pointer (some ⟨b2, 1, none⟩)) rfl (by simp [execOp, go_sem, q2]) ⟨_, rfl, hK.step hL (by decide) (by decide) rfl (nd_nil) <| hJ.step hL rfl (Below.refl _ _) (by exact rfl)⟩
  · intro L vs a w' hJ hF hP hL
    have hK := hJ
    have hJ := hK.open hL (by decide)
    have p11 : L 11 = true := hP ⟨11, .data⟩ (by simp) rfl
    have s11 : vs 11 = .pointer (some ⟨b2, 1, none⟩) := hJ.sp 11 p11
    have q16 := hF.slot 11 16 rfl p11
    have cb := cell_later hJ.bel (S1.out.cel (b2) 1 (.slice p2 n2 c2))
    exact run_val (v := .agg #[.slice p2 n2 c2]) rfl (by simp [execOp, go_sem, q16, s11, cb]) ⟨_, rfl, hK.step hL (by decide) (by decide) rfl (nd_cons p11 (nd_nil)) <| hJ.step hL rfl (Below.refl _ _) (by exact ((S1.out.rat (.agg #[.slice p2 n2 c2]) (q)).mono hJ.bel))⟩
  · intro L vs a w' hJ hF hP hL
    have hK := hJ
    have hJ := hK.open hL (by decide)
    have q3 : (a.tmps[3]?).getD undef = .pointer (some ⟨b2 + 1, 0, none⟩) := hF.old 3 rfl
    exact run_val (v := .pointer (some ⟨b2 + 1, 1, none⟩)) rfl (by simp [execOp, go_sem, q3]) ⟨_, rfl, hK.step hL (by decide) (by decide) rfl (nd_nil) <| hJ.step hL rfl (Below.refl _ _) (by exact rfl)⟩
  · intro L vs a w' hJ hF hP hL
    have hK := hJ
    have hJ := hK.open hL (by decide)
    have p13 : L 13 = true := hP ⟨13, .data⟩ (by simp) rfl
    have s13 : vs 13 = .pointer (some ⟨b2 + 1, 1, none⟩) := hJ.sp 13 p13
    have q18 := hF.slot 13 18 rfl p13
    have cb := cell_later hJ.bel (S1.out.cel (b2 + 1) 1 (.slice p4 n4 c4))
    exact run_val (v := .agg #[.slice p4 n4 c4]) rfl (by simp [execOp, go_sem, q18, s13, cb]) ⟨_, rfl, hK.step hL (by decide) (by decide) rfl (nd_cons p13 (nd_nil)) <| hJ.step hL rfl (Below.refl _ _) (by exact ((S1.out.rat (.agg #[.slice p4 n4 c4]) (y)).mono hJ.bel))⟩
  · intro L vs a w' hJ hF hP hL
    have hK := hJ
    have hJ := hK.open hL (by decide)
    have p12 : L 12 = true := hP ⟨12, .data⟩ (by simp) rfl
    have s12 : RNat w' (vs 12) (q) := hJ.sp 12 p12
    have q17 := hF.slot 12 17 rfl p12
    have p14 : L 14 = true := hP ⟨14, .data⟩ (by simp) rfl
    have s14 : RNat w' (vs 14) (y) := hJ.sp 14 p14
    have q19 := hF.slot 14 19 rfl p14
    refine run_call (f := 61) (args := #[vs 12, vs 14]) rfl (by simp [go_sem, q17, q19]) (rtimes_any _ _ q y _ s12 s14 HH.out.2.1.rfits HH.out.2.2.2.1.rfits) ?_
    rintro e w2 ⟨v, rfl, hv, hb⟩
    exact ⟨_, rfl, _, rfl, hK.step hL (by decide) (by decide) rfl (nd_cons p12 (nd_cons p14 (nd_nil))) <| hJ.step hL rfl hb (by exact hv)⟩
  · intro L vs a w' hJ hF hP hL
    have hK := hJ
    have hJ := hK.open hL (by decide)
    have p10 : L 10 = true := hP ⟨10, .data⟩ (by simp) rfl
    have s10 : RNat w' (vs 10) (p * y + x * q) := hJ.sp 10 p10
    have q15 := hF.slot 10 15 rfl p10
    have p15 : L 15 = true := hP ⟨15, .data⟩ (by simp) rfl
    have s15 : RNat w' (vs 15) (q * y) := hJ.sp 15 p15
    have q20 := hF.slot 15 20 rfl p15
    refine run_call (f := 55) (args := #[vs 10, vs 15]) rfl (by simp [go_sem, q15, q20]) (rmade_any _ _ (p * y + x * q) (q * y) _ s10 s15 HH.out.2.2.2.2.2.2.1 HH.out.2.2.2.2.2.2.2.1 HH.out.2.2.2.2.2.2.2.2) ?_
    rintro e w2 ⟨v, rfl, hv, hb⟩
    exact ⟨_, rfl, _, rfl, hK.step hL (by decide) (by decide) rfl (nd_cons p10 (nd_cons p15 (nd_nil))) <| hJ.step hL rfl hb (by exact hv)⟩
  · intro L vs a w' hJ hF hP hL
    have hK := hJ
    have hJ := hK.core hL
    have q4 : (a.tmps[4]?).getD undef = .pointer (some ⟨b2 + 1 + 1, 0, none⟩) := hF.old 4 rfl
    have p16 : L 16 = true := hP ⟨16, .data⟩ (by simp) rfl
    have s16 : RRt w' (vs 16) ((p * y + x * q) / Nat.gcd (p * y + x * q) (q * y)) ((q * y) / Nat.gcd (p * y + x * q) (q * y)) := hJ.sp 16 p16
    have q21 := hF.slot 16 21 rfl p16
    have p10 : L 10 = true := hK.cl 16 p16 10 (by simp)
    have p4 : L 4 = true := hK.cl 10 p10 4 (by simp)
    have p1 : L 1 = true := hK.cl 4 p4 1 (by simp)
    have p0 : L 0 = true := hK.cl 1 p1 0 (by simp)
    have p3 : L 3 = true := hK.cl 4 p4 3 (by simp)
    have p2 : L 2 = true := hK.cl 3 p3 2 (by simp)
    have p9 : L 9 = true := hK.cl 10 p10 9 (by simp)
    have p6 : L 6 = true := hK.cl 9 p9 6 (by simp)
    have p5 : L 5 = true := hK.cl 6 p6 5 (by simp)
    have p8 : L 8 = true := hK.cl 9 p9 8 (by simp)
    have p7 : L 7 = true := hK.cl 8 p8 7 (by simp)
    have p15 : L 15 = true := hK.cl 16 p16 15 (by simp)
    have p12 : L 12 = true := hK.cl 15 p15 12 (by simp)
    have p11 : L 11 = true := hK.cl 12 p12 11 (by simp)
    have p14 : L 14 = true := hK.cl 15 p15 14 (by simp)
    have p13 : L 13 = true := hK.cl 14 p14 13 (by simp)
    have x0 := cell_later hJ.bel e6
    have y0 := (hJ.bel.frozen (World.block_lt_of_cell? _ _ e6)).trans f6
    have x1 := cell_later hJ.bel e7
    have y1 := (hJ.bel.frozen (World.block_lt_of_cell? _ _ e7)).trans f7
    have s16' := s16
    obtain ⟨aa, nn, cc, a2, n2, c2, e8, _, _⟩ := s16'
    exact run_unit (w' := (w'.setCell ⟨b2 + 1 + 1, 0, none⟩ (.slice aa nn cc)).setCell ⟨b2 + 1 + 1, 1, none⟩ (.slice a2 n2 c2)) rfl (by simp [execOp, go_sem, q4, q21, e8, x0, y0, x1, y1]) ⟨undef, rfl, hK.put hL (by decide) rfl (nd_cons p16 nd_nil) (nd_cons p0 (nd_cons p1 (nd_cons p2 (nd_cons p3 (nd_cons p4 (nd_cons p5 (nd_cons p6 (nd_cons p7 (nd_cons p8 (nd_cons p9 (nd_cons p10 (nd_cons p11 (nd_cons p12 (nd_cons p13 (nd_cons p14 (nd_cons p15 (nd_cons p16 (nd_nil)))))))))))))))))) p16 ⟨_, _, e8, rfl⟩⟩
  intro L vs w' hA hK
  obtain ⟨_, w1, hb1, sv, u1, u2, ev, ew⟩ := hK.fin (hA 17 (by simp))
  replace sv : RRt w1 (vs 16) ((p * y + x * q) / Nat.gcd (p * y + x * q) (q * y)) ((q * y) / Nat.gcd (p * y + x * q) (q * y)) := sv
  obtain ⟨a6, n6, k6, a7, n7, k7, e8, h6, h7⟩ := sv
  rw [e8] at ev
  obtain ⟨rfl, rfl⟩ : u1 = .slice a6 n6 k6 ∧ u2 = .slice a7 n7 k7 := by simpa [eq_comm] using ev
  have x0 := cell_later hb1 e6
  have x1 := cell_later hb1 e7
  have Z : Hid _ := rrat_put (w0 := w) (v := .slice a6 n6 k6) (u := .slice a7 n7 k7) x0 x1 (V := .agg #[.slice a6 n6 k6, .slice a7 n7 k7]) ⟨_, _, _, _, _, _, rfl, h6, h7⟩ (bel_go S1.out.bel hb1) HB.out
  obtain ⟨l6, l7⟩ := radd_parts (w0 := w) (p := p) (q := q) (a6 := a6) (n6 := n6) (k6 := k6) (a7 := a7) (n7 := n7) (k7 := k7) x0 x1
  rw [← ew] at Z l6 l7
  clear ew x0 x1 h6 h7 ev hb1 e8 hK hA e6 e7 f6 f7 S1
  simp only [putL, Act.put, List.setIfInBounds_toArray, List.set_cons_zero, List.set_cons_succ, Nat.reduceAdd]
  go_wp2_with fail
  exact bodyPost_ret (v := .agg #[.slice a6 n6 k6, .slice a7 n7 k7]) (by simp [results, Tryz.results40, go_sem, l6, l7]) rfl ⟨_, rfl, Z.out.1, Z.out.2⟩
end Go.Proofs.YtfkkomppfghagaaGreatDoor
