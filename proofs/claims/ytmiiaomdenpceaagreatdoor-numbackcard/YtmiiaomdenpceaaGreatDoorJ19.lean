/- Contracts of the program's functions, part 19: own work, joined in build order. -/
import Derived.Test.YtmiiaomdenpceaaGreatDoorJ18
import Derived.Handy
namespace Go.Proofs.YtmiiaomdenpceaaGreatDoor
open Go.RowKit
set_option maxRecDepth 100000
set_option linter.unusedVariables false
set_option maxHeartbeats 4000000 in
theorem inUnits_neg (v u : Value) (p q t : Nat) (s : Int) (w : World) (h : IsNat w v p) (k : IsNat w u q) (hp : Fits p) (hs : s = -(t : Int)) (ht0 : 0 < t) (ht : t ≤ 16777216) :
    Calls Tryz.prog 44 #[v, u, .int .i64 s] w (Makes2N w (p * 2 ^ t) q) := by
  obtain ⟨a, n, c, rfl⟩ := h.isAgg
  obtain ⟨a', n', c', rfl⟩ := k.isAgg
  have S1 : Hid _ := (((((((sx_start w).addN h).addN k).box1 (.slice a n c) 26 _ rfl).box1 (.slice a' n' c') 26 _ rfl).box1 (.slice none 0 0) 26 _ rfl).box1 (.slice none 0 0) 26 _ rfl)
  simp only [World.size_alloc] at S1
  obtain ⟨w0, hw0⟩ : ∃ w0, w0 = (((w.alloc (.cells #[.slice a n c] 26)).alloc (.cells #[.slice a' n' c'] 26)).alloc (.cells #[.slice none 0 0] 26)).alloc (.cells #[.slice none 0 0] 26) := ⟨_, rfl⟩
  have f0 : w0.frozen? ⟨w.heap.size, 0, none⟩ = false := by rw [hw0]; simp [go_sem]
  have f1 : w0.frozen? ⟨w.heap.size + 1 + 1, 0, none⟩ = false := by rw [hw0]; simp [go_sem]
  have f2 : w0.frozen? ⟨w.heap.size + 1 + 1 + 1, 0, none⟩ = false := by rw [hw0]; simp [go_sem]
  have HH : Hid (Fits p ∧ t ≤ 16777216) := ⟨hp, ht⟩
  have d1 : decide (s < 0) = true := decide_eq_true (by omega)
  have m1 : IntKind.i64.wrap (-s) = (t : Int) := by rw [IntKind.wrap_i64]; omega
  clear h k hp hs ht0 ht
  go_enter Tryz.func44, Tryz.ntmps44
  go_wp2_with fail
  rw [← hw0] at S1
  rw [← hw0]
  obtain ⟨b2, hb2⟩ : ∃ b2, b2 = w.heap.size := ⟨_, rfl⟩
  have HB : Hid (w.heap.size ≤ b2) := by show _ ≤ _; omega
  rw [← hb2] at S1 f0 f1 f2
  rw [← hb2]
  clear hw0 hb2
  refine (left_yes _ p t _ (S1.out.at (.agg #[.slice a n c]) p) HH.out.1 HH.out.2).mono ?_
  rintro e w1 ⟨v1, rfl, hv1, hb1⟩
  obtain ⟨a1, n1, k1, rfl⟩ := hv1.isAgg
  have z0 := cell_later hb1 (S1.out.cel b2 0 (.slice a n c))
  have z1 := cell_later hb1 (S1.out.cel (b2 + 1) 0 (.slice a' n' c'))
  have z2 := cell_later hb1 (S1.out.cel (b2 + 1 + 1) 0 (.slice none 0 0))
  have z3 := cell_later hb1 (S1.out.cel (b2 + 1 + 1 + 1) 0 (.slice none 0 0))
  have g0 := (hb1.frozen (World.block_lt_of_cell? _ _ (S1.out.cel b2 0 (.slice a n c)))).trans f0
  have g1 := (hb1.frozen (World.block_lt_of_cell? _ _ (S1.out.cel (b2 + 1 + 1) 0 (.slice none 0 0)))).trans f1
  have g2 := (hb1.frozen (World.block_lt_of_cell? _ _ (S1.out.cel (b2 + 1 + 1 + 1) 0 (.slice none 0 0)))).trans f2
  have I1 : Hid (IsNat w1 (.agg #[.slice a1 n1 k1]) (p * 2 ^ t) ∧ IsNat w1 (.agg #[.slice a' n' c']) q ∧ Below w.heap.size w w1) := ⟨hv1, (S1.out.at (.agg #[.slice a' n' c']) q).mono hb1, bel_go S1.out.bel hb1⟩
  clear hv1 hb1 S1 f0 f1 f2
  go_wp2_with fail
  obtain ⟨W, hW⟩ : ∃ W, W = w1.setCell ⟨b2, 0, none⟩ (.slice a1 n1 k1) := ⟨_, rfl⟩
  have y0 : W.cell? ⟨b2, 0, none⟩ = some (.slice a1 n1 k1) := by rw [hW]; simp [go_sem, z0]
  have y1 : W.cell? ⟨b2 + 1, 0, none⟩ = some (.slice a' n' c') := by rw [hW]; simp [go_sem, z1]
  have y2 : W.cell? ⟨b2 + 1 + 1, 0, none⟩ = some (.slice none 0 0) := by rw [hW]; simp [go_sem, z2]
  have y3 : W.cell? ⟨b2 + 1 + 1 + 1, 0, none⟩ = some (.slice none 0 0) := by rw [hW]; simp [go_sem, z3]
  have h1 : W.frozen? ⟨b2 + 1 + 1, 0, none⟩ = false := by rw [hW]; simp [World.frozen?_setCell, g1]
  have h2 : W.frozen? ⟨b2 + 1 + 1 + 1, 0, none⟩ = false := by rw [hW]; simp [World.frozen?_setCell, g2]
  have I2 : Hid (IsNat W (.agg #[.slice a1 n1 k1]) (p * 2 ^ t) ∧ IsNat W (.agg #[.slice a' n' c']) q ∧ Below w.heap.size w W) := by
    rw [hW]
    exact ⟨I1.out.1.setCell (no_int_slice z0) _, I1.out.2.1.setCell (no_int_slice z0) _, I1.out.2.2.setCell HB.out _⟩
  rw [← hW]
  clear hW I1 z0 z1 z2 z3 g0 g1 g2
  have Z : Hid _ := nat_put2 (r := b2 + 1 + 1) (x := .slice a1 n1 k1) (y := .slice a' n' c') y2 y3 I2.out.1 I2.out.2.1 I2.out.2.2 (by have := HB.out; omega)
  go_region
  go_wp2_with fail
  refine bodyPost_ret (v := .tuple #[.agg #[.slice a1 n1 k1], .agg #[.slice a' n' c']]) (by simp [results, Tryz.results44, go_sem, y2, y3]) rfl ⟨_, _, rfl, Z.out.1.mono (bel_dr (bel_refl _)), Z.out.2.1.mono (bel_dr (bel_refl _)), bel_dr Z.out.2.2⟩
set_option maxHeartbeats 4000000 in
theorem inUnits_pos (v u : Value) (p q t : Nat) (s : Int) (w : World) (h : IsNat w v p) (k : IsNat w u q) (hp : Fits q) (hs : s = (t : Int)) (ht : t ≤ 16777216) :
    Calls Tryz.prog 44 #[v, u, .int .i64 s] w (Makes2N w p (q * 2 ^ t)) := by
  obtain ⟨a, n, c, rfl⟩ := h.isAgg
  obtain ⟨a', n', c', rfl⟩ := k.isAgg
  have S1 : Hid _ := (((((((sx_start w).addN h).addN k).box1 (.slice a n c) 26 _ rfl).box1 (.slice a' n' c') 26 _ rfl).box1 (.slice none 0 0) 26 _ rfl).box1 (.slice none 0 0) 26 _ rfl)
  simp only [World.size_alloc] at S1
  obtain ⟨w0, hw0⟩ : ∃ w0, w0 = (((w.alloc (.cells #[.slice a n c] 26)).alloc (.cells #[.slice a' n' c'] 26)).alloc (.cells #[.slice none 0 0] 26)).alloc (.cells #[.slice none 0 0] 26) := ⟨_, rfl⟩
  have f0 : w0.frozen? ⟨w.heap.size + 1, 0, none⟩ = false := by rw [hw0]; simp [go_sem]
  have f1 : w0.frozen? ⟨w.heap.size + 1 + 1, 0, none⟩ = false := by rw [hw0]; simp [go_sem]
  have f2 : w0.frozen? ⟨w.heap.size + 1 + 1 + 1, 0, none⟩ = false := by rw [hw0]; simp [go_sem]
  have HH : Hid (Fits q ∧ t ≤ 16777216) := ⟨hp, ht⟩
  have d1 : decide ((t : Int) < 0) = false := decide_eq_false (by omega)
  subst hs
  clear h k hp ht
  go_enter Tryz.func44, Tryz.ntmps44
  go_wp2_with fail
  rw [← hw0] at S1
  rw [← hw0]
  obtain ⟨b2, hb2⟩ : ∃ b2, b2 = w.heap.size := ⟨_, rfl⟩
  have HB : Hid (w.heap.size ≤ b2) := by show _ ≤ _; omega
  rw [← hb2] at S1 f0 f1 f2
  rw [← hb2]
  clear hw0 hb2
  refine (left_yes _ q t _ (S1.out.at (.agg #[.slice a' n' c']) q) HH.out.1 HH.out.2).mono ?_
  rintro e w1 ⟨v1, rfl, hv1, hb1⟩
  obtain ⟨a1, n1, k1, rfl⟩ := hv1.isAgg
  have z0 := cell_later hb1 (S1.out.cel b2 0 (.slice a n c))
  have z1 := cell_later hb1 (S1.out.cel (b2 + 1) 0 (.slice a' n' c'))
  have z2 := cell_later hb1 (S1.out.cel (b2 + 1 + 1) 0 (.slice none 0 0))
  have z3 := cell_later hb1 (S1.out.cel (b2 + 1 + 1 + 1) 0 (.slice none 0 0))
  have g0 := (hb1.frozen (World.block_lt_of_cell? _ _ (S1.out.cel (b2 + 1) 0 (.slice a' n' c')))).trans f0
  have g1 := (hb1.frozen (World.block_lt_of_cell? _ _ (S1.out.cel (b2 + 1 + 1) 0 (.slice none 0 0)))).trans f1
  have g2 := (hb1.frozen (World.block_lt_of_cell? _ _ (S1.out.cel (b2 + 1 + 1 + 1) 0 (.slice none 0 0)))).trans f2
  have I1 : Hid (IsNat w1 (.agg #[.slice a n c]) p ∧ IsNat w1 (.agg #[.slice a1 n1 k1]) (q * 2 ^ t) ∧ Below w.heap.size w w1) := ⟨(S1.out.at (.agg #[.slice a n c]) p).mono hb1, hv1, bel_go S1.out.bel hb1⟩
  clear hv1 hb1 S1 f0 f1 f2
  go_wp2_with fail
  obtain ⟨W, hW⟩ : ∃ W, W = w1.setCell ⟨b2 + 1, 0, none⟩ (.slice a1 n1 k1) := ⟨_, rfl⟩
  have y0 : W.cell? ⟨b2, 0, none⟩ = some (.slice a n c) := by rw [hW]; simp [go_sem, z0]
  have y1 : W.cell? ⟨b2 + 1, 0, none⟩ = some (.slice a1 n1 k1) := by rw [hW]; simp [go_sem, z1]
  have y2 : W.cell? ⟨b2 + 1 + 1, 0, none⟩ = some (.slice none 0 0) := by rw [hW]; simp [go_sem, z2]
  have y3 : W.cell? ⟨b2 + 1 + 1 + 1, 0, none⟩ = some (.slice none 0 0) := by rw [hW]; simp [go_sem, z3]
  have h1 : W.frozen? ⟨b2 + 1 + 1, 0, none⟩ = false := by rw [hW]; simp [World.frozen?_setCell, g1]
  have h2 : W.frozen? ⟨b2 + 1 + 1 + 1, 0, none⟩ = false := by rw [hW]; simp [World.frozen?_setCell, g2]
  have I2 : Hid (IsNat W (.agg #[.slice a n c]) p ∧ IsNat W (.agg #[.slice a1 n1 k1]) (q * 2 ^ t) ∧ Below w.heap.size w W) := by
    rw [hW]
    exact ⟨I1.out.1.setCell (no_int_slice z1) _, I1.out.2.1.setCell (no_int_slice z1) _, I1.out.2.2.setCell (by have := HB.out; show _ ≤ b2 + 1; omega) _⟩
  rw [← hW]
  clear hW I1 z0 z1 z2 z3 g0 g1 g2
  have Z : Hid _ := nat_put2 (r := b2 + 1 + 1) (x := .slice a n c) (y := .slice a1 n1 k1) y2 y3 I2.out.1 I2.out.2.1 I2.out.2.2 (by have := HB.out; omega)
  go_region
  go_wp2_with fail
  refine bodyPost_ret (v := .tuple #[.agg #[.slice a n c], .agg #[.slice a1 n1 k1]]) (by simp [results, Tryz.results44, go_sem, y2, y3]) rfl ⟨_, _, rfl, Z.out.1.mono (bel_dr (bel_refl _)), Z.out.2.1.mono (bel_dr (bel_refl _)), bel_dr Z.out.2.2⟩
end Go.Proofs.YtmiiaomdenpceaaGreatDoor

namespace Go.Proofs.YtmiiaomdenpceaaGreatDoor
open Go.RowKit
set_option maxRecDepth 100000
set_option linter.unusedVariables false
theorem ten_P90 {n : Nat} (h : n ≤ 1500) : 10 ^ n < P 90 := by
  exact Nat.lt_of_le_of_lt (Nat.pow_le_pow_right (by omega) h) (by decide +kernel : 10 ^ 1500 < P 90)
theorem pow_half {x y m X : Nat} (h : x * y ^ m = X) (hm : m % 2 = 0) : x * (y * y) ^ (m / 2) = X := by
  rw [← h, ← Nat.pow_two, ← Nat.pow_mul]
  congr 2
  omega
theorem pow_odd {x y m X : Nat} (h : x * y ^ m = X) (hm : m % 2 = 1) : x * y * (y * y) ^ (m / 2) = X := by
  rw [← h, ← Nat.pow_two, ← Nat.pow_mul, Nat.mul_assoc, ← Nat.pow_succ']
  congr 2
  omega
theorem pow_fst {x y m X : Nat} (h : x * y ^ m = X) (hy : 0 < y) : x ≤ X := by
  rw [← h]
  exact Nat.le_mul_of_pos_right _ (Nat.pow_pos hy)
theorem pow_snd {x y m X : Nat} (h : x * y ^ m = X) (hx : 0 < x) (hy : 0 < y) (hm : 0 < m) : y ≤ X := by
  rw [← h]
  have h1 : y ^ 1 ≤ y ^ m := Nat.pow_le_pow_right hy hm
  rw [Nat.pow_one] at h1
  exact Nat.le_trans h1 (Nat.le_mul_of_pos_left _ hx)
/-- What holds in a round. -/
def Tn10 (w : World) (b g n : Nat) (wr : World) (m x y : Nat) (a1 : Option Addr) (n1 c1 : Nat) (a2 : Option Addr) (n2 c2 : Nat) : Prop :=
  x * y ^ m = 10 ^ n ∧ 0 < x ∧ 0 < y ∧ SY w wr [(.agg #[.slice a1 n1 c1], x), (.agg #[.slice a2 n2 c2], y)] [] [] [] [(g, 0, .slice a1 n1 c1), (g + 1, 0, .slice a2 n2 c2), (b, 0, .slice none 0 0)] [g, g + 1, b] ∧ b < g
set_option maxHeartbeats 4000000 in
theorem tenTo_any (n : Nat) (w : World) (hn : n ≤ 1500) :
    Calls Tryz.prog 71 #[.int .i64 (n : Int)] w (Makes w (10 ^ n)) := by
  have S0 : Hid _ := (sy_start w).box1 (.slice none 0 0) 26 _ rfl
  have HX : Hid (n ≤ 1500 ∧ 10 ^ n < P 90) := ⟨hn, ten_P90 hn⟩
  go_enter Tryz.func71, Tryz.ntmps71
  go_wp2_with fail
  refine (of_any 1 _ (by omega)).mono ?_
  rintro e w1 ⟨v1, rfl, hv1, hb1⟩
  obtain ⟨a1, n1, c1, rfl⟩ := hv1.isAgg
  have S1 : Hid _ := (S0.out.go hb1).addN hv1
  clear hv1 hb1 S0
  go_wp2_with fail
  refine (of_any 10 _ (by omega)).mono ?_
  rintro e w2 ⟨v2, rfl, hv2, hb2⟩
  obtain ⟨a2, n2, c2, rfl⟩ := hv2.isAgg
  have S2 : Hid _ := (((S1.out.go hb2).addN hv2).box1 (.slice a1 n1 c1) 26 _ rfl).box1 (.slice a2 n2 c2) 26 _ rfl
  simp only [World.size_alloc] at S2
  have HB : Hid (w.heap.size < w2.heap.size) := (S1.out.go hb2).lt w.heap.size
  clear hv2 hb2 S1
  go_wp2_with fail
  obtain ⟨w3, hw3⟩ : ∃ w3, w3 = (w2.alloc (.cells #[.slice a1 n1 c1] 26)).alloc (.cells #[.slice a2 n2 c2] 26) := ⟨_, rfl⟩
  obtain ⟨g, hg⟩ : ∃ g, g = w2.heap.size := ⟨_, rfl⟩
  obtain ⟨b, hb⟩ : ∃ b, b = w.heap.size := ⟨_, rfl⟩
  rw [← hw3, ← hg, ← hb] at S2
  rw [← hw3, ← hg, ← hb]
  have hbg : b < g := by rw [hg, hb]; exact HB.out
  clear hw3 hg hb
  have A0 : Hid (Tn10 w b g n w3 n 1 10 a1 n1 c1 a2 n2 c2) := ⟨by rw [Nat.one_mul], by omega, by omega, S2.out.sub _ _ _ _ _ _ (by simp) (by simp) (by simp) (by simp) (by simp) (by simp), hbg⟩
  clear S2 hbg
  go_loopw [0] (fun t wr => ∃ (m x y : Nat) (a1 : Option Addr) (n1 c1 : Nat) (a2 : Option Addr) (n2 c2 : Nat), t = .int .i64 (m : Int) ∧ m ≤ 1500 ∧ Tn10 w b g n wr m x y a1 n1 c1 a2 n2 c2) (fun t _ => (intOf t).toNat)
  case atStart => exact ⟨n, 1, 10, _, _, _, _, _, _, rfl, HX.out.1, A0.out⟩
  case round =>
    clear A0
    obtain ⟨m, x, y, a1, n1, c1, a2, n2, c2, rfl, hm, hT⟩ := hrel
    have I : Hid _ := hT
    clear hT
    have k1 := I.out.2.2.2.1.cel g 0 (.slice a1 n1 c1)
    have k2 := I.out.2.2.2.1.cel (g + 1) 0 (.slice a2 n2 c2)
    have k3 := I.out.2.2.2.1.cel b 0 (.slice none 0 0)
    have f1 := I.out.2.2.2.1.fz g 0
    have f2 := I.out.2.2.2.1.fz (g + 1) 0
    have f3 := I.out.2.2.2.1.fz b 0
    by_cases h0 : 0 < m
    · obtain ⟨q, hq⟩ : ∃ q, q = m / 2 := ⟨_, rfl⟩
      have r2 : (m : Int).tdiv 2 = (q : Int) := by rw [Int.tdiv_eq_ediv_of_nonneg (by omega)]; omega
      have r3 : IntKind.i64.wrap (q : Int) = (q : Int) := by rw [IntKind.wrap_i64]; omega
      have d0 : decide (0 < (m : Int)) = true := decide_eq_true (by omega)
      have HQ : Hid (q = m / 2) := hq
      have HM : Hid (0 < m) := h0
      clear hq h0
      have sy : Hid (y < P 90) := Nat.lt_of_le_of_lt (pow_snd I.out.1 I.out.2.1 I.out.2.2.1 HM.out) HX.out.2
      have sx : Hid (x < P 90) := Nat.lt_of_le_of_lt (pow_fst I.out.1 I.out.2.2.1) HX.out.2
      by_cases ho : m % 2 = 1
      · have d3 : (m : Int).tmod 2 = 1 := by rw [Int.tmod_eq_emod_of_nonneg (by omega)]; omega
        have HO : Hid (m % 2 = 1) := ho
        clear ho
        go_wp2_with fail
        refine (mul_short _ _ x y _ (I.out.2.2.2.1.at (.agg #[.slice a1 n1 c1]) x) (I.out.2.2.2.1.at (.agg #[.slice a2 n2 c2]) y) (fits_P sx.out (by omega)) (fits_P sy.out (by omega)) (.inl (P_up sx.out (by omega)))).mono ?_
        rintro e w4 ⟨v4, rfl, hv4, hb4⟩
        obtain ⟨a4, n4, c4, rfl⟩ := hv4.isAgg
        have J : Hid _ := (I.out.2.2.2.1.go hb4).addN hv4
        clear hv4 hb4 k1 k2 k3 f1 f2 f3
        have k1 := J.out.cel g 0 (.slice a1 n1 c1)
        have k2 := J.out.cel (g + 1) 0 (.slice a2 n2 c2)
        have f1 := J.out.fz g 0
        have f2 := J.out.fz (g + 1) 0
        have K : Hid _ := (J.out.set (b := g) (i := 0) k1 (J.out.lo g) [(g + 1, 0, .slice a2 n2 c2), (b, 0, .slice none 0 0)] (by have := I.out.2.2.2.2; simp; omega) (.slice a4 n4 c4)).addC (b := g) (i := 0) (v := .slice a4 n4 c4) (by simp [go_sem, k1])
        have k5 : (w4.setCell ⟨g, 0, none⟩ (.slice a4 n4 c4)).cell? ⟨g + 1, 0, none⟩ = some (.slice a2 n2 c2) := K.out.cel (g + 1) 0 (.slice a2 n2 c2)
        go_wp2_with fail
        obtain ⟨w5, hw5⟩ : ∃ w5, w5 = w4.setCell ⟨g, 0, none⟩ (.slice a4 n4 c4) := ⟨_, rfl⟩
        rw [← hw5] at K
        rw [← hw5]
        clear hw5 J k1 k2 f1 f2 k5
        refine (mul_short _ _ y y _ (K.out.at (.agg #[.slice a2 n2 c2]) y) (K.out.at (.agg #[.slice a2 n2 c2]) y) (fits_P sy.out (by omega)) (fits_P sy.out (by omega)) (.inl (P_up sy.out (by omega)))).mono ?_
        rintro e w6 ⟨v6, rfl, hv6, hb6⟩
        obtain ⟨a6, n6, c6, rfl⟩ := hv6.isAgg
        have J : Hid _ := (K.out.go hb6).addN hv6
        clear hv6 hb6
        have k1 := J.out.cel (g + 1) 0 (.slice a2 n2 c2)
        have f1 := J.out.fz (g + 1) 0
        have L : Hid _ := (J.out.set (b := g + 1) (i := 0) k1 (J.out.lo (g + 1)) [(g, 0, .slice a4 n4 c4), (b, 0, .slice none 0 0)] (by have := I.out.2.2.2.2; simp; omega) (.slice a6 n6 c6)).addC (b := g + 1) (i := 0) (v := .slice a6 n6 c6) (by simp [go_sem, k1])
        have I2 : Hid (Tn10 w b g n (w6.setCell ⟨g + 1, 0, none⟩ (.slice a6 n6 c6)) q (x * y) (y * y) a4 n4 c4 a6 n6 c6) := ⟨by rw [HQ.out]; exact pow_odd I.out.1 HO.out, Nat.mul_pos I.out.2.1 I.out.2.2.1, Nat.mul_pos I.out.2.2.1 I.out.2.2.1, L.out.sub _ _ _ _ _ _ (by simp) (by simp) (by simp) (by simp) (by simp) (by simp), I.out.2.2.2.2⟩
        clear J K L sx sy
        go_wp2_with fail
        go_roundw
        case rel => exact ⟨q, x * y, y * y, _, _, _, _, _, _, by go_num, by have := HQ.out; omega, I2.out⟩
        case measure => have := HQ.out; have := HM.out; simp [intOf]; omega
      · have d3 : (m : Int).tmod 2 = 0 := by rw [Int.tmod_eq_emod_of_nonneg (by omega)]; omega
        have HO : Hid (m % 2 = 0) := by show _ = _; omega
        clear ho
        go_wp2_with fail
        refine (mul_short _ _ y y _ (I.out.2.2.2.1.at (.agg #[.slice a2 n2 c2]) y) (I.out.2.2.2.1.at (.agg #[.slice a2 n2 c2]) y) (fits_P sy.out (by omega)) (fits_P sy.out (by omega)) (.inl (P_up sy.out (by omega)))).mono ?_
        rintro e w6 ⟨v6, rfl, hv6, hb6⟩
        obtain ⟨a6, n6, c6, rfl⟩ := hv6.isAgg
        have J : Hid _ := (I.out.2.2.2.1.go hb6).addN hv6
        clear hv6 hb6 k1 k2 k3 f1 f2 f3
        have k1 := J.out.cel (g + 1) 0 (.slice a2 n2 c2)
        have f1 := J.out.fz (g + 1) 0
        have L : Hid _ := (J.out.set (b := g + 1) (i := 0) k1 (J.out.lo (g + 1)) [(g, 0, .slice a1 n1 c1), (b, 0, .slice none 0 0)] (by have := I.out.2.2.2.2; simp; omega) (.slice a6 n6 c6)).addC (b := g + 1) (i := 0) (v := .slice a6 n6 c6) (by simp [go_sem, k1])
        have I2 : Hid (Tn10 w b g n (w6.setCell ⟨g + 1, 0, none⟩ (.slice a6 n6 c6)) q x (y * y) a1 n1 c1 a6 n6 c6) := ⟨by rw [HQ.out]; exact pow_half I.out.1 HO.out, I.out.2.1, Nat.mul_pos I.out.2.2.1 I.out.2.2.1, L.out.sub _ _ _ _ _ _ (by simp) (by simp) (by simp) (by simp) (by simp) (by simp), I.out.2.2.2.2⟩
        clear J L sx sy
        go_wp2_with fail
        go_roundw
        case rel => exact ⟨q, x, y * y, _, _, _, _, _, _, by go_num, by have := HQ.out; omega, I2.out⟩
        case measure => have := HQ.out; have := HM.out; simp [intOf]; omega
    · obtain rfl : m = 0 := by omega
      have HV : Hid (10 ^ n = x) := by show _ = _; rw [← I.out.1, Nat.pow_zero, Nat.mul_one]
      have Z : Hid _ := I.out.2.2.2.1.ret1 (r := b) k3 (by simp) (I.out.2.2.2.1.at (.agg #[.slice a1 n1 c1]) x) (.slice a1 n1 c1)
      go_wp2_with fail
      exact bodyPost_ret (v := .agg #[.slice a1 n1 c1]) (by simp [results, Tryz.results71, go_sem, k3]) rfl ⟨_, rfl, by rw [HV.out]; exact Z.out.1, Z.out.2⟩
end Go.Proofs.YtmiiaomdenpceaaGreatDoor

namespace Go.Proofs.YtmiiaomdenpceaaGreatDoor
open Go.RowKit
set_option maxRecDepth 100000
set_option linter.unusedVariables false
theorem cmp_z (v u : Value) (x y : Nat) (z : Int) (w : World) (h : IsNat w v x) (k : IsNat w u y) (hx : Fits x) (hy : Fits y) (hz : cmpI x y = z) :
    Calls Tryz.prog 45 #[v, u] w fun e w' => e = .returned (.int .i64 z) ∧ Below w.heap.size w w' := by
  rw [← hz]
  exact cmp_any v u x y w h k hx hy
theorem bitOf_zero (x : Nat) : bitOf x 0 = decide (x % 2 = 1) := by
  unfold bitOf
  rw [Nat.pow_zero, Nat.div_one]
  by_cases h : x % 2 = 1 <;> simp [h]
set_option maxHeartbeats 8000000 in
theorem nearest_any (v u : Value) (p q : Nat) (w : World) (h : IsNat w v p) (k : IsNat w u q) (hp : p < P 198) (hq : q < P 198) (hq0 : 0 < q) :
    Calls Tryz.prog 46 #[v, u] w (Makes w (nearN p q)) := by
  obtain ⟨a, n, c, rfl⟩ := h.isAgg
  obtain ⟨a', n', c', rfl⟩ := k.isAgg
  have S1 : Hid _ := ((((((sy_start w).addN h).addN k).box1 (.slice a n c) 26 _ rfl).box1 (.slice a' n' c') 26 _ rfl).box1 (.slice none 0 0) 26 _ rfl)
  simp only [World.size_alloc] at S1
  obtain ⟨w0, hw0⟩ : ∃ w0, w0 = ((w.alloc (.cells #[.slice a n c] 26)).alloc (.cells #[.slice a' n' c'] 26)).alloc (.cells #[.slice none 0 0] 26) := ⟨_, rfl⟩
  obtain ⟨d, hd⟩ : ∃ d, d = p / q := ⟨_, rfl⟩
  obtain ⟨r, hr⟩ : ∃ r, r = p % q := ⟨_, rfl⟩
  have hrq : r < q := by rw [hr]; exact Nat.mod_lt _ hq0
  have hdp : d ≤ p := by rw [hd]; exact Nat.div_le_self _ _
  have sr : r < P 198 := Nat.lt_trans hrq hq
  have sd : d < P 198 := Nat.lt_of_le_of_lt hdp hp
  have s2 : r + r < P 199 := by
    have h1 : P 199 = P 198 * 18446744073709551616 := P_succ 198
    rw [h1]
    omega
  have HH : Hid (p < P 198 ∧ q < P 198 ∧ 0 < q ∧ Fits r ∧ Fits d ∧ Fits (r + r) ∧ Fits q ∧ d = p / q ∧ r = p % q) := ⟨hp, hq, hq0, fits_P sr (by omega), fits_P sd (by omega), fits_P s2 (by omega), fits_P hq (by omega), hd, hr⟩
  have HN : Hid (nearN p q = if 2 * r < q then d else if 2 * r = q ∧ d % 2 = 0 then d else d + 1) := by show _ = _; unfold nearN; rw [← hd, ← hr]
  clear h k hp hq hq0 hd hr hrq hdp sr sd s2
  go_enter Tryz.func46, Tryz.ntmps46
  go_wp2_with fail
  rw [← hw0] at S1
  rw [← hw0]
  obtain ⟨b, hb⟩ : ∃ b, b = w.heap.size := ⟨_, rfl⟩
  rw [← hb] at S1
  rw [← hb]
  clear hw0 hb
  refine (divMod_198 _ _ p q _ (S1.out.at (.agg #[.slice a n c]) p) (S1.out.at (.agg #[.slice a' n' c']) q) (small_198 HH.out.2.1) HH.out.2.2.1 HH.out.1 (small_198 HH.out.1)).mono ?_
  rintro e w1 ⟨v1, u1, rfl, hv1, hu1, hb1⟩
  rw [← HH.out.2.2.2.2.2.2.2.1] at hv1
  rw [← HH.out.2.2.2.2.2.2.2.2] at hu1
  obtain ⟨a1, n1, c1, rfl⟩ := hv1.isAgg
  obtain ⟨a2, n2, c2, rfl⟩ := hu1.isAgg
  have S2 : Hid _ := ((((S1.out.go hb1).addN hv1).addN hu1).box1 (.slice a1 n1 c1) 26 _ rfl).box1 (.slice a2 n2 c2) 26 _ rfl
  simp only [World.size_alloc] at S2
  clear hv1 hu1 hb1 S1
  go_wp2_with fail
  obtain ⟨w2, hw2⟩ : ∃ w2, w2 = (w1.alloc (.cells #[.slice a1 n1 c1] 26)).alloc (.cells #[.slice a2 n2 c2] 26) := ⟨_, rfl⟩
  obtain ⟨g, hg⟩ : ∃ g, g = w1.heap.size := ⟨_, rfl⟩
  rw [← hw2, ← hg] at S2
  rw [← hw2, ← hg]
  clear hw2 hg
  obtain ⟨z, hz⟩ : ∃ z, cmpI (r + r) q = z := ⟨_, rfl⟩
  have HZ : Hid (cmpI (r + r) q = z) := hz
  clear hz
  refine wp_region_inv (JB w2 [sNat (r), sNat (r), sNat (r + r), sNat (q), sEq (.int .i64 z)] []) 32 (by kernel_rfl) rfl (by kernel_rfl) (JB.start _ _ _) (fun HG HN => ⟨?_, ?_, ?_, ?_, ?_, trivial⟩) ?_
  · intro L vs a w' hJ hF hP hL
    have q6 : (a.tmps[6]?).getD undef = .pointer (some ⟨g + 1, 0, none⟩) := hF.old 6 rfl
    have cb := cell_later hJ.bel (S2.out.cell (g + 1) (.slice a2 n2 c2))
    exact run_val (v := .agg #[.slice a2 n2 c2]) rfl (by simp [execOp, go_sem, q6, cb]) ⟨_, rfl, hJ.step hL rfl (Below.refl _ _) (by exact ((S2.out.at (.agg #[.slice a2 n2 c2]) (r)).mono hJ.bel))⟩
  · intro L vs a w' hJ hF hP hL
    have q6 : (a.tmps[6]?).getD undef = .pointer (some ⟨g + 1, 0, none⟩) := hF.old 6 rfl
    have cb := cell_later hJ.bel (S2.out.cell (g + 1) (.slice a2 n2 c2))
    exact run_val (v := .agg #[.slice a2 n2 c2]) rfl (by simp [execOp, go_sem, q6, cb]) ⟨_, rfl, hJ.step hL rfl (Below.refl _ _) (by exact ((S2.out.at (.agg #[.slice a2 n2 c2]) (r)).mono hJ.bel))⟩
  · intro L vs a w' hJ hF hP hL
    have p0 : L 0 = true := hP ⟨0, .data⟩ (by simp) rfl
    have s0 : IsNat w' (vs 0) (r) := hJ.sp 0 p0
    have q15 := hF.slot 0 15 rfl p0
    have p1 : L 1 = true := hP ⟨1, .data⟩ (by simp) rfl
    have s1 : IsNat w' (vs 1) (r) := hJ.sp 1 p1
    have q16 := hF.slot 1 16 rfl p1
    refine run_call (f := 85) (args := #[vs 0, vs 1]) rfl (by simp [go_sem, q15, q16]) (add_any _ _ r r _ s0 s1 HH.out.2.2.2.1 HH.out.2.2.2.1) ?_
    rintro e w2 ⟨v, rfl, hv, hb⟩
    exact ⟨_, rfl, _, rfl, hJ.step hL rfl hb (by exact hv)⟩
  · intro L vs a w' hJ hF hP hL
    have q3 : (a.tmps[3]?).getD undef = .pointer (some ⟨b + 1, 0, none⟩) := hF.old 3 rfl
    have cb := cell_later hJ.bel (S2.out.cell (b + 1) (.slice a' n' c'))
    exact run_val (v := .agg #[.slice a' n' c']) rfl (by simp [execOp, go_sem, q3, cb]) ⟨_, rfl, hJ.step hL rfl (Below.refl _ _) (by exact ((S2.out.at (.agg #[.slice a' n' c']) (q)).mono hJ.bel))⟩
  · intro L vs a w' hJ hF hP hL
    have p2 : L 2 = true := hP ⟨2, .data⟩ (by simp) rfl
    have s2 : IsNat w' (vs 2) (r + r) := hJ.sp 2 p2
    have q17 := hF.slot 2 17 rfl p2
    have p3 : L 3 = true := hP ⟨3, .data⟩ (by simp) rfl
    have s3 : IsNat w' (vs 3) (q) := hJ.sp 3 p3
    have q18 := hF.slot 3 18 rfl p3
    refine run_call (f := 45) (args := #[vs 2, vs 3]) rfl (by simp [go_sem, q17, q18]) (cmp_z _ _ (r + r) q z _ s2 s3 HH.out.2.2.2.2.2.1 HH.out.2.2.2.2.2.2.1 HZ.out) ?_
    rintro e w2 ⟨rfl, hb⟩
    exact ⟨_, rfl, _, rfl, hJ.step hL rfl hb (by exact rfl)⟩
  intro L vs w' hA hJ
  have s4 : vs 4 = .int .i64 z := hJ.sp 4 (hA 4 (by simp))
  simp only [putL, Act.put, List.setIfInBounds_toArray, List.set_cons_zero, List.set_cons_succ, Nat.reduceAdd]
  simp only [s4]
  obtain ⟨w3, ew3⟩ : ∃ w3, w3 = w' := ⟨_, rfl⟩
  have S3 : Hid _ := S2.out.go (ew3 ▸ hJ.bel : Below w2.heap.size w2 w3)
  rw [← ew3]
  clear ew3 hJ hA s4 S2
  rcases Nat.lt_trichotomy (r + r) q with h1 | h1 | h1
  · obtain rfl : z = -1 := by rw [← HZ.out]; exact cmpI_lt h1
    have HV : Hid (nearN p q = d) := by show _ = _; rw [HN.out, if_pos (by omega)]
    clear h1 HZ HN
    have k1 := S3.out.cel (g) 0 (.slice a1 n1 c1)
    have k2 := S3.out.cel (b + 1 + 1) 0 (.slice none 0 0)
    have k3 := S3.out.fz (b + 1 + 1) 0
    have Z : Hid _ := S3.out.ret1 (r := b + 1 + 1) k2 (by simp) (S3.out.at (.agg #[.slice a1 n1 c1]) d) (.slice a1 n1 c1)
    go_wp2_with fail
    exact bodyPost_ret (v := .agg #[.slice a1 n1 c1]) (by simp [results, Tryz.results46, go_sem, k2]) rfl ⟨_, rfl, by rw [HV.out]; exact Z.out.1, Z.out.2⟩
  · obtain rfl : z = 0 := by rw [← HZ.out]; exact cmpI_same h1
    have k1 := S3.out.cel (g) 0 (.slice a1 n1 c1)
    go_wp2_with fail
    refine (bit_any _ d 0 _ (S3.out.at (.agg #[.slice a1 n1 c1]) d) HH.out.2.2.2.2.1 (by omega) (by omega)).mono ?_
    rintro e w4 ⟨rfl, hb4⟩
    have S4 : Hid _ := S3.out.go hb4
    clear hb4 S3 k1
    by_cases ho : d % 2 = 0
    · have t1 : (decide ((0 : Int) ≤ 0) && bitOf d (0 : Int).toNat) = false := by rw [show (0 : Int).toNat = 0 from rfl, bitOf_zero]; simp; omega
      have HV : Hid (nearN p q = d) := by show _ = _; rw [HN.out, if_neg (by omega), if_pos ⟨by omega, ho⟩]
      rw [t1]
      clear h1 HZ HN ho t1
      have k1 := S4.out.cel (g) 0 (.slice a1 n1 c1)
      have k2 := S4.out.cel (b + 1 + 1) 0 (.slice none 0 0)
      have k3 := S4.out.fz (b + 1 + 1) 0
      have Z : Hid _ := S4.out.ret1 (r := b + 1 + 1) k2 (by simp) (S4.out.at (.agg #[.slice a1 n1 c1]) d) (.slice a1 n1 c1)
      go_wp2_with fail
      exact bodyPost_ret (v := .agg #[.slice a1 n1 c1]) (by simp [results, Tryz.results46, go_sem, k2]) rfl ⟨_, rfl, by rw [HV.out]; exact Z.out.1, Z.out.2⟩
    · have t1 : (decide ((0 : Int) ≤ 0) && bitOf d (0 : Int).toNat) = true := by rw [show (0 : Int).toNat = 0 from rfl, bitOf_zero]; simp; omega
      have HV : Hid (nearN p q = d + 1) := by show _ = _; rw [HN.out, if_neg (by omega), if_neg (fun hh => ho hh.2)]
      rw [t1]
      clear h1 HZ HN ho t1
      go_wp2_with fail
      refine wp_region_inv (JD w4 [sNat (d), sNat (1), sNat (d + 1), sAny] [[], [], [0, 1], [2]] 3 2 [0, 1, 2] (Sto1 (b + 1 + 1))) 32 (by kernel_rfl) rfl (by kernel_rfl) (JD.start _ _ _ _ _ _ _) (fun HG HN => ⟨?_, ?_, ?_, ?_, trivial⟩) ?_
      · intro L vs a w' hJ hF hP hL
        have hK := hJ
        have hJ := hK.open hL (by decide)
        have q5 : (a.tmps[5]?).getD undef = .pointer (some ⟨g, 0, none⟩) := hF.old 5 rfl
        have cb := cell_later hJ.bel (S4.out.cell (g) (.slice a1 n1 c1))
        exact run_val (v := .agg #[.slice a1 n1 c1]) rfl (by simp [execOp, go_sem, q5, cb]) ⟨_, rfl, hK.step hL (by decide) (by decide) rfl (nd_nil) <| hJ.step hL rfl (Below.refl _ _) (by exact ((S4.out.at (.agg #[.slice a1 n1 c1]) (d)).mono hJ.bel))⟩
      · intro L vs a w' hJ hF hP hL
        have hK := hJ
        have hJ := hK.open hL (by decide)
        refine run_call (f := 28) (args := #[.int .u64 1]) rfl (by simp [go_sem]) (of_any 1 _ (by omega)) ?_
        rintro e w2 ⟨v, rfl, hv, hb⟩
        exact ⟨_, rfl, _, rfl, hK.step hL (by decide) (by decide) rfl (nd_nil) <| hJ.step hL rfl hb (by exact hv)⟩
      · intro L vs a w' hJ hF hP hL
        have hK := hJ
        have hJ := hK.open hL (by decide)
        have p0 : L 0 = true := hP ⟨0, .data⟩ (by simp) rfl
        have s0 : IsNat w' (vs 0) (d) := hJ.sp 0 p0
        have q29 := hF.slot 0 29 rfl p0
        have p1 : L 1 = true := hP ⟨1, .data⟩ (by simp) rfl
        have s1 : IsNat w' (vs 1) (1) := hJ.sp 1 p1
        have q30 := hF.slot 1 30 rfl p1
        refine run_call (f := 85) (args := #[vs 0, vs 1]) rfl (by simp [go_sem, q29, q30]) (add_any _ _ d 1 _ s0 s1 HH.out.2.2.2.2.1 (fits_P (n := 1) (by rw [P_one]; omega) (by omega))) ?_
        rintro e w2 ⟨v, rfl, hv, hb⟩
        exact ⟨_, rfl, _, rfl, hK.step hL (by decide) (by decide) rfl (nd_cons p0 (nd_cons p1 (nd_nil))) <| hJ.step hL rfl hb (by exact hv)⟩
      · intro L vs a w' hJ hF hP hL
        have hK := hJ
        have hJ := hK.core hL
        have q4 : (a.tmps[4]?).getD undef = .pointer (some ⟨b + 1 + 1, 0, none⟩) := hF.old 4 rfl
        have p2 : L 2 = true := hP ⟨2, .data⟩ (by simp) rfl
        have s2 : IsNat w' (vs 2) (d + 1) := hJ.sp 2 p2
        have q31 := hF.slot 2 31 rfl p2
        have p0 : L 0 = true := hK.cl 2 p2 0 (by simp)
        have p1 : L 1 = true := hK.cl 2 p2 1 (by simp)
        have x0 := cell_later hJ.bel (S4.out.cel (b + 1 + 1) 0 (.slice none 0 0))
        have y0 := (hJ.bel.frozen (World.block_lt_of_cell? _ _ (S4.out.cel (b + 1 + 1) 0 (.slice none 0 0)))).trans (S4.out.fz (b + 1 + 1) 0)
        obtain ⟨aa, nn, cc, e8⟩ := s2.isAgg
        exact run_unit (w' := (w'.setCell ⟨b + 1 + 1, 0, none⟩ (.slice aa nn cc))) rfl (by simp [execOp, go_sem, q4, q31, e8, x0, y0]) ⟨undef, rfl, hK.put hL (by decide) rfl (nd_cons p2 (nd_nil)) (nd_cons p0 (nd_cons p1 (nd_cons p2 (nd_nil)))) p2 ⟨_, e8, rfl⟩⟩
      intro L vs w' hA hK
      obtain ⟨_, w1, hb1, sv, u1, ev, ew⟩ := hK.fin (hA 3 (by simp))
      replace sv : IsNat w1 (vs 2) (d + 1) := sv
      simp only [putL, Act.put, List.setIfInBounds_toArray, List.set_cons_zero, List.set_cons_succ, Nat.reduceAdd]
      obtain ⟨aa, nn, cc, e9⟩ := sv.isAgg
      have S9 : Hid _ := S4.out.go hb1
      have k2 := S9.out.cel (b + 1 + 1) 0 (.slice none 0 0)
      have Z : Hid _ := S9.out.ret1 (r := b + 1 + 1) k2 (by simp) sv u1
      clear S4
      rw [ew]
      rw [ev] at Z sv
      go_wp2_with fail
      exact bodyPost_ret (v := .agg #[u1]) (by simp [results, Tryz.results46, go_sem, k2]) rfl ⟨_, rfl, by rw [HV.out]; exact Z.out.1, Z.out.2⟩
  · obtain rfl : z = 1 := by rw [← HZ.out]; exact cmpI_gt h1
    have HV : Hid (nearN p q = d + 1) := by show _ = _; rw [HN.out, if_neg (by omega), if_neg (fun hh => by omega)]
    clear h1 HZ HN
    go_wp2_with fail
    refine wp_region_inv (JD w3 [sNat (d), sNat (1), sNat (d + 1), sAny] [[], [], [0, 1], [2]] 3 2 [0, 1, 2] (Sto1 (b + 1 + 1))) 32 (by kernel_rfl) rfl (by kernel_rfl) (JD.start _ _ _ _ _ _ _) (fun HG HN => ⟨?_, ?_, ?_, ?_, trivial⟩) ?_
    · intro L vs a w' hJ hF hP hL
      have hK := hJ
      have hJ := hK.open hL (by decide)
      have q5 : (a.tmps[5]?).getD undef = .pointer (some ⟨g, 0, none⟩) := hF.old 5 rfl
      have cb := cell_later hJ.bel (S3.out.cell (g) (.slice a1 n1 c1))
      exact run_val (v := .agg #[.slice a1 n1 c1]) rfl (by simp [execOp, go_sem, q5, cb]) ⟨_, rfl, hK.step hL (by decide) (by decide) rfl (nd_nil) <| hJ.step hL rfl (Below.refl _ _) (by exact ((S3.out.at (.agg #[.slice a1 n1 c1]) (d)).mono hJ.bel))⟩
    · intro L vs a w' hJ hF hP hL
      have hK := hJ
      have hJ := hK.open hL (by decide)
      refine run_call (f := 28) (args := #[.int .u64 1]) rfl (by simp [go_sem]) (of_any 1 _ (by omega)) ?_
      rintro e w2 ⟨v, rfl, hv, hb⟩
      exact ⟨_, rfl, _, rfl, hK.step hL (by decide) (by decide) rfl (nd_nil) <| hJ.step hL rfl hb (by exact hv)⟩
    · intro L vs a w' hJ hF hP hL
      have hK := hJ
      have hJ := hK.open hL (by decide)
      have p0 : L 0 = true := hP ⟨0, .data⟩ (by simp) rfl
      have s0 : IsNat w' (vs 0) (d) := hJ.sp 0 p0
      have q29 := hF.slot 0 29 rfl p0
      have p1 : L 1 = true := hP ⟨1, .data⟩ (by simp) rfl
      have s1 : IsNat w' (vs 1) (1) := hJ.sp 1 p1
      have q30 := hF.slot 1 30 rfl p1
      refine run_call (f := 85) (args := #[vs 0, vs 1]) rfl (by simp [go_sem, q29, q30]) (add_any _ _ d 1 _ s0 s1 HH.out.2.2.2.2.1 (fits_P (n := 1) (by rw [P_one]; omega) (by omega))) ?_
      rintro e w2 ⟨v, rfl, hv, hb⟩
      exact ⟨_, rfl, _, rfl, hK.step hL (by decide) (by decide) rfl (nd_cons p0 (nd_cons p1 (nd_nil))) <| hJ.step hL rfl hb (by exact hv)⟩
    · intro L vs a w' hJ hF hP hL
      have hK := hJ
      have hJ := hK.core hL
      have q4 : (a.tmps[4]?).getD undef = .pointer (some ⟨b + 1 + 1, 0, none⟩) := hF.old 4 rfl
      have p2 : L 2 = true := hP ⟨2, .data⟩ (by simp) rfl
      have s2 : IsNat w' (vs 2) (d + 1) := hJ.sp 2 p2
      have q31 := hF.slot 2 31 rfl p2
      have p0 : L 0 = true := hK.cl 2 p2 0 (by simp)
      have p1 : L 1 = true := hK.cl 2 p2 1 (by simp)
      have x0 := cell_later hJ.bel (S3.out.cel (b + 1 + 1) 0 (.slice none 0 0))
      have y0 := (hJ.bel.frozen (World.block_lt_of_cell? _ _ (S3.out.cel (b + 1 + 1) 0 (.slice none 0 0)))).trans (S3.out.fz (b + 1 + 1) 0)
      obtain ⟨aa, nn, cc, e8⟩ := s2.isAgg
      exact run_unit (w' := (w'.setCell ⟨b + 1 + 1, 0, none⟩ (.slice aa nn cc))) rfl (by simp [execOp, go_sem, q4, q31, e8, x0, y0]) ⟨undef, rfl, hK.put hL (by decide) rfl (nd_cons p2 (nd_nil)) (nd_cons p0 (nd_cons p1 (nd_cons p2 (nd_nil)))) p2 ⟨_, e8, rfl⟩⟩
    intro L vs w' hA hK
    obtain ⟨_, w1, hb1, sv, u1, ev, ew⟩ := hK.fin (hA 3 (by simp))
    replace sv : IsNat w1 (vs 2) (d + 1) := sv
    simp only [putL, Act.put, List.setIfInBounds_toArray, List.set_cons_zero, List.set_cons_succ, Nat.reduceAdd]
    obtain ⟨aa, nn, cc, e9⟩ := sv.isAgg
    have S9 : Hid _ := S3.out.go hb1
    have k2 := S9.out.cel (b + 1 + 1) 0 (.slice none 0 0)
    have Z : Hid _ := S9.out.ret1 (r := b + 1 + 1) k2 (by simp) sv u1
    clear S3
    rw [ew]
    rw [ev] at Z sv
    go_wp2_with fail
    exact bodyPost_ret (v := .agg #[u1]) (by simp [results, Tryz.results46, go_sem, k2]) rfl ⟨_, rfl, by rw [HV.out]; exact Z.out.1, Z.out.2⟩
end Go.Proofs.YtmiiaomdenpceaaGreatDoor

namespace Go.Proofs.YtmiiaomdenpceaaGreatDoor
open Go.RowKit
set_option maxRecDepth 100000
set_option linter.unusedVariables false
theorem text_k (v : Value) (x k : Nat) (w : World) (h : IsNat w v x) (ht : Tx x) (hk : DecLen x k) : Calls Tryz.prog 68 #[v] w fun e w' => e = .returned (.string (decText x k)) ∧ Below w.heap.size w w' := by
  refine (text_any v x w h ht).mono ?_
  rintro e w' ⟨l, rfl, hl, hb⟩
  rw [hl.unique hk]
  exact ⟨rfl, hb⟩
theorem cat_run (s t : ByteArray) (h : s.size + t.size ≤ 9223372036854775807) (w : World) : (binOp .add 9 (.string s) (.string t)).run Tryz.prog w = .ok (.string (s ++ t)) w := by
  simp [binOp, run_string_add_sum, h]
/-- A fraction's text. -/
def fmtT (p q k l : Nat) : ByteArray := if q = 1 then decText p k else decText p k ++ ⟨#[47]⟩ ++ decText q l
theorem bitLen_one {q : Nat} : bitLen q = 1 ↔ q = 1 := by
  constructor
  · intro h
    have h1 := (bitLen_spec q).1
    rw [h] at h1
    rcases Nat.eq_zero_or_pos q with e | e
    · rw [e, bitLen_zero] at h
      omega
    · omega
  · intro h
    rw [h]
    decide +kernel
theorem dec_len {x k : Nat} (h : DecLen x k) (hx : x < P 200) : k ≤ 5000 := by
  rcases h.2.2 with h1 | h1
  · omega
  · have h2 : 2 ^ (3 * (k - 1)) ≤ 10 ^ (k - 1) := by rw [Nat.pow_mul]; exact Nat.pow_le_pow_left (by decide) _
    have h3 : 2 ^ (3 * (k - 1)) < P 200 := Nat.lt_of_le_of_lt (Nat.le_trans h2 h1) hx
    rw [P_two] at h3
    have h4 := (Nat.pow_lt_pow_iff_right (show 1 < 2 by decide)).1 h3
    omega
set_option maxHeartbeats 4000000 in
theorem format_any (v : Value) (p q k l : Nat) (w : World) (h : Rt w v p q) (hp : RS p) (hq : RS q) (hk : DecLen p k) (hl : DecLen q l) :
    Calls Tryz.prog 24 #[v] w fun e w' => e = .returned (.string (fmtT p q k l)) ∧ Below w.heap.size w w' := by
  have h' := h
  obtain ⟨a, n, c, a', n', c', e0, _, _⟩ := h'.raw
  subst e0
  have S1 : Hid _ := ((sy_start w).addF h).box (.slice a n c) (.slice a' n' c') 28 _ rfl
  have HH : Hid (RS p ∧ RS q ∧ DecLen p k ∧ DecLen q l ∧ Tx p ∧ Tx q) := ⟨hp, hq, hk, hl, tx_of hp.lt (by omega), tx_of hq.lt (by omega)⟩
  have kp := dec_len hk (P_up hp.lt (by omega))
  have kq := dec_len hl (P_up hq.lt (by omega))
  have sp : (decText p k).size = k := text_size _ _
  have sq : (decText q l).size = l := text_size _ _
  have m1 : (decText p k).size ≤ 9223372036854775806 := by omega
  have m2 : (decText p k).size + 1 + (decText q l).size ≤ 9223372036854775807 := by omega
  clear h h' hp hq hk hl kp kq sp sq
  go_enter Tryz.func24, Tryz.ntmps24
  go_wp2_with fail
  refine (parts_any _ p q _ (S1.out.fr (.agg #[.slice a n c, .slice a' n' c']) p q) HH.out.2.1.fits).mono ?_
  rintro e w1 ⟨v1, u1, rfl, hv1, hu1, hb1⟩
  obtain ⟨a1, n1, c1, rfl⟩ := hv1.isAgg
  obtain ⟨a2, n2, c2, rfl⟩ := hu1.isAgg
  have S2 : Hid _ := ((((S1.out.go hb1).addN hv1).addN hu1).box1 (.slice a1 n1 c1) 26 _ rfl).box1 (.slice a2 n2 c2) 26 _ rfl
  simp only [World.size_alloc] at S2
  clear hv1 hu1 hb1 S1
  go_wp2_with fail
  obtain ⟨w2, hw2⟩ : ∃ w2, w2 = (w1.alloc (.cells #[.slice a1 n1 c1] 26)).alloc (.cells #[.slice a2 n2 c2] 26) := ⟨_, rfl⟩
  obtain ⟨g, hg⟩ : ∃ g, g = w1.heap.size := ⟨_, rfl⟩
  rw [← hw2, ← hg] at S2
  rw [← hw2, ← hg]
  clear hw2 hg
  refine (len_any _ q _ (S2.out.at (.agg #[.slice a2 n2 c2]) q) HH.out.2.1.fits).mono ?_
  rintro e w3 ⟨rfl, hb3⟩
  have S3 : Hid _ := S2.out.go hb3
  clear hb3 S2
  have k1 := S3.out.cel g 0 (.slice a1 n1 c1)
  by_cases h1 : q = 1
  · have t1 : bitLen q = 1 := bitLen_one.2 h1
    have HV : Hid (fmtT p q k l = decText p k) := by show _ = _; unfold fmtT; rw [if_pos h1]
    rw [t1]
    clear h1 t1
    go_wp2_with fail
    refine (text_k _ p k _ (S3.out.at (.agg #[.slice a1 n1 c1]) p) HH.out.2.2.2.2.1 HH.out.2.2.1).mono ?_
    rintro e w4 ⟨rfl, hb4⟩
    have S4 : Hid _ := S3.out.go hb4
    clear hb4 S3
    go_wp2_with fail
    go_ret
    rw [HV.out]
    exact ⟨rfl, S4.out.bel⟩
  · obtain ⟨j, hj⟩ : ∃ j, bitLen q = j := ⟨_, rfl⟩
    rw [hj]
    have t1 : ((j : Int) == 1) = false := by
      have : ¬ j = 1 := fun e => h1 (bitLen_one.1 (by omega))
      simp
      omega
    have t2 : decide ((j : Int) = 1) = false := by
      have : ¬ j = 1 := fun e => h1 (bitLen_one.1 (by omega))
      exact decide_eq_false (by omega)
    have HV : Hid (fmtT p q k l = decText p k ++ ⟨#[47]⟩ ++ decText q l) := by show _ = _; unfold fmtT; rw [if_neg h1]
    clear h1 hj
    go_wp2_with fail
    refine wp_region_inv (JB w3 [sNat (p), sEq (.string (decText p k)), sEq (.string (decText p k ++ ⟨#[47]⟩)), sNat (q), sEq (.string (decText q l)), sEq (.string (decText p k ++ ⟨#[47]⟩ ++ decText q l)), sEq (.string (decText p k ++ ⟨#[47]⟩ ++ decText q l))] []) 21 (by kernel_rfl) rfl (by kernel_rfl) (JB.start _ _ _) (fun HG HN => ⟨?_, ?_, ?_, ?_, ?_, ?_, ?_, trivial⟩) ?_
    · intro L vs a w' hJ hF hP hL
      have q3 : (a.tmps[3]?).getD undef = .pointer (some ⟨g, 0, none⟩) := hF.old 3 rfl
      have cb := cell_later hJ.bel (S3.out.cell (g) (.slice a1 n1 c1))
      exact run_val (v := .agg #[.slice a1 n1 c1]) rfl (by simp [execOp, go_sem, q3, cb]) ⟨_, rfl, hJ.step hL rfl (Below.refl _ _) (by exact ((S3.out.at (.agg #[.slice a1 n1 c1]) (p)).mono hJ.bel))⟩
    · intro L vs a w' hJ hF hP hL
      have p0 : L 0 = true := hP ⟨0, .data⟩ (by simp) rfl
      have s0 : IsNat w' (vs 0) (p) := hJ.sp 0 p0
      have q15 := hF.slot 0 15 rfl p0
      refine run_call (f := 68) (args := #[vs 0]) rfl (by simp [go_sem, q15]) (text_k _ p k _ s0 HH.out.2.2.2.2.1 HH.out.2.2.1) ?_
      rintro e w2 ⟨rfl, hb⟩
      exact ⟨_, rfl, _, rfl, hJ.step hL rfl hb (by exact rfl)⟩
    · intro L vs a w' hJ hF hP hL
      have p1 : L 1 = true := hP ⟨1, .data⟩ (by simp) rfl
      have s1 : vs 1 = .string (decText p k) := hJ.sp 1 p1
      have q16 := hF.slot 1 16 rfl p1
      exact run_val (v := .string (decText p k ++ ⟨#[47]⟩)) rfl (by simp [execOp, go_sem, q16, s1, m1]) ⟨_, rfl, hJ.step hL rfl (Below.refl _ _) (by exact rfl)⟩
    · intro L vs a w' hJ hF hP hL
      have q4 : (a.tmps[4]?).getD undef = .pointer (some ⟨g + 1, 0, none⟩) := hF.old 4 rfl
      have cb := cell_later hJ.bel (S3.out.cell (g + 1) (.slice a2 n2 c2))
      exact run_val (v := .agg #[.slice a2 n2 c2]) rfl (by simp [execOp, go_sem, q4, cb]) ⟨_, rfl, hJ.step hL rfl (Below.refl _ _) (by exact ((S3.out.at (.agg #[.slice a2 n2 c2]) (q)).mono hJ.bel))⟩
    · intro L vs a w' hJ hF hP hL
      have p3 : L 3 = true := hP ⟨3, .data⟩ (by simp) rfl
      have s3 : IsNat w' (vs 3) (q) := hJ.sp 3 p3
      have q18 := hF.slot 3 18 rfl p3
      refine run_call (f := 68) (args := #[vs 3]) rfl (by simp [go_sem, q18]) (text_k _ q l _ s3 HH.out.2.2.2.2.2 HH.out.2.2.2.1) ?_
      rintro e w2 ⟨rfl, hb⟩
      exact ⟨_, rfl, _, rfl, hJ.step hL rfl hb (by exact rfl)⟩
    · intro L vs a w' hJ hF hP hL
      have p2 : L 2 = true := hP ⟨2, .data⟩ (by simp) rfl
      have s2 : vs 2 = .string (decText p k ++ ⟨#[47]⟩) := hJ.sp 2 p2
      have q17 := hF.slot 2 17 rfl p2
      have p4 : L 4 = true := hP ⟨4, .data⟩ (by simp) rfl
      have s4 : vs 4 = .string (decText q l) := hJ.sp 4 p4
      have q19 := hF.slot 4 19 rfl p4
      exact run_val (v := .string (decText p k ++ ⟨#[47]⟩ ++ decText q l)) rfl (by simp [execOp, go_sem, q17, s2, q19, s4, m2]) ⟨_, rfl, hJ.step hL rfl (Below.refl _ _) (by exact rfl)⟩
    · intro L vs a w' hJ hF hP hL
      have p5 : L 5 = true := hP ⟨5, .data⟩ (by simp) rfl
      have s5 : vs 5 = .string (decText p k ++ ⟨#[47]⟩ ++ decText q l) := hJ.sp 5 p5
      have q20 := hF.slot 5 20 rfl p5
      exact run_val (v := .string (decText p k ++ ⟨#[47]⟩ ++ decText q l)) rfl (by simp [execOp, go_sem, q20, s5]) ⟨_, rfl, hJ.step hL rfl (Below.refl _ _) (by exact rfl)⟩
    intro L vs w' hA hJ
    have s6 : vs 6 = .string (decText p k ++ ⟨#[47]⟩ ++ decText q l) := hJ.sp 6 (hA 6 (by simp))
    simp only [putL, Act.put, List.setIfInBounds_toArray, List.set_cons_zero, List.set_cons_succ, Nat.reduceAdd]
    simp only [s6]
    have HB : Hid (Below w.heap.size w w') := (S3.out.go hJ.bel).bel
    go_wp2_with fail
    go_ret
    rw [HV.out]
    exact ⟨rfl, HB.out⟩
/-- Zeros. -/
def zrs (n : Nat) : ByteArray := ⟨Array.replicate n 48⟩
theorem zrs_size (n : Nat) : (zrs n).size = n := by
  show (Array.replicate n (48 : UInt8)).size = n
  simp
/-- What Repeat tells of one digit 0. -/
def RepIs (n : Nat) : Prop := ∀ w : World, Calls Tryz.prog 72 #[.string ⟨#[48]⟩, .int .i64 (n : Int)] w fun e w' => e = .returned (.string (zrs n)) ∧ Below w.heap.size w w'
/-- A text with places behind the point. -/
def ptT (s : ByteArray) (m : Nat) : ByteArray := s.extract 0 (s.size - m) ++ ⟨#[46]⟩ ++ s.extract (s.size - m) s.size
def decimalT (p q m k : Nat) : ByteArray := if m = 0 then decText (nearN (p * 10 ^ m) q) k else ptT (zrs (m + 1 - k) ++ decText (nearN (p * 10 ^ m) q) k) m
theorem nearN_up (p q : Nat) : nearN p q ≤ p + 1 := by
  have := Nat.div_le_self p q
  unfold nearN
  split
  · omega
  · split <;> omega
theorem dec_rules {m k r x2 d : Nat} (hr : r = m + 1 - k) (hx2 : x2 = r + k) (hd : d = x2 - m) (hm : m ≤ 100) (hk : k ≤ 5000) :
    wrap64 ((m : Int) + 1) = (m : Int) + 1 ∧ (k ≤ m → wrap64 ((m : Int) + 1 - (k : Int)) = (r : Int)) ∧ wrap64 ((x2 : Int) - (m : Int)) = (d : Int) :=
  ⟨IntWalk.wrap64_in _ ⟨by omega, by omega⟩, fun _ => by rw [IntWalk.wrap64_in _ ⟨by omega, by omega⟩]; omega, by rw [IntWalk.wrap64_in _ ⟨by omega, by omega⟩]; omega⟩
set_option maxHeartbeats 400000 in
theorem decimal_any (v : Value) (p q m k : Nat) (w : World) (h : Rt w v p q) (hp : p < P 80) (hq : q < P 80) (hq0 : 0 < q) (hm : m ≤ 100) (hk : DecLen (nearN (p * 10 ^ m) q) k) (hR : RepIs (m + 1 - k)) :
    Calls Tryz.prog 26 #[v, .int .i64 (m : Int)] w fun e w' => e = .returned (.tuple #[.string (decimalT p q m k), .bool true]) ∧ Below w.heap.size w w' := by
  have h' := h
  obtain ⟨a, n, c, a', n', c', e0, _, _⟩ := h'.raw
  subst e0
  have S1 : Hid _ := ((sy_start w).addF h).box (.slice a n c) (.slice a' n' c') 28 _ rfl
  obtain ⟨X, hX⟩ : ∃ X, X = p * 10 ^ m := ⟨_, rfl⟩
  obtain ⟨E, hE⟩ : ∃ E, E = 10 ^ m := ⟨_, rfl⟩
  obtain ⟨Y, hY⟩ : ∃ Y, Y = nearN X q := ⟨_, rfl⟩
  have sE : E < P 6 := by
    rw [hE]
    have h1 : 10 ^ m ≤ 10 ^ 100 := Nat.pow_le_pow_right (by omega) hm
    have h2 : 10 ^ 100 < P 6 := by decide +kernel
    omega
  have sX : X < P 86 := by rw [hX, ← hE]; exact mulP_lt hp sE
  have sY : Y ≤ X + 1 := by rw [hY]; exact nearN_up X q
  have sY2 : Y < P 87 := by
    have h1 : P 87 = P 86 * 18446744073709551616 := P_succ 86
    have h2 := P_pos 86
    omega
  rw [← hX, ← hY] at hk
  have kl := dec_len hk (P_up sY2 (by omega))
  have k0 := hk.1
  have HH : Hid (p < P 80 ∧ q < P 80 ∧ 0 < q ∧ m ≤ 1500 ∧ Fits p ∧ Fits E ∧ (p < P 99 ∨ E < P 99) ∧ X < P 198 ∧ q < P 198 ∧ Tx Y ∧ DecLen Y k ∧ E = 10 ^ m ∧ X = p * E ∧ Y = nearN X q) := ⟨hp, hq, hq0, by omega, fits_P hp (by omega), fits_P sE (by omega), .inl (P_up hp (by omega)), P_up sX (by omega), P_up hq (by omega), tx_of sY2 (by omega), hk, hE, by rw [hE]; exact hX, hY⟩
  have HD : Hid (decimalT p q m k = if m = 0 then decText Y k else ptT (zrs (m + 1 - k) ++ decText Y k) m) := by show _ = _; unfold decimalT; rw [← hX, ← hY]
  have HR : Hid (RepIs (m + 1 - k)) := hR
  have sz : (decText Y k).size = k := text_size _ _
  have t1 : decide ((m : Int) < 0) = false := decide_eq_false (by omega)
  have t2 : decide (100 < (m : Int)) = false := decide_eq_false (by omega)
  have hm' : m ≤ 100 := hm
  clear h h' hp hq hq0 hm hk hR hX hE hY sE sX sY sY2
  go_enter Tryz.func26, Tryz.ntmps26
  go_wp2_with fail
  refine (parts_any _ p q _ (S1.out.fr (.agg #[.slice a n c, .slice a' n' c']) p q) (fits_P HH.out.2.1 (by omega))).mono ?_
  rintro e w1 ⟨v1, u1, rfl, hv1, hu1, hb1⟩
  obtain ⟨a1, n1, c1, rfl⟩ := hv1.isAgg
  obtain ⟨a2, n2, c2, rfl⟩ := hu1.isAgg
  have S2 : Hid _ := ((((S1.out.go hb1).addN hv1).addN hu1).box1 (.slice a1 n1 c1) 26 _ rfl).box1 (.slice a2 n2 c2) 26 _ rfl
  simp only [World.size_alloc] at S2
  clear hv1 hu1 hb1 S1
  go_wp2_with fail
  obtain ⟨w2, hw2⟩ : ∃ w2, w2 = (w1.alloc (.cells #[.slice a1 n1 c1] 26)).alloc (.cells #[.slice a2 n2 c2] 26) := ⟨_, rfl⟩
  obtain ⟨g, hg⟩ : ∃ g, g = w1.heap.size := ⟨_, rfl⟩
  rw [← hw2, ← hg] at S2
  rw [← hw2, ← hg]
  clear hw2 hg
  refine wp_region_inv (JB w2 [sNat (p), sEq (.int .i64 (m : Int)), sNat (E), sNat (X), sNat (q), sNat (Y), sEq (.string (decText Y k)), sEq (.string (decText Y k))] []) 52 (by kernel_rfl) rfl (by kernel_rfl) (JB.start _ _ _) (fun HG HN => ⟨?_, ?_, ?_, ?_, ?_, ?_, ?_, ?_, trivial⟩) ?_
  · intro L vs a w' hJ hF hP hL
    have q6 : (a.tmps[6]?).getD undef = .pointer (some ⟨g, 0, none⟩) := hF.old 6 rfl
    have cb := cell_later hJ.bel (S2.out.cell (g) (.slice a1 n1 c1))
    exact run_val (v := .agg #[.slice a1 n1 c1]) rfl (by simp [execOp, go_sem, q6, cb]) ⟨_, rfl, hJ.step hL rfl (Below.refl _ _) (by exact ((S2.out.at (.agg #[.slice a1 n1 c1]) (p)).mono hJ.bel))⟩
  · intro L vs a w' hJ hF hP hL
    have q1 : (a.tmps[1]?).getD undef = .int .i64 (m : Int) := hF.old 1 rfl
    exact run_val (v := .int .i64 (m : Int)) rfl (by simp [execOp, go_sem, q1]) ⟨_, rfl, hJ.step hL rfl (Below.refl _ _) (by exact rfl)⟩
  · intro L vs a w' hJ hF hP hL
    have p1 : L 1 = true := hP ⟨1, .data⟩ (by simp) rfl
    have s1 : vs 1 = .int .i64 (m : Int) := hJ.sp 1 p1
    have q22 := hF.slot 1 22 rfl p1
    refine run_call (f := 71) (args := #[.int .i64 (m : Int)]) rfl (by simp [go_sem, q22, s1]) (tenTo_any m _ HH.out.2.2.2.1) ?_
    rintro e w2 ⟨v, rfl, hv, hb⟩
    rw [← HH.out.2.2.2.2.2.2.2.2.2.2.2.1] at hv
    exact ⟨_, rfl, _, rfl, hJ.step hL rfl hb (by exact hv)⟩
  · intro L vs a w' hJ hF hP hL
    have p0 : L 0 = true := hP ⟨0, .data⟩ (by simp) rfl
    have s0 : IsNat w' (vs 0) (p) := hJ.sp 0 p0
    have q21 := hF.slot 0 21 rfl p0
    have p2 : L 2 = true := hP ⟨2, .data⟩ (by simp) rfl
    have s2 : IsNat w' (vs 2) (E) := hJ.sp 2 p2
    have q23 := hF.slot 2 23 rfl p2
    refine run_call (f := 70) (args := #[vs 0, vs 2]) rfl (by simp [go_sem, q21, q23]) (mul_short _ _ p E _ s0 s2 HH.out.2.2.2.2.1 HH.out.2.2.2.2.2.1 HH.out.2.2.2.2.2.2.1) ?_
    rintro e w2 ⟨v, rfl, hv, hb⟩
    rw [← HH.out.2.2.2.2.2.2.2.2.2.2.2.2.1] at hv
    exact ⟨_, rfl, _, rfl, hJ.step hL rfl hb (by exact hv)⟩
  · intro L vs a w' hJ hF hP hL
    have q7 : (a.tmps[7]?).getD undef = .pointer (some ⟨g + 1, 0, none⟩) := hF.old 7 rfl
    have cb := cell_later hJ.bel (S2.out.cell (g + 1) (.slice a2 n2 c2))
    exact run_val (v := .agg #[.slice a2 n2 c2]) rfl (by simp [execOp, go_sem, q7, cb]) ⟨_, rfl, hJ.step hL rfl (Below.refl _ _) (by exact ((S2.out.at (.agg #[.slice a2 n2 c2]) (q)).mono hJ.bel))⟩
  · intro L vs a w' hJ hF hP hL
    have p3 : L 3 = true := hP ⟨3, .data⟩ (by simp) rfl
    have s3 : IsNat w' (vs 3) (X) := hJ.sp 3 p3
    have q24 := hF.slot 3 24 rfl p3
    have p4 : L 4 = true := hP ⟨4, .data⟩ (by simp) rfl
    have s4 : IsNat w' (vs 4) (q) := hJ.sp 4 p4
    have q25 := hF.slot 4 25 rfl p4
    refine run_call (f := 46) (args := #[vs 3, vs 4]) rfl (by simp [go_sem, q24, q25]) (nearest_any _ _ X q _ s3 s4 HH.out.2.2.2.2.2.2.2.1 HH.out.2.2.2.2.2.2.2.2.1 HH.out.2.2.1) ?_
    rintro e w2 ⟨v, rfl, hv, hb⟩
    rw [← HH.out.2.2.2.2.2.2.2.2.2.2.2.2.2] at hv
    exact ⟨_, rfl, _, rfl, hJ.step hL rfl hb (by exact hv)⟩
  · intro L vs a w' hJ hF hP hL
    have p5 : L 5 = true := hP ⟨5, .data⟩ (by simp) rfl
    have s5 : IsNat w' (vs 5) (Y) := hJ.sp 5 p5
    have q26 := hF.slot 5 26 rfl p5
    refine run_call (f := 68) (args := #[vs 5]) rfl (by simp [go_sem, q26]) (text_k _ Y k _ s5 HH.out.2.2.2.2.2.2.2.2.2.1 HH.out.2.2.2.2.2.2.2.2.2.2.1) ?_
    rintro e w2 ⟨rfl, hb⟩
    exact ⟨_, rfl, _, rfl, hJ.step hL rfl hb (by exact rfl)⟩
  · intro L vs a w' hJ hF hP hL
    have p6 : L 6 = true := hP ⟨6, .data⟩ (by simp) rfl
    have s6 : vs 6 = .string (decText Y k) := hJ.sp 6 p6
    have q27 := hF.slot 6 27 rfl p6
    exact run_val (v := .string (decText Y k)) rfl (by simp [execOp, go_sem, q27, s6]) ⟨_, rfl, hJ.step hL rfl (Below.refl _ _) (by exact rfl)⟩
  intro L vs w' hA hJ
  have s7 : vs 7 = .string (decText Y k) := hJ.sp 7 (hA 7 (by simp))
  simp only [putL, Act.put, List.setIfInBounds_toArray, List.set_cons_zero, List.set_cons_succ, Nat.reduceAdd]
  simp only [s7]
  obtain ⟨w3, ew3⟩ : ∃ w3, w3 = w' := ⟨_, rfl⟩
  have S3 : Hid _ := S2.out.go (ew3 ▸ hJ.bel : Below w2.heap.size w2 w3)
  rw [← ew3]
  clear ew3 hJ hA s7 S2
  by_cases h0 : m = 0
  · have t3 : decide ((m : Int) = 0) = true := decide_eq_true (by omega)
    have t4 : ((m : Int) == 0) = true := by simp; omega
    have HV : Hid (decimalT p q m k = decText Y k) := by show _ = _; rw [HD.out, if_pos h0]
    clear h0 HD
    go_wp2_with fail
    exact bodyPost_ret (v := .tuple #[.string (decText Y k), .bool true]) (by simp [results, Tryz.results26, go_sem]) rfl ⟨by rw [HV.out], S3.out.bel⟩
  · have t3 : decide ((m : Int) = 0) = false := decide_eq_false (by omega)
    have t4 : ((m : Int) == 0) = false := by simp; omega
    have HV : Hid (decimalT p q m k = ptT (zrs (m + 1 - k) ++ decText Y k) m) := by show _ = _; rw [HD.out, if_neg h0]
    obtain ⟨r, hr⟩ : ∃ r, r = m + 1 - k := ⟨_, rfl⟩
    rw [← hr] at HV HR
    have sr : (zrs r).size = r := zrs_size r
    have q1 : (zrs r).size + (decText Y k).size ≤ 9223372036854775807 := by rw [sr, sz]; omega
    have c1 := cat_run (zrs r) (decText Y k) q1
    obtain ⟨X2, hX2⟩ : ∃ X2, X2 = zrs r ++ decText Y k := ⟨_, rfl⟩
    obtain ⟨x2, hx2⟩ : ∃ x2, x2 = r + k := ⟨_, rfl⟩
    have sx : X2.size = x2 := by rw [hX2, ByteArray.size_append, sr, sz, hx2]
    rw [← hX2] at HV c1
    obtain ⟨d, hd⟩ : ∃ d, d = x2 - m := ⟨_, rfl⟩
    have hdx : d ≤ x2 := by omega
    have u1 : ∀ w : World, (Instr.slice 9 (.string X2) none (some (.int .i64 (d : Int))) none).run Tryz.prog w = .ok (.string (X2.extract 0 d)) w := fun w => by
      rw [run_slice_string_to_if _ _ _ _ _ (by kernel_rfl), if_pos ⟨by omega, by rw [sx]; omega⟩]
      rfl
    have u2 : ∀ w : World, (Instr.slice 9 (.string X2) (some (.int .i64 (d : Int))) none none).run Tryz.prog w = .ok (.string (X2.extract d x2)) w := fun w => by
      rw [run_slice_string_from_if _ _ _ _ _ (by kernel_rfl), if_pos ⟨by omega, by rw [sx]; omega⟩, sx]
      rfl
    obtain ⟨s1, hs1⟩ : ∃ s1, s1 = X2.extract 0 d := ⟨_, rfl⟩
    obtain ⟨s2, hs2⟩ : ∃ s2, s2 = X2.extract d x2 := ⟨_, rfl⟩
    rw [← hs1] at u1
    rw [← hs2] at u2
    have se1 : s1.size ≤ 10000 := by rw [hs1, ByteArray.size_extract]; omega
    have se2 : s2.size ≤ 10000 := by rw [hs2, ByteArray.size_extract]; omega
    obtain ⟨s3, hs3⟩ : ∃ s3, s3 = s1 ++ ⟨#[46]⟩ := ⟨_, rfl⟩
    have se3 : s3.size ≤ 10001 := by rw [hs3, ByteArray.size_append]; show _ + 1 ≤ _; omega
    have c2 := cat_run s1 ⟨#[46]⟩ (by show _ + 1 ≤ _; omega)
    rw [← hs3] at c2
    have c3 := cat_run s3 s2 (by omega)
    have p1 : ∀ w : World, (Op.stringOp .add (zrs r) (decText Y k)).run Tryz.prog w = .ok (.string X2) w := fun w => by rw [hX2]; exact run_string_add_sum w _ _ q1
    have p2 : ∀ w : World, (Op.stringOp .add s1 ⟨#[46]⟩).run Tryz.prog w = .ok (.string s3) w := fun w => by rw [hs3]; exact run_string_add_sum w _ _ (by show _ + 1 ≤ _; omega)
    have p3 : ∀ w : World, (Op.stringOp .add s3 s2).run Tryz.prog w = .ok (.string (s3 ++ s2)) w := fun w => run_string_add_sum w _ _ (by omega)
    have HV2 : Hid (decimalT p q m k = s3 ++ s2) := by
      show _ = _
      rw [HV.out, ptT, sx, ← hd, hs3, hs1, hs2]
    by_cases hkm : k ≤ m
    · have hr1 : 0 < r := by omega
      obtain ⟨b1, b2, b6⟩ := dec_rules (m := m) (k := k) hr hx2 hd hm' kl
      have b3 : wrap64 ((m : Int) + 1 - (k : Int)) = (r : Int) := b2 hkm
      have HA : Hid (∀ w : World, Calls Tryz.prog 72 #[.string ⟨#[48]⟩, .int .i64 (r : Int)] w fun e w' => e = .returned (.string (zrs r)) ∧ Below w.heap.size w w') := HR.out
      clear b2 hkm
      clear HV HD hX2 hd hr se1 se2 se3 hm' k0 kl h0 hs1 hs2 hs3 hx2 hdx q1 sr
      go_wp2_with fail
      refine (HA.out _).mono ?_
      rintro e w4 ⟨rfl, hb4⟩
      have S4 : Hid _ := S3.out.go hb4
      clear hb4 S3
      go_wp2_with fail
      go_quiet (fail)
      go_wp2_with fail
      exact bodyPost_ret (v := .tuple #[.string (s3 ++ s2), .bool true]) (by simp [results, Tryz.results26, go_sem]) rfl ⟨by rw [HV2.out], bel_drewN S4.out.bel nq⟩
    · obtain ⟨b1, b2, b6⟩ := dec_rules (m := m) (k := k) hr hx2 hd hm' kl
      obtain ⟨y, hy⟩ : ∃ y : Int, y = (m : Int) + 1 - (k : Int) := ⟨_, rfl⟩
      have hy0 : ¬ 0 < y := by clear b1 b2 b6; omega
      have b3 : wrap64 ((m : Int) + 1 - (k : Int)) = y := by rw [hy]; exact IntWalk.wrap64_in _ ⟨by clear b1 b2 b6; omega, by clear b1 b2 b6; omega⟩
      have hr0 : r = 0 := by clear b1 b2 b6 b3; omega
      have HA : Hid (∀ w : World, Calls Tryz.prog 72 #[.string ⟨#[48]⟩, .int .i64 0] w fun e w' => e = .returned (.string (zrs r)) ∧ Below w.heap.size w w') := by
        have h9 := HR.out
        rw [hr0] at h9
        rw [hr0]
        exact h9
      clear b2 hkm hy hr0
      clear HV HD hX2 hd hr se1 se2 se3 hm' k0 kl h0 hs1 hs2 hs3 hx2 hdx q1 sr
      go_wp2_with fail
      refine (HA.out _).mono ?_
      rintro e w4 ⟨rfl, hb4⟩
      have S4 : Hid _ := S3.out.go hb4
      clear hb4 S3
      go_wp2_with fail
      go_quiet (fail)
      go_wp2_with fail
      exact bodyPost_ret (v := .tuple #[.string (s3 ++ s2), .bool true]) (by simp [results, Tryz.results26, go_sem]) rfl ⟨by rw [HV2.out], bel_drewN S4.out.bel nq⟩
end Go.Proofs.YtmiiaomdenpceaaGreatDoor

