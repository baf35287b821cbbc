/- Contracts of the program's functions, part 19: own work, joined in build order. -/
import Derived.Test.YtmiiaomdenpceaaGreatDoorJ18
namespace Go.Proofs.YtmiiaomdenpceaaGreatDoor
open Go.RowKit
set_option maxRecDepth 100000
set_option linter.unusedVariables false
/-- How far two numbers are from one another. -/
def dst (a b : Nat) : Nat := (a - b) + (b - a)
theorem dst_ge {a b : Nat} (h : b ≤ a) : dst a b = a - b := by unfold dst; omega
theorem dst_lt {a b : Nat} (h : a < b) : dst a b = b - a := by unfold dst; omega
set_option maxHeartbeats 1000000 in
theorem gap3_ge (v u : Value) (p q x y A B : Nat) (w : World) (h : Rt w v p q) (k : Rt w u x y) (hT : Tab w) (hS : ∀ v u w, Rt w v p q → Rt w u x y → Tab w → Calls Tryz.prog 78 #[v, u] w (MakesRB w A B true)) :
    Calls Tryz.prog 31 #[v, u] w (MakesR w A B) := by
  have hv1' := h
  obtain ⟨a1, n1, c1, d1, m1, g1, ev1, _, _⟩ := hv1'.raw
  subst ev1
  have hv2' := k
  obtain ⟨a2, n2, c2, d2, m2, g2, ev2, _, _⟩ := hv2'.raw
  subst ev2
  have S0 : Hid _ := (((((sy_start w).addF h).addF k).box (.slice a1 n1 c1) (.slice d1 m1 g1) 28 _ rfl).box (.slice a2 n2 c2) (.slice d2 m2 g2) 28 _ rfl).box (.slice none 0 0) (.slice none 0 0) 28 _ rfl
  simp only [World.size_alloc] at S0
  have HH : Hid (Tab w ∧ ∀ v u w, Rt w v p q → Rt w u x y → Tab w → Calls Tryz.prog 78 #[v, u] w (MakesRB w A B true)) := ⟨hT, hS⟩
  clear h k hv1' hv2' hT hS
  go_enter Tryz.func31, Tryz.ntmps31
  go_wp2_with fail
  obtain ⟨r, hr⟩ : ∃ r, r = w.heap.size := ⟨_, rfl⟩
  obtain ⟨w0, hw0⟩ : ∃ w0, w0 = ((w.alloc (.cells #[.slice a1 n1 c1, .slice d1 m1 g1] 28)).alloc (.cells #[.slice a2 n2 c2, .slice d2 m2 g2] 28)).alloc (.cells #[.slice none 0 0, .slice none 0 0] 28) := ⟨_, rfl⟩
  rw [← hw0, ← hr] at S0
  rw [← hw0, ← hr]
  clear hw0 hr
  refine (HH.out.2 _ _ _ (S0.out.fr (.agg #[.slice a1 n1 c1, .slice d1 m1 g1]) p q) (S0.out.fr (.agg #[.slice a2 n2 c2, .slice d2 m2 g2]) x y) (HH.out.1.go S0.out.bel)).mono ?_
  rintro e w3 ⟨v3, rfl, hv3, hb3⟩
  have hv3' := hv3
  obtain ⟨a3, n3, c3, d3, m3, g3, ev3, _, _⟩ := hv3'.raw
  subst ev3
  have S3 : Hid _ := ((S0.out.go hb3).addF hv3).go (w' := w3.alloc (.cells #[.slice a3 n3 c3, .slice d3 m3 g3] 28)) (bel_al (bel_refl _))
  have q0 : (w3.alloc (.cells #[.slice a3 n3 c3, .slice d3 m3 g3] 28)).cell? ⟨w3.heap.size, 0, none⟩ = some (.slice a3 n3 c3) := by simp [go_sem]
  have q1 : (w3.alloc (.cells #[.slice a3 n3 c3, .slice d3 m3 g3] 28)).cell? ⟨w3.heap.size, 1, none⟩ = some (.slice d3 m3 g3) := by simp [go_sem]
  clear hv3 hv3' hb3 S0
  have x0 := S3.out.cel (r + 1 + 1) 0 (.slice none 0 0)
  have x1 := S3.out.cel (r + 1 + 1) 1 (.slice none 0 0)
  have f0 := S3.out.fz (r + 1 + 1) 0
  have f1 := S3.out.fz (r + 1 + 1) 1
  have Z : Hid _ := rat_put (w0 := w) (v := .slice a3 n3 c3) (u := .slice d3 m3 g3) x0 x1 (S3.out.fr (.agg #[.slice a3 n3 c3, .slice d3 m3 g3]) A B) S3.out.bel (S3.out.lo (r + 1 + 1))
  go_wp2_with fail
  exact bodyPost_ret (v := .agg #[.slice a3 n3 c3, .slice d3 m3 g3]) (by simp [results, Tryz.results31, go_sem, x0, x1]) rfl ⟨_, rfl, Z.out.1, Z.out.2⟩
set_option maxHeartbeats 1000000 in
theorem gap3_lt (v u : Value) (p q x y A B : Nat) (w : World) (h : Rt w v p q) (k : Rt w u x y) (hT : Tab w) (hN : ∀ v u w, Rt w v p q → Rt w u x y → Tab w → Calls Tryz.prog 78 #[v, u] w (MakesRB w 0 1 false)) (hS : ∀ v u w, Rt w v x y → Rt w u p q → Tab w → Calls Tryz.prog 78 #[v, u] w (MakesRB w A B true)) :
    Calls Tryz.prog 31 #[v, u] w (MakesR w A B) := by
  have hv1' := h
  obtain ⟨a1, n1, c1, d1, m1, g1, ev1, _, _⟩ := hv1'.raw
  subst ev1
  have hv2' := k
  obtain ⟨a2, n2, c2, d2, m2, g2, ev2, _, _⟩ := hv2'.raw
  subst ev2
  have S0 : Hid _ := (((((sy_start w).addF h).addF k).box (.slice a1 n1 c1) (.slice d1 m1 g1) 28 _ rfl).box (.slice a2 n2 c2) (.slice d2 m2 g2) 28 _ rfl).box (.slice none 0 0) (.slice none 0 0) 28 _ rfl
  simp only [World.size_alloc] at S0
  have HH : Hid (Tab w ∧ (∀ v u w, Rt w v p q → Rt w u x y → Tab w → Calls Tryz.prog 78 #[v, u] w (MakesRB w 0 1 false)) ∧ ∀ v u w, Rt w v x y → Rt w u p q → Tab w → Calls Tryz.prog 78 #[v, u] w (MakesRB w A B true)) := ⟨hT, hN, hS⟩
  clear h k hv1' hv2' hT hS hN
  go_enter Tryz.func31, Tryz.ntmps31
  go_wp2_with fail
  obtain ⟨r, hr⟩ : ∃ r, r = w.heap.size := ⟨_, rfl⟩
  obtain ⟨w0, hw0⟩ : ∃ w0, w0 = ((w.alloc (.cells #[.slice a1 n1 c1, .slice d1 m1 g1] 28)).alloc (.cells #[.slice a2 n2 c2, .slice d2 m2 g2] 28)).alloc (.cells #[.slice none 0 0, .slice none 0 0] 28) := ⟨_, rfl⟩
  rw [← hw0, ← hr] at S0
  rw [← hw0, ← hr]
  clear hw0 hr
  refine (HH.out.2.1 _ _ _ (S0.out.fr (.agg #[.slice a1 n1 c1, .slice d1 m1 g1]) p q) (S0.out.fr (.agg #[.slice a2 n2 c2, .slice d2 m2 g2]) x y) (HH.out.1.go S0.out.bel)).mono ?_
  rintro e w3 ⟨v3, rfl, hv3, hb3⟩
  have hv3' := hv3
  obtain ⟨a3, n3, c3, d3, m3, g3, ev3, _, _⟩ := hv3'.raw
  subst ev3
  have HL : Hid (r + 1 + 1 < w3.heap.size) := (S0.out.go hb3).lt (r + 1 + 1)
  have S3 : Hid _ := ((S0.out.go hb3).addF hv3).box (.slice a3 n3 c3) (.slice d3 m3 g3) 28 _ rfl
  clear hv3 hv3' hb3 S0
  have y0 := S3.out.cel (r + 1) 0 (.slice a2 n2 c2)
  have y1 := S3.out.cel (r + 1) 1 (.slice d2 m2 g2)
  have y2 := S3.out.cel r 0 (.slice a1 n1 c1)
  have y3 := S3.out.cel r 1 (.slice d1 m1 g1)
  go_wp2_with fail
  obtain ⟨g, hg⟩ : ∃ g, g = w3.heap.size := ⟨_, rfl⟩
  obtain ⟨w4, hw4⟩ : ∃ w4, w4 = w3.alloc (.cells #[.slice a3 n3 c3, .slice d3 m3 g3] 28) := ⟨_, rfl⟩
  rw [← hw4, ← hg] at S3
  rw [← hw4, ← hg]
  have HG : Hid (r + 1 + 1 < g) := by rw [hg]; exact HL
  clear hw4 hg HL y0 y1 y2 y3
  refine (HH.out.2.2 _ _ _ (S3.out.fr (.agg #[.slice a2 n2 c2, .slice d2 m2 g2]) x y) (S3.out.fr (.agg #[.slice a1 n1 c1, .slice d1 m1 g1]) p q) (HH.out.1.go S3.out.bel)).mono ?_
  rintro e w5 ⟨v5, rfl, hv5, hb5⟩
  have hv5' := hv5
  obtain ⟨a5, n5, c5, d5, m5, g5, ev5, _, _⟩ := hv5'.raw
  subst ev5
  have S5 : Hid _ := (S3.out.go hb5).addF hv5
  clear hv5 hv5' hb5 S3
  have q0 := S5.out.cel g 0 (.slice a3 n3 c3)
  have q1 := S5.out.cel g 1 (.slice d3 m3 g3)
  have f0 := S5.out.fz g 0
  have f1 := S5.out.fz g 1
  have S6 : Hid _ := ((S5.out.set (b := g) (i := 0) q0 (S5.out.lo g) [(r + 1 + 1, 0, .slice none 0 0), (r + 1 + 1, 1, .slice none 0 0)] (by have := HG.out; simp; omega) (.slice a5 n5 c5)).set (b := g) (i := 1) (show (w5.setCell ⟨g, 0, none⟩ (.slice a5 n5 c5)).cell? ⟨g, 1, none⟩ = some (.slice d3 m3 g3) by simp [go_sem, q1]) (S5.out.lo g) [(r + 1 + 1, 0, .slice none 0 0), (r + 1 + 1, 1, .slice none 0 0)] (by have := HG.out; simp; omega) (.slice d5 m5 g5))
  have e0 : ((w5.setCell ⟨g, 0, none⟩ (.slice a5 n5 c5)).setCell ⟨g, 1, none⟩ (.slice d5 m5 g5)).cell? ⟨g, 0, none⟩ = some (.slice a5 n5 c5) := by simp [go_sem, q0]
  have e1 : ((w5.setCell ⟨g, 0, none⟩ (.slice a5 n5 c5)).setCell ⟨g, 1, none⟩ (.slice d5 m5 g5)).cell? ⟨g, 1, none⟩ = some (.slice d5 m5 g5) := by simp [go_sem, q1]
  have x0 := S6.out.cel (r + 1 + 1) 0 (.slice none 0 0)
  have x1 := S6.out.cel (r + 1 + 1) 1 (.slice none 0 0)
  have j0 := S6.out.fz (r + 1 + 1) 0
  have j1 := S6.out.fz (r + 1 + 1) 1
  have Z : Hid _ := rat_put (w0 := w) (v := .slice a5 n5 c5) (u := .slice d5 m5 g5) x0 x1 (S6.out.fr (.agg #[.slice a5 n5 c5, .slice d5 m5 g5]) A B) S6.out.bel (S6.out.lo (r + 1 + 1))
  go_wp2_with fail
  exact bodyPost_ret (v := .agg #[.slice a5 n5 c5, .slice d5 m5 g5]) (by simp [results, Tryz.results31, go_sem, x0, x1]) rfl ⟨_, rfl, Z.out.1, Z.out.2⟩
/-- What gap tells of two fractions. -/
theorem Fc.gap {p q N1 D1 n x y N2 D2 m : Nat} (h : Fc p q N1 D1 n) (k : Fc x y N2 D2 m) (hn : n ≤ 90) (hm : m ≤ 90) : ∃ A B, Fc A B (dst (N1 * D2) (N2 * D1)) (D1 * D2) (n + m) ∧ ∀ v u w, Rt w v p q → Rt w u x y → Tab w → Calls Tryz.prog 31 #[v, u] w (MakesR w A B) := by
  by_cases hle : N2 * D1 ≤ N1 * D2
  · obtain ⟨A, B, f, c⟩ := h.sub k hn hm hle
    exact ⟨A, B, by rw [dst_ge hle]; exact f, fun v u w e1 e2 e3 => gap3_ge v u p q x y A B w e1 e2 e3 c⟩
  · have hlt : N1 * D2 < N2 * D1 := by omega
    obtain ⟨A, B, f, c⟩ := k.sub h hm hn (by omega)
    exact ⟨A, B, by rw [dst_lt hlt, Nat.mul_comm D1 D2, Nat.add_comm n m]; exact f, fun v u w e1 e2 e3 => gap3_lt v u p q x y A B w e1 e2 e3 (h.sub_no k hn hm hlt) c⟩
set_option maxHeartbeats 1000000 in
theorem value3_zero (u x0 E m t s : Nat) (w : World) (h : Flk u x0 E m t s) (hu : u < 9218868437227405312) (hE : E < 2047) (h3 : E = 0) (hm5 : m < 4503599627370496) (hT : Tab w) (hN : fN u = m * 2 ^ 0) (hDD : ∃ d, d = 1074 ∧ fD u = 2 ^ d) :
    Calls Tryz.prog 32 #[.int .u64 (u : Int)] w (MakesR w (fN u / Nat.gcd (fN u) (fD u)) (fD u / Nat.gcd (fN u) (fD u))) := by
  have RR : Hid (Frl u x0 E m t s) := h.rules
  have HT : Hid (Tab w) := hT
  obtain ⟨d, hd, hD⟩ := hDD
  rw [Nat.pow_zero, Nat.mul_one] at hN
  have HN : Hid (fN u = m ∧ fD u = 2 ^ d ∧ RS (m) ∧ RS (2 ^ d) ∧ 0 < 2 ^ d ∧ m < 18446744073709551616 ∧ d ≤ 16777216) := ⟨hN, hD, by rw [← hN]; exact ⟨P_up (fN_lt hu) (by omega)⟩, by rw [← hD]; exact ⟨P_up (fD_lt u) (by omega)⟩, by rw [← hD]; exact fD_pos u, by omega, by omega⟩
  have e0 : (E : Int) = 0 := by omega
  have HED : Hid ((1074 : Int) = (d : Int)) := by show _ = _; omega
  rw [HN.out.1, HN.out.2.1]
  clear h hu hE hN hD hT hd hm5 h3
  obtain ⟨r2, r3, r5, r6, r7, r8, r9⟩ := RR.out
  have S1 : Hid _ := (sy_start w).box (.slice none 0 0) (.slice none 0 0) 28 _ rfl
  go_enter Tryz.func32, Tryz.ntmps32
  go_wp2_with fail
  refine (of_any m _ HN.out.2.2.2.2.2.1).mono ?_
  rintro e w2 ⟨v2, rfl, hv2, hb2⟩
  obtain ⟨a1, n1, c1, rfl⟩ := hv2.isAgg
  have S2 : Hid _ := (S1.out.go hb2).addN hv2
  clear hv2 hb2 S1
  go_wp2_with fail
  refine (of_any 1 _ (by omega)).mono ?_
  rintro e w3 ⟨v3, rfl, hv3, hb3⟩
  obtain ⟨a2, n2, c2, rfl⟩ := hv3.isAgg
  have HL : Hid (w.heap.size < w3.heap.size) := (S2.out.go hb3).lt w.heap.size
  have S3 : Hid _ := (((S2.out.go hb3).addN hv3).box1 (.slice a1 n1 c1) 26 _ rfl).box1 (.slice a2 n2 c2) 26 _ rfl
  simp only [World.size_alloc] at S3
  clear hv3 hb3 S2
  go_wp2_with fail
  obtain ⟨g, hg⟩ : ∃ g, g = w3.heap.size := ⟨_, rfl⟩
  obtain ⟨b, hb⟩ : ∃ b, b = w.heap.size := ⟨_, rfl⟩
  obtain ⟨w4, hw4⟩ : ∃ w4, w4 = (w3.alloc (.cells #[.slice a1 n1 c1] 26)).alloc (.cells #[.slice a2 n2 c2] 26) := ⟨_, rfl⟩
  rw [← hw4, ← hg, ← hb] at S3
  rw [← hw4, ← hg, ← hb]
  have HG : Hid (b < g) := by rw [hg, hb]; exact HL
  clear hw4 hg hb HL
  rw [HED.out]
  refine (left_yes _ 1 d _ (S3.out.at (.agg #[.slice a2 n2 c2]) 1) (rs_word (by have := HN.out.2.2.2.2.2.1; omega)).fits HN.out.2.2.2.2.2.2).mono ?_
  rintro e w5 ⟨v5, rfl, hv5, hb5⟩
  obtain ⟨a5, n5', c5, rfl⟩ := hv5.isAgg
  have S5 : Hid _ := (S3.out.go hb5).addN hv5
  clear hv5 hb5 S3
  have k1 := S5.out.cel (g + 1) 0 (.slice a2 n2 c2)
  have f1 := S5.out.fz (g + 1) 0
  have S6 : Hid _ := (S5.out.set (b := g + 1) (i := 0) k1 (S5.out.lo (g + 1)) [(g, 0, .slice a1 n1 c1), (b, 0, .slice none 0 0), (b, 1, .slice none 0 0)] (by have := HG.out; simp; omega) (.slice a5 n5' c5)).addC (b := g + 1) (i := 0) (v := .slice a5 n5' c5) (by simp [go_sem, k1])
  have k3 : (w5.setCell ⟨g + 1, 0, none⟩ (.slice a5 n5' c5)).cell? ⟨g, 0, none⟩ = some (.slice a1 n1 c1) := S6.out.cel (g) 0 (.slice a1 n1 c1)
  have k4 : (w5.setCell ⟨g + 1, 0, none⟩ (.slice a5 n5' c5)).cell? ⟨g + 1, 0, none⟩ = some (.slice a5 n5' c5) := S6.out.cel (g + 1) 0 (.slice a5 n5' c5)
  go_wp2_with fail
  obtain ⟨w6, hw6⟩ : ∃ w6, w6 = w5.setCell ⟨g + 1, 0, none⟩ (.slice a5 n5' c5) := ⟨_, rfl⟩
  rw [← hw6] at S6
  rw [← hw6]
  clear hw6 k1 k3 k4 f1 S5
  have NV := S6.out.at (.agg #[.slice a5 n5' c5]) (1 * 2 ^ d)
  rw [Nat.one_mul] at NV
  have HNV : Hid _ := NV
  clear NV
  refine (from_any _ _ (m) (2 ^ d) _ (S6.out.at (.agg #[.slice a1 n1 c1]) m) (HNV.out) HN.out.2.2.1 HN.out.2.2.2.1 HN.out.2.2.2.2.1 (HT.out.go S6.out.bel)).mono ?_
  rintro e w7 ⟨v7, rfl, hv7, hb7⟩
  have hv7' := hv7
  obtain ⟨a7, n7, c7, d7, m7, g7, ev7, _, _⟩ := hv7'.raw
  subst ev7
  have S7 : Hid _ := ((S6.out.go hb7).addF hv7).go (w' := w7.alloc (.cells #[.slice a7 n7 c7, .slice d7 m7 g7] 28)) (bel_al (bel_refl _))
  have q0 : (w7.alloc (.cells #[.slice a7 n7 c7, .slice d7 m7 g7] 28)).cell? ⟨w7.heap.size, 0, none⟩ = some (.slice a7 n7 c7) := by simp [go_sem]
  have q1' : (w7.alloc (.cells #[.slice a7 n7 c7, .slice d7 m7 g7] 28)).cell? ⟨w7.heap.size, 1, none⟩ = some (.slice d7 m7 g7) := by simp [go_sem]
  clear hv7 hv7' hb7 S6
  have z0 := S7.out.cel b 0 (.slice none 0 0)
  have z1 := S7.out.cel b 1 (.slice none 0 0)
  have y0 := S7.out.fz b 0
  have y1 := S7.out.fz b 1
  have Z : Hid _ := rat_put (w0 := w) (v := .slice a7 n7 c7) (u := .slice d7 m7 g7) z0 z1 (S7.out.fr (.agg #[.slice a7 n7 c7, .slice d7 m7 g7]) ((m) / Nat.gcd (m) (2 ^ d)) ((2 ^ d) / Nat.gcd (m) (2 ^ d))) S7.out.bel (S7.out.lo b)
  go_wp2_with fail
  exact bodyPost_ret (v := .agg #[.slice a7 n7 c7, .slice d7 m7 g7]) (by simp [results, Tryz.results32, go_sem, z0, z1]) rfl ⟨_, rfl, Z.out.1, Z.out.2⟩
set_option maxHeartbeats 1000000 in
theorem value3_low (u x0 E m t s : Nat) (mm : Nat) (w : World) (h : Flk u x0 E m t s) (hu : u < 9218868437227405312) (hE : E < 2047) (h3 : 0 < E) (h4 : E - 1 < 1074) (hm : m + 4503599627370496 = mm) (hm5 : m < 4503599627370496) (hT : Tab w) (hN : fN u = mm * 2 ^ 0) (hD : fD u = 2 ^ (1074 - (E - 1))) :
    Calls Tryz.prog 32 #[.int .u64 (u : Int)] w (MakesR w (fN u / Nat.gcd (fN u) (fD u)) (fD u / Nat.gcd (fN u) (fD u))) := by
  have RR : Hid (Frl u x0 E m t s) := h.rules
  have HT : Hid (Tab w) := hT
  obtain ⟨d, hd⟩ : ∃ d, d = 1074 - (E - 1) := ⟨_, rfl⟩
  rw [← hd] at hD
  rw [Nat.pow_zero, Nat.mul_one] at hN
  have HN : Hid (fN u = mm ∧ fD u = 2 ^ d ∧ RS (mm) ∧ RS (2 ^ d) ∧ 0 < 2 ^ d ∧ mm < 18446744073709551616 ∧ d ≤ 16777216) := ⟨hN, hD, by rw [← hN]; exact ⟨P_up (fN_lt hu) (by omega)⟩, by rw [← hD]; exact ⟨P_up (fD_lt u) (by omega)⟩, by rw [← hD]; exact fD_pos u, by omega, by omega⟩
  obtain ⟨f, hf⟩ : ∃ f, f = E - 1 := ⟨_, rfl⟩
  have p4 : 0 < E := h3
  have q4 : IntKind.u64.wrap ((m : Int) + 4503599627370496) = (mm : Int) := by rw [IntKind.wrap_u64]; omega
  have HED : Hid ((1074 : Int) - (f : Int) = (d : Int)) := by show _ = _; omega
  have n5 : ¬ 1074 ≤ f := by omega
  have n6 : decide ((1074 : Int) ≤ (f : Int)) = false := decide_eq_false (by omega)
  obtain ⟨q1, q2⟩ : wrap64 ((E : Int) - 1) = (f : Int) ∧ wrap64 (1074 - (f : Int)) = (d : Int) := ⟨w64_at (by omega) (by omega) (by omega), w64_at (by omega) (by omega) (by omega)⟩
  rw [HN.out.1, HN.out.2.1]
  clear h hu hE hN hD hT hd hm5 h3 h4 hm hf
  obtain ⟨r2, r3, r5, r6, r7, r8, r9⟩ := RR.out
  have S1 : Hid _ := (sy_start w).box (.slice none 0 0) (.slice none 0 0) 28 _ rfl
  go_enter Tryz.func32, Tryz.ntmps32
  go_wp2_with fail
  refine (of_any mm _ HN.out.2.2.2.2.2.1).mono ?_
  rintro e w2 ⟨v2, rfl, hv2, hb2⟩
  obtain ⟨a1, n1, c1, rfl⟩ := hv2.isAgg
  have S2 : Hid _ := (S1.out.go hb2).addN hv2
  clear hv2 hb2 S1
  go_wp2_with fail
  refine (of_any 1 _ (by omega)).mono ?_
  rintro e w3 ⟨v3, rfl, hv3, hb3⟩
  obtain ⟨a2, n2, c2, rfl⟩ := hv3.isAgg
  have HL : Hid (w.heap.size < w3.heap.size) := (S2.out.go hb3).lt w.heap.size
  have S3 : Hid _ := (((S2.out.go hb3).addN hv3).box1 (.slice a1 n1 c1) 26 _ rfl).box1 (.slice a2 n2 c2) 26 _ rfl
  simp only [World.size_alloc] at S3
  clear hv3 hb3 S2
  go_wp2_with fail
  obtain ⟨g, hg⟩ : ∃ g, g = w3.heap.size := ⟨_, rfl⟩
  obtain ⟨b, hb⟩ : ∃ b, b = w.heap.size := ⟨_, rfl⟩
  obtain ⟨w4, hw4⟩ : ∃ w4, w4 = (w3.alloc (.cells #[.slice a1 n1 c1] 26)).alloc (.cells #[.slice a2 n2 c2] 26) := ⟨_, rfl⟩
  rw [← hw4, ← hg, ← hb] at S3
  rw [← hw4, ← hg, ← hb]
  have HG : Hid (b < g) := by rw [hg, hb]; exact HL
  clear hw4 hg hb HL
  try rw [HED.out]
  refine (left_yes _ 1 d _ (S3.out.at (.agg #[.slice a2 n2 c2]) 1) (rs_word (by have := HN.out.2.2.2.2.2.1; omega)).fits HN.out.2.2.2.2.2.2).mono ?_
  rintro e w5 ⟨v5, rfl, hv5, hb5⟩
  obtain ⟨a5, n5', c5, rfl⟩ := hv5.isAgg
  have S5 : Hid _ := (S3.out.go hb5).addN hv5
  clear hv5 hb5 S3
  have k1 := S5.out.cel (g + 1) 0 (.slice a2 n2 c2)
  have f1 := S5.out.fz (g + 1) 0
  have S6 : Hid _ := (S5.out.set (b := g + 1) (i := 0) k1 (S5.out.lo (g + 1)) [(g, 0, .slice a1 n1 c1), (b, 0, .slice none 0 0), (b, 1, .slice none 0 0)] (by have := HG.out; simp; omega) (.slice a5 n5' c5)).addC (b := g + 1) (i := 0) (v := .slice a5 n5' c5) (by simp [go_sem, k1])
  have k3 : (w5.setCell ⟨g + 1, 0, none⟩ (.slice a5 n5' c5)).cell? ⟨g, 0, none⟩ = some (.slice a1 n1 c1) := S6.out.cel (g) 0 (.slice a1 n1 c1)
  have k4 : (w5.setCell ⟨g + 1, 0, none⟩ (.slice a5 n5' c5)).cell? ⟨g + 1, 0, none⟩ = some (.slice a5 n5' c5) := S6.out.cel (g + 1) 0 (.slice a5 n5' c5)
  go_wp2_with fail
  obtain ⟨w6, hw6⟩ : ∃ w6, w6 = w5.setCell ⟨g + 1, 0, none⟩ (.slice a5 n5' c5) := ⟨_, rfl⟩
  rw [← hw6] at S6
  rw [← hw6]
  clear hw6 k1 k3 k4 f1 S5
  have NV := S6.out.at (.agg #[.slice a5 n5' c5]) (1 * 2 ^ d)
  rw [Nat.one_mul] at NV
  have HNV : Hid _ := NV
  clear NV
  refine (from_any _ _ (mm) (2 ^ d) _ (S6.out.at (.agg #[.slice a1 n1 c1]) mm) (HNV.out) HN.out.2.2.1 HN.out.2.2.2.1 HN.out.2.2.2.2.1 (HT.out.go S6.out.bel)).mono ?_
  rintro e w7 ⟨v7, rfl, hv7, hb7⟩
  have hv7' := hv7
  obtain ⟨a7, n7, c7, d7, m7, g7, ev7, _, _⟩ := hv7'.raw
  subst ev7
  have S7 : Hid _ := ((S6.out.go hb7).addF hv7).go (w' := w7.alloc (.cells #[.slice a7 n7 c7, .slice d7 m7 g7] 28)) (bel_al (bel_refl _))
  have q0 : (w7.alloc (.cells #[.slice a7 n7 c7, .slice d7 m7 g7] 28)).cell? ⟨w7.heap.size, 0, none⟩ = some (.slice a7 n7 c7) := by simp [go_sem]
  have q1' : (w7.alloc (.cells #[.slice a7 n7 c7, .slice d7 m7 g7] 28)).cell? ⟨w7.heap.size, 1, none⟩ = some (.slice d7 m7 g7) := by simp [go_sem]
  clear hv7 hv7' hb7 S6
  have z0 := S7.out.cel b 0 (.slice none 0 0)
  have z1 := S7.out.cel b 1 (.slice none 0 0)
  have y0 := S7.out.fz b 0
  have y1 := S7.out.fz b 1
  have Z : Hid _ := rat_put (w0 := w) (v := .slice a7 n7 c7) (u := .slice d7 m7 g7) z0 z1 (S7.out.fr (.agg #[.slice a7 n7 c7, .slice d7 m7 g7]) ((mm) / Nat.gcd (mm) (2 ^ d)) ((2 ^ d) / Nat.gcd (mm) (2 ^ d))) S7.out.bel (S7.out.lo b)
  go_wp2_with fail
  exact bodyPost_ret (v := .agg #[.slice a7 n7 c7, .slice d7 m7 g7]) (by simp [results, Tryz.results32, go_sem, z0, z1]) rfl ⟨_, rfl, Z.out.1, Z.out.2⟩
set_option maxHeartbeats 1000000 in
theorem value3_high (u x0 E m t s : Nat) (mm : Nat) (w : World) (h : Flk u x0 E m t s) (hu : u < 9218868437227405312) (hE : E < 2047) (h3 : 0 < E) (h4 : ¬ E - 1 < 1074) (hm : m + 4503599627370496 = mm) (hm5 : m < 4503599627370496) (hT : Tab w) (hN : fN u = mm * 2 ^ (E - 1 - 1074)) (hD : fD u = 2 ^ 0) :
    Calls Tryz.prog 32 #[.int .u64 (u : Int)] w (MakesR w (fN u / Nat.gcd (fN u) (fD u)) (fD u / Nat.gcd (fN u) (fD u))) := by
  have RR : Hid (Frl u x0 E m t s) := h.rules
  have HT : Hid (Tab w) := hT
  obtain ⟨d, hd⟩ : ∃ d, d = E - 1 - 1074 := ⟨_, rfl⟩
  rw [← hd] at hN
  rw [Nat.pow_zero] at hD
  have HN : Hid (fN u = mm * 2 ^ d ∧ fD u = 1 ∧ RS (mm * 2 ^ d) ∧ RS (1) ∧ 0 < 1 ∧ mm < 18446744073709551616 ∧ d ≤ 16777216) := ⟨hN, hD, by rw [← hN]; exact ⟨P_up (fN_lt hu) (by omega)⟩, by rw [← hD]; exact ⟨P_up (fD_lt u) (by omega)⟩, by rw [← hD]; exact fD_pos u, by omega, by omega⟩
  obtain ⟨f, hf⟩ : ∃ f, f = E - 1 := ⟨_, rfl⟩
  have p4 : 0 < E := h3
  have q4 : IntKind.u64.wrap ((m : Int) + 4503599627370496) = (mm : Int) := by rw [IntKind.wrap_u64]; omega
  have n5 : 1074 ≤ f := by omega
  have n6 : decide ((1074 : Int) ≤ (f : Int)) = true := decide_eq_true (by omega)
  obtain ⟨q1, q2⟩ : wrap64 ((E : Int) - 1) = (f : Int) ∧ wrap64 ((f : Int) - 1074) = (d : Int) := ⟨w64_at (by omega) (by omega) (by omega), w64_at (by omega) (by omega) (by omega)⟩
  rw [HN.out.1, HN.out.2.1]
  clear h hu hE hN hD hT hd hm5 h3 h4 hm hf
  obtain ⟨r2, r3, r5, r6, r7, r8, r9⟩ := RR.out
  have S1 : Hid _ := (sy_start w).box (.slice none 0 0) (.slice none 0 0) 28 _ rfl
  go_enter Tryz.func32, Tryz.ntmps32
  go_wp2_with fail
  refine (of_any mm _ HN.out.2.2.2.2.2.1).mono ?_
  rintro e w2 ⟨v2, rfl, hv2, hb2⟩
  obtain ⟨a1, n1, c1, rfl⟩ := hv2.isAgg
  have S2 : Hid _ := (S1.out.go hb2).addN hv2
  clear hv2 hb2 S1
  go_wp2_with fail
  refine (of_any 1 _ (by omega)).mono ?_
  rintro e w3 ⟨v3, rfl, hv3, hb3⟩
  obtain ⟨a2, n2, c2, rfl⟩ := hv3.isAgg
  have HL : Hid (w.heap.size < w3.heap.size) := (S2.out.go hb3).lt w.heap.size
  have S3 : Hid _ := (((S2.out.go hb3).addN hv3).box1 (.slice a1 n1 c1) 26 _ rfl).box1 (.slice a2 n2 c2) 26 _ rfl
  simp only [World.size_alloc] at S3
  clear hv3 hb3 S2
  go_wp2_with fail
  obtain ⟨g, hg⟩ : ∃ g, g = w3.heap.size := ⟨_, rfl⟩
  obtain ⟨b, hb⟩ : ∃ b, b = w.heap.size := ⟨_, rfl⟩
  obtain ⟨w4, hw4⟩ : ∃ w4, w4 = (w3.alloc (.cells #[.slice a1 n1 c1] 26)).alloc (.cells #[.slice a2 n2 c2] 26) := ⟨_, rfl⟩
  rw [← hw4, ← hg, ← hb] at S3
  rw [← hw4, ← hg, ← hb]
  have HG : Hid (b < g) := by rw [hg, hb]; exact HL
  clear hw4 hg hb HL
  refine (left_yes _ mm d _ (S3.out.at (.agg #[.slice a1 n1 c1]) mm) (rs_word (by have := HN.out.2.2.2.2.2.1; omega)).fits HN.out.2.2.2.2.2.2).mono ?_
  rintro e w5 ⟨v5, rfl, hv5, hb5⟩
  obtain ⟨a5, n5', c5, rfl⟩ := hv5.isAgg
  have S5 : Hid _ := (S3.out.go hb5).addN hv5
  clear hv5 hb5 S3
  have k1 := S5.out.cel (g) 0 (.slice a1 n1 c1)
  have f1 := S5.out.fz (g) 0
  have S6 : Hid _ := (S5.out.set (b := g) (i := 0) k1 (S5.out.lo (g)) [(g + 1, 0, .slice a2 n2 c2), (b, 0, .slice none 0 0), (b, 1, .slice none 0 0)] (by have := HG.out; simp; omega) (.slice a5 n5' c5)).addC (b := g) (i := 0) (v := .slice a5 n5' c5) (by simp [go_sem, k1])
  have k3 : (w5.setCell ⟨g, 0, none⟩ (.slice a5 n5' c5)).cell? ⟨g + 1, 0, none⟩ = some (.slice a2 n2 c2) := S6.out.cel (g + 1) 0 (.slice a2 n2 c2)
  have k4 : (w5.setCell ⟨g, 0, none⟩ (.slice a5 n5' c5)).cell? ⟨g, 0, none⟩ = some (.slice a5 n5' c5) := S6.out.cel (g) 0 (.slice a5 n5' c5)
  go_wp2_with fail
  obtain ⟨w6, hw6⟩ : ∃ w6, w6 = w5.setCell ⟨g, 0, none⟩ (.slice a5 n5' c5) := ⟨_, rfl⟩
  rw [← hw6] at S6
  rw [← hw6]
  clear hw6 k1 k3 k4 f1 S5
  have NV := S6.out.at (.agg #[.slice a5 n5' c5]) (mm * 2 ^ d)
  have HNV : Hid _ := NV
  clear NV
  refine (from_any _ _ (mm * 2 ^ d) (1) _ (HNV.out) (S6.out.at (.agg #[.slice a2 n2 c2]) 1) HN.out.2.2.1 HN.out.2.2.2.1 HN.out.2.2.2.2.1 (HT.out.go S6.out.bel)).mono ?_
  rintro e w7 ⟨v7, rfl, hv7, hb7⟩
  have hv7' := hv7
  obtain ⟨a7, n7, c7, d7, m7, g7, ev7, _, _⟩ := hv7'.raw
  subst ev7
  have S7 : Hid _ := ((S6.out.go hb7).addF hv7).go (w' := w7.alloc (.cells #[.slice a7 n7 c7, .slice d7 m7 g7] 28)) (bel_al (bel_refl _))
  have q0 : (w7.alloc (.cells #[.slice a7 n7 c7, .slice d7 m7 g7] 28)).cell? ⟨w7.heap.size, 0, none⟩ = some (.slice a7 n7 c7) := by simp [go_sem]
  have q1' : (w7.alloc (.cells #[.slice a7 n7 c7, .slice d7 m7 g7] 28)).cell? ⟨w7.heap.size, 1, none⟩ = some (.slice d7 m7 g7) := by simp [go_sem]
  clear hv7 hv7' hb7 S6
  have z0 := S7.out.cel b 0 (.slice none 0 0)
  have z1 := S7.out.cel b 1 (.slice none 0 0)
  have y0 := S7.out.fz b 0
  have y1 := S7.out.fz b 1
  have Z : Hid _ := rat_put (w0 := w) (v := .slice a7 n7 c7) (u := .slice d7 m7 g7) z0 z1 (S7.out.fr (.agg #[.slice a7 n7 c7, .slice d7 m7 g7]) ((mm * 2 ^ d) / Nat.gcd (mm * 2 ^ d) (1)) ((1) / Nat.gcd (mm * 2 ^ d) (1))) S7.out.bel (S7.out.lo b)
  go_wp2_with fail
  exact bodyPost_ret (v := .agg #[.slice a7 n7 c7, .slice d7 m7 g7]) (by simp [results, Tryz.results32, go_sem, z0, z1]) rfl ⟨_, rfl, Z.out.1, Z.out.2⟩
theorem value3_any (u : Nat) (w : World) (hu : u < 9218868437227405312) (hT : Tab w) : Calls Tryz.prog 32 #[.int .u64 (u : Int)] w (MakesR w (fN u / Nat.gcd (fN u) (fD u)) (fD u / Nat.gcd (fN u) (fD u))) := by
  obtain ⟨x0, E, m, t, s, h⟩ := fl_of u (by omega)
  have h' := h
  obtain ⟨h0, hx, hE, hm, ht, hs⟩ := h'
  have hE2 : E = u / 4503599627370496 := by omega
  have hE3 : E < 2047 := by omega
  by_cases c3 : E = 0
  · refine value3_zero u x0 E m t s w h hu hE3 c3 (by omega) hT ?_ ?_
    · unfold fN fm fe
      rw [← hE2, if_pos c3, ← hm, c3]
    · exact ⟨1074 - (E - 1), by omega, by unfold fD fe; rw [← hE2]⟩
  · by_cases c4 : E - 1 < 1074
    · refine value3_low u x0 E m t s _ w h hu hE3 (by omega) c4 rfl (by omega) hT ?_ ?_
      · unfold fN fm fe
        rw [← hE2, if_neg c3, ← hm, show E - 1 - 1074 = 0 by omega]
      · unfold fD fe
        rw [← hE2]
    · refine value3_high u x0 E m t s _ w h hu hE3 (by omega) c4 rfl (by omega) hT ?_ ?_
      · unfold fN fm fe
        rw [← hE2, if_neg c3, ← hm]
      · unfold fD fe
        rw [← hE2, show 1074 - (E - 1) = 0 by omega]
end Go.Proofs.YtmiiaomdenpceaaGreatDoor

namespace Go.Proofs.YtmiiaomdenpceaaGreatDoor
open Go.RowKit
set_option linter.unusedVariables false
/-- Where the nearest whole number lies. -/
theorem near_bounds {p q : Nat} (hq : 0 < q) : 2 * p ≤ 2 * (nearN p q * q) + q ∧ 2 * (nearN p q * q) ≤ 2 * p + q ∧ (2 * p = 2 * (nearN p q * q) + q → nearN p q % 2 = 0) ∧ (2 * (nearN p q * q) = 2 * p + q → nearN p q % 2 = 0) := by
  have d := Nat.div_add_mod p q
  have m := Nat.mod_lt p hq
  unfold nearN
  generalize p / q = f at *
  generalize p % q = r at *
  have e : q * f = f * q := Nat.mul_comm _ _
  generalize hM : f * q = M at *
  have s : (f + 1) * q = M + q := by rw [Nat.add_mul, hM, Nat.one_mul]
  split
  · rw [hM]
    omega
  · split
    · rw [hM]
      omega
    · rw [s]
      omega
/-- No whole number of units, nor the half one below where nothing lies below, is nearer. -/
theorem dst_near {up dn c k : Nat} (hd : 0 < dn) (h1 : 2 * up ≤ 2 * (c * dn) + dn) (h2 : 2 * (c * dn) ≤ 2 * up + dn) (h3 : 2 * up = 2 * (c * dn) + dn → c % 2 = 0) (h4 : 2 * (c * dn) = 2 * up + dn → c % 2 = 0) (hk : k = 2 * c + 2 ∨ k = 2 * c + 4 ∨ k + 2 = 2 * c ∨ (k + 1 = 2 * c ∧ c * dn ≤ up)) :
    dst (2 * up) (2 * (c * dn)) ≤ dst (2 * up) (k * dn) ∧ (dst (2 * up) (2 * (c * dn)) = dst (2 * up) (k * dn) → c % 2 = 0) := by
  generalize hM : c * dn = M at *
  unfold dst
  rcases hk with e | e | e | ⟨e, e2⟩
  · have : k * dn = 2 * M + 2 * dn := by rw [e, ← hM, Nat.add_mul, Nat.mul_assoc]
    omega
  · have : k * dn = 2 * M + 4 * dn := by rw [e, ← hM, Nat.add_mul, Nat.mul_assoc]
    omega
  · have : k * dn + 2 * dn = 2 * M := by rw [← hM, ← Nat.mul_assoc, ← e, Nat.add_mul]
    omega
  · have : k * dn + dn = 2 * M := by rw [← hM, ← Nat.mul_assoc, ← e, Nat.add_mul, Nat.one_mul]
    omega
theorem p2a (U K : Nat) : 2 ^ (U + 1 - K) * 2 ^ (K - U) = 2 * (2 ^ (U - K) * 2 ^ (K - (U + 1))) := by
  rw [← Nat.pow_add, ← Nat.pow_add, ← Nat.pow_succ']
  congr 1
  omega
theorem p2z (c K : Nat) : c * 2 ^ (0 - 1 - K) * 2 ^ (K - 0) = c * 2 ^ (0 - K) * 2 ^ (K - (0 - 1)) := by
  simp
theorem alg_top {g1 h0 g0 h1 : Nat} (k : g1 * h0 = 2 * (g0 * h1)) : 4503599627370496 * g1 * h0 = 9007199254740992 * g0 * h1 := by
  rw [Nat.mul_assoc, k]
  grind
theorem alg_next {a d h1 h0 g1 g0 : Nat} (p : 0 < h1) (t : a * h1 = (4503599627370496 + 1) * g1 * d) (k : g1 * h0 = 2 * (g0 * h1)) : a * (2 * h0) = (2 * 9007199254740992 + 4) * g0 * d := by
  refine Nat.eq_of_mul_eq_mul_right p ?_
  calc a * (2 * h0) * h1 = a * h1 * (2 * h0) := by grind
    _ = (4503599627370496 + 1) * g1 * d * (2 * h0) := by rw [t]
    _ = (4503599627370496 + 1) * (2 * (g1 * h0)) * d := by grind
    _ = (4503599627370496 + 1) * (2 * (2 * (g0 * h1))) * d := by rw [k]
    _ = (2 * 9007199254740992 + 4) * g0 * d * h1 := by grind
theorem alg_back {a d h1 h0 g1 g0 : Nat} (p : 0 < h0) (t : a * h0 = 9007199254740991 * g0 * d) (k : g1 * h0 = 2 * (g0 * h1)) : a * (2 * h1) = (2 * 4503599627370496 - 1) * g1 * d := by
  refine Nat.eq_of_mul_eq_mul_right p ?_
  calc a * (2 * h1) * h0 = a * h0 * (2 * h1) := by grind
    _ = 9007199254740991 * g0 * d * (2 * h1) := by rw [t]
    _ = 9007199254740991 * (2 * (g0 * h1)) * d := by grind
    _ = 9007199254740991 * (g1 * h0) * d := by rw [k]
    _ = (2 * 4503599627370496 - 1) * g1 * d * h0 := by grind
theorem alg_one {a d h g c : Nat} (t : a * h = (c + 1) * g * d) : a * (2 * h) = (2 * c + 2) * g * d := by grind
theorem alg_less {a d h g c : Nat} (t : a * h = c * g * d) : a * (2 * h) = 2 * c * g * d := by grind
/-- The value of bits: a whole number of units of 2^(U - 1074). -/
theorem val_units {U c : Nat} (hc : c ≤ 9007199254740992) (hU : U = 0 ∨ 4503599627370496 ≤ c) : fN (U * 4503599627370496 + c) * 2 ^ (1074 - U) = c * 2 ^ (U - 1074) * fD (U * 4503599627370496 + c) := by
  by_cases h1 : c < 4503599627370496
  · obtain rfl : U = 0 := by omega
    have e1 : (0 * 4503599627370496 + c) / 4503599627370496 = 0 := by omega
    have e2 : (0 * 4503599627370496 + c) % 4503599627370496 = c := by omega
    unfold fN fD fm fe
    rewrite [e1, if_pos rfl, e2]
    exact p2z c 1074
  · by_cases h2 : c < 9007199254740992
    · have e1 : (U * 4503599627370496 + c) / 4503599627370496 = U + 1 := by omega
      have e2 : (U * 4503599627370496 + c) % 4503599627370496 + 4503599627370496 = c := by omega
      unfold fN fD fm fe
      rw [e1, if_neg (by omega), e2, show U + 1 - 1 = U by omega]
    · obtain rfl : c = 9007199254740992 := by omega
      have e1 : (U * 4503599627370496 + 9007199254740992) / 4503599627370496 = U + 2 := by omega
      have e2 : (U * 4503599627370496 + 9007199254740992) % 4503599627370496 + 4503599627370496 = 4503599627370496 := by omega
      unfold fN fD fm fe
      rw [e1, if_neg (by omega), e2, show U + 2 - 1 = U + 1 by omega]
      exact alg_top (p2a U 1074)
/-- The next number's value, in halves of units. -/
theorem val_next {U c : Nat} (hc : c ≤ 9007199254740992) (hU : U = 0 ∨ 4503599627370496 ≤ c) : ∃ k, (k = 2 * c + 2 ∨ k = 2 * c + 4) ∧ fN (U * 4503599627370496 + c + 1) * (2 * 2 ^ (1074 - U)) = k * 2 ^ (U - 1074) * fD (U * 4503599627370496 + c + 1) := by
  by_cases h : c < 9007199254740992
  · refine ⟨2 * c + 2, .inl rfl, ?_⟩
    have := val_units (U := U) (c := c + 1) (by omega) (by omega)
    rw [← Nat.add_assoc] at this
    exact alg_one this
  · obtain rfl : c = 9007199254740992 := by omega
    refine ⟨2 * 9007199254740992 + 4, .inr rfl, ?_⟩
    have := val_units (U := U + 1) (c := 4503599627370496 + 1) (by omega) (by omega)
    have e : (U + 1) * 4503599627370496 + (4503599627370496 + 1) = U * 4503599627370496 + 9007199254740992 + 1 := by omega
    rw [e] at this
    exact alg_next (Nat.two_pow_pos _) this (p2a U 1074)
/-- The number ahead. -/
theorem val_back {U c : Nat} (hc : c ≤ 9007199254740992) (hU : U = 0 ∨ 4503599627370496 ≤ c) (h0 : 0 < U * 4503599627370496 + c) : ∃ k, (k + 2 = 2 * c ∨ (k + 1 = 2 * c ∧ 0 < U ∧ c = 4503599627370496)) ∧ fN (U * 4503599627370496 + c - 1) * (2 * 2 ^ (1074 - U)) = k * 2 ^ (U - 1074) * fD (U * 4503599627370496 + c - 1) := by
  by_cases h : U = 0 ∨ 4503599627370496 < c
  · obtain ⟨c', rfl⟩ : ∃ c', c = c' + 1 := ⟨c - 1, by omega⟩
    refine ⟨2 * c', .inl (by omega), ?_⟩
    have := val_units (U := U) (c := c') (by omega) (by omega)
    rw [show U * 4503599627370496 + (c' + 1) - 1 = U * 4503599627370496 + c' by omega]
    exact alg_less this
  · obtain rfl : c = 4503599627370496 := by omega
    obtain ⟨V, rfl⟩ : ∃ V, U = V + 1 := ⟨U - 1, by omega⟩
    refine ⟨2 * 4503599627370496 - 1, .inr ⟨by omega, by omega, rfl⟩, ?_⟩
    have := val_units (U := V) (c := 9007199254740991) (by omega) (by omega)
    have e : V * 4503599627370496 + 9007199254740991 = (V + 1) * 4503599627370496 + 4503599627370496 - 1 := by omega
    rw [e] at this
    exact alg_back (Nat.two_pow_pos _) this (p2a V 1074)
theorem half_unit {p q : Nat} (hq : 0 < q) (u : Int) (C : Nat) : upN p u < C * dnN q u ↔ 2 * upN p (u + 1) < C * dnN q (u + 1) := by
  have hs := unit_up p q u 1
  rw [show u + ((1 : Nat) : Int) = u + 1 from rfl, Nat.pow_one] at hs
  have d0 := dnN_pos hq u
  have d1 := dnN_pos hq (u + 1)
  generalize upN p u = a at *
  generalize upN p (u + 1) = a1 at *
  generalize dnN q u = d at *
  generalize dnN q (u + 1) = e at *
  constructor
  · intro hh
    refine Nat.lt_of_mul_lt_mul_right (a := d) ?_
    have h1 : a * e < C * d * e := Nat.mul_lt_mul_of_pos_right hh d1
    calc 2 * a1 * d = a1 * d * 2 := by rw [Nat.mul_assoc, Nat.mul_comm]
      _ = a * e := hs.symm
      _ < C * d * e := h1
      _ = C * e * d := Nat.mul_right_comm _ _ _
  · intro hh
    refine Nat.lt_of_mul_lt_mul_right (a := e) ?_
    have h1 : 2 * a1 * d < C * e * d := Nat.mul_lt_mul_of_pos_right hh d0
    calc a * e = a1 * d * 2 := hs
      _ = 2 * a1 * d := by rw [Nat.mul_assoc 2, Nat.mul_comm]
      _ < C * e * d := h1
      _ = C * d * e := Nat.mul_right_comm _ _ _
theorem top_alg {a d c : Nat} (hd : 0 < d) (h1 : 2 * a ≤ 2 * (c * d) + d) (h2 : 2 * (c * d) ≤ 2 * a + d) (h3 : 2 * a = 2 * (c * d) + d → c % 2 = 0) : 2045 * 4503599627370496 + c < 9218868437227405312 ↔ 2 * a < 18014398509481983 * d := by
  obtain ⟨E, hE⟩ : ∃ E, E = 9007199254740991 * d := ⟨_, rfl⟩
  have e1 : 18014398509481983 * d = 2 * E + d := by
    rw [hE, show 18014398509481983 = 2 * 9007199254740991 + 1 from rfl, Nat.add_mul, Nat.mul_assoc, Nat.one_mul]
  have e2 : 9007199254740992 * d = E + d := by
    rw [hE, show 9007199254740992 = 9007199254740991 + 1 from rfl, Nat.add_mul, Nat.one_mul]
  rw [e1]
  have hl : (2045 * 4503599627370496 + c < 9218868437227405312) ↔ c ≤ 9007199254740991 := by omega
  rw [hl]
  constructor
  · intro hh
    have m : c * d ≤ E := by rw [hE]; exact Nat.mul_le_mul_right _ hh
    rcases Nat.lt_or_ge (2 * a) (2 * E + d) with g | g
    · exact g
    · exfalso
      have m2 : c * d = E := by
        clear h3 hl e1 e2 hh hE
        generalize c * d = M at *
        omega
      have h5 : c = 9007199254740991 := Nat.eq_of_mul_eq_mul_right hd (m2.trans hE)
      have h6 := h3 (by rw [m2] at h1 ⊢; clear h3 hl e1 e2 hE h5 m2 m h2; omega)
      rw [h5] at h6
      exact absurd h6 (by decide)
  · intro hh
    rcases Nat.lt_or_ge 9007199254740991 c with g | g
    · exfalso
      have m : 9007199254740992 * d ≤ c * d := Nat.mul_le_mul_right _ g
      rw [e2] at m
      clear h3 hl e1 e2 hE g h1
      generalize c * d = M at *
      omega
    · exact g
/-- Beyond the greatest number: just from (2^54 - 1) 2^970 on. -/
theorem top_iff {p q : Nat} {e K : Int} (hK : K = 970) (h : At p q e) (hq : 0 < q) : bitsAt p q e < 9218868437227405312 ↔ upN p K < 18014398509481983 * dnN q K := by
  have c0 := h.ct hq
  rcases Int.lt_trichotomy e 1023 with he | he | he
  · have hu : unI e ≤ K := by unfold unI; split <;> omega
    have hu0 : -1074 ≤ unI e := by unfold unI; split <;> omega
    have hb : bitsAt p q e < 9218868437227405312 := by
      unfold bitsAt
      have : (unI e + 1074).toNat ≤ 2044 := by omega
      have : (unI e + 1074).toNat * 4503599627370496 ≤ 2044 * 4503599627370496 := Nat.mul_le_mul_right _ this
      omega
    refine ⟨fun _ => ?_, fun _ => hb⟩
    have h1 := h.lt hq
    obtain ⟨k, hk⟩ : ∃ k : Nat, K = unI e + k := ⟨(K - unI e).toNat, by omega⟩
    rw [hk, unit_lt hq]
    have h2 : 1 ≤ 2 ^ k := Nat.one_le_two_pow
    generalize 2 ^ k = g at *
    have h3 : 18014398509481983 * 1 * dnN q (unI e) ≤ 18014398509481983 * g * dnN q (unI e) := Nat.mul_le_mul_right _ (Nat.mul_le_mul_left _ h2)
    generalize dnN q (unI e) = d at *
    generalize 18014398509481983 * g * d = r at *
    omega
  · have hu : unI e = K + 1 := by unfold unI; split <;> omega
    have ht : (K + 1 + 1074).toNat = 2045 := by omega
    unfold bitsAt
    rw [hu, ht, half_unit hq K]
    have hn := near_bounds (p := upN p (K + 1)) (q := dnN q (K + 1)) (dnN_pos hq _)
    exact top_alg (dnN_pos hq _) hn.1 hn.2.1 hn.2.2.1
  · have hb := h.high hq (by omega)
    refine ⟨fun hh => absurd hb (by omega), fun hh => ?_⟩
    exfalso
    obtain ⟨k, hk⟩ : ∃ k : Nat, e = K + (54 + k : Nat) := ⟨(e - 1024).toNat, by omega⟩
    have h1 := unit_le (p := p) hq K (54 + k) 1
    rw [← hk] at h1
    have h2 := h1.1 (by have := h.1; omega)
    have h3 : 2 ^ 54 ≤ 2 ^ (54 + k) := Nat.pow_le_pow_right (by omega) (by omega)
    rw [Nat.one_mul] at h2
    generalize 2 ^ (54 + k) = g at *
    have h4 : 18014398509481984 * dnN q K ≤ g * dnN q K := Nat.mul_le_mul_right _ (by omega)
    generalize dnN q K = d at *
    generalize g * d = r at *
    omega
/-- The value of bits as a fraction over a common denominator. -/
theorem val_fc {b k g h s n : Nat} (hv : fN b * (2 * h) = k * g * fD b) (hh : 0 < h) (hs : 0 < s) (hN : fN b < P n) (hD : fD b < P n) : Fc (fN b / Nat.gcd (fN b) (fD b)) (fD b / Nat.gcd (fN b) (fD b)) (k * g * s) (2 * h * s) n := by
  have f := low_fc (fD_pos b) hN hD
  refine ⟨f.low, f.pos, Nat.mul_pos (Nat.mul_pos (by omega) hh) hs, ?_, f.s1, f.s2⟩
  have v := f.val
  refine Nat.eq_of_mul_eq_mul_right (fD_pos b) ?_
  generalize fN b / Nat.gcd (fN b) (fD b) = x at *
  generalize fD b / Nat.gcd (fN b) (fD b) = y at *
  generalize fN b = a at *
  generalize fD b = d at *
  calc x * (2 * h * s) * d = x * d * (2 * h) * s := by grind
    _ = a * y * (2 * h) * s := by rw [v]
    _ = a * (2 * h) * y * s := by grind
    _ = k * g * d * y * s := by rw [hv]
    _ = k * g * s * y * d := by grind
/-- Of two distances over the same denominators the lesser one. -/
theorem gap_cmp {N M K D : Nat} (hD : 0 < D) (h1 : dst N M ≤ dst N K) (Q : Prop) (h2 : dst N M = dst N K → Q) : cmpI (dst (N * D) (M * D) * (D * D)) (dst (N * D) (K * D) * (D * D)) ≤ 0 ∧ (cmpI (dst (N * D) (M * D) * (D * D)) (dst (N * D) (K * D) * (D * D)) = 0 → Q) := by
  have e : ∀ a b, dst (a * D) (b * D) = dst a b * D := fun a b => by
    unfold dst
    rw [← Nat.mul_sub_right_distrib, ← Nat.mul_sub_right_distrib, Nat.add_mul]
  have p : 0 < D * (D * D) := Nat.mul_pos hD (Nat.mul_pos hD hD)
  rw [e, e, Nat.mul_assoc, Nat.mul_assoc]
  generalize dst N M = x at *
  generalize dst N K = y at *
  generalize D * (D * D) = z at *
  unfold cmpI
  rcases Nat.lt_or_ge x y with h | h
  · have : x * z < y * z := Nat.mul_lt_mul_of_pos_right h p
    rw [if_pos this]
    exact ⟨by omega, fun hh => by omega⟩
  · have hxy : x = y := by omega
    subst hxy
    rw [if_neg (Nat.lt_irrefl _), if_pos rfl]
    exact ⟨by omega, fun _ => h2 rfl⟩
end Go.Proofs.YtmiiaomdenpceaaGreatDoor

namespace Go.Proofs.YtmiiaomdenpceaaGreatDoor
open Go.RowKit
set_option linter.unusedVariables false
/-- The fraction of bits in lowest terms. -/
def vlP (b : Nat) : Nat := fN b / Nat.gcd (fN b) (fD b)
def vlQ (b : Nat) : Nat := fD b / Nat.gcd (fN b) (fD b)
theorem dst_mul (a b g : Nat) : dst (a * g) (b * g) = dst a b * g := by
  unfold dst
  rw [← Nat.mul_sub_right_distrib, ← Nat.mul_sub_right_distrib, Nat.add_mul]
/-- A number's units: where its bits come from. -/
structure Un (p q up dn U c : Nat) : Prop where
  dpos : 0 < dn
  val : p * (2 * 2 ^ (1074 - U) * dn) = 2 * up * 2 ^ (U - 1074) * q
  hc : c ≤ 9007199254740992
  hU : U = 0 ∨ 4503599627370496 ≤ c
  h1 : 2 * up ≤ 2 * (c * dn) + dn
  h2 : 2 * (c * dn) ≤ 2 * up + dn
  h3 : 2 * up = 2 * (c * dn) + dn → c % 2 = 0
  h4 : 2 * (c * dn) = 2 * up + dn → c % 2 = 0
  low : 0 < U → c = 4503599627370496 → c * dn ≤ up
theorem un_of {p q : Nat} {e : Int} (h : At p q e) (hq : 0 < q) : Un p q (upN p (unI e)) (dnN q (unI e)) (unI e + 1074).toNat (ctN p q (unI e)) := by
  have hn := near_bounds (p := upN p (unI e)) (q := dnN q (unI e)) (dnN_pos hq _)
  have hu0 : -1074 ≤ unI e := by unfold unI; split <;> omega
  have hu1 : unI e = -1074 ∨ unI e = e - 52 := by unfold unI; split <;> omega
  refine ⟨dnN_pos hq _, ?_, h.ct hq, ?_, hn.1, hn.2.1, hn.2.2.1, hn.2.2.2, ?_⟩
  · have e1 : 1074 - (unI e + 1074).toNat = (-unI e).toNat := by omega
    have e2 : (unI e + 1074).toNat - 1074 = (unI e).toNat := by omega
    rw [e1, e2]
    unfold upN dnN
    generalize 2 ^ (-unI e).toNat = H
    generalize 2 ^ (unI e).toNat = G
    grind
  · rcases hu1 with g | g
    · exact .inl (by omega)
    · exact .inr (h.ct_ge hq g)
  · intro hp hc
    rcases hu1 with g | g
    · omega
    · rw [hc]
      exact h.ge hq g
theorem un_zero {U : Nat} (hU : U = 0) : Un 0 1 0 1 U 0 := ⟨by omega, by simp, by omega, .inl hU, by omega, by omega, by omega, by omega, by omega⟩
/-- The gap from a fraction to the number told, and to one beside it. -/
theorem near_calls {p q up dn U c n : Nat} (h : Un p q up dn U c) (hg : Nat.gcd p q = 1) (hq : 0 < q) (hp1 : p < P 38) (hq1 : q < P 38) (hb : U * 4503599627370496 + c = n) (hn : n < 9218868437227405312) :
    ∃ A B, (∀ v u w, Rt w v p q → Rt w u (vlP n) (vlQ n) → Tab w → Calls Tryz.prog 31 #[v, u] w (MakesR w A B)) ∧
      ∀ m, m < 9218868437227405312 → (m = n + 1 ∨ m + 1 = n) → ∃ A' B', ∃ z : Int, (∀ v u w, Rt w v p q → Rt w u (vlP m) (vlQ m) → Tab w → Calls Tryz.prog 31 #[v, u] w (MakesR w A' B')) ∧ (∀ v u w, Rt w v A B → Rt w u A' B' → Calls Tryz.prog 30 #[v, u] w fun e w' => e = .returned (.int .i64 z) ∧ Below w.heap.size w w') ∧ z ≤ 0 ∧ (z = 0 → n % 2 = 0) := by
  have hH : 0 < 2 ^ (1074 - U) := Nat.two_pow_pos _
  have hG : 0 < 2 ^ (U - 1074) := Nat.two_pow_pos _
  have hD : 0 < 2 * 2 ^ (1074 - U) * dn := Nat.mul_pos (Nat.mul_pos (by omega) hH) h.dpos
  have X : Fc p q (2 * up * 2 ^ (U - 1074)) (2 * 2 ^ (1074 - U) * dn) 38 := ⟨hg, hq, hD, h.val, hp1, hq1⟩
  have v0 := alg_less (val_units h.hc h.hU)
  rw [hb] at v0
  have V : Fc (vlP n) (vlQ n) (2 * c * 2 ^ (U - 1074) * dn) (2 * 2 ^ (1074 - U) * dn) 17 := val_fc v0 hH h.dpos (P_up (fN_lt hn) (by omega)) (fD_lt n)
  obtain ⟨A, B, f0, c0⟩ := X.gap V (by omega) (by omega)
  refine ⟨A, B, c0, ?_⟩
  intro m hm hnm
  obtain ⟨k, hk, v1⟩ : ∃ k, (k = 2 * c + 2 ∨ k = 2 * c + 4 ∨ k + 2 = 2 * c ∨ (k + 1 = 2 * c ∧ c * dn ≤ up)) ∧ fN m * (2 * 2 ^ (1074 - U)) = k * 2 ^ (U - 1074) * fD m := by
    rcases hnm with e | e
    · obtain ⟨k, hk, v⟩ := val_next h.hc h.hU
      rw [hb, ← e] at v
      exact ⟨k, by omega, v⟩
    · obtain ⟨k, hk, v⟩ := val_back h.hc h.hU (by omega)
      rw [hb, show n - 1 = m by omega] at v
      refine ⟨k, ?_, v⟩
      rcases hk with g | ⟨g1, g2, g3⟩
      · exact .inr (.inr (.inl g))
      · exact .inr (.inr (.inr ⟨g1, h.low g2 g3⟩))
  have W : Fc (vlP m) (vlQ m) (k * 2 ^ (U - 1074) * dn) (2 * 2 ^ (1074 - U) * dn) 17 := val_fc v1 hH h.dpos (P_up (fN_lt hm) (by omega)) (fD_lt m)
  obtain ⟨A', B', f1, c1⟩ := X.gap W (by omega) (by omega)
  have dn1 := dst_near h.dpos h.h1 h.h2 h.h3 h.h4 hk
  have key := gap_cmp hD (N := 2 * up * 2 ^ (U - 1074)) (M := 2 * c * 2 ^ (U - 1074) * dn) (K := k * 2 ^ (U - 1074) * dn) (by
    rw [show 2 * c * 2 ^ (U - 1074) * dn = 2 * (c * dn) * 2 ^ (U - 1074) by grind, show k * 2 ^ (U - 1074) * dn = k * dn * 2 ^ (U - 1074) by grind, dst_mul, dst_mul]
    exact Nat.mul_le_mul_right _ dn1.1) (n % 2 = 0) (by
    rw [show 2 * c * 2 ^ (U - 1074) * dn = 2 * (c * dn) * 2 ^ (U - 1074) by grind, show k * 2 ^ (U - 1074) * dn = k * dn * 2 ^ (U - 1074) by grind, dst_mul, dst_mul]
    intro he
    have := dn1.2 (Nat.eq_of_mul_eq_mul_right hG he)
    omega)
  exact ⟨A', B', _, c1, f0.cmp f1 (by omega) (by omega) rfl, key.1, key.2⟩
/-- Where there is none. -/
theorem top_cmp {p q d : Nat} (hd : d = 970) (hq : 0 < q) : cmpI (p * 1) (18014398509481983 * 2 ^ d * q) < 0 ↔ tfOk p q = true := by
  have hc : cmpI (p * 1) (18014398509481983 * 2 ^ d * q) < 0 ↔ p < 18014398509481983 * 2 ^ d * q := by
    rw [Nat.mul_one]
    unfold cmpI
    generalize 18014398509481983 * 2 ^ d * q = r
    split
    · omega
    · split <;> omega
  rw [hc]
  have pg : 0 < 2 ^ d := Nat.two_pow_pos _
  by_cases hp : p = 0
  · subst hp
    have : 0 < 18014398509481983 * 2 ^ d * q := Nat.mul_pos (Nat.mul_pos (by omega) pg) hq
    unfold tfOk
    simp only [decide_true, Bool.true_or, iff_true]
    exact this
  · have ht := top_iff (K := (d : Int)) (by omega) (sz_at (show 0 < p by omega) hq) hq
    have e1 : upN p (d : Int) = p := by
      unfold upN
      rw [show (-(d : Int)).toNat = 0 by omega, Nat.pow_zero, Nat.mul_one]
    have e2 : dnN q (d : Int) = q * 2 ^ d := by
      unfold dnN
      rw [Int.toNat_natCast]
    rw [e1, e2] at ht
    rw [show 18014398509481983 * 2 ^ d * q = 18014398509481983 * (q * 2 ^ d) by rw [Nat.mul_assoc, Nat.mul_comm q], ← ht]
    clear ht hc e1 e2
    unfold tfOk tfB
    simp [hp]
theorem near_any {p q : Nat} (hg : Nat.gcd p q = 1) (hq : 0 < q) (hp1 : p < P 38) (hq1 : q < P 38) (hok : tfOk p q = true) :
    tfV p q < 9218868437227405312 ∧ ∃ A B, (∀ v u w, Rt w v p q → Rt w u (vlP (tfV p q)) (vlQ (tfV p q)) → Tab w → Calls Tryz.prog 31 #[v, u] w (MakesR w A B)) ∧
      ∀ m, m < 9218868437227405312 → (m = tfV p q + 1 ∨ m + 1 = tfV p q) → ∃ A' B', ∃ z : Int, (∀ v u w, Rt w v p q → Rt w u (vlP m) (vlQ m) → Tab w → Calls Tryz.prog 31 #[v, u] w (MakesR w A' B')) ∧ (∀ v u w, Rt w v A B → Rt w u A' B' → Calls Tryz.prog 30 #[v, u] w fun e w' => e = .returned (.int .i64 z) ∧ Below w.heap.size w w') ∧ z ≤ 0 ∧ (z = 0 → tfV p q % 2 = 0) := by
  by_cases hp : p = 0
  · subst hp
    obtain rfl : q = 1 := by simpa using hg
    have e : tfV 0 1 = 0 := by unfold tfV; rw [if_pos rfl]
    rw [e]
    exact ⟨by omega, near_calls (un_zero rfl) hg hq hp1 hq1 rfl (by omega)⟩
  · have hb : tfB p q < 9218868437227405312 := by
      unfold tfOk at hok
      simpa [hp] using hok
    rw [(tf_in (by omega) hb).1]
    exact ⟨hb, near_calls (un_of (sz_at (by omega) hq) hq) hg hq hp1 hq1 rfl hb⟩
end Go.Proofs.YtmiiaomdenpceaaGreatDoor

