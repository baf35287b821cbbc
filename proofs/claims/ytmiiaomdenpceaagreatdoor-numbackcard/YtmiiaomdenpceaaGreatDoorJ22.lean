/- Contracts of the program's functions, part 22: own work, joined in build order. -/
import Derived.Test.YtmiiaomdenpceaaGreatDoorJ21
import Derived.Laws.Cover1
namespace Go.Proofs.YtmiiaomdenpceaaGreatDoor
open Go.RowKit
set_option maxRecDepth 100000
set_option linter.unusedVariables false
/-- How far two numbers are from one another. -/
def dst (a b : Nat) : Nat := (a - b) + (b - a)
theorem dst_ge {a b : Nat} (h : b ≤ a) : dst a b = a - b := by unfold dst; omega
theorem dst_lt {a b : Nat} (h : a < b) : dst a b = b - a := by unfold dst; omega
set_option maxHeartbeats 1000000 in
theorem gap3_ge (v u : Value) (p q x y A B : Nat) (w : World) (h : Rt w v p q) (k : Rt w u x y) (hT : Tab w) (hS : ∀ v u w, Rt w v p q → Rt w u x y → Tab w → Calls Tryz.prog 78 #[v, u] w (MakesRB w A B true)) :
    Calls Tryz.prog 31 #[v, u] w (MakesR w A B) := by
  have hv1' := h
  obtain ⟨a1, n1, c1, d1, m1, g1, ev1, _, _⟩ := hv1'.raw
  subst ev1
  have hv2' := k
  obtain ⟨a2, n2, c2, d2, m2, g2, ev2, _, _⟩ := hv2'.raw
  subst ev2
  have S0 : Hid _ := (((((sy_start w).addF h).addF k).box (.slice a1 n1 c1) (.slice d1 m1 g1) 28 _ rfl).box (.slice a2 n2 c2) (.slice d2 m2 g2) 28 _ rfl).box (.slice none 0 0) (.slice none 0 0) 28 _ rfl
  simp only [World.size_alloc] at S0
  have HH : Hid (Tab w ∧ ∀ v u w, Rt w v p q → Rt w u x y → Tab w → Calls Tryz.prog 78 #[v, u] w (MakesRB w A B true)) := ⟨hT, hS⟩
  clear h k hv1' hv2' hT hS
  go_enter Tryz.func31, Tryz.ntmps31
  go_wp2_with fail
  obtain ⟨r, hr⟩ : ∃ r, r = w.heap.size := ⟨_, rfl⟩
  obtain ⟨w0, hw0⟩ : ∃ w0, w0 = ((w.alloc (.cells #[.slice a1 n1 c1, .slice d1 m1 g1] 28)).alloc (.cells #[.slice a2 n2 c2, .slice d2 m2 g2] 28)).alloc (.cells #[.slice none 0 0, .slice none 0 0] 28) := ⟨_, rfl⟩
  rw [← hw0, ← hr] at S0
  rw [← hw0, ← hr]
  clear hw0 hr
  refine (HH.out.2 _ _ _ (S0.out.fr (.agg #[.slice a1 n1 c1, .slice d1 m1 g1]) p q) (S0.out.fr (.agg #[.slice a2 n2 c2, .slice d2 m2 g2]) x y) (HH.out.1.go S0.out.bel)).mono ?_
  rintro e w3 ⟨v3, rfl, hv3, hb3⟩
  have hv3' := hv3
  obtain ⟨a3, n3, c3, d3, m3, g3, ev3, _, _⟩ := hv3'.raw
  subst ev3
  have S3 : Hid _ := ((S0.out.go hb3).addF hv3).go (w' := w3.alloc (.cells #[.slice a3 n3 c3, .slice d3 m3 g3] 28)) (bel_al (bel_refl _))
  have q0 : (w3.alloc (.cells #[.slice a3 n3 c3, .slice d3 m3 g3] 28)).cell? ⟨w3.heap.size, 0, none⟩ = some (.slice a3 n3 c3) := by simp [go_sem]
  have q1 : (w3.alloc (.cells #[.slice a3 n3 c3, .slice d3 m3 g3] 28)).cell? ⟨w3.heap.size, 1, none⟩ = some (.slice d3 m3 g3) := by simp [go_sem]
  clear hv3 hv3' hb3 S0
  have x0 := S3.out.cel (r + 1 + 1) 0 (.slice none 0 0)
  have x1 := S3.out.cel (r + 1 + 1) 1 (.slice none 0 0)
  have f0 := S3.out.fz (r + 1 + 1) 0
  have f1 := S3.out.fz (r + 1 + 1) 1
  have Z : Hid _ := rat_put (w0 := w) (v := .slice a3 n3 c3) (u := .slice d3 m3 g3) x0 x1 (S3.out.fr (.agg #[.slice a3 n3 c3, .slice d3 m3 g3]) A B) S3.out.bel (S3.out.lo (r + 1 + 1))
  go_wp2_with fail
  exact bodyPost_ret (v := .agg #[.slice a3 n3 c3, .slice d3 m3 g3]) (by simp [results, Tryz.results31, go_sem, x0, x1]) rfl ⟨_, rfl, Z.out.1, Z.out.2⟩
set_option maxHeartbeats 1000000 in
theorem gap3_lt (v u : Value) (p q x y A B : Nat) (w : World) (h : Rt w v p q) (k : Rt w u x y) (hT : Tab w) (hN : ∀ v u w, Rt w v p q → Rt w u x y → Tab w → Calls Tryz.prog 78 #[v, u] w (MakesRB w 0 1 false)) (hS : ∀ v u w, Rt w v x y → Rt w u p q → Tab w → Calls Tryz.prog 78 #[v, u] w (MakesRB w A B true)) :
    Calls Tryz.prog 31 #[v, u] w (MakesR w A B) := by
  have hv1' := h
  obtain ⟨a1, n1, c1, d1, m1, g1, ev1, _, _⟩ := hv1'.raw
  subst ev1
  have hv2' := k
  obtain ⟨a2, n2, c2, d2, m2, g2, ev2, _, _⟩ := hv2'.raw
  subst ev2
  have S0 : Hid _ := (((((sy_start w).addF h).addF k).box (.slice a1 n1 c1) (.slice d1 m1 g1) 28 _ rfl).box (.slice a2 n2 c2) (.slice d2 m2 g2) 28 _ rfl).box (.slice none 0 0) (.slice none 0 0) 28 _ rfl
  simp only [World.size_alloc] at S0
  have HH : Hid (Tab w ∧ (∀ v u w, Rt w v p q → Rt w u x y → Tab w → Calls Tryz.prog 78 #[v, u] w (MakesRB w 0 1 false)) ∧ ∀ v u w, Rt w v x y → Rt w u p q → Tab w → Calls Tryz.prog 78 #[v, u] w (MakesRB w A B true)) := ⟨hT, hN, hS⟩
  clear h k hv1' hv2' hT hS hN
  go_enter Tryz.func31, Tryz.ntmps31
  go_wp2_with fail
  obtain ⟨r, hr⟩ : ∃ r, r = w.heap.size := ⟨_, rfl⟩
  obtain ⟨w0, hw0⟩ : ∃ w0, w0 = ((w.alloc (.cells #[.slice a1 n1 c1, .slice d1 m1 g1] 28)).alloc (.cells #[.slice a2 n2 c2, .slice d2 m2 g2] 28)).alloc (.cells #[.slice none 0 0, .slice none 0 0] 28) := ⟨_, rfl⟩
  rw [← hw0, ← hr] at S0
  rw [← hw0, ← hr]
  clear hw0 hr
  refine (HH.out.2.1 _ _ _ (S0.out.fr (.agg #[.slice a1 n1 c1, .slice d1 m1 g1]) p q) (S0.out.fr (.agg #[.slice a2 n2 c2, .slice d2 m2 g2]) x y) (HH.out.1.go S0.out.bel)).mono ?_
  rintro e w3 ⟨v3, rfl, hv3, hb3⟩
  have hv3' := hv3
  obtain ⟨a3, n3, c3, d3, m3, g3, ev3, _, _⟩ := hv3'.raw
  subst ev3
  have HL : Hid (r + 1 + 1 < w3.heap.size) := (S0.out.go hb3).lt (r + 1 + 1)
  have S3 : Hid _ := ((S0.out.go hb3).addF hv3).box (.slice a3 n3 c3) (.slice d3 m3 g3) 28 _ rfl
  clear hv3 hv3' hb3 S0
  have y0 := S3.out.cel (r + 1) 0 (.slice a2 n2 c2)
  have y1 := S3.out.cel (r + 1) 1 (.slice d2 m2 g2)
  have y2 := S3.out.cel r 0 (.slice a1 n1 c1)
  have y3 := S3.out.cel r 1 (.slice d1 m1 g1)
  go_wp2_with fail
  obtain ⟨g, hg⟩ : ∃ g, g = w3.heap.size := ⟨_, rfl⟩
  obtain ⟨w4, hw4⟩ : ∃ w4, w4 = w3.alloc (.cells #[.slice a3 n3 c3, .slice d3 m3 g3] 28) := ⟨_, rfl⟩
  rw [← hw4, ← hg] at S3
  rw [← hw4, ← hg]
  have HG : Hid (r + 1 + 1 < g) := by rw [hg]; exact HL
  clear hw4 hg HL y0 y1 y2 y3
  refine (HH.out.2.2 _ _ _ (S3.out.fr (.agg #[.slice a2 n2 c2, .slice d2 m2 g2]) x y) (S3.out.fr (.agg #[.slice a1 n1 c1, .slice d1 m1 g1]) p q) (HH.out.1.go S3.out.bel)).mono ?_
  rintro e w5 ⟨v5, rfl, hv5, hb5⟩
  have hv5' := hv5
  obtain ⟨a5, n5, c5, d5, m5, g5, ev5, _, _⟩ := hv5'.raw
  subst ev5
  have S5 : Hid _ := (S3.out.go hb5).addF hv5
  clear hv5 hv5' hb5 S3
  have q0 := S5.out.cel g 0 (.slice a3 n3 c3)
  have q1 := S5.out.cel g 1 (.slice d3 m3 g3)
  have f0 := S5.out.fz g 0
  have f1 := S5.out.fz g 1
  have S6 : Hid _ := ((S5.out.set (b := g) (i := 0) q0 (S5.out.lo g) [(r + 1 + 1, 0, .slice none 0 0), (r + 1 + 1, 1, .slice none 0 0)] (by have := HG.out; simp; omega) (.slice a5 n5 c5)).set (b := g) (i := 1) (show (w5.setCell ⟨g, 0, none⟩ (.slice a5 n5 c5)).cell? ⟨g, 1, none⟩ = some (.slice d3 m3 g3) by simp [go_sem, q1]) (S5.out.lo g) [(r + 1 + 1, 0, .slice none 0 0), (r + 1 + 1, 1, .slice none 0 0)] (by have := HG.out; simp; omega) (.slice d5 m5 g5))
  have e0 : ((w5.setCell ⟨g, 0, none⟩ (.slice a5 n5 c5)).setCell ⟨g, 1, none⟩ (.slice d5 m5 g5)).cell? ⟨g, 0, none⟩ = some (.slice a5 n5 c5) := by simp [go_sem, q0]
  have e1 : ((w5.setCell ⟨g, 0, none⟩ (.slice a5 n5 c5)).setCell ⟨g, 1, none⟩ (.slice d5 m5 g5)).cell? ⟨g, 1, none⟩ = some (.slice d5 m5 g5) := by simp [go_sem, q1]
  have x0 := S6.out.cel (r + 1 + 1) 0 (.slice none 0 0)
  have x1 := S6.out.cel (r + 1 + 1) 1 (.slice none 0 0)
  have j0 := S6.out.fz (r + 1 + 1) 0
  have j1 := S6.out.fz (r + 1 + 1) 1
  have Z : Hid _ := rat_put (w0 := w) (v := .slice a5 n5 c5) (u := .slice d5 m5 g5) x0 x1 (S6.out.fr (.agg #[.slice a5 n5 c5, .slice d5 m5 g5]) A B) S6.out.bel (S6.out.lo (r + 1 + 1))
  go_wp2_with fail
  exact bodyPost_ret (v := .agg #[.slice a5 n5 c5, .slice d5 m5 g5]) (by simp [results, Tryz.results31, go_sem, x0, x1]) rfl ⟨_, rfl, Z.out.1, Z.out.2⟩
/-- What gap tells of two fractions. -/
theorem Fc.gap {p q N1 D1 n x y N2 D2 m : Nat} (h : Fc p q N1 D1 n) (k : Fc x y N2 D2 m) (hn : n ≤ 90) (hm : m ≤ 90) : ∃ A B, Fc A B (dst (N1 * D2) (N2 * D1)) (D1 * D2) (n + m) ∧ ∀ v u w, Rt w v p q → Rt w u x y → Tab w → Calls Tryz.prog 31 #[v, u] w (MakesR w A B) := by
  by_cases hle : N2 * D1 ≤ N1 * D2
  · obtain ⟨A, B, f, c⟩ := h.sub k hn hm hle
    exact ⟨A, B, by rw [dst_ge hle]; exact f, fun v u w e1 e2 e3 => gap3_ge v u p q x y A B w e1 e2 e3 c⟩
  · have hlt : N1 * D2 < N2 * D1 := by omega
    obtain ⟨A, B, f, c⟩ := k.sub h hm hn (by omega)
    exact ⟨A, B, by rw [dst_lt hlt, Nat.mul_comm D1 D2, Nat.add_comm n m]; exact f, fun v u w e1 e2 e3 => gap3_lt v u p q x y A B w e1 e2 e3 (h.sub_no k hn hm hlt) c⟩
set_option maxHeartbeats 1000000 in
theorem value3_zero (u x0 E m t s : Nat) (w : World) (h : Flk u x0 E m t s) (hu : u < 9218868437227405312) (hE : E < 2047) (h3 : E = 0) (hm5 : m < 4503599627370496) (hT : Tab w) (hN : fN u = m * 2 ^ 0) (hDD : ∃ d, d = 1074 ∧ fD u = 2 ^ d) :
    Calls Tryz.prog 32 #[.int .u64 (u : Int)] w (MakesR w (fN u / Nat.gcd (fN u) (fD u)) (fD u / Nat.gcd (fN u) (fD u))) := by
  have RR : Hid (Frl u x0 E m t s) := h.rules
  have HT : Hid (Tab w) := hT
  obtain ⟨d, hd, hD⟩ := hDD
  rw [Nat.pow_zero, Nat.mul_one] at hN
  have HN : Hid (fN u = m ∧ fD u = 2 ^ d ∧ RS (m) ∧ RS (2 ^ d) ∧ 0 < 2 ^ d ∧ m < 18446744073709551616 ∧ d ≤ 16777216) := ⟨hN, hD, by rw [← hN]; exact ⟨P_up (fN_lt hu) (by omega)⟩, by rw [← hD]; exact ⟨P_up (fD_lt u) (by omega)⟩, by rw [← hD]; exact fD_pos u, by omega, by omega⟩
  have e0 : (E : Int) = 0 := by omega
  have HED : Hid ((1074 : Int) = (d : Int)) := by show _ = _; omega
  rw [HN.out.1, HN.out.2.1]
  clear h hu hE hN hD hT hd hm5 h3
  obtain ⟨r2, r3, r5, r6, r7, r8, r9⟩ := RR.out
  have S1 : Hid _ := (sy_start w).box (.slice none 0 0) (.slice none 0 0) 28 _ rfl
  go_enter Tryz.func32, Tryz.ntmps32
  go_wp2_with fail
  refine (of_any m _ HN.out.2.2.2.2.2.1).mono ?_
  rintro e w2 ⟨v2, rfl, hv2, hb2⟩
  obtain ⟨a1, n1, c1, rfl⟩ := hv2.isAgg
  have S2 : Hid _ := (S1.out.go hb2).addN hv2
  clear hv2 hb2 S1
  go_wp2_with fail
  refine (of_any 1 _ (by omega)).mono ?_
  rintro e w3 ⟨v3, rfl, hv3, hb3⟩
  obtain ⟨a2, n2, c2, rfl⟩ := hv3.isAgg
  have HL : Hid (w.heap.size < w3.heap.size) := (S2.out.go hb3).lt w.heap.size
  have S3 : Hid _ := (((S2.out.go hb3).addN hv3).box1 (.slice a1 n1 c1) 26 _ rfl).box1 (.slice a2 n2 c2) 26 _ rfl
  simp only [World.size_alloc] at S3
  clear hv3 hb3 S2
  go_wp2_with fail
  obtain ⟨g, hg⟩ : ∃ g, g = w3.heap.size := ⟨_, rfl⟩
  obtain ⟨b, hb⟩ : ∃ b, b = w.heap.size := ⟨_, rfl⟩
  obtain ⟨w4, hw4⟩ : ∃ w4, w4 = (w3.alloc (.cells #[.slice a1 n1 c1] 26)).alloc (.cells #[.slice a2 n2 c2] 26) := ⟨_, rfl⟩
  rw [← hw4, ← hg, ← hb] at S3
  rw [← hw4, ← hg, ← hb]
  have HG : Hid (b < g) := by rw [hg, hb]; exact HL
  clear hw4 hg hb HL
  rw [HED.out]
  refine (left_yes _ 1 d _ (S3.out.at (.agg #[.slice a2 n2 c2]) 1) (rs_word (by have := HN.out.2.2.2.2.2.1; omega)).fits HN.out.2.2.2.2.2.2).mono ?_
  rintro e w5 ⟨v5, rfl, hv5, hb5⟩
  obtain ⟨a5, n5', c5, rfl⟩ := hv5.isAgg
  have S5 : Hid _ := (S3.out.go hb5).addN hv5
  clear hv5 hb5 S3
  have k1 := S5.out.cel (g + 1) 0 (.slice a2 n2 c2)
  have f1 := S5.out.fz (g + 1) 0
  have S6 : Hid _ := (S5.out.set (b := g + 1) (i := 0) k1 (S5.out.lo (g + 1)) [(g, 0, .slice a1 n1 c1), (b, 0, .slice none 0 0), (b, 1, .slice none 0 0)] (by have := HG.out; simp; omega) (.slice a5 n5' c5)).addC (b := g + 1) (i := 0) (v := .slice a5 n5' c5) (by simp [go_sem, k1])
  have k3 : (w5.setCell ⟨g + 1, 0, none⟩ (.slice a5 n5' c5)).cell? ⟨g, 0, none⟩ = some (.slice a1 n1 c1) := S6.out.cel (g) 0 (.slice a1 n1 c1)
  have k4 : (w5.setCell ⟨g + 1, 0, none⟩ (.slice a5 n5' c5)).cell? ⟨g + 1, 0, none⟩ = some (.slice a5 n5' c5) := S6.out.cel (g + 1) 0 (.slice a5 n5' c5)
  go_wp2_with fail
  obtain ⟨w6, hw6⟩ : ∃ w6, w6 = w5.setCell ⟨g + 1, 0, none⟩ (.slice a5 n5' c5) := ⟨_, rfl⟩
  rw [← hw6] at S6
  rw [← hw6]
  clear hw6 k1 k3 k4 f1 S5
  have NV := S6.out.at (.agg #[.slice a5 n5' c5]) (1 * 2 ^ d)
  rw [Nat.one_mul] at NV
  have HNV : Hid _ := NV
  clear NV
  refine (from_any _ _ (m) (2 ^ d) _ (S6.out.at (.agg #[.slice a1 n1 c1]) m) (HNV.out) HN.out.2.2.1 HN.out.2.2.2.1 HN.out.2.2.2.2.1 (HT.out.go S6.out.bel)).mono ?_
  rintro e w7 ⟨v7, rfl, hv7, hb7⟩
  have hv7' := hv7
  obtain ⟨a7, n7, c7, d7, m7, g7, ev7, _, _⟩ := hv7'.raw
  subst ev7
  have S7 : Hid _ := ((S6.out.go hb7).addF hv7).go (w' := w7.alloc (.cells #[.slice a7 n7 c7, .slice d7 m7 g7] 28)) (bel_al (bel_refl _))
  have q0 : (w7.alloc (.cells #[.slice a7 n7 c7, .slice d7 m7 g7] 28)).cell? ⟨w7.heap.size, 0, none⟩ = some (.slice a7 n7 c7) := by simp [go_sem]
  have q1' : (w7.alloc (.cells #[.slice a7 n7 c7, .slice d7 m7 g7] 28)).cell? ⟨w7.heap.size, 1, none⟩ = some (.slice d7 m7 g7) := by simp [go_sem]
  clear hv7 hv7' hb7 S6
  have z0 := S7.out.cel b 0 (.slice none 0 0)
  have z1 := S7.out.cel b 1 (.slice none 0 0)
  have y0 := S7.out.fz b 0
  have y1 := S7.out.fz b 1
  have Z : Hid _ := rat_put (w0 := w) (v := .slice a7 n7 c7) (u := .slice d7 m7 g7) z0 z1 (S7.out.fr (.agg #[.slice a7 n7 c7, .slice d7 m7 g7]) ((m) / Nat.gcd (m) (2 ^ d)) ((2 ^ d) / Nat.gcd (m) (2 ^ d))) S7.out.bel (S7.out.lo b)
  go_wp2_with fail
  exact bodyPost_ret (v := .agg #[.slice a7 n7 c7, .slice d7 m7 g7]) (by simp [results, Tryz.results32, go_sem, z0, z1]) rfl ⟨_, rfl, Z.out.1, Z.out.2⟩
set_option maxHeartbeats 1000000 in
theorem value3_low (u x0 E m t s : Nat) (mm : Nat) (w : World) (h : Flk u x0 E m t s) (hu : u < 9218868437227405312) (hE : E < 2047) (h3 : 0 < E) (h4 : E - 1 < 1074) (hm : m + 4503599627370496 = mm) (hm5 : m < 4503599627370496) (hT : Tab w) (hN : fN u = mm * 2 ^ 0) (hD : fD u = 2 ^ (1074 - (E - 1))) :
    Calls Tryz.prog 32 #[.int .u64 (u : Int)] w (MakesR w (fN u / Nat.gcd (fN u) (fD u)) (fD u / Nat.gcd (fN u) (fD u))) := by
  have RR : Hid (Frl u x0 E m t s) := h.rules
  have HT : Hid (Tab w) := hT
  obtain ⟨d, hd⟩ : ∃ d, d = 1074 - (E - 1) := ⟨_, rfl⟩
  rw [← hd] at hD
  rw [Nat.pow_zero, Nat.mul_one] at hN
  have HN : Hid (fN u = mm ∧ fD u = 2 ^ d ∧ RS (mm) ∧ RS (2 ^ d) ∧ 0 < 2 ^ d ∧ mm < 18446744073709551616 ∧ d ≤ 16777216) := ⟨hN, hD, by rw [← hN]; exact ⟨P_up (fN_lt hu) (by omega)⟩, by rw [← hD]; exact ⟨P_up (fD_lt u) (by omega)⟩, by rw [← hD]; exact fD_pos u, by omega, by omega⟩
  obtain ⟨f, hf⟩ : ∃ f, f = E - 1 := ⟨_, rfl⟩
  have p4 : 0 < E := h3
  have q4 : IntKind.u64.wrap ((m : Int) + 4503599627370496) = (mm : Int) := by rw [IntKind.wrap_u64]; omega
  have HED : Hid ((1074 : Int) - (f : Int) = (d : Int)) := by show _ = _; omega
  have n5 : ¬ 1074 ≤ f := by omega
  have n6 : decide ((1074 : Int) ≤ (f : Int)) = false := decide_eq_false (by omega)
  obtain ⟨q1, q2⟩ : wrap64 ((E : Int) - 1) = (f : Int) ∧ wrap64 (1074 - (f : Int)) = (d : Int) := ⟨w64_at (by omega) (by omega) (by omega), w64_at (by omega) (by omega) (by omega)⟩
  rw [HN.out.1, HN.out.2.1]
  clear h hu hE hN hD hT hd hm5 h3 h4 hm hf
  obtain ⟨r2, r3, r5, r6, r7, r8, r9⟩ := RR.out
  have S1 : Hid _ := (sy_start w).box (.slice none 0 0) (.slice none 0 0) 28 _ rfl
  go_enter Tryz.func32, Tryz.ntmps32
  go_wp2_with fail
  refine (of_any mm _ HN.out.2.2.2.2.2.1).mono ?_
  rintro e w2 ⟨v2, rfl, hv2, hb2⟩
  obtain ⟨a1, n1, c1, rfl⟩ := hv2.isAgg
  have S2 : Hid _ := (S1.out.go hb2).addN hv2
  clear hv2 hb2 S1
  go_wp2_with fail
  refine (of_any 1 _ (by omega)).mono ?_
  rintro e w3 ⟨v3, rfl, hv3, hb3⟩
  obtain ⟨a2, n2, c2, rfl⟩ := hv3.isAgg
  have HL : Hid (w.heap.size < w3.heap.size) := (S2.out.go hb3).lt w.heap.size
  have S3 : Hid _ := (((S2.out.go hb3).addN hv3).box1 (.slice a1 n1 c1) 26 _ rfl).box1 (.slice a2 n2 c2) 26 _ rfl
  simp only [World.size_alloc] at S3
  clear hv3 hb3 S2
  go_wp2_with fail
  obtain ⟨g, hg⟩ : ∃ g, g = w3.heap.size := ⟨_, rfl⟩
  obtain ⟨b, hb⟩ : ∃ b, b = w.heap.size := ⟨_, rfl⟩
  obtain ⟨w4, hw4⟩ : ∃ w4, w4 = (w3.alloc (.cells #[.slice a1 n1 c1] 26)).alloc (.cells #[.slice a2 n2 c2] 26) := ⟨_, rfl⟩
  rw [← hw4, ← hg, ← hb] at S3
  rw [← hw4, ← hg, ← hb]
  have HG : Hid (b < g) := by rw [hg, hb]; exact HL
  clear hw4 hg hb HL
  try rw [HED.out]
  refine (left_yes _ 1 d _ (S3.out.at (.agg #[.slice a2 n2 c2]) 1) (rs_word (by have := HN.out.2.2.2.2.2.1; omega)).fits HN.out.2.2.2.2.2.2).mono ?_
  rintro e w5 ⟨v5, rfl, hv5, hb5⟩
  obtain ⟨a5, n5', c5, rfl⟩ := hv5.isAgg
  have S5 : Hid _ := (S3.out.go hb5).addN hv5
  clear hv5 hb5 S3
  have k1 := S5.out.cel (g + 1) 0 (.slice a2 n2 c2)
  have f1 := S5.out.fz (g + 1) 0
  have S6 : Hid _ := (S5.out.set (b := g + 1) (i := 0) k1 (S5.out.lo (g + 1)) [(g, 0, .slice a1 n1 c1), (b, 0, .slice none 0 0), (b, 1, .slice none 0 0)] (by have := HG.out; simp; omega) (.slice a5 n5' c5)).addC (b := g + 1) (i := 0) (v := .slice a5 n5' c5) (by simp [go_sem, k1])
  have k3 : (w5.setCell ⟨g + 1, 0, none⟩ (.slice a5 n5' c5)).cell? ⟨g, 0, none⟩ = some (.slice a1 n1 c1) := S6.out.cel (g) 0 (.slice a1 n1 c1)
  have k4 : (w5.setCell ⟨g + 1, 0, none⟩ (.slice a5 n5' c5)).cell? ⟨g + 1, 0, none⟩ = some (.slice a5 n5' c5) := S6.out.cel (g + 1) 0 (.slice a5 n5' c5)
  go_wp2_with fail
  obtain ⟨w6, hw6⟩ : ∃ w6, w6 = w5.setCell ⟨g + 1, 0, none⟩ (.slice a5 n5' c5) := ⟨_, rfl⟩
  rw [← hw6] at S6
  rw [← hw6]
  clear hw6 k1 k3 k4 f1 S5
  have NV := S6.out.at (.agg #[.slice a5 n5' c5]) (1 * 2 ^ d)
  rw [Nat.one_mul] at NV
  have HNV : Hid _ := NV
  clear NV
  refine (from_any _ _ (mm) (2 ^ d) _ (S6.out.at (.agg #[.slice a1 n1 c1]) mm) (HNV.out) HN.out.2.2.1 HN.out.2.2.2.1 HN.out.2.2.2.2.1 (HT.out.go S6.out.bel)).mono ?_
  rintro e w7 ⟨v7, rfl, hv7, hb7⟩
  have hv7' := hv7
  obtain ⟨a7, n7, c7, d7, m7, g7, ev7, _, _⟩ := hv7'.raw
  subst ev7
  have S7 : Hid _ := ((S6.out.go hb7).addF hv7).go (w' := w7.alloc (.cells #[.slice a7 n7 c7, .slice d7 m7 g7] 28)) (bel_al (bel_refl _))
  have q0 : (w7.alloc (.cells #[.slice a7 n7 c7, .slice d7 m7 g7] 28)).cell? ⟨w7.heap.size, 0, none⟩ = some (.slice a7 n7 c7) := by simp [go_sem]
  have q1' : (w7.alloc (.cells #[.slice a7 n7 c7, .slice d7 m7 g7] 28)).cell? ⟨w7.heap.size, 1, none⟩ = some (.slice d7 m7 g7) := by simp [go_sem]
  clear hv7 hv7' hb7 S6
  have z0 := S7.out.cel b 0 (.slice none 0 0)
  have z1 := S7.out.cel b 1 (.slice none 0 0)
  have y0 := S7.out.fz b 0
  have y1 := S7.out.fz b 1
  have Z : Hid _ := rat_put (w0 := w) (v := .slice a7 n7 c7) (u := .slice d7 m7 g7) z0 z1 (S7.out.fr (.agg #[.slice a7 n7 c7, .slice d7 m7 g7]) ((mm) / Nat.gcd (mm) (2 ^ d)) ((2 ^ d) / Nat.gcd (mm) (2 ^ d))) S7.out.bel (S7.out.lo b)
  go_wp2_with fail
  exact bodyPost_ret (v := .agg #[.slice a7 n7 c7, .slice d7 m7 g7]) (by simp [results, Tryz.results32, go_sem, z0, z1]) rfl ⟨_, rfl, Z.out.1, Z.out.2⟩
set_option maxHeartbeats 1000000 in
theorem value3_high (u x0 E m t s : Nat) (mm : Nat) (w : World) (h : Flk u x0 E m t s) (hu : u < 9218868437227405312) (hE : E < 2047) (h3 : 0 < E) (h4 : ¬ E - 1 < 1074) (hm : m + 4503599627370496 = mm) (hm5 : m < 4503599627370496) (hT : Tab w) (hN : fN u = mm * 2 ^ (E - 1 - 1074)) (hD : fD u = 2 ^ 0) :
    Calls Tryz.prog 32 #[.int .u64 (u : Int)] w (MakesR w (fN u / Nat.gcd (fN u) (fD u)) (fD u / Nat.gcd (fN u) (fD u))) := by
  have RR : Hid (Frl u x0 E m t s) := h.rules
  have HT : Hid (Tab w) := hT
  obtain ⟨d, hd⟩ : ∃ d, d = E - 1 - 1074 := ⟨_, rfl⟩
  rw [← hd] at hN
  rw [Nat.pow_zero] at hD
  have HN : Hid (fN u = mm * 2 ^ d ∧ fD u = 1 ∧ RS (mm * 2 ^ d) ∧ RS (1) ∧ 0 < 1 ∧ mm < 18446744073709551616 ∧ d ≤ 16777216) := ⟨hN, hD, by rw [← hN]; exact ⟨P_up (fN_lt hu) (by omega)⟩, by rw [← hD]; exact ⟨P_up (fD_lt u) (by omega)⟩, by rw [← hD]; exact fD_pos u, by omega, by omega⟩
  obtain ⟨f, hf⟩ : ∃ f, f = E - 1 := ⟨_, rfl⟩
  have p4 : 0 < E := h3
  have q4 : IntKind.u64.wrap ((m : Int) + 4503599627370496) = (mm : Int) := by rw [IntKind.wrap_u64]; omega
  have n5 : 1074 ≤ f := by omega
  have n6 : decide ((1074 : Int) ≤ (f : Int)) = true := decide_eq_true (by omega)
  obtain ⟨q1, q2⟩ : wrap64 ((E : Int) - 1) = (f : Int) ∧ wrap64 ((f : Int) - 1074) = (d : Int) := ⟨w64_at (by omega) (by omega) (by omega), w64_at (by omega) (by omega) (by omega)⟩
  rw [HN.out.1, HN.out.2.1]
  clear h hu hE hN hD hT hd hm5 h3 h4 hm hf
  obtain ⟨r2, r3, r5, r6, r7, r8, r9⟩ := RR.out
  have S1 : Hid _ := (sy_start w).box (.slice none 0 0) (.slice none 0 0) 28 _ rfl
  go_enter Tryz.func32, Tryz.ntmps32
  go_wp2_with fail
  refine (of_any mm _ HN.out.2.2.2.2.2.1).mono ?_
  rintro e w2 ⟨v2, rfl, hv2, hb2⟩
  obtain ⟨a1, n1, c1, rfl⟩ := hv2.isAgg
  have S2 : Hid _ := (S1.out.go hb2).addN hv2
  clear hv2 hb2 S1
  go_wp2_with fail
  refine (of_any 1 _ (by omega)).mono ?_
  rintro e w3 ⟨v3, rfl, hv3, hb3⟩
  obtain ⟨a2, n2, c2, rfl⟩ := hv3.isAgg
  have HL : Hid (w.heap.size < w3.heap.size) := (S2.out.go hb3).lt w.heap.size
  have S3 : Hid _ := (((S2.out.go hb3).addN hv3).box1 (.slice a1 n1 c1) 26 _ rfl).box1 (.slice a2 n2 c2) 26 _ rfl
  simp only [World.size_alloc] at S3
  clear hv3 hb3 S2
  go_wp2_with fail
  obtain ⟨g, hg⟩ : ∃ g, g = w3.heap.size := ⟨_, rfl⟩
  obtain ⟨b, hb⟩ : ∃ b, b = w.heap.size := ⟨_, rfl⟩
  obtain ⟨w4, hw4⟩ : ∃ w4, w4 = (w3.alloc (.cells #[.slice a1 n1 c1] 26)).alloc (.cells #[.slice a2 n2 c2] 26) := ⟨_, rfl⟩
  rw [← hw4, ← hg, ← hb] at S3
  rw [← hw4, ← hg, ← hb]
  have HG : Hid (b < g) := by rw [hg, hb]; exact HL
  clear hw4 hg hb HL
  refine (left_yes _ mm d _ (S3.out.at (.agg #[.slice a1 n1 c1]) mm) (rs_word (by have := HN.out.2.2.2.2.2.1; omega)).fits HN.out.2.2.2.2.2.2).mono ?_
  rintro e w5 ⟨v5, rfl, hv5, hb5⟩
  obtain ⟨a5, n5', c5, rfl⟩ := hv5.isAgg
  have S5 : Hid _ := (S3.out.go hb5).addN hv5
  clear hv5 hb5 S3
  have k1 := S5.out.cel (g) 0 (.slice a1 n1 c1)
  have f1 := S5.out.fz (g) 0
  have S6 : Hid _ := (S5.out.set (b := g) (i := 0) k1 (S5.out.lo (g)) [(g + 1, 0, .slice a2 n2 c2), (b, 0, .slice none 0 0), (b, 1, .slice none 0 0)] (by have := HG.out; simp; omega) (.slice a5 n5' c5)).addC (b := g) (i := 0) (v := .slice a5 n5' c5) (by simp [go_sem, k1])
  have k3 : (w5.setCell ⟨g, 0, none⟩ (.slice a5 n5' c5)).cell? ⟨g + 1, 0, none⟩ = some (.slice a2 n2 c2) := S6.out.cel (g + 1) 0 (.slice a2 n2 c2)
  have k4 : (w5.setCell ⟨g, 0, none⟩ (.slice a5 n5' c5)).cell? ⟨g, 0, none⟩ = some (.slice a5 n5' c5) := S6.out.cel (g) 0 (.slice a5 n5' c5)
  go_wp2_with fail
  obtain ⟨w6, hw6⟩ : ∃ w6, w6 = w5.setCell ⟨g, 0, none⟩ (.slice a5 n5' c5) := ⟨_, rfl⟩
  rw [← hw6] at S6
  rw [← hw6]
  clear hw6 k1 k3 k4 f1 S5
  have NV := S6.out.at (.agg #[.slice a5 n5' c5]) (mm * 2 ^ d)
  have HNV : Hid _ := NV
  clear NV
  refine (from_any _ _ (mm * 2 ^ d) (1) _ (HNV.out) (S6.out.at (.agg #[.slice a2 n2 c2]) 1) HN.out.2.2.1 HN.out.2.2.2.1 HN.out.2.2.2.2.1 (HT.out.go S6.out.bel)).mono ?_
  rintro e w7 ⟨v7, rfl, hv7, hb7⟩
  have hv7' := hv7
  obtain ⟨a7, n7, c7, d7, m7, g7, ev7, _, _⟩ := hv7'.raw
  subst ev7
  have S7 : Hid _ := ((S6.out.go hb7).addF hv7).go (w' := w7.alloc (.cells #[.slice a7 n7 c7, .slice d7 m7 g7] 28)) (bel_al (bel_refl _))
  have q0 : (w7.alloc (.cells #[.slice a7 n7 c7, .slice d7 m7 g7] 28)).cell? ⟨w7.heap.size, 0, none⟩ = some (.slice a7 n7 c7) := by simp [go_sem]
  have q1' : (w7.alloc (.cells #[.slice a7 n7 c7, .slice d7 m7 g7] 28)).cell? ⟨w7.heap.size, 1, none⟩ = some (.slice d7 m7 g7) := by simp [go_sem]
  clear hv7 hv7' hb7 S6
  have z0 := S7.out.cel b 0 (.slice none 0 0)
  have z1 := S7.out.cel b 1 (.slice none 0 0)
  have y0 := S7.out.fz b 0
  have y1 := S7.out.fz b 1
  have Z : Hid _ := rat_put (w0 := w) (v := .slice a7 n7 c7) (u := .slice d7 m7 g7) z0 z1 (S7.out.fr (.agg #[.slice a7 n7 c7, .slice d7 m7 g7]) ((mm * 2 ^ d) / Nat.gcd (mm * 2 ^ d) (1)) ((1) / Nat.gcd (mm * 2 ^ d) (1))) S7.out.bel (S7.out.lo b)
  go_wp2_with fail
  exact bodyPost_ret (v := .agg #[.slice a7 n7 c7, .slice d7 m7 g7]) (by simp [results, Tryz.results32, go_sem, z0, z1]) rfl ⟨_, rfl, Z.out.1, Z.out.2⟩
theorem value3_any (u : Nat) (w : World) (hu : u < 9218868437227405312) (hT : Tab w) : Calls Tryz.prog 32 #[.int .u64 (u : Int)] w (MakesR w (fN u / Nat.gcd (fN u) (fD u)) (fD u / Nat.gcd (fN u) (fD u))) := by
  obtain ⟨x0, E, m, t, s, h⟩ := fl_of u (by omega)
  have h' := h
  obtain ⟨h0, hx, hE, hm, ht, hs⟩ := h'
  have hE2 : E = u / 4503599627370496 := by omega
  have hE3 : E < 2047 := by omega
  by_cases c3 : E = 0
  · refine value3_zero u x0 E m t s w h hu hE3 c3 (by omega) hT ?_ ?_
    · unfold fN fm fe
      rw [← hE2, if_pos c3, ← hm, c3]
    · exact ⟨1074 - (E - 1), by omega, by unfold fD fe; rw [← hE2]⟩
  · by_cases c4 : E - 1 < 1074
    · refine value3_low u x0 E m t s _ w h hu hE3 (by omega) c4 rfl (by omega) hT ?_ ?_
      · unfold fN fm fe
        rw [← hE2, if_neg c3, ← hm, show E - 1 - 1074 = 0 by omega]
      · unfold fD fe
        rw [← hE2]
    · refine value3_high u x0 E m t s _ w h hu hE3 (by omega) c4 rfl (by omega) hT ?_ ?_
      · unfold fN fm fe
        rw [← hE2, if_neg c3, ← hm]
      · unfold fD fe
        rw [← hE2, show 1074 - (E - 1) = 0 by omega]
end Go.Proofs.YtmiiaomdenpceaaGreatDoor

namespace Go.Proofs.YtmiiaomdenpceaaGreatDoor
open Go.RowKit
set_option linter.unusedVariables false
/-- Where the nearest whole number lies. -/
theorem near_bounds {p q : Nat} (hq : 0 < q) : 2 * p ≤ 2 * (nearN p q * q) + q ∧ 2 * (nearN p q * q) ≤ 2 * p + q ∧ (2 * p = 2 * (nearN p q * q) + q → nearN p q % 2 = 0) ∧ (2 * (nearN p q * q) = 2 * p + q → nearN p q % 2 = 0) := by
  have d := Nat.div_add_mod p q
  have m := Nat.mod_lt p hq
  unfold nearN
  generalize p / q = f at *
  generalize p % q = r at *
  have e : q * f = f * q := Nat.mul_comm _ _
  generalize hM : f * q = M at *
  have s : (f + 1) * q = M + q := by rw [Nat.add_mul, hM, Nat.one_mul]
  split
  · rw [hM]
    omega
  · split
    · rw [hM]
      omega
    · rw [s]
      omega
theorem p2a (U K : Nat) : 2 ^ (U + 1 - K) * 2 ^ (K - U) = 2 * (2 ^ (U - K) * 2 ^ (K - (U + 1))) := by
  rw [← Nat.pow_add, ← Nat.pow_add, ← Nat.pow_succ']
  congr 1
  omega
theorem p2z (c K : Nat) : c * 2 ^ (0 - 1 - K) * 2 ^ (K - 0) = c * 2 ^ (0 - K) * 2 ^ (K - (0 - 1)) := by
  simp
theorem alg_top {g1 h0 g0 h1 : Nat} (k : g1 * h0 = 2 * (g0 * h1)) : 4503599627370496 * g1 * h0 = 9007199254740992 * g0 * h1 := by
  rw [Nat.mul_assoc, k]
  grind
/-- The value of bits: a whole number of units of 2^(U - 1074). -/
theorem val_units {U c : Nat} (hc : c ≤ 9007199254740992) (hU : U = 0 ∨ 4503599627370496 ≤ c) : fN (U * 4503599627370496 + c) * 2 ^ (1074 - U) = c * 2 ^ (U - 1074) * fD (U * 4503599627370496 + c) := by
  by_cases h1 : c < 4503599627370496
  · obtain rfl : U = 0 := by omega
    have e1 : (0 * 4503599627370496 + c) / 4503599627370496 = 0 := by omega
    have e2 : (0 * 4503599627370496 + c) % 4503599627370496 = c := by omega
    unfold fN fD fm fe
    rewrite [e1, if_pos rfl, e2]
    exact p2z c 1074
  · by_cases h2 : c < 9007199254740992
    · have e1 : (U * 4503599627370496 + c) / 4503599627370496 = U + 1 := by omega
      have e2 : (U * 4503599627370496 + c) % 4503599627370496 + 4503599627370496 = c := by omega
      unfold fN fD fm fe
      rw [e1, if_neg (by omega), e2, show U + 1 - 1 = U by omega]
    · obtain rfl : c = 9007199254740992 := by omega
      have e1 : (U * 4503599627370496 + 9007199254740992) / 4503599627370496 = U + 2 := by omega
      have e2 : (U * 4503599627370496 + 9007199254740992) % 4503599627370496 + 4503599627370496 = 4503599627370496 := by omega
      unfold fN fD fm fe
      rw [e1, if_neg (by omega), e2, show U + 2 - 1 = U + 1 by omega]
      exact alg_top (p2a U 1074)
end Go.Proofs.YtmiiaomdenpceaaGreatDoor

namespace Go.Proofs.YtmiiaomdenpceaaGreatDoor
open Go.RowKit
set_option maxRecDepth 100000
set_option linter.unusedVariables false
theorem sb_eq {s t : ByteArray} (hz : s.size = t.size) (h : ∀ i, i < s.size → sb s i = sb t i) : s = t := by
  apply ByteArray.ext
  apply Array.ext
  · exact hz
  · intro i h1 h2
    have h3 := h i h1
    rw [← sb_at (s := s) h1, ← sb_at (s := t) h2] at h3
    exact UInt8.toNat.inj h3
theorem zrs_at {n i : Nat} (h : i < n) : sb (zrs n) i = 48 := by
  have hs : i < (zrs n).size := by rw [zrs_size]; exact h
  rw [← sb_at hs]
  have : (zrs n)[i]'hs = 48 := by
    show (zrs n).data[i]'_ = _
    simp [zrs]
  rw [this]
  rfl
/-- Zeros ahead of a number's digits: its digits, more of them. -/
theorem zrs_text {x k K : Nat} (hk : x < 10 ^ k) (hK : k ≤ K) : zrs (K - k) ++ decText x k = decText x K := by
  refine sb_eq (by rw [ByteArray.size_append, zrs_size, text_size, text_size]; omega) fun i hi => ?_
  rw [ByteArray.size_append, zrs_size, text_size] at hi
  rw [sb_app, zrs_size, sb_text (show i < K by omega)]
  split
  · rename_i h
    rw [zrs_at h]
    unfold decAt
    rw [Nat.div_eq_of_lt (Nat.lt_of_lt_of_le hk (Nat.pow_le_pow_right (by omega) (by omega)))]
  · rename_i h
    rw [sb_text (show i - (K - k) < k by omega), show k - 1 - (i - (K - k)) = K - 1 - i by omega]
theorem text_high {x K m : Nat} (h : m ≤ K) : (decText x K).extract 0 (K - m) = decText (x / 10 ^ m) (K - m) := by
  refine sb_eq (by rw [size_ext (by rw [text_size]; omega), text_size]; omega) fun i hi => ?_
  rw [size_ext (by rw [text_size]; omega)] at hi
  rw [sb_extract (by rw [text_size]; omega) (by omega), sb_text (by omega), sb_text (by omega)]
  unfold decAt
  rw [Nat.div_div_eq_div_mul, ← Nat.pow_add, show K - 1 - (0 + i) = m + (K - m - 1 - i) by omega]
theorem text_low {x K m : Nat} (h : m ≤ K) : (decText x K).extract (K - m) K = decText x m := by
  refine sb_eq (by rw [size_ext (by rw [text_size]; omega), text_size]; omega) fun i hi => ?_
  rw [size_ext (by rw [text_size]; omega)] at hi
  rw [sb_extract (by rw [text_size]; omega) (by omega), sb_text (by omega), sb_text (by omega)]
  rw [show K - 1 - (K - m + i) = m - 1 - i by omega]
theorem pt_text {x K m : Nat} (h : m ≤ K) : ptT (decText x K) m = decText (x / 10 ^ m) (K - m) ++ ⟨#[46]⟩ ++ decText x m := by
  unfold ptT
  rw [text_size, text_high h, text_low h]
theorem runE_at {s : ByteArray} {i n : Nat} (hi : i ≤ n) (hn : n ≤ s.size) (h1 : ∀ j, i ≤ j → j < n → isD s j = true) (h2 : isD s n = false) : runE s i = n := by
  have e1 := runE_end (s := s) (i := i) (by omega)
  rcases Nat.lt_trichotomy (runE s i) n with h | h | h
  · rw [h1 _ (runE_ge s i) h] at e1
    cases e1
  · exact h
  · rw [runE_dig hi h] at h2
    cases h2
theorem isD_of {s : ByteArray} {i : Nat} (h : i < s.size) (h1 : 48 ≤ sb s i) (h2 : sb s i ≤ 57) : isD s i = true := by
  unfold isD
  rw [decide_eq_true h, decide_eq_true h1, decide_eq_true h2]
  rfl
theorem isD_end {s : ByteArray} {i : Nat} (h : ¬ i < s.size) : isD s i = false := by
  unfold isD
  rw [decide_eq_false h]
  rfl
theorem isD_other {s : ByteArray} {i : Nat} (h : sb s i < 48) : isD s i = false := by
  unfold isD
  rw [decide_eq_false (show ¬ 48 ≤ sb s i by omega)]
  simp
theorem em_app (s : ByteArray) : s ++ em = s := by
  apply ByteArray.ext
  rw [ByteArray.data_append]
  simp [em]
theorem app_head {s t : ByteArray} : (s ++ t).extract 0 s.size = s := by
  refine sb_eq (by rw [size_ext (by rw [ByteArray.size_append]; omega)]; omega) fun i hi => ?_
  rw [size_ext (by rw [ByteArray.size_append]; omega)] at hi
  rw [sb_extract (by rw [ByteArray.size_append]; omega) (by omega), sb_app, if_pos (by omega), Nat.zero_add]
theorem app_tail {s t : ByteArray} {n : Nat} (hn : n = s.size + t.size) : (s ++ t).extract s.size n = t := by
  subst hn
  refine sb_eq (by rw [size_ext (by rw [ByteArray.size_append]; omega)]; omega) fun i hi => ?_
  rw [size_ext (by rw [ByteArray.size_append]; omega)] at hi
  rw [sb_extract (by rw [ByteArray.size_append]; omega) (by omega), sb_app, if_neg (by omega), show s.size + i - s.size = i by omega]
theorem one_size (c : UInt8) : (⟨#[c]⟩ : ByteArray).size = 1 := rfl
theorem sb_one (c : UInt8) : sb ⟨#[c]⟩ 0 = c.toNat := by
  rw [← sb_at (s := ⟨#[c]⟩) (Nat.zero_lt_succ 0)]
  rfl
theorem ext_all (s : ByteArray) : s.extract 0 s.size = s := by
  refine sb_eq (by rw [size_ext (Nat.le_refl _)]; omega) fun i hi => ?_
  rw [size_ext (Nat.le_refl _)] at hi
  rw [sb_extract (Nat.le_refl _) (by omega), Nat.zero_add]
theorem cut_one {s : ByteArray} (h : Digits s s.size) (h0 : 0 < s.size) : cutP s = some ⟨s, em, em, em, false⟩ := by
  have e : runE s 0 = s.size := runE_at (by omega) (Nat.le_refl _) (fun j _ hj => isD_of hj (h j hj).1 (h j hj).2) (isD_end (by omega))
  unfold cutP whoC endC
  rw [e, if_pos (.inr rfl), if_pos ⟨by omega, rfl⟩, ext_all]
  rfl
/-- Digits, a sign, digits. -/
theorem three_at {A B : ByteArray} {c : UInt8} (hA : Digits A A.size) (hB : Digits B B.size) (hc : c.toNat < 48) (hB0 : 0 < B.size) :
    (A ++ ⟨#[c]⟩ ++ B).size = A.size + 1 + B.size ∧ runE (A ++ ⟨#[c]⟩ ++ B) 0 = A.size ∧ sb (A ++ ⟨#[c]⟩ ++ B) A.size = c.toNat ∧ runE (A ++ ⟨#[c]⟩ ++ B) (A.size + 1) = A.size + 1 + B.size
      ∧ (A ++ ⟨#[c]⟩ ++ B).extract 0 A.size = A ∧ (A ++ ⟨#[c]⟩ ++ B).extract (A.size + 1) (A.size + 1 + B.size) = B := by
  have hz : (A ++ ⟨#[c]⟩ ++ B).size = A.size + 1 + B.size := by rw [ByteArray.size_append, ByteArray.size_append, one_size]
  have hz1 : (A ++ ⟨#[c]⟩).size = A.size + 1 := by rw [ByteArray.size_append, one_size]
  have s1 : ∀ j, j < A.size → sb (A ++ ⟨#[c]⟩ ++ B) j = sb A j := fun j hj => by rw [sb_app, hz1, if_pos (by omega), sb_app, if_pos hj]
  have s2 : sb (A ++ ⟨#[c]⟩ ++ B) A.size = c.toNat := by rw [sb_app, hz1, if_pos (by omega), sb_app, if_neg (by omega), Nat.sub_self, sb_one]
  have s3 : ∀ j, A.size + 1 ≤ j → sb (A ++ ⟨#[c]⟩ ++ B) j = sb B (j - (A.size + 1)) := fun j hj => by rw [sb_app, hz1, if_neg (by omega)]
  refine ⟨hz, ?_, s2, ?_, ?_, ?_⟩
  · refine runE_at (by omega) (by omega) (fun j _ hj => isD_of (by omega) ?_ ?_) (isD_other (by omega))
    · rw [s1 j hj]; exact (hA j hj).1
    · rw [s1 j hj]; exact (hA j hj).2
  · refine runE_at (by omega) (by omega) (fun j h1 hj => isD_of (by omega) ?_ ?_) (isD_end (by omega))
    · rw [s3 j h1]; exact (hB _ (by omega)).1
    · rw [s3 j h1]; exact (hB _ (by omega)).2
  · rw [show A ++ ⟨#[c]⟩ ++ B = A ++ (⟨#[c]⟩ ++ B) from ByteArray.append_assoc]
    exact app_head
  · have := app_tail (s := A ++ ⟨#[c]⟩) (t := B) (n := A.size + 1 + B.size) (by rw [hz1])
    rw [hz1] at this
    exact this
theorem cut_bel {A B : ByteArray} (hA : Digits A A.size) (hB : Digits B B.size) (hA0 : 0 < A.size) (hB0 : 0 < B.size) : cutP (A ++ ⟨#[47]⟩ ++ B) = some ⟨A, B, em, em, false⟩ := by
  obtain ⟨hz, e1, e2, e3, e4, e5⟩ := three_at (c := 47) hA hB (by decide) hB0
  rw [show UInt8.toNat 47 = 47 from rfl] at e2
  unfold cutP whoC
  rw [e1, if_neg (by omega), if_pos e2]
  unfold belC endC
  rw [e3, if_pos ⟨by omega, by omega⟩, e4, e5]
  rfl
theorem cut_pla {A B : ByteArray} (hA : Digits A A.size) (hB : Digits B B.size) (hA0 : 0 < A.size) (hB0 : 0 < B.size) : cutP (A ++ ⟨#[46]⟩ ++ B) = some ⟨A, em, B, em, false⟩ := by
  obtain ⟨hz, e1, e2, e3, e4, e5⟩ := three_at (c := 46) hA hB (by decide) hB0
  rw [show UInt8.toNat 46 = 46 from rfl] at e2
  unfold cutP whoC
  rw [e1, if_neg (by omega), if_neg (by rw [e2]; decide), if_pos e2]
  unfold plaC endC
  rw [e3, if_pos (.inr (.inl (by omega))), if_pos ⟨by omega, by omega⟩, e4, e5]
  rfl
theorem em_size : em.size = 0 := rfl
theorem pw_pt (A B C : ByteArray) : pwI ⟨A, C, B, em, false⟩ = -(B.size : Int) := by
  unfold pwI
  simp [em_size, decVal]
/-- The value of a fraction's text. -/
theorem np_fmt {p q k l : Nat} (hg : Nat.gcd p q = 1) (hq : 0 < q) (hk : DecLen p k) (hl : DecLen q l) :
    ((fmtT p q k l).size ≤ 400 → npP (fmtT p q k l) = p ∧ npQ (fmtT p q k l) = q ∧ npE (fmtT p q k l) = 0) ∧ (¬ (fmtT p q k l).size ≤ 400 → npE (fmtT p q k l) = 30) := by
  have k0 := hk.1
  have l0 := hl.1
  have dp : Digits (decText p k) (decText p k).size := by rw [text_size]; exact digits_text p k
  have dq : Digits (decText q l) (decText q l).size := by rw [text_size]; exact digits_text q l
  constructor
  · intro h
    by_cases h1 : q = 1
    · have e : fmtT p q k l = decText p k := by unfold fmtT; rw [if_pos h1]
      rw [e] at h ⊢
      have vn : vN ⟨decText p k, em, em, em, false⟩ = p := by
        unfold vN numA
        rw [if_pos em_size, pw_pt, em_size, em_app, text_size, decVal_text hk]
        simp
      have vd : vD ⟨decText p k, em, em, em, false⟩ = 1 := by
        unfold vD
        rw [if_pos em_size, pw_pt, em_size]
        rfl
      obtain ⟨r1, r2, r3⟩ := np_yes h (cut_one dp (by rw [text_size]; omega)) (by rw [vd]; omega)
      rw [vn, vd, Nat.gcd_one_right] at r1 r2
      rw [r1, r2, r3, h1]
      exact ⟨Nat.div_one _, rfl, rfl⟩
    · have e : fmtT p q k l = decText p k ++ ⟨#[47]⟩ ++ decText q l := by unfold fmtT; rw [if_neg h1]
      rw [e] at h ⊢
      have nz : ¬ (decText q l).size = 0 := by rw [text_size]; omega
      have vn : vN ⟨decText p k, decText q l, em, em, false⟩ = p := by
        unfold vN numA
        rw [if_neg nz, em_app, text_size, decVal_text hk]
      have vd : vD ⟨decText p k, decText q l, em, em, false⟩ = q := by
        unfold vD
        rw [if_neg nz]
        simp only
        rw [text_size, decVal_text hl]
      obtain ⟨r1, r2, r3⟩ := np_yes h (cut_bel dp dq (by rw [text_size]; omega) (by rw [text_size]; omega)) (by rw [vd]; omega)
      rw [vn, vd, hg] at r1 r2
      rw [r1, r2, r3, Nat.div_one, Nat.div_one]
      exact ⟨rfl, rfl, rfl⟩
  · intro h
    refine (np_no ?_).2.2
    unfold npOk
    rw [decide_eq_false h]
    rfl
theorem decimal_text {p q m k : Nat} (hk : DecLen (nearN (p * 10 ^ m) q) k) (hm : 0 < m) : ∃ K, k ≤ K ∧ m < K ∧ (k = K ∨ K = m + 1) ∧ decimalT p q m k = decText (nearN (p * 10 ^ m) q / 10 ^ m) (K - m) ++ ⟨#[46]⟩ ++ decText (nearN (p * 10 ^ m) q) m := by
  refine ⟨m + 1 - k + k, by omega, by omega, by omega, ?_⟩
  have e := zrs_text (x := nearN (p * 10 ^ m) q) (k := k) (K := m + 1 - k + k) hk.2.1 (by omega)
  rw [show m + 1 - k + k - k = m + 1 - k by omega] at e
  unfold decimalT
  rw [if_neg (by omega), e, pt_text (by omega)]
/-- The value of a text with places. -/
theorem np_dec {p q m k : Nat} (hk : DecLen (nearN (p * 10 ^ m) q) k) :
    ((decimalT p q m k).size ≤ 400 → npP (decimalT p q m k) = nearN (p * 10 ^ m) q / Nat.gcd (nearN (p * 10 ^ m) q) (10 ^ m) ∧ npQ (decimalT p q m k) = 10 ^ m / Nat.gcd (nearN (p * 10 ^ m) q) (10 ^ m) ∧ npE (decimalT p q m k) = 0) ∧ (¬ (decimalT p q m k).size ≤ 400 → npE (decimalT p q m k) = 30) := by
  have k0 := hk.1
  constructor
  · intro h
    have t0 : ¬ 10 ^ m = 0 := Nat.ne_of_gt (Nat.pow_pos (by omega))
    rcases Nat.eq_zero_or_pos m with hm | hm
    · subst hm
      have e : decimalT p q 0 k = decText (nearN (p * 10 ^ 0) q) k := by unfold decimalT; rw [if_pos rfl]
      rw [e] at h ⊢
      generalize nearN (p * 10 ^ 0) q = N at hk h ⊢
      have dp : Digits (decText N k) (decText N k).size := by rw [text_size]; exact digits_text N k
      have vn : vN ⟨decText N k, em, em, em, false⟩ = N := by
        unfold vN numA
        rw [if_pos em_size, pw_pt, em_size, em_app, text_size, decVal_text hk]
        simp
      have vd : vD ⟨decText N k, em, em, em, false⟩ = 10 ^ 0 := by
        unfold vD
        rw [if_pos em_size, pw_pt, em_size]
        rfl
      obtain ⟨r1, r2, r3⟩ := np_yes h (cut_one dp (by rw [text_size]; omega)) (by rw [vd]; omega)
      rw [vn, vd] at r1 r2
      exact ⟨r1, r2, r3⟩
    · obtain ⟨K, h1, h2, h3, e⟩ := decimal_text hk hm
      rw [e] at h ⊢
      generalize nearN (p * 10 ^ m) q = N at hk h ⊢
      have dA : Digits (decText (N / 10 ^ m) (K - m)) (decText (N / 10 ^ m) (K - m)).size := by rw [text_size]; exact digits_text _ _
      have dB : Digits (decText N m) (decText N m).size := by rw [text_size]; exact digits_text _ _
      have ej : decText (N / 10 ^ m) (K - m) ++ decText N m = decText N K := by
        have e1 := text_high (x := N) (K := K) (m := m) (by omega)
        have e2 := text_low (x := N) (K := K) (m := m) (by omega)
        rw [← e1, ← e2]
        refine sb_eq (by rw [ByteArray.size_append, size_ext (by rw [text_size]; omega), size_ext (by rw [text_size]; omega), text_size]; omega) fun i hi => ?_
        rw [ByteArray.size_append, size_ext (by rw [text_size]; omega), size_ext (by rw [text_size]; omega)] at hi
        rw [sb_app, size_ext (by rw [text_size]; omega)]
        split
        · rw [sb_extract (by rw [text_size]; omega) (by omega), Nat.zero_add]
        · rw [sb_extract (by rw [text_size]; omega) (by omega), show K - m + (i - (K - m - 0)) = i by omega]
      have vn : vN ⟨decText (N / 10 ^ m) (K - m), em, decText N m, em, false⟩ = N := by
        unfold vN numA
        rw [if_pos em_size, pw_pt]
        simp only
        rw [ej, text_size, decVal_eq (x := N) (k := K) (fun i hi => sb_text hi) K (Nat.le_refl _), Nat.sub_self, Nat.pow_zero, Nat.div_one, Nat.mod_eq_of_lt (Nat.lt_of_lt_of_le hk.2.1 (Nat.pow_le_pow_right (by omega) h1))]
        rw [show (-(((decText N m).size : Nat) : Int)).toNat = 0 by omega, Nat.pow_zero, Nat.mul_one]
      have vd : vD ⟨decText (N / 10 ^ m) (K - m), em, decText N m, em, false⟩ = 10 ^ m := by
        unfold vD
        rw [if_pos em_size, pw_pt, text_size]
        rw [show (-(-(m : Int))).toNat = m by omega]
      obtain ⟨r1, r2, r3⟩ := np_yes h (cut_pla dA dB (by rw [text_size]; omega) (by rw [text_size]; omega)) (by rw [vd]; exact t0)
      rw [vn, vd] at r1 r2
      exact ⟨r1, r2, r3⟩
  · intro h
    refine (np_no ?_).2.2
    unfold npOk
    rw [decide_eq_false h]
    rfl
theorem decimal_size {p q m k : Nat} (hk : DecLen (nearN (p * 10 ^ m) q) k) : (decimalT p q m k).size = if m = 0 then k else (if k ≤ m then m + 1 else k) + 1 := by
  rcases Nat.eq_zero_or_pos m with hm | hm
  · rw [if_pos hm]
    unfold decimalT
    rw [if_pos hm, text_size]
  · obtain ⟨K, h1, h2, h3, e⟩ := decimal_text hk hm
    rw [e, ByteArray.size_append, ByteArray.size_append, text_size, text_size, one_size, if_neg (by omega)]
    split <;> omega
theorem near_exact {c d : Nat} (hd : 0 < d) : nearN (c * d) d = c := by
  unfold nearN
  rw [Nat.mul_mod_left, if_pos (by omega), Nat.mul_div_cancel _ hd]
/-- The bits of a number that is one. -/
theorem bits_back {p q U c : Nat} {e : Int} (h : At p q e) (hq : 0 < q) (h1 : p * 2 ^ (1074 - U) = c * 2 ^ (U - 1074) * q) (h0 : 0 < c) (hc : c < 9007199254740992) (hU : U = 0 ∨ 4503599627370496 ≤ c) : bitsAt p q e = U * 4503599627370496 + c := by
  obtain ⟨u0, hu⟩ : ∃ u0 : Int, u0 = (U : Int) - 1074 := ⟨_, rfl⟩
  have hup : upN p u0 = c * dnN q u0 := by
    unfold upN dnN
    rw [show (-u0).toNat = 1074 - U by omega, show u0.toNat = U - 1074 by omega, h1, Nat.mul_assoc, Nat.mul_comm (2 ^ _) q]
  have hdn := dnN_pos hq u0
  have key : unI e = u0 := by
    rcases Int.lt_or_le e u0 with hlt | hge
    · exfalso
      obtain ⟨k, hk⟩ : ∃ k : Nat, u0 = e + k := ⟨(u0 - e).toNat, by omega⟩
      have k1 : 1 ≤ k := by omega
      have t := (unit_lt (p := p) hq e k 1).2 (by
        have a1 : (2 : Nat) ^ 1 ≤ 2 ^ k := Nat.pow_le_pow_right (by omega) k1
        have a2 := h.2
        have a3 := Nat.mul_le_mul_right (dnN q e) a1
        rw [Nat.one_mul]
        omega)
      rw [← hk, hup, Nat.one_mul] at t
      have := Nat.le_mul_of_pos_left (dnN q u0) h0
      omega
    · obtain ⟨k, hk⟩ : ∃ k : Nat, e = u0 + k := ⟨(e - u0).toNat, by omega⟩
      have a1 := (unit_le (p := p) hq u0 k 1).1 (by rw [← hk, Nat.one_mul]; exact h.1)
      rw [hup, Nat.one_mul] at a1
      have a2 : 2 ^ k ≤ c := Nat.le_of_mul_le_mul_right a1 hdn
      have a3 := (unit_lt (p := p) hq u0 k 2).1 (by rw [← hk]; exact h.2)
      rw [hup] at a3
      have a4 : c < 2 * 2 ^ k := Nat.lt_of_mul_lt_mul_right a3
      have k2 : k ≤ 52 := by
        rcases Nat.lt_or_ge 52 k with g | g
        · have : (2 : Nat) ^ 53 ≤ 2 ^ k := Nat.pow_le_pow_right (by omega) g
          omega
        · exact g
      unfold unI
      rcases hU with g | g
      · split <;> omega
      · have k3 : 52 ≤ k := by
          rcases Nat.lt_or_ge k 52 with g2 | g2
          · have : (2 : Nat) ^ k ≤ 2 ^ 51 := Nat.pow_le_pow_right (by omega) (by omega)
            omega
          · exact g2
        rw [if_neg (by omega)]
        omega
  unfold bitsAt ctN
  rw [key, hup, near_exact hdn, show (u0 + 1074).toNat = U by omega]
theorem tf_back {u : Nat} (hu : u < 9218868437227405312) : tfV (fN u / Nat.gcd (fN u) (fD u)) (fD u / Nat.gcd (fN u) (fD u)) = u ∧ tfOk (fN u / Nat.gcd (fN u) (fD u)) (fD u / Nat.gcd (fN u) (fD u)) = true := by
  have hg : 0 < Nat.gcd (fN u) (fD u) := Nat.gcd_pos_of_pos_right _ (fD_pos u)
  obtain ⟨g, eg⟩ : ∃ g, g = Nat.gcd (fN u) (fD u) := ⟨_, rfl⟩
  have d1 : fN u / g * g = fN u := Nat.div_mul_cancel (by rw [eg]; exact Nat.gcd_dvd_left _ _)
  have d2 : fD u / g * g = fD u := Nat.div_mul_cancel (by rw [eg]; exact Nat.gcd_dvd_right _ _)
  rw [← eg] at hg ⊢
  clear eg
  obtain ⟨U, c, hu2, hc, hU⟩ : ∃ U c, u = U * 4503599627370496 + c ∧ c < 9007199254740992 ∧ (U = 0 ∨ 4503599627370496 ≤ c) := by
    by_cases h : u / 4503599627370496 = 0
    · exact ⟨0, u, by omega, by omega, .inl rfl⟩
    · exact ⟨u / 4503599627370496 - 1, u % 4503599627370496 + 4503599627370496, by omega, by omega, .inr (by omega)⟩
  have v := val_units (U := U) (c := c) (by omega) hU
  rw [← hu2] at v
  obtain ⟨p, ep⟩ : ∃ p, p = fN u / g := ⟨_, rfl⟩
  obtain ⟨q, eq⟩ : ∃ q, q = fD u / g := ⟨_, rfl⟩
  rw [← ep] at d1 ⊢
  rw [← eq] at d2 ⊢
  have hq : 0 < q := by
    rcases Nat.eq_zero_or_pos q with e | e
    · rw [e, Nat.zero_mul] at d2
      have := fD_pos u
      omega
    · exact e
  have v2 : p * 2 ^ (1074 - U) = c * 2 ^ (U - 1074) * q := by
    refine Nat.eq_of_mul_eq_mul_right hg ?_
    rw [Nat.mul_right_comm, d1, v, ← d2, Nat.mul_assoc _ q g]
  rcases Nat.eq_zero_or_pos c with h0 | h0
  · have hp : p = 0 := by
      rw [h0, Nat.zero_mul, Nat.zero_mul] at v2
      rcases Nat.mul_eq_zero.1 v2 with e | e
      · exact e
      · exact absurd e (Nat.ne_of_gt (Nat.two_pow_pos _))
    have hu0 : u = 0 := by omega
    rw [hp, hu0]
    exact ⟨rfl, rfl⟩
  · have hp : 0 < p := by
      rcases Nat.eq_zero_or_pos p with e | e
      · rw [e, Nat.zero_mul] at v2
        have := Nat.mul_pos (Nat.mul_pos h0 (Nat.two_pow_pos (U - 1074))) hq
        omega
      · exact e
    have b : tfB p q = u := by rw [hu2]; exact bits_back (sz_at hp hq) hq v2 h0 hc hU
    obtain ⟨e1, e2⟩ := tf_in (q := q) hp (by rw [b]; exact hu)
    rw [e1, b]
    exact ⟨rfl, e2⟩
theorem dec_ex (x : Nat) : ∃ k, DecLen x k := by
  induction x using Nat.strongRecOn with
  | ind x ih =>
    by_cases h : x < 10
    · exact ⟨1, by omega, by omega, .inl rfl⟩
    · obtain ⟨k, h1, h2, h3⟩ := ih (x / 10) (by omega)
      refine ⟨k + 1, by omega, by rw [Nat.pow_succ]; omega, .inr ?_⟩
      rw [Nat.add_sub_cancel]
      rcases h3 with h3 | h3
      · rw [h3]
        omega
      · rw [show k = (k - 1) + 1 by omega, Nat.pow_succ]
        omega
theorem i64_and63n (n : Int) : bits .and .i64 n 63 = n % 64 := by
  have h127 : (BitVec.ofInt 64 63).toNat = 2 ^ 6 - 1 := by decide
  have key : (BitVec.ofInt 64 n &&& BitVec.ofInt 64 63).toNat = (n % ((2 ^ 64 : Nat) : Int)).toNat % 2 ^ 6 := by
    rw [BitVec.toNat_and, BitVec.toNat_ofInt, h127, Nat.and_two_pow_sub_one_eq_mod]
  show IntKind.i64.wrap ((BitVec.ofInt 64 n &&& BitVec.ofInt 64 63).toNat : Nat) = n % 64
  rw [key, IntKind.wrap_i64]
  omega
theorem and63_ex (z : Int) : ∃ m : Nat, m ≤ 63 ∧ bits .and .i64 z 63 = (m : Int) := ⟨(z % 64).toNat, by omega, by rw [i64_and63n]; omega⟩
end Go.Proofs.YtmiiaomdenpceaaGreatDoor

namespace Go.Proofs.YtmiiaomdenpceaaGreatDoor
open Go.RowKit
set_option maxRecDepth 100000
set_option linter.unusedVariables false
theorem zrs_one : zrs 1 = ⟨#[48]⟩ := by rfl
set_option maxHeartbeats 400000 in
theorem rep_one : RepIs 1 := fun w => by
  rw [zrs_one]
  show Calls Tryz.prog 72 #[.string ⟨#[48]⟩, .int .i64 1] w _
  go_enter Tryz.func72, Tryz.ntmps72
  go_wp2_with fail
  go_ret
  exact ⟨rfl, bel_refl w⟩
theorem st_x (w : World) (hT : Tab w) : Calls Tryz.prog 33 #[.float .f64 4604930618986332160] w (MakesRB w 3 4 true) := by
  have h := fromFloat_all 4604930618986332160 w (by omega) hT
  rw [show ffP 4604930618986332160 = 3 by decide +kernel, show ffQ 4604930618986332160 = 4 by decide +kernel, show isFb 4604930618986332160 = true by decide +kernel] at h
  exact h
def s75 : ByteArray := ⟨#[55, 53, 101, 45, 50]⟩
def s10 : ByteArray := ⟨#[49, 47, 48]⟩
theorem np_75 : npP s75 = 3 ∧ npQ s75 = 4 ∧ npE s75 = 0 := by decide +kernel
theorem np_10 : npP s10 = 0 ∧ npQ s10 = 1 ∧ npE s10 = 30 := by decide +kernel
theorem st_y (w : World) (hT : Tab w) : Calls Tryz.prog 35 #[.string ⟨#[55, 53, 101, 45, 50]⟩] w fun e w' => ∃ v, e = .returned (.tuple #[v, .int .i64 0]) ∧ Rt w' v 3 4 ∧ Below w.heap.size w w' := by
  have h := nparse_any s75 w (by decide +kernel) hT
  unfold MakesP at h
  rw [np_75.1, np_75.2.1, np_75.2.2] at h
  exact h
theorem st_f (w : World) (hT : Tab w) : Calls Tryz.prog 35 #[.string ⟨#[49, 47, 48]⟩] w fun e w' => ∃ v, e = .returned (.tuple #[v, .int .i64 30]) ∧ Rt w' v 0 1 ∧ Below w.heap.size w w' := by
  have h := nparse_any s10 w (by decide +kernel) hT
  unfold MakesP at h
  rw [np_10.1, np_10.2.1, np_10.2.2] at h
  exact h
theorem st_a (v : Value) (w : World) (h : Rt w v 1 3) : Calls Tryz.prog 9 #[v] w fun e w' => e = .returned (.tuple #[.float .f64 4599676419421066581, .bool true]) ∧ Below w.heap.size w w' := by
  have k := toFloat_any v 1 3 w h (rs_few (by omega)) (rs_few (by omega)) (by omega)
  rw [show tfV 1 3 = 4599676419421066581 by decide +kernel, show tfOk 1 3 = true by decide +kernel] at k
  exact k
theorem few_P {x : Nat} (h : x < 100) : x < P 80 := Nat.lt_of_lt_of_le (by rw [P_one]; omega) (P_le (show 1 ≤ 80 by omega))
theorem st_s (v : Value) (w : World) (h : Rt w v 3 4) : Calls Tryz.prog 26 #[v, .int .i64 1] w fun e w' => e = .returned (.tuple #[.string ⟨#[48, 46, 56]⟩, .bool true]) ∧ Below w.heap.size w w' := by
  have k := decimal_any v 3 4 1 1 w h (few_P (by omega)) (few_P (by omega)) (by omega) (by omega) ⟨by omega, by decide +kernel, .inl rfl⟩ rep_one
  rw [show decimalT 3 4 1 1 = ⟨#[48, 46, 56]⟩ by decide +kernel] at k
  exact k
theorem st_t (v : Value) (w : World) (h : Rt w v 3 4) : Calls Tryz.prog 24 #[v] w fun e w' => e = .returned (.string ⟨#[51, 47, 52]⟩) ∧ Below w.heap.size w w' := by
  have k := format_any v 3 4 1 1 w h (rs_few (by omega)) (rs_few (by omega)) ⟨by omega, by omega, .inl rfl⟩ ⟨by omega, by omega, .inl rfl⟩
  rw [show fmtT 3 4 1 1 = ⟨#[51, 47, 52]⟩ by decide +kernel] at k
  exact k
theorem st_c (v u : Value) (w : World) (h : Rt w v 3 4) (k : Rt w u 3 4) : Calls Tryz.prog 30 #[v, u] w fun e w' => e = .returned (.int .i64 0) ∧ Below w.heap.size w w' := by
  have c := ratCmp_any v u 3 4 3 4 w h k (rs_few (by omega)) (rs_few (by omega)) (rs_few (by omega)) (rs_few (by omega))
  rw [show cmpI (3 * 4) (3 * 4) = 0 by decide] at c
  exact c
set_option maxHeartbeats 400000 in
theorem errno3_any (z : Int) (w : World) : Calls Tryz.prog 36 #[.int .i64 z] w fun e w' => e = .returned (.int .i64 z) ∧ w' = w := by
  go_enter Tryz.func36, Tryz.ntmps36
  go_wp2_with fail
  go_ret
  exact ⟨rfl, rfl⟩
set_option maxHeartbeats 1000000 in
theorem started3 (w : World) (hT : Tab w) : Calls Tryz.prog 13 #[] w fun e w' => e = .returned (.bool true) ∧ Below w.heap.size w w' := by
  have HT : Hid (Tab w) := hT
  clear hT
  go_enter Tryz.func13, Tryz.ntmps13
  go_wp2_with fail
  refine (st_x _ HT.out).mono ?_
  rintro e w1 ⟨v1, rfl, hv1, hb1⟩
  have hv1' := hv1
  obtain ⟨a1, n1, c1, d1, m1, g1, ev1, _, _⟩ := hv1'.raw
  subst ev1
  have S1 : Hid _ := (((sy_start w).go hb1).addF hv1).box (.slice a1 n1 c1) (.slice d1 m1 g1) 28 _ rfl
  clear hv1 hv1' hb1
  go_wp2_with fail
  obtain ⟨b1, hb1⟩ : ∃ b1, b1 = w1.heap.size := ⟨_, rfl⟩
  obtain ⟨W1, hW1⟩ : ∃ W1, W1 = w1.alloc (.cells #[.slice a1 n1 c1, .slice d1 m1 g1] 28) := ⟨_, rfl⟩
  rw [← hW1, ← hb1] at S1
  rw [← hW1, ← hb1]
  clear hW1 hb1
  refine (st_y _ (HT.out.go S1.out.bel)).mono ?_
  rintro e w2 ⟨v2, rfl, hv2, hb2⟩
  have hv2' := hv2
  obtain ⟨a2, n2, c2, d2, m2, g2, ev2, _, _⟩ := hv2'.raw
  subst ev2
  have S2 : Hid _ := ((S1.out.go hb2).addF hv2).box (.slice a2 n2 c2) (.slice d2 m2 g2) 28 _ rfl
  clear hv2 hv2' hb2 S1
  go_wp2_with fail
  obtain ⟨b2, hb2⟩ : ∃ b2, b2 = w2.heap.size := ⟨_, rfl⟩
  obtain ⟨W2, hW2⟩ : ∃ W2, W2 = w2.alloc (.cells #[.slice a2 n2 c2, .slice d2 m2 g2] 28) := ⟨_, rfl⟩
  rw [← hW2, ← hb2] at S2
  rw [← hW2, ← hb2]
  clear hW2 hb2
  refine (told_b _ (HT.out.go S2.out.bel)).mono ?_
  rintro e w3 ⟨v3, rfl, hv3, hb3⟩
  have hv3' := hv3
  obtain ⟨a3, n3, c3, d3, m3, g3, ev3, _, _⟩ := hv3'.raw
  subst ev3
  have S3 : Hid _ := ((S2.out.go hb3).addF hv3).box (.slice a3 n3 c3) (.slice d3 m3 g3) 28 _ rfl
  clear hv3 hv3' hb3 S2
  go_wp2_with fail
  obtain ⟨b3, hb3⟩ : ∃ b3, b3 = w3.heap.size := ⟨_, rfl⟩
  obtain ⟨W3, hW3⟩ : ∃ W3, W3 = w3.alloc (.cells #[.slice a3 n3 c3, .slice d3 m3 g3] 28) := ⟨_, rfl⟩
  rw [← hW3, ← hb3] at S3
  rw [← hW3, ← hb3]
  clear hW3 hb3
  refine (st_a _ _ (S3.out.fr (.agg #[.slice a3 n3 c3, .slice d3 m3 g3]) 1 3)).mono ?_
  rintro e w4 ⟨rfl, hb4⟩
  have S4 : Hid _ := S3.out.go hb4
  clear hb4 S3
  have k0 := S4.out.cel b1 0 (.slice a1 n1 c1)
  have k1 := S4.out.cel b1 1 (.slice d1 m1 g1)
  go_wp2_with fail
  refine (st_s _ _ (S4.out.fr (.agg #[.slice a1 n1 c1, .slice d1 m1 g1]) 3 4)).mono ?_
  rintro e w5 ⟨rfl, hb5⟩
  have S5 : Hid _ := S4.out.go hb5
  clear hb5 S4 k0 k1
  go_wp2_with fail
  refine (st_f _ (HT.out.go S5.out.bel)).mono ?_
  rintro e w6 ⟨v6, rfl, hv6, hb6⟩
  have hv6' := hv6
  obtain ⟨a6, n6, c6, d6, m6, g6, ev6, _, _⟩ := hv6'.raw
  subst ev6
  have S6 : Hid _ := (S5.out.go hb6).box (.slice a6 n6 c6) (.slice d6 m6 g6) 28 _ rfl
  clear hv6 hv6' hb6 S5
  go_wp2_with fail
  obtain ⟨W6, hW6⟩ : ∃ W6, W6 = w6.alloc (.cells #[.slice a6 n6 c6, .slice d6 m6 g6] 28) := ⟨_, rfl⟩
  rw [← hW6] at S6
  rw [← hW6]
  clear hW6
  refine (errno3_any 0 _).mono ?_
  rintro e wx ⟨rfl, hwx⟩
  rw [hwx]
  clear hwx wx
  have k0 := S6.out.cel b1 0 (.slice a1 n1 c1)
  have k1 := S6.out.cel b1 1 (.slice d1 m1 g1)
  have k2 := S6.out.cel b2 0 (.slice a2 n2 c2)
  have k3 := S6.out.cel b2 1 (.slice d2 m2 g2)
  go_wp2_with fail
  refine (st_c _ _ _ (S6.out.fr (.agg #[.slice a1 n1 c1, .slice d1 m1 g1]) 3 4) (S6.out.fr (.agg #[.slice a2 n2 c2, .slice d2 m2 g2]) 3 4)).mono ?_
  rintro e w7 ⟨rfl, hb7⟩
  have S7 : Hid _ := S6.out.go hb7
  clear hb7 S6 k0 k1 k2 k3
  go_wp2_with fail
  refine (bits_any 4599676419421066581 _).mono ?_
  rintro e wx ⟨rfl, hwx⟩
  rw [hwx]
  clear hwx wx
  have k0 := S7.out.cel b1 0 (.slice a1 n1 c1)
  have k1 := S7.out.cel b1 1 (.slice d1 m1 g1)
  go_wp2_with fail
  refine (st_t _ _ (S7.out.fr (.agg #[.slice a1 n1 c1, .slice d1 m1 g1]) 3 4)).mono ?_
  rintro e w8 ⟨rfl, hb8⟩
  have S8 : Hid _ := S7.out.go hb8
  clear hb8 S7 k0 k1
  go_wp2_with fail
  refine (errno3_any 30 _).mono ?_
  rintro e wx ⟨rfl, hwx⟩
  rw [hwx]
  clear hwx wx
  go_wp2_with fail
  go_ret
  exact ⟨rfl, S8.out.bel⟩
end Go.Proofs.YtmiiaomdenpceaaGreatDoor

namespace Go.Proofs.YtmiiaomdenpceaaGreatDoor
open Go.RowKit
set_option maxRecDepth 100000
set_option linter.unusedVariables false
theorem ff_RS (u : Nat) (hu : u < 18446744073709551616) : RS (ffP u) ∧ RS (ffQ u) := by
  cases h : isFb u with
  | false =>
    rw [(ff_no h).1, (ff_no h).2]
    exact ⟨rs_word (by omega), rs_word (by omega)⟩
  | true =>
    by_cases h1 : u = 9223372036854775808
    · rw [h1, ff_zero.1, ff_zero.2]
      exact ⟨rs_word (by omega), rs_word (by omega)⟩
    · have h2 : u < 9218868437227405312 := by unfold isFb at h; simp at h; omega
      rw [(ff_yes h2).1, (ff_yes h2).2]
      exact ⟨⟨P_up (Nat.lt_of_le_of_lt (Nat.div_le_self _ _) (fN_lt h2)) (by omega)⟩, ⟨P_up (Nat.lt_of_le_of_lt (Nat.div_le_self _ _) (fD_lt u)) (by omega)⟩⟩
end Go.Proofs.YtmiiaomdenpceaaGreatDoor

