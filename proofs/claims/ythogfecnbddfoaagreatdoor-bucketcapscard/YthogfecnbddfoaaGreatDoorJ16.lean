/- Contracts of the program's functions, part 16: own work, joined in build order. -/
import Derived.Test.YthogfecnbddfoaaGreatDoorJ15
import Derived.ArgAppend
import Derived.Laws.AppendOwnNone
namespace Go.Proofs.YthogfecnbddfoaaGreatDoor
open Go.RowKit
set_option maxRecDepth 100000
set_option linter.unusedVariables false
def subA (p q x y : Nat) : Nat := p * (y / Nat.gcd q y) - x * (q / Nat.gcd q y)
def subP (p q x y : Nat) : Nat := subA p q x y / Nat.gcd (subA p q x y) (Nat.gcd q y)
def subQ (p q x y : Nat) : Nat := q / Nat.gcd q y * (y / Nat.gcd (subA p q x y) (Nat.gcd q y))
theorem sub_cond {p q x y : Nat} (hq : 0 < q) : x * (q / Nat.gcd q y) ≤ p * (y / Nat.gcd q y) ↔ x * q ≤ p * y := by
  have g0 : 0 < Nat.gcd q y := Nat.gcd_pos_of_pos_left _ hq
  obtain ⟨a, ha⟩ := Nat.gcd_dvd_left q y
  obtain ⟨b, hb⟩ := Nat.gcd_dvd_right q y
  generalize Nat.gcd q y = g at *
  have e1 : q / g = a := by rw [ha, Nat.mul_div_cancel_left _ g0]
  have e2 : y / g = b := by rw [hb, Nat.mul_div_cancel_left _ g0]
  rw [e1, e2, ha, hb, show x * (g * a) = g * (x * a) by grind, show p * (g * b) = g * (p * b) by grind]
  exact (Nat.mul_le_mul_left_iff g0).symm
theorem sub_low {p q x y : Nat} (hq : 0 < q) (hy : 0 < y) (h1 : Nat.gcd p q = 1) (h2 : Nat.gcd x y = 1) (hle : x * q ≤ p * y) :
    Nat.gcd (subP p q x y) (subQ p q x y) = 1 ∧ 0 < subQ p q x y ∧ subP p q x y * (q * y) = (p * y - x * q) * subQ p q x y := by
  have hle' := (sub_cond (y := y) (p := p) (x := x) hq).2 hle
  have g0 : 0 < Nat.gcd q y := Nat.gcd_pos_of_pos_left _ hq
  have cab : Nat.Coprime (q / Nat.gcd q y) (y / Nat.gcd q y) := by
    have := Nat.gcd_div (Nat.gcd_dvd_left q y) (Nat.gcd_dvd_right q y)
    rw [Nat.div_self g0] at this
    exact this
  obtain ⟨a, ha⟩ := Nat.gcd_dvd_left q y
  obtain ⟨b, hb⟩ := Nat.gcd_dvd_right q y
  unfold subP subQ subA
  generalize Nat.gcd q y = g at *
  have e1 : q / g = a := by rw [ha, Nat.mul_div_cancel_left _ g0]
  have e2 : y / g = b := by rw [hb, Nat.mul_div_cancel_left _ g0]
  rw [e1, e2] at cab hle'
  rw [e1, e2]
  have hpa : Nat.Coprime p a := Nat.Coprime.coprime_dvd_right ⟨g, by rw [ha, Nat.mul_comm]⟩ h1
  have hxb : Nat.Coprime x b := Nat.Coprime.coprime_dvd_right ⟨g, by rw [hb, Nat.mul_comm]⟩ h2
  obtain ⟨A, hA⟩ : ∃ A, A = p * b - x * a := ⟨_, rfl⟩
  have hA2 : p * b = A + x * a := by omega
  rw [← hA]
  have c1 : Nat.Coprime A a := by
    have h3 : Nat.gcd (A + x * a) a = Nat.gcd A a := Nat.gcd_add_mul_right_left _ _ _
    rw [← hA2] at h3
    show Nat.gcd A a = 1
    rw [← h3]
    exact Nat.Coprime.mul_left hpa cab.symm
  have c2 : Nat.Coprime A b := by
    have h3 : Nat.gcd A b ∣ x * a := by
      have h4 : Nat.gcd A b ∣ p * b - A := Nat.dvd_sub (Nat.dvd_trans (Nat.gcd_dvd_right _ _) (Nat.dvd_mul_left _ _)) (Nat.gcd_dvd_left _ _)
      rw [show p * b - A = x * a by omega] at h4
      exact h4
    have h5 : Nat.Coprime (x * a) b := Nat.Coprime.mul_left hxb cab
    have h6 := Nat.dvd_gcd h3 (Nat.gcd_dvd_right A b)
    rw [h5] at h6
    exact Nat.dvd_one.1 h6
  have key : Nat.gcd A (a * y) = Nat.gcd A g := by
    rw [hb, show a * (g * b) = a * b * g by grind]
    exact Nat.Coprime.gcd_mul_left_cancel_right _ (Nat.Coprime.mul_right c1 c2).symm
  have d0 : 0 < Nat.gcd A g := Nat.gcd_pos_of_pos_right _ g0
  have hdy : Nat.gcd A g ∣ y := Nat.dvd_trans (Nat.gcd_dvd_right _ _) ⟨b, hb⟩
  have hdA : Nat.gcd A g ∣ A := Nat.gcd_dvd_left _ _
  have a0 : 0 < a := by
    rcases Nat.eq_zero_or_pos a with e | e
    · rw [e] at ha; omega
    · exact e
  refine ⟨?_, Nat.mul_pos a0 (Nat.div_pos (Nat.le_of_dvd hy hdy) d0), ?_⟩
  · rw [← Nat.mul_div_assoc _ hdy, Nat.gcd_div hdA (Nat.dvd_trans hdy (Nat.dvd_mul_left _ _)), key, Nat.div_self d0]
  · have e5 : p * y - x * q = g * A := by
      rw [hb, ha, show p * (g * b) = g * (p * b) by grind, hA2, show x * (g * a) = g * (x * a) by grind, Nat.mul_add]
      omega
    rw [e5]
    generalize Nat.gcd A g = d at *
    obtain ⟨A', hA'⟩ := hdA
    obtain ⟨y', hy'⟩ := hdy
    have e3 : A / d = A' := by rw [hA', Nat.mul_div_cancel_left _ d0]
    have e4 : y / d = y' := by rw [hy', Nat.mul_div_cancel_left _ d0]
    rw [e3, e4, hA', ha, hy']
    grind
set_option maxHeartbeats 8000000 in
theorem ratSub_yes (v u : Value) (p q x y : Nat) (w : World) (h : Rt w v p q) (k : Rt w u x y) (hp : RS p) (hq : RS q) (hx : RS x) (hy : RS y) (hle : x * q ≤ p * y) (hT : Tab w) :
    Calls Tryz.prog 26 #[v, u] w (MakesRB w (subP p q x y) (subQ p q x y) true) := by
  obtain ⟨p1, m1, d1, p2, m2, d2, e0, _, _⟩ := h.raw
  subst e0
  obtain ⟨p3, m3, d3, p4, m4, d4, e1, _, _⟩ := k.raw
  subst e1
  have S0 : Hid _ := ((((sx_start w).addF h).addF k).box (.slice p1 m1 d1) (.slice p2 m2 d2) 51 _ rfl).box (.slice p3 m3 d3) (.slice p4 m4 d4) 51 _ rfl
  simp only [World.size_alloc] at S0
  have S1 : Hid _ := S0.out.box (.slice none 0 0) (.slice none 0 0) 51 _ rfl
  simp only [World.size_alloc] at S1
  obtain ⟨w0, hw0⟩ : ∃ w0, w0 = ((w.alloc (.cells #[.slice p1 m1 d1, .slice p2 m2 d2] 51)).alloc (.cells #[.slice p3 m3 d3, .slice p4 m4 d4] 51)).alloc (.cells #[.slice none 0 0, .slice none 0 0] 51) := ⟨_, rfl⟩
  have f6 : w0.frozen? ⟨w.heap.size + 1 + 1, 0, none⟩ = false := by rw [hw0]; simp [go_sem]
  have f7 : w0.frozen? ⟨w.heap.size + 1 + 1, 1, none⟩ = false := by rw [hw0]; simp [go_sem]
  have HH : Hid (RS p ∧ RS q ∧ RS x ∧ RS y ∧ Tab w) := ⟨hp, hq, hx, hy, hT⟩
  have g0 : 0 < Nat.gcd q y := Nat.gcd_pos_of_pos_left _ h.pos
  have hg : RS (Nat.gcd q y) := hq.le (Nat.gcd_le_left _ h.pos)
  have ho : RS (q / Nat.gcd q y) := hq.le (Nat.div_le_self _ _)
  have hy' : RS (y / Nat.gcd q y) := hy.le (Nat.div_le_self _ _)
  have HF : Hid (Fits (p * (y / Nat.gcd q y)) ∧ Fits (x * (q / Nat.gcd q y))) := ⟨fits_P (hp.mul hy') (by omega), fits_P (hx.mul ho) (by omega)⟩
  have hA : subA p q x y < P 198 := Nat.lt_of_le_of_lt (Nat.sub_le _ _) (Nat.lt_trans (hp.mul hy') (P_lt (by omega)))
  have HS : Hid (subA p q x y < P 198 ∧ Nat.gcd q y < P 198 ∧ 0 < Nat.gcd q y ∧ q / Nat.gcd q y < P 99 ∧ y < P 198) := ⟨hA, hg.p198, g0, ho.p99, hy.p198⟩
  have low := sub_low h.pos k.pos h.low k.low hle
  have HL : Hid (Nat.gcd (subP p q x y) (subQ p q x y) = 1 ∧ 0 < subQ p q x y) := ⟨low.1, low.2.1⟩
  have hd : decide (x * (q / Nat.gcd q y) ≤ p * (y / Nat.gcd q y)) = true := decide_eq_true ((sub_cond h.pos).2 hle)
  have HD : Hid _ := hd
  clear low hle
  clear h k hp hq hx hy hT g0 hg ho hy' hA hd S0
  go_enter Tryz.func26, Tryz.ntmps26
  go_wp2_with fail
  rw [← hw0] at S1
  rw [← hw0]
  obtain ⟨b2, hb2⟩ : ∃ b2, b2 = w.heap.size := ⟨_, rfl⟩
  have HB : Hid (w.heap.size ≤ b2 + 1 + 1) := by show _ ≤ _; omega
  rw [← hb2] at S1 f6 f7
  rw [← hb2]
  clear hw0 hb2
  have FZ : Hid (w0.frozen? ⟨b2 + 1 + 1, 0, none⟩ = false ∧ w0.frozen? ⟨b2 + 1 + 1, 1, none⟩ = false) := ⟨f6, f7⟩
  clear f6 f7
  refine (brought_any _ _ p q x y _ (S1.out.fr (.agg #[.slice p1 m1 d1, .slice p2 m2 d2]) p q) (S1.out.fr (.agg #[.slice p3 m3 d3, .slice p4 m4 d4]) x y) HH.out.1 HH.out.2.1 HH.out.2.2.1 HH.out.2.2.2.1 (HH.out.2.2.2.2.go S1.out.bel)).mono ?_
  rintro e v6w ⟨v1, rfl, hv1, hb1⟩
  obtain ⟨a1, n1, c1, a2, n2, c2, a3, n3, c3, a4, n4, c4, a5, n5, c5, ev, h1, h2, h3, h4, h5⟩ := hv1
  subst ev
  have b13 := bel_al (o := .cells #[.slice a1 n1 c1, .slice a2 n2 c2, .slice a3 n3 c3, .slice a4 n4 c4, .slice a5 n5 c5] 82) (bel_refl v6w)
  have hbb := bel_go hb1 b13
  have FZ : Hid ((v6w.alloc (.cells #[.slice a1 n1 c1, .slice a2 n2 c2, .slice a3 n3 c3, .slice a4 n4 c4, .slice a5 n5 c5] 82)).frozen? ⟨b2 + 1 + 1, 0, none⟩ = false ∧ (v6w.alloc (.cells #[.slice a1 n1 c1, .slice a2 n2 c2, .slice a3 n3 c3, .slice a4 n4 c4, .slice a5 n5 c5] 82)).frozen? ⟨b2 + 1 + 1, 1, none⟩ = false) := ⟨(hbb.frozen (World.block_lt_of_cell? _ _ (S1.out.cel (b2 + 1 + 1) 0 (.slice none 0 0)))).trans FZ.out.1, (hbb.frozen (World.block_lt_of_cell? _ _ (S1.out.cel (b2 + 1 + 1) 1 (.slice none 0 0)))).trans FZ.out.2⟩
  have CM : Hid (IsCom (v6w.alloc (.cells #[.slice a1 n1 c1, .slice a2 n2 c2, .slice a3 n3 c3, .slice a4 n4 c4, .slice a5 n5 c5] 82)) (.agg #[.slice a1 n1 c1, .slice a2 n2 c2, .slice a3 n3 c3, .slice a4 n4 c4, .slice a5 n5 c5]) (p * (y / Nat.gcd q y)) (x * (q / Nat.gcd q y)) (q / Nat.gcd q y) y (Nat.gcd q y)) := ⟨_, _, _, _, _, _, _, _, _, _, _, _, _, _, _, rfl, h1.mono b13, h2.mono b13, h3.mono b13, h4.mono b13, h5.mono b13⟩
  have S3 : Hid _ := ((((((((S1.out.go hb1).addN h1).addN h2).go b13).addC (b := v6w.heap.size) (i := 0) (v := .slice a1 n1 c1) (by simp [go_sem])).addC (b := v6w.heap.size) (i := 1) (v := .slice a2 n2 c2) (by simp [go_sem])).addC (b := v6w.heap.size) (i := 2) (v := .slice a3 n3 c3) (by simp [go_sem])).addC (b := v6w.heap.size) (i := 3) (v := .slice a4 n4 c4) (by simp [go_sem])).addC (b := v6w.heap.size) (i := 4) (v := .slice a5 n5 c5) (by simp [go_sem])
  clear h1 h2 h3 h4 h5 hb1 b13 hbb S1
  go_wp2_with fail
  obtain ⟨w6, hw⟩ : ∃ w6, w6 = v6w.alloc (.cells #[.slice a1 n1 c1, .slice a2 n2 c2, .slice a3 n3 c3, .slice a4 n4 c4, .slice a5 n5 c5] 82) := ⟨_, rfl⟩
  obtain ⟨b6, hb⟩ : ∃ b6, b6 = v6w.heap.size := ⟨_, rfl⟩
  rw [← hw, ← hb] at S3
  rw [← hw] at FZ CM
  rw [← hw, ← hb]
  clear hw hb
  have SB := sub_any _ _ (p * (y / Nat.gcd q y)) (x * (q / Nat.gcd q y)) _ (S3.out.at (.agg #[.slice a1 n1 c1]) (p * (y / Nat.gcd q y))) (S3.out.at (.agg #[.slice a2 n2 c2]) (x * (q / Nat.gcd q y))) HF.out.1 HF.out.2
  rw [HD.out] at SB
  refine SB.mono ?_
  clear SB
  rintro e v7w ⟨v4, rfl, hv4, hb4⟩
  obtain ⟨a7, n7, c7, rfl⟩ := hv4.isAgg
  have hbb := bel_go hb4 (bel_al (o := .cells #[.slice a7 n7 c7] 49) (bel_refl v7w))
  have FZ : Hid ((v7w.alloc (.cells #[.slice a7 n7 c7] 49)).frozen? ⟨b2 + 1 + 1, 0, none⟩ = false ∧ (v7w.alloc (.cells #[.slice a7 n7 c7] 49)).frozen? ⟨b2 + 1 + 1, 1, none⟩ = false) := ⟨(hbb.frozen (World.block_lt_of_cell? _ _ (S3.out.cel (b2 + 1 + 1) 0 (.slice none 0 0)))).trans FZ.out.1, (hbb.frozen (World.block_lt_of_cell? _ _ (S3.out.cel (b2 + 1 + 1) 1 (.slice none 0 0)))).trans FZ.out.2⟩
  have CM : Hid (IsCom (v7w.alloc (.cells #[.slice a7 n7 c7] 49)) (.agg #[.slice a1 n1 c1, .slice a2 n2 c2, .slice a3 n3 c3, .slice a4 n4 c4, .slice a5 n5 c5]) (p * (y / Nat.gcd q y)) (x * (q / Nat.gcd q y)) (q / Nat.gcd q y) y (Nat.gcd q y)) := CM.out.mono hbb
  have S4 : Hid _ := ((S3.out.go hb4).addN (x := subA p q x y) hv4).box1 (.slice a7 n7 c7) 49 _ rfl
  clear hv4 hb4 hbb S3
  have z1 := S4.out.cel b6 0 (.slice a1 n1 c1)
  have z2 := S4.out.cel b6 1 (.slice a2 n2 c2)
  have z3 := S4.out.cel b6 2 (.slice a3 n3 c3)
  have z4 := S4.out.cel b6 3 (.slice a4 n4 c4)
  have z5 := S4.out.cel b6 4 (.slice a5 n5 c5)
  go_wp2_with fail
  clear z1 z2 z3 z4 z5
  obtain ⟨w7, hw⟩ : ∃ w7, w7 = v7w.alloc (.cells #[.slice a7 n7 c7] 49) := ⟨_, rfl⟩
  obtain ⟨b7, hb⟩ : ∃ b7, b7 = v7w.heap.size := ⟨_, rfl⟩
  rw [← hw, ← hb] at S4
  rw [← hw] at FZ CM
  rw [← hw, ← hb]
  clear hw hb
  refine (fraction_any _ _ _ _ _ _ _ (subA p q x y) _ CM.out (S4.out.at (.agg #[.slice a7 n7 c7]) (subA p q x y)) HS.out.1 HS.out.2.1 HS.out.2.2.1 HS.out.2.2.2.1 HS.out.2.2.2.2 HL.out.1 HL.out.2 (HH.out.2.2.2.2.go S4.out.bel)).mono ?_
  rintro e w13 ⟨v13, rfl, hv, hb⟩
  obtain ⟨p7, q7, r7, p8, q8, r8, ev, _, _⟩ := hv.raw
  subst ev
  have x0 := cell_later hb (S4.out.cel (b2 + 1 + 1) 0 (.slice none 0 0))
  have x1 := cell_later hb (S4.out.cel (b2 + 1 + 1) 1 (.slice none 0 0))
  have FZ : Hid (w13.frozen? ⟨b2 + 1 + 1, 0, none⟩ = false ∧ w13.frozen? ⟨b2 + 1 + 1, 1, none⟩ = false) := ⟨(hb.frozen (World.block_lt_of_cell? _ _ (S4.out.cel (b2 + 1 + 1) 0 (.slice none 0 0)))).trans FZ.out.1, (hb.frozen (World.block_lt_of_cell? _ _ (S4.out.cel (b2 + 1 + 1) 1 (.slice none 0 0)))).trans FZ.out.2⟩
  have f0 := FZ.out.1
  have f1 := FZ.out.2
  have Z : Hid _ := rat_put (w0 := w) (v := .slice p7 q7 r7) (u := .slice p8 q8 r8) x0 x1 hv (bel_go S4.out.bel hb) HB.out
  clear hv hb S4 FZ CM
  go_wp2_with fail
  exact bodyPost_ret (v := .tuple #[.agg #[.slice p7 q7 r7, .slice p8 q8 r8], .bool true]) (by simp [results, Tryz.results26, go_sem, x0, x1]) rfl ⟨_, rfl, Z.out.1, Z.out.2⟩
set_option maxHeartbeats 8000000 in
theorem ratSub_no (v u : Value) (p q x y : Nat) (w : World) (h : Rt w v p q) (k : Rt w u x y) (hp : RS p) (hq : RS q) (hx : RS x) (hy : RS y) (hlt : p * y < x * q) (hT : Tab w) :
    Calls Tryz.prog 26 #[v, u] w (MakesRB w 0 1 false) := by
  obtain ⟨p1, m1, d1, p2, m2, d2, e0, _, _⟩ := h.raw
  subst e0
  obtain ⟨p3, m3, d3, p4, m4, d4, e1, _, _⟩ := k.raw
  subst e1
  have S0 : Hid _ := ((((sx_start w).addF h).addF k).box (.slice p1 m1 d1) (.slice p2 m2 d2) 51 _ rfl).box (.slice p3 m3 d3) (.slice p4 m4 d4) 51 _ rfl
  simp only [World.size_alloc] at S0
  have S1 : Hid _ := S0.out.box (.slice none 0 0) (.slice none 0 0) 51 _ rfl
  simp only [World.size_alloc] at S1
  obtain ⟨w0, hw0⟩ : ∃ w0, w0 = ((w.alloc (.cells #[.slice p1 m1 d1, .slice p2 m2 d2] 51)).alloc (.cells #[.slice p3 m3 d3, .slice p4 m4 d4] 51)).alloc (.cells #[.slice none 0 0, .slice none 0 0] 51) := ⟨_, rfl⟩
  have f6 : w0.frozen? ⟨w.heap.size + 1 + 1, 0, none⟩ = false := by rw [hw0]; simp [go_sem]
  have f7 : w0.frozen? ⟨w.heap.size + 1 + 1, 1, none⟩ = false := by rw [hw0]; simp [go_sem]
  have HH : Hid (RS p ∧ RS q ∧ RS x ∧ RS y ∧ Tab w) := ⟨hp, hq, hx, hy, hT⟩
  have g0 : 0 < Nat.gcd q y := Nat.gcd_pos_of_pos_left _ h.pos
  have hg : RS (Nat.gcd q y) := hq.le (Nat.gcd_le_left _ h.pos)
  have ho : RS (q / Nat.gcd q y) := hq.le (Nat.div_le_self _ _)
  have hy' : RS (y / Nat.gcd q y) := hy.le (Nat.div_le_self _ _)
  have HF : Hid (Fits (p * (y / Nat.gcd q y)) ∧ Fits (x * (q / Nat.gcd q y))) := ⟨fits_P (hp.mul hy') (by omega), fits_P (hx.mul ho) (by omega)⟩
  have hA : subA p q x y < P 198 := Nat.lt_of_le_of_lt (Nat.sub_le _ _) (Nat.lt_trans (hp.mul hy') (P_lt (by omega)))
  have HS : Hid (subA p q x y < P 198 ∧ Nat.gcd q y < P 198 ∧ 0 < Nat.gcd q y ∧ q / Nat.gcd q y < P 99 ∧ y < P 198) := ⟨hA, hg.p198, g0, ho.p99, hy.p198⟩
  have hd : decide (x * (q / Nat.gcd q y) ≤ p * (y / Nat.gcd q y)) = false := decide_eq_false (fun e => by have := (sub_cond h.pos).1 e; omega)
  have HD : Hid _ := hd
  clear hlt
  clear h k hp hq hx hy hT g0 hg ho hy' hA hd S0
  go_enter Tryz.func26, Tryz.ntmps26
  go_wp2_with fail
  rw [← hw0] at S1
  rw [← hw0]
  obtain ⟨b2, hb2⟩ : ∃ b2, b2 = w.heap.size := ⟨_, rfl⟩
  have HB : Hid (w.heap.size ≤ b2 + 1 + 1) := by show _ ≤ _; omega
  rw [← hb2] at S1 f6 f7
  rw [← hb2]
  clear hw0 hb2
  have FZ : Hid (w0.frozen? ⟨b2 + 1 + 1, 0, none⟩ = false ∧ w0.frozen? ⟨b2 + 1 + 1, 1, none⟩ = false) := ⟨f6, f7⟩
  clear f6 f7
  refine (brought_any _ _ p q x y _ (S1.out.fr (.agg #[.slice p1 m1 d1, .slice p2 m2 d2]) p q) (S1.out.fr (.agg #[.slice p3 m3 d3, .slice p4 m4 d4]) x y) HH.out.1 HH.out.2.1 HH.out.2.2.1 HH.out.2.2.2.1 (HH.out.2.2.2.2.go S1.out.bel)).mono ?_
  rintro e v6w ⟨v1, rfl, hv1, hb1⟩
  obtain ⟨a1, n1, c1, a2, n2, c2, a3, n3, c3, a4, n4, c4, a5, n5, c5, ev, h1, h2, h3, h4, h5⟩ := hv1
  subst ev
  have b13 := bel_al (o := .cells #[.slice a1 n1 c1, .slice a2 n2 c2, .slice a3 n3 c3, .slice a4 n4 c4, .slice a5 n5 c5] 82) (bel_refl v6w)
  have hbb := bel_go hb1 b13
  have FZ : Hid ((v6w.alloc (.cells #[.slice a1 n1 c1, .slice a2 n2 c2, .slice a3 n3 c3, .slice a4 n4 c4, .slice a5 n5 c5] 82)).frozen? ⟨b2 + 1 + 1, 0, none⟩ = false ∧ (v6w.alloc (.cells #[.slice a1 n1 c1, .slice a2 n2 c2, .slice a3 n3 c3, .slice a4 n4 c4, .slice a5 n5 c5] 82)).frozen? ⟨b2 + 1 + 1, 1, none⟩ = false) := ⟨(hbb.frozen (World.block_lt_of_cell? _ _ (S1.out.cel (b2 + 1 + 1) 0 (.slice none 0 0)))).trans FZ.out.1, (hbb.frozen (World.block_lt_of_cell? _ _ (S1.out.cel (b2 + 1 + 1) 1 (.slice none 0 0)))).trans FZ.out.2⟩
  have CM : Hid (IsCom (v6w.alloc (.cells #[.slice a1 n1 c1, .slice a2 n2 c2, .slice a3 n3 c3, .slice a4 n4 c4, .slice a5 n5 c5] 82)) (.agg #[.slice a1 n1 c1, .slice a2 n2 c2, .slice a3 n3 c3, .slice a4 n4 c4, .slice a5 n5 c5]) (p * (y / Nat.gcd q y)) (x * (q / Nat.gcd q y)) (q / Nat.gcd q y) y (Nat.gcd q y)) := ⟨_, _, _, _, _, _, _, _, _, _, _, _, _, _, _, rfl, h1.mono b13, h2.mono b13, h3.mono b13, h4.mono b13, h5.mono b13⟩
  have S3 : Hid _ := ((((((((S1.out.go hb1).addN h1).addN h2).go b13).addC (b := v6w.heap.size) (i := 0) (v := .slice a1 n1 c1) (by simp [go_sem])).addC (b := v6w.heap.size) (i := 1) (v := .slice a2 n2 c2) (by simp [go_sem])).addC (b := v6w.heap.size) (i := 2) (v := .slice a3 n3 c3) (by simp [go_sem])).addC (b := v6w.heap.size) (i := 3) (v := .slice a4 n4 c4) (by simp [go_sem])).addC (b := v6w.heap.size) (i := 4) (v := .slice a5 n5 c5) (by simp [go_sem])
  clear h1 h2 h3 h4 h5 hb1 b13 hbb S1
  go_wp2_with fail
  obtain ⟨w6, hw⟩ : ∃ w6, w6 = v6w.alloc (.cells #[.slice a1 n1 c1, .slice a2 n2 c2, .slice a3 n3 c3, .slice a4 n4 c4, .slice a5 n5 c5] 82) := ⟨_, rfl⟩
  obtain ⟨b6, hb⟩ : ∃ b6, b6 = v6w.heap.size := ⟨_, rfl⟩
  rw [← hw, ← hb] at S3
  rw [← hw] at FZ CM
  rw [← hw, ← hb]
  clear hw hb
  have SB := sub_any _ _ (p * (y / Nat.gcd q y)) (x * (q / Nat.gcd q y)) _ (S3.out.at (.agg #[.slice a1 n1 c1]) (p * (y / Nat.gcd q y))) (S3.out.at (.agg #[.slice a2 n2 c2]) (x * (q / Nat.gcd q y))) HF.out.1 HF.out.2
  rw [HD.out] at SB
  refine SB.mono ?_
  clear SB
  rintro e v7w ⟨v4, rfl, hv4, hb4⟩
  obtain ⟨a7, n7, c7, rfl⟩ := hv4.isAgg
  have hbb := bel_go hb4 (bel_al (o := .cells #[.slice a7 n7 c7] 49) (bel_refl v7w))
  have FZ : Hid ((v7w.alloc (.cells #[.slice a7 n7 c7] 49)).frozen? ⟨b2 + 1 + 1, 0, none⟩ = false ∧ (v7w.alloc (.cells #[.slice a7 n7 c7] 49)).frozen? ⟨b2 + 1 + 1, 1, none⟩ = false) := ⟨(hbb.frozen (World.block_lt_of_cell? _ _ (S3.out.cel (b2 + 1 + 1) 0 (.slice none 0 0)))).trans FZ.out.1, (hbb.frozen (World.block_lt_of_cell? _ _ (S3.out.cel (b2 + 1 + 1) 1 (.slice none 0 0)))).trans FZ.out.2⟩
  have CM : Hid (IsCom (v7w.alloc (.cells #[.slice a7 n7 c7] 49)) (.agg #[.slice a1 n1 c1, .slice a2 n2 c2, .slice a3 n3 c3, .slice a4 n4 c4, .slice a5 n5 c5]) (p * (y / Nat.gcd q y)) (x * (q / Nat.gcd q y)) (q / Nat.gcd q y) y (Nat.gcd q y)) := CM.out.mono hbb
  have S4 : Hid _ := ((S3.out.go hb4).addN (x := subA p q x y) hv4).box1 (.slice a7 n7 c7) 49 _ rfl
  clear hv4 hb4 hbb S3
  have x0 := S4.out.cel (b2 + 1 + 1) 0 (.slice none 0 0)
  have x1 := S4.out.cel (b2 + 1 + 1) 1 (.slice none 0 0)
  have f0 := FZ.out.1
  have f1 := FZ.out.2
  have Z : Hid _ := rat_put (w0 := w) (v := .slice none 0 0) (u := .slice none 0 0) x0 x1 (rt_zero _) S4.out.bel HB.out
  clear S4 FZ CM
  go_wp2_with fail
  exact bodyPost_ret (v := .tuple #[.agg #[.slice none 0 0, .slice none 0 0], .bool false]) (by simp [results, Tryz.results26, go_sem, x0, x1]) rfl ⟨_, rfl, Z.out.1, Z.out.2⟩
end Go.Proofs.YthogfecnbddfoaaGreatDoor

namespace Go.Proofs.YthogfecnbddfoaaGreatDoor
open Go.RowKit
set_option maxRecDepth 100000
set_option linter.unusedVariables false
/-- What Sum knows of its world: the sum so far, in the box behind b; the answer's box b; the fractions, in block g. -/
structure SumS (w0 w : World) (b g n : Nat) (E E' : Nat → Value) (X Y : Nat → Nat) (p q : Nat) (a : Option Addr) (m c : Nat) (a' : Option Addr) (m' c' : Nat) : Prop where
  rt : Rt w (.agg #[.slice a m c, .slice a' m' c']) p q
  c0 : w.cell? ⟨b + 1, 0, none⟩ = some (.slice a m c)
  c1 : w.cell? ⟨b + 1, 1, none⟩ = some (.slice a' m' c')
  f0 : w.frozen? ⟨b + 1, 0, none⟩ = false
  f1 : w.frozen? ⟨b + 1, 1, none⟩ = false
  r0 : w.cell? ⟨b, 0, none⟩ = some (.slice none 0 0)
  r1 : w.cell? ⟨b, 1, none⟩ = some (.slice none 0 0)
  g0 : w.frozen? ⟨b, 0, none⟩ = false
  g1 : w.frozen? ⟨b, 1, none⟩ = false
  el : ∀ i, i < n → w.cell? ⟨g, i * 2, none⟩ = some (E i) ∧ w.cell? ⟨g, i * 2 + 1, none⟩ = some (E' i) ∧ Rt w (.agg #[E i, E' i]) (X i) (Y i)
  bel : Below w0.heap.size w0 w
  ne : g < b
  lo : w0.heap.size ≤ b
theorem SumS.go {w0 w w' : World} {b g n : Nat} {E E' : Nat → Value} {X Y : Nat → Nat} {p q : Nat} {a : Option Addr} {m c : Nat} {a' : Option Addr} {m' c' : Nat} (h : SumS w0 w b g n E E' X Y p q a m c a' m' c') (hb : Below w.heap.size w w') : SumS w0 w' b g n E E' X Y p q a m c a' m' c' :=
  ⟨h.rt.mono hb, cell_later hb h.c0, cell_later hb h.c1, (hb.frozen (World.block_lt_of_cell? _ _ h.c0)).trans h.f0, (hb.frozen (World.block_lt_of_cell? _ _ h.c1)).trans h.f1, cell_later hb h.r0, cell_later hb h.r1, (hb.frozen (World.block_lt_of_cell? _ _ h.r0)).trans h.g0, (hb.frozen (World.block_lt_of_cell? _ _ h.r1)).trans h.g1, fun i hi => ⟨cell_later hb (h.el i hi).1, cell_later hb (h.el i hi).2.1, (h.el i hi).2.2.mono hb⟩, bel_go h.bel hb, h.ne, h.lo⟩
theorem SumS.set {w0 w : World} {b g n : Nat} {E E' : Nat → Value} {X Y : Nat → Nat} {p q : Nat} {a : Option Addr} {m c : Nat} {a' : Option Addr} {m' c' : Nat} (h : SumS w0 w b g n E E' X Y p q a m c a' m' c') {s : Option Addr} {k d : Nat} {s' : Option Addr} {k' d' : Nat} {p' q' : Nat} (hv : Rt w (.agg #[.slice s k d, .slice s' k' d']) p' q') :
    SumS w0 ((w.setCell ⟨b + 1, 0, none⟩ (.slice s k d)).setCell ⟨b + 1, 1, none⟩ (.slice s' k' d')) b g n E E' X Y p' q' s k d s' k' d' := by
  obtain ⟨n1, n2⟩ := two_set h.c0 h.c1 (.slice s k d)
  have hd : (w.setCell ⟨b + 1, 0, none⟩ (.slice s k d)).cell? ⟨b + 1, 1, none⟩ = some (.slice a' m' c') := by rw [World.cell?_setCell_other (h := by simp), h.c1]
  have far : ∀ r i v, r ≠ b + 1 → w.cell? ⟨r, i, none⟩ = some v → ((w.setCell ⟨b + 1, 0, none⟩ (.slice s k d)).setCell ⟨b + 1, 1, none⟩ (.slice s' k' d')).cell? ⟨r, i, none⟩ = some v := fun r i v hr hc => by
    rw [World.cell?_setCell_far _ _ _ _ (by simpa using Ne.symm hr), World.cell?_setCell_far _ _ _ _ (by simpa using Ne.symm hr)]
    exact hc
  have hne := h.ne
  have hlo := h.lo
  refine ⟨(hv.setCell n1 _).setCell n2 _, ?_, by simp [go_sem, hd], by simp [World.frozen?_setCell, h.f0], by simp [World.frozen?_setCell, h.f1], far b 0 _ (by omega) h.r0, far b 1 _ (by omega) h.r1, by simp [World.frozen?_setCell, h.g0], by simp [World.frozen?_setCell, h.g1], fun i hi => ⟨far g _ _ (by omega) (h.el i hi).1, far g _ _ (by omega) (h.el i hi).2.1, ((h.el i hi).2.2.setCell n1 _).setCell n2 _⟩, (h.bel.setCell (p := ⟨b + 1, 0, none⟩) (by show _ ≤ b + 1; omega) _).setCell (p := ⟨b + 1, 1, none⟩) (by show _ ≤ b + 1; omega) _, h.ne, h.lo⟩
  rw [World.cell?_setCell_other (h := by simp)]
  simp [go_sem, h.c0]
end Go.Proofs.YthogfecnbddfoaaGreatDoor

namespace Go.Proofs.YthogfecnbddfoaaGreatDoor
open Go.RowKit
set_option maxRecDepth 100000
set_option linter.unusedVariables false
def bt (D : Nat → Nat) : Nat → Value := fun j => .int .u8 ((D j : Nat) : Int)
def five (j : Nat) : Nat := 201 + j
/-- The first n cells of block g are bytes that may be written. -/
def ByteRow (w : World) (g c n : Nat) (E : Nat → Nat) : Prop := (∃ f, w.rowIs g 5 c f ∧ ∀ i, i < n → f i = bt E i) ∧ n ≤ c
theorem ByteRow.cell {w : World} {g c n : Nat} {E : Nat → Nat} (h : ByteRow w g c n E) {i : Nat} (hi : i < n) : w.cell? ⟨g, i, none⟩ = some (.int .u8 ((E i : Nat) : Int)) := by
  obtain ⟨⟨f, h1, h2⟩, h3⟩ := h
  rw [h1.cell (show i < c by omega), h2 i hi]
  rfl
theorem ByteRow.frozen {w : World} {g c n : Nat} {E : Nat → Nat} (h : ByteRow w g c n E) (i : Nat) : w.frozen? ⟨g, i, none⟩ = false := by
  obtain ⟨⟨f, h1, h2⟩, h3⟩ := h
  exact h1.frozen i
theorem ByteRow.lt {w : World} {g c n : Nat} {E : Nat → Nat} (h : ByteRow w g c n E) : g < w.heap.size := by
  obtain ⟨⟨f, h1, h2⟩, h3⟩ := h
  exact h1.lt
theorem ByteRow.set {w : World} {g c n : Nat} {E : Nat → Nat} (h : ByteRow w g c n E) (i d : Nat) : ByteRow (w.setCell ⟨g, i, none⟩ (.int .u8 (d : Int))) g c n (put E i d) := by
  obtain ⟨⟨f, h1, h2⟩, h3⟩ := h
  refine ⟨⟨_, h1.set i _, fun j hj => ?_⟩, h3⟩
  show (if j = i then _ else f j) = Value.int .u8 ((put E i d j : Nat) : Int)
  by_cases e : j = i
  · subst e
    rw [if_pos rfl, put_same]
  · rw [if_neg e, put_other _ _ e, h2 j hj]
    rfl
theorem ByteRow.below {w w' : World} {g c n : Nat} {E : Nat → Nat} (h : ByteRow w g c n E) (hb : Below w.heap.size w w') : ByteRow w' g c n E := by
  obtain ⟨⟨f, h1, h2⟩, h3⟩ := h
  exact ⟨⟨f, h1.of_block (hb.block g h1.lt), h2⟩, h3⟩
theorem ByteRow.kept {w w' : World} {g c n : Nat} {E : Nat → Nat} (h : ByteRow w g c n E) (hb : w.grownBy w' none) : ByteRow w' g c n E := by
  obtain ⟨⟨f, h1, h2⟩, h3⟩ := h
  exact ⟨⟨f, h1.of_block (hb.block g h1.lt (by simp)), h2⟩, h3⟩
end Go.Proofs.YthogfecnbddfoaaGreatDoor

namespace Go.Proofs.YthogfecnbddfoaaGreatDoor
open Go.RowKit
set_option maxRecDepth 100000
set_option linter.unusedVariables false
theorem told_x (w : World) : Calls Tryz.prog 22 #[.int .i64 3, .int .i64 2] w (MakesRRB w 3 2 true) := by
  have h := rof2_yes 3 2 w (by omega) (by omega) (by omega)
  rw [show 3 / Nat.gcd 3 2 = 3 by decide, show 2 / Nat.gcd 3 2 = 2 by decide] at h
  exact h
theorem rs_few {x : Nat} (h : x < 100) : RS x := rs_word (by omega)
end Go.Proofs.YthogfecnbddfoaaGreatDoor

namespace Go.Proofs.YthogfecnbddfoaaGreatDoor
open Go.RowKit
set_option maxRecDepth 100000
set_option linter.unusedVariables false
/-- The first n cells of block g are bytes that may be written. -/
def Bts (w : World) (g n : Nat) : Prop := ∀ i, i < n → (∃ z : Int, w.cell? ⟨g, i, none⟩ = some (.int .u8 z)) ∧ w.frozen? ⟨g, i, none⟩ = false
theorem Bts.mono {w w' : World} {g n : Nat} (h : Bts w g n) (hb : Below w.heap.size w w') : Bts w' g n := fun i hi => by
  obtain ⟨⟨z, hz⟩, hf⟩ := h i hi
  exact ⟨⟨z, cell_later hb hz⟩, (hb.frozen (World.block_lt_of_cell? _ _ hz)).trans hf⟩
theorem Bts.set {w : World} {g n : Nat} (h : Bts w g n) {p : Addr} (hp : ∀ k q, w.cell? p ≠ some (.int k q)) (u : Value) : Bts (w.setCell p u) g n := fun i hi => by
  obtain ⟨⟨z, hz⟩, hf⟩ := h i hi
  have hne : (⟨g, i, none⟩ : Addr) ≠ p := fun e => hp _ _ (e ▸ hz)
  exact ⟨⟨z, (World.cell?_setCell_other (h := hne.symm) ..).trans hz⟩, by simp [World.frozen?_setCell, hf]⟩
theorem Bts.put {w : World} {g n : Nat} (h : Bts w g n) (p : Addr) (e : Int) : Bts (w.setCell p (.int .u8 e)) g n := fun i hi => by
  obtain ⟨⟨z, hz⟩, hf⟩ := h i hi
  refine ⟨?_, by simp [World.frozen?_setCell, hf]⟩
  by_cases hne : p = ⟨g, i, none⟩
  · subst hne
    exact ⟨e, by simp [go_sem, hz]⟩
  · exact ⟨z, (World.cell?_setCell_other (h := hne) ..).trans hz⟩
theorem IsNat.byte {w : World} {v : Value} {x : Nat} (h : IsNat w v x) {p : Addr} {z : Int} (hp : w.cell? p = some (.int .u8 z)) (u : Value) : IsNat (w.setCell p u) v x := by
  obtain ⟨a, n, cap, F, rfl, ⟨s1, s2, s3, s4⟩, h0, h1, hv⟩ := h
  refine ⟨a, n, cap, F, rfl, ⟨s1, s2, s3, s4.imp id ?_⟩, h0, h1, hv⟩
  rintro ⟨b, o, rfl, hw⟩
  refine ⟨b, o, rfl, fun i hi => ?_⟩
  have hne : (⟨b, o + i, none⟩ : Addr) ≠ p := fun e => by
    have h2 := hw i hi
    rw [e, hp] at h2
    simp at h2
  exact (World.cell?_setCell_other (h := hne.symm) ..).trans (hw i hi)
theorem RNat.byte {w : World} {v : Value} {x : Nat} (h : RNat w v x) {p : Addr} {z : Int} (hp : w.cell? p = some (.int .u8 z)) (u : Value) : RNat (w.setCell p u) v x := by
  obtain ⟨a, n, cap, F, rfl, ⟨s1, s2, s3, s4⟩, h0, h1, hv⟩ := h
  refine ⟨a, n, cap, F, rfl, ⟨s1, s2, s3, s4.imp id ?_⟩, h0, h1, hv⟩
  rintro ⟨b, o, rfl, hw⟩
  refine ⟨b, o, rfl, fun i hi => ?_⟩
  have hne : (⟨b, o + i, none⟩ : Addr) ≠ p := fun e => by
    have h2 := hw i hi
    rw [e, hp] at h2
    simp at h2
  exact (World.cell?_setCell_other (h := hne.symm) ..).trans (hw i hi)
theorem Rt.byte {w : World} {v : Value} {x y : Nat} (h : Rt w v x y) {p : Addr} {z : Int} (hp : w.cell? p = some (.int .u8 z)) (u : Value) : Rt (w.setCell p u) v x y := by
  obtain ⟨⟨a, n, c, a', n', c', e, h1, h2⟩, h3, h4⟩ := h
  exact ⟨⟨a, n, c, a', n', c', e, h1.byte hp u, h2.byte hp u⟩, h3, h4⟩
theorem RRt.byte {w : World} {v : Value} {x y : Nat} (h : RRt w v x y) {p : Addr} {z : Int} (hp : w.cell? p = some (.int .u8 z)) (u : Value) : RRt (w.setCell p u) v x y := by
  obtain ⟨a, n, c, a', n', c', e, h1, h2⟩ := h
  exact ⟨a, n, c, a', n', c', e, h1.byte hp u, h2.byte hp u⟩
/-- A byte is written over: numbers, fractions and what lies in cells that hold slices stay. -/
theorem SX.byte {w0 w : World} {F G : List (Value × Nat × Nat)} {C : List (Nat × Nat × Value)} (h : SX w0 w [] [] F G C) {p : Addr} {z : Int} (hp : w.cell? p = some (.int .u8 z)) (hlo : w0.heap.size ≤ p.block) (hC : ∀ q ∈ C, ∃ a n c, q.2.2 = .slice a n c) (u : Value) : SX w0 (w.setCell p u) [] [] F G C :=
  ⟨(fun _ h => by cases h), (fun _ h => by cases h), fun q hq => (h.frs q hq).byte hp u, fun q hq => (h.rfrs q hq).byte hp u, (fun q hq => by
    obtain ⟨a, n, c, e⟩ := hC q hq
    have h2 := h.cells q hq
    have hne : p ≠ ⟨q.1, q.2.1, none⟩ := fun e2 => by
      rw [← e2, hp, e] at h2
      simp at h2
    exact (World.cell?_setCell_other (h := hne) ..).trans h2), h.bel.setCell hlo u⟩
/-- Only what is still wanted. -/
theorem SX.sub {w0 w : World} {N M : List (Value × Nat)} {F G : List (Value × Nat × Nat)} {C : List (Nat × Nat × Value)} (h : SX w0 w N M F G C) {F' G' : List (Value × Nat × Nat)} {C' : List (Nat × Nat × Value)} (hF : ∀ p ∈ F', p ∈ F) (hG : ∀ p ∈ G', p ∈ G) (hC : ∀ p ∈ C', p ∈ C) : SX w0 w [] [] F' G' C' :=
  ⟨(fun _ h => by cases h), (fun _ h => by cases h), fun p hp => h.frs p (hF p hp), fun p hp => h.rfrs p (hG p hp), fun p hp => h.cells p (hC p hp), h.bel⟩
theorem add_same {p q x y : Nat} (hq : 0 < q) (hy : 0 < y) (h1 : Nat.gcd p q = 1) (h2 : Nat.gcd x y = 1) : (p * y + x * q) / Nat.gcd (p * y + x * q) (q * y) = addP p q x y ∧ (q * y) / Nat.gcd (p * y + x * q) (q * y) = addQ p q x y := by
  have low := add_low hq hy h1 h2 (A := addA p q x y) rfl rfl
  have hD : 0 < q * y := Nat.mul_pos hq hy
  obtain ⟨t1, t2, t3⟩ := low_terms (p * y + x * q) (q * y) hD
  refine low_one t1 low.2.1 t3 low.2.2 ?_
  have g0 : 0 < Nat.gcd q y := Nat.gcd_pos_of_pos_left _ hq
  have cross : addP p q x y * (q * y) = (p * y + x * q) * addQ p q x y := by
    obtain ⟨d0, _, _⟩ := low
    obtain ⟨A, hA⟩ : ∃ A, A = addA p q x y := ⟨_, rfl⟩
    rw [← hA] at d0
    have hP : addP p q x y = A / Nat.gcd A (Nat.gcd q y) := by rw [hA]; rfl
    have hQ : addQ p q x y = q / Nat.gcd q y * (y / Nat.gcd A (Nat.gcd q y)) := by rw [hA]; rfl
    rw [hP, hQ]
    obtain ⟨a, ha⟩ := Nat.gcd_dvd_left q y
    obtain ⟨b, hb⟩ := Nat.gcd_dvd_right q y
    have hA2 : A = p * (y / Nat.gcd q y) + x * (q / Nat.gcd q y) := hA
    obtain ⟨d, hd⟩ : ∃ d, d = Nat.gcd A (Nat.gcd q y) := ⟨_, rfl⟩
    obtain ⟨A', hA'⟩ : d ∣ A := by rw [hd]; exact Nat.gcd_dvd_left _ _
    obtain ⟨y', hy'⟩ : d ∣ y := by rw [hd]; exact Nat.dvd_trans (Nat.gcd_dvd_right _ _) (Nat.gcd_dvd_right q y)
    rw [← hd] at d0
    rw [← hd]
    obtain ⟨g, hg⟩ : ∃ g, g = Nat.gcd q y := ⟨_, rfl⟩
    rw [← hg] at ha hb hA2 g0
    rw [← hg]
    have e1 : q / g = a := by rw [ha, Nat.mul_div_cancel_left _ g0]
    have e2 : y / g = b := by rw [hb, Nat.mul_div_cancel_left _ g0]
    have e3 : A / d = A' := by rw [hA', Nat.mul_div_cancel_left _ d0]
    have e4 : y / d = y' := by rw [hy', Nat.mul_div_cancel_left _ d0]
    rw [e1, e2] at hA2
    rw [e1, e3, e4]
    have e5 : p * y + x * q = g * A := by rw [hA2, ha, hb]; grind
    rw [e5, hA', ha, hy']
    grind
  refine Nat.eq_of_mul_eq_mul_right hD ?_
  obtain ⟨u, hu⟩ : ∃ u, u = (p * y + x * q) / Nat.gcd (p * y + x * q) (q * y) := ⟨_, rfl⟩
  obtain ⟨v, hv⟩ : ∃ v, v = q * y / Nat.gcd (p * y + x * q) (q * y) := ⟨_, rfl⟩
  rw [← hu, ← hv] at t2
  rw [← hu, ← hv]
  have e1 : u * addQ p q x y * (q * y) = u * (q * y) * addQ p q x y := by grind
  have e2 : addP p q x y * v * (q * y) = addP p q x y * (q * y) * v := by grind
  rw [e1, e2, t2, cross]
  grind
/-- A nought ahead of n bytes. -/
def ahead (D : Nat → Nat) : Nat → Nat := fun j => if j < 1 then 0 else D (j - 1)
theorem or_zero (w : World) (base : Nat) (h : base ≤ w.heap.size) (D : Nat → Nat) : OR (w.alloc (.cells #[.int .u8 0] 5)) 5 base (.slice (some ⟨w.heap.size, 0, none⟩) 1 1) 1 (bt (ahead D)) :=
  .inr ⟨w.heap.size, 1, _, rfl, h, Nat.le_refl _, by simp only [maxLen]; omega, World.rowIs_alloc w #[.int .u8 0] 5 (fun _ => .int .u8 0) (fun i hi => by
    obtain rfl : i = 0 := by simpa using hi
    rfl), fun i hi => by
    obtain rfl : i = 0 := by omega
    rfl⟩
end Go.Proofs.YthogfecnbddfoaaGreatDoor

namespace Go.Proofs.YthogfecnbddfoaaGreatDoor
open Go.RowKit
set_option maxRecDepth 100000
set_option linter.unusedVariables false
/-- p / q, in lowest terms, is N / D; its parts have at most n words. -/
structure Fc (p q N D n : Nat) : Prop where
  low : Nat.gcd p q = 1
  pos : 0 < q
  dpos : 0 < D
  val : p * D = N * q
  s1 : p < P n
  s2 : q < P n
theorem Fc.rs1 {p q N D n : Nat} (h : Fc p q N D n) (hn : n ≤ 90) : RS p := ⟨Nat.lt_of_lt_of_le h.s1 (P_le hn)⟩
theorem Fc.rs2 {p q N D n : Nat} (h : Fc p q N D n) (hn : n ≤ 90) : RS q := ⟨Nat.lt_of_lt_of_le h.s2 (P_le hn)⟩
theorem Fc.own {p q n : Nat} (h1 : Nat.gcd p q = 1) (h2 : 0 < q) (h3 : p < P n) (h4 : q < P n) : Fc p q p q n := ⟨h1, h2, h2, rfl, h3, h4⟩
theorem add_cross {p q x y : Nat} (hq : 0 < q) (hy : 0 < y) (h1 : Nat.gcd p q = 1) (h2 : Nat.gcd x y = 1) : addP p q x y * (q * y) = (p * y + x * q) * addQ p q x y := by
  obtain ⟨e1, e2⟩ := add_same hq hy h1 h2
  obtain ⟨_, t2, _⟩ := low_terms (p * y + x * q) (q * y) (Nat.mul_pos hq hy)
  rw [e1, e2] at t2
  exact t2
theorem mulP_lt {x y n m : Nat} (h : x < P n) (k : y < P m) : x * y < P (n + m) := by
  rw [P_add]
  exact Nat.mul_lt_mul'' h k
theorem P_up {x n m : Nat} (h : x < P n) (hm : n ≤ m) : x < P m := Nat.lt_of_lt_of_le h (P_le hm)
theorem val_add {p q x y N1 D1 N2 D2 A B : Nat} (hq : 0 < q) (hy : 0 < y) (v1 : p * D1 = N1 * q) (v2 : x * D2 = N2 * y) (e : A * (q * y) = (p * y + x * q) * B) : A * (D1 * D2) = (N1 * D2 + N2 * D1) * B := by
  refine Nat.eq_of_mul_eq_mul_right (Nat.mul_pos hq hy) ?_
  have h1 : A * (D1 * D2) * (q * y) = A * (q * y) * (D1 * D2) := by grind
  have h2 : (p * y + x * q) * B * (D1 * D2) = (p * D1 * y * D2 + x * D2 * q * D1) * B := by grind
  rw [h1, e, h2, v1, v2]
  grind
theorem val_sub {p q x y N1 D1 N2 D2 A B : Nat} (hq : 0 < q) (hy : 0 < y) (d1 : 0 < D1) (d2 : 0 < D2) (v1 : p * D1 = N1 * q) (v2 : x * D2 = N2 * y) (hle : x * q ≤ p * y) (e : A * (q * y) = (p * y - x * q) * B) : A * (D1 * D2) = (N1 * D2 - N2 * D1) * B ∧ N2 * D1 ≤ N1 * D2 := by
  have hk : (N1 * D2) * (q * y) = (p * y) * (D1 * D2) := by
    have : (p * y) * (D1 * D2) = p * D1 * y * D2 := by grind
    rw [this, v1]
    grind
  have hk2 : (N2 * D1) * (q * y) = (x * q) * (D1 * D2) := by
    have : (x * q) * (D1 * D2) = x * D2 * q * D1 := by grind
    rw [this, v2]
    grind
  refine ⟨?_, ?_⟩
  · refine Nat.eq_of_mul_eq_mul_right (Nat.mul_pos hq hy) ?_
    have h1 : A * (D1 * D2) * (q * y) = A * (q * y) * (D1 * D2) := by grind
    have h2 : (N1 * D2 - N2 * D1) * B * (q * y) = (N1 * D2 - N2 * D1) * (q * y) * B := by grind
    rw [h1, e, h2, Nat.mul_sub_right_distrib (N1 * D2), hk, hk2, ← Nat.mul_sub_right_distrib]
    grind
  · refine Nat.le_of_mul_le_mul_right (c := q * y) ?_ (Nat.mul_pos hq hy)
    rw [hk, hk2]
    exact Nat.mul_le_mul_right _ hle
theorem val_mul {p q x y N1 D1 N2 D2 A B : Nat} (hq : 0 < q) (hy : 0 < y) (v1 : p * D1 = N1 * q) (v2 : x * D2 = N2 * y) (e : A * (q * y) = p * x * B) : A * (D1 * D2) = N1 * N2 * B := by
  refine Nat.eq_of_mul_eq_mul_right (Nat.mul_pos hq hy) ?_
  have h1 : A * (D1 * D2) * (q * y) = A * (q * y) * (D1 * D2) := by grind
  have h2 : p * x * B * (D1 * D2) = p * D1 * (x * D2) * B := by grind
  rw [h1, e, h2, v1, v2]
  grind
theorem Fc.add {p q N1 D1 n x y N2 D2 m : Nat} (h : Fc p q N1 D1 n) (k : Fc x y N2 D2 m) (hn : n ≤ 90) (hm : m ≤ 90) : ∃ A B, Fc A B (N1 * D2 + N2 * D1) (D1 * D2) (n + m + 1) ∧ (A = addP p q x y ∧ B = addQ p q x y) ∧ ∀ v u w, Rt w v p q → Rt w u x y → Tab w → Calls Tryz.prog 57 #[v, u] w (MakesR w A B) := by
  have low := add_low h.pos k.pos h.low k.low (A := addA p q x y) rfl rfl
  have d1 : y / Nat.gcd q y < P m := Nat.lt_of_le_of_lt (Nat.div_le_self _ _) k.s2
  have d2 : q / Nat.gcd q y < P n := Nat.lt_of_le_of_lt (Nat.div_le_self _ _) h.s2
  have h1 : addA p q x y < P (n + m + 1) := P_twice (mulP_lt h.s1 d1) (by rw [Nat.add_comm n m]; exact mulP_lt k.s1 d2)
  have h2 : addQ p q x y < P (n + m) := mulP_lt d2 (Nat.lt_of_le_of_lt (Nat.div_le_self _ _) k.s2)
  exact ⟨_, _, ⟨low.2.1, low.2.2, Nat.mul_pos h.dpos k.dpos, val_add h.pos k.pos h.val k.val (add_cross h.pos k.pos h.low k.low), Nat.lt_of_le_of_lt (Nat.div_le_self _ _) h1, P_up h2 (by omega)⟩, ⟨rfl, rfl⟩, fun v u w e1 e2 hT => ratAdd_any v u p q x y w e1 e2 (h.rs1 hn) (h.rs2 hn) (k.rs1 hm) (k.rs2 hm) hT⟩
theorem Fc.mul {p q N1 D1 n x y N2 D2 m : Nat} (h : Fc p q N1 D1 n) (k : Fc x y N2 D2 m) (hn : n ≤ 90) (hm : m ≤ 90) : ∃ A B, Fc A B (N1 * N2) (D1 * D2) (n + m) ∧ ∀ v u w, Rt w v p q → Rt w u x y → Tab w → Calls Tryz.prog 51 #[v, u] w (MakesR w A B) := by
  have low := mul_low h.pos k.pos h.low k.low
  exact ⟨_, _, ⟨low.1, low.2.1, Nat.mul_pos h.dpos k.dpos, val_mul h.pos k.pos h.val k.val low.2.2, mulP_lt (Nat.lt_of_le_of_lt (Nat.div_le_self _ _) h.s1) (Nat.lt_of_le_of_lt (Nat.div_le_self _ _) k.s1), mulP_lt (Nat.lt_of_le_of_lt (Nat.div_le_self _ _) h.s2) (Nat.lt_of_le_of_lt (Nat.div_le_self _ _) k.s2)⟩, fun v u w e1 e2 hT => ratMul_any v u p q x y w e1 e2 (h.rs1 hn) (h.rs2 hn) (k.rs1 hm) (k.rs2 hm) hT⟩
theorem Fc.cross {p q N1 D1 n x y N2 D2 m : Nat} (h : Fc p q N1 D1 n) (k : Fc x y N2 D2 m) : (p * y) * (D1 * D2) = (N1 * D2) * (q * y) ∧ (x * q) * (D1 * D2) = (N2 * D1) * (q * y) := by
  constructor
  · have : (p * y) * (D1 * D2) = p * D1 * (y * D2) := by grind
    rw [this, h.val]
    grind
  · have : (x * q) * (D1 * D2) = x * D2 * (q * D1) := by grind
    rw [this, k.val]
    grind
theorem Fc.le {p q N1 D1 n x y N2 D2 m : Nat} (h : Fc p q N1 D1 n) (k : Fc x y N2 D2 m) : x * q ≤ p * y ↔ N2 * D1 ≤ N1 * D2 := by
  obtain ⟨e1, e2⟩ := h.cross k
  have hd := Nat.mul_pos h.dpos k.dpos
  have hq := Nat.mul_pos h.pos k.pos
  rw [← Nat.mul_le_mul_right_iff hd, e1, e2, Nat.mul_le_mul_right_iff hq]
theorem Fc.sub {p q N1 D1 n x y N2 D2 m : Nat} (h : Fc p q N1 D1 n) (k : Fc x y N2 D2 m) (hn : n ≤ 90) (hm : m ≤ 90) (hle : N2 * D1 ≤ N1 * D2) : ∃ A B, Fc A B (N1 * D2 - N2 * D1) (D1 * D2) (n + m) ∧ ∀ v u w, Rt w v p q → Rt w u x y → Tab w → Calls Tryz.prog 26 #[v, u] w (MakesRB w A B true) := by
  have hle' := (h.le k).2 hle
  have low := sub_low h.pos k.pos h.low k.low hle'
  have d1 : y / Nat.gcd q y < P m := Nat.lt_of_le_of_lt (Nat.div_le_self _ _) k.s2
  have d2 : q / Nat.gcd q y < P n := Nat.lt_of_le_of_lt (Nat.div_le_self _ _) h.s2
  have h1 : subA p q x y < P (n + m) := Nat.lt_of_le_of_lt (Nat.sub_le _ _) (mulP_lt h.s1 d1)
  have h2 : subQ p q x y < P (n + m) := mulP_lt d2 (Nat.lt_of_le_of_lt (Nat.div_le_self _ _) k.s2)
  exact ⟨_, _, ⟨low.1, low.2.1, Nat.mul_pos h.dpos k.dpos, (val_sub h.pos k.pos h.dpos k.dpos h.val k.val hle' low.2.2).1, Nat.lt_of_le_of_lt (Nat.div_le_self _ _) h1, h2⟩, fun v u w e1 e2 hT => ratSub_yes v u p q x y w e1 e2 (h.rs1 hn) (h.rs2 hn) (k.rs1 hm) (k.rs2 hm) hle' hT⟩
theorem Fc.sub_no {p q N1 D1 n x y N2 D2 m : Nat} (h : Fc p q N1 D1 n) (k : Fc x y N2 D2 m) (hn : n ≤ 90) (hm : m ≤ 90) (hlt : N1 * D2 < N2 * D1) : ∀ v u w, Rt w v p q → Rt w u x y → Tab w → Calls Tryz.prog 26 #[v, u] w (MakesRB w 0 1 false) := fun v u w e1 e2 hT =>
  ratSub_no v u p q x y w e1 e2 (h.rs1 hn) (h.rs2 hn) (k.rs1 hm) (k.rs2 hm) (Nat.lt_of_not_le fun e => by have := (h.le k).1 e; omega) hT
theorem Fc.zero {p q N D n : Nat} (h : Fc p q N D n) : p = 0 ↔ N = 0 := by
  have h1 := h.val
  have h2 := h.pos
  have h3 := h.dpos
  constructor
  · rintro rfl
    rw [Nat.zero_mul] at h1
    rcases Nat.mul_eq_zero.1 h1.symm with e | e
    · exact e
    · omega
  · rintro rfl
    rw [Nat.zero_mul] at h1
    rcases Nat.mul_eq_zero.1 h1 with e | e
    · exact e
    · omega
theorem cmp_scale {a b c d s t : Nat} (hs : 0 < s) (ht : 0 < t) (e1 : a * s = c * t) (e2 : b * s = d * t) : cmpI a b = cmpI c d := by
  have l1 : a < b ↔ c < d := by rw [← Nat.mul_lt_mul_right hs, e1, e2, Nat.mul_lt_mul_right ht]
  have l2 : b < a ↔ d < c := by rw [← Nat.mul_lt_mul_right hs, e1, e2, Nat.mul_lt_mul_right ht]
  unfold cmpI
  by_cases h1 : a < b
  · rw [if_pos h1, if_pos (l1.1 h1)]
  · rw [if_neg h1, if_neg (fun e => h1 (l1.2 e))]
    by_cases h2 : b < a
    · have h3 := l2.1 h2
      rw [if_neg (by omega), if_neg (by omega)]
    · have h3 : ¬ d < c := fun e => h2 (l2.2 e)
      have h4 : ¬ c < d := fun e => h1 (l1.2 e)
      rw [if_pos (by omega), if_pos (by omega)]
def Three (w : World) (v : Value) (X Y : Nat → Nat) : Prop := ∃ (g : Nat) (E E' : Nat → Value), v = .slice (some ⟨g, 0, none⟩) 3 3 ∧ g < w.heap.size ∧ ∀ i, i < 3 → w.cell? ⟨g, i * 2, none⟩ = some (E i) ∧ w.cell? ⟨g, i * 2 + 1, none⟩ = some (E' i) ∧ Rt w (.agg #[E i, E' i]) (X i) (Y i)
theorem Three.mono {w w' : World} {v : Value} {X Y : Nat → Nat} (h : Three w v X Y) (hb : Below w.heap.size w w') : Three w' v X Y := by
  obtain ⟨g, E, E', e, hg, he⟩ := h
  exact ⟨g, E, E', e, Nat.lt_of_lt_of_le hg hb.size, fun i hi => ⟨cell_later hb (he i hi).1, cell_later hb (he i hi).2.1, (he i hi).2.2.mono hb⟩⟩
/-- Regions whose order is open and that write no cell that was there: what is known need only outlast what comes later. -/
def MSpec : Type := { R : World → Value → Prop // ∀ {w w' : World} {v : Value}, R w v → Below w.heap.size w w' → R w' v }
def Spec.m (s : Spec) : MSpec := ⟨s.1, fun h hb => s.2.mono h hb⟩
structure JM (w0 : World) (specs : List MSpec) (L : Nat → Bool) (vs : Nat → Value) (w : World) : Prop where
  bel : Below w0.heap.size w0 w
  sp : ∀ i, L i = true → (specs.getD i sAny.m).1 w (vs i)
theorem JM.start (w : World) (specs : List MSpec) : JM w specs (fun _ => false) (fun _ => undef) w.drew := ⟨bel_dr (Below.refl _ _), (fun _ h => by cases h)⟩
theorem JM.step {w0 : World} {specs : List MSpec} {L : Nat → Bool} {vs : Nat → Value} {w w' : World} (h : JM w0 specs L vs w) {i : Nat} (hL : L i = false) (_ : 0 = 0) (hb : Below w.heap.size w w') {v : Value} (hs : (specs.getD i sAny.m).1 w' v) : JM w0 specs (updB L i) (updV vs i v) w' := by
  refine ⟨bel_go h.bel hb, fun j hj => ?_⟩
  by_cases e : j = i
  · subst e
    simpa [updV] using hs
  · have hj' : L j = true := by simpa [updB, e] using hj
    have : updV vs i v j = vs j := by simp [updV, e]
    rw [this]
    exact (specs.getD j sAny.m).2 (h.sp j hj') hb
end Go.Proofs.YthogfecnbddfoaaGreatDoor

namespace Go.Proofs.YthogfecnbddfoaaGreatDoor
open Go.RowKit
set_option maxRecDepth 100000
set_option linter.unusedVariables false
theorem Fc.dvd {p q N D n : Nat} (h : Fc p q N D n) : p ∣ N ∧ q ∣ D := by
  refine ⟨Nat.Coprime.dvd_of_dvd_mul_right h.low ⟨D, h.val.symm⟩, ?_⟩
  exact Nat.Coprime.dvd_of_dvd_mul_left (Nat.Coprime.symm h.low) ⟨N, by rw [h.val, Nat.mul_comm]⟩
theorem Fc.le1 {p q N D n : Nat} (h : Fc p q N D n) : p ≤ N := by
  rcases Nat.eq_zero_or_pos N with e | e
  · rw [h.zero.2 e]
    omega
  · exact Nat.le_of_dvd e h.dvd.1
theorem Fc.le2 {p q N D n : Nat} (h : Fc p q N D n) : q ≤ D := Nat.le_of_dvd h.dpos h.dvd.2
theorem Fc.norm {p q N D n m : Nat} (h : Fc p q N D n) (hN : N < P m) (hD : D < P m) : Fc p q N D m :=
  ⟨h.low, h.pos, h.dpos, h.val, Nat.lt_of_le_of_lt h.le1 hN, Nat.lt_of_le_of_lt h.le2 hD⟩
theorem Fc.scale {p q N D k n N' D' : Nat} (h : Fc p q N' D' n) (hN : N' = N * k) (hD : D' = D * k) (hk : 0 < k) : Fc p q N D n := by
  subst hN hD
  refine ⟨h.low, h.pos, Nat.pos_of_ne_zero fun e => ?_, ?_, h.s1, h.s2⟩
  · have := h.dpos
    rw [e, Nat.zero_mul] at this
    omega
  · refine Nat.eq_of_mul_eq_mul_right hk ?_
    have := h.val
    rw [Nat.mul_assoc, this]
    grind
theorem Fc.one {p q p' q' N D n m : Nat} (h : Fc p q N D n) (k : Fc p' q' N D m) : p = p' ∧ q = q' := by
  have e : p * q' = p' * q := by
    refine Nat.eq_of_mul_eq_mul_right h.dpos ?_
    have h1 := h.val
    have h2 := k.val
    rw [show p * q' * D = p * D * q' by grind, h1, show p' * q * D = p' * D * q by grind, h2]
    grind
  have a1 : q ∣ q' := Nat.Coprime.dvd_of_dvd_mul_left (Nat.Coprime.symm h.low) ⟨p', by rw [e, Nat.mul_comm]⟩
  have a2 : q' ∣ q := Nat.Coprime.dvd_of_dvd_mul_left (Nat.Coprime.symm k.low) ⟨p, by rw [← e, Nat.mul_comm]⟩
  have e2 : q = q' := Nat.dvd_antisymm a1 a2
  subst e2
  exact ⟨Nat.eq_of_mul_eq_mul_right h.pos e, rfl⟩
/-- The tick that a bucket of the time T is brought to by t. -/
def atT (T : Nat) (t : Int) : Nat := max T (min t.toNat 4611686018427387904)
/-- What it has then. -/
def fillN (N R D B k : Nat) : Nat := min (N + R * k) (B * D)
theorem fillN_le (N R D B k : Nat) : fillN N R D B k ≤ B * D := Nat.min_le_right _ _
theorem fillN_zero {N R D B : Nat} (h : N ≤ B * D) : fillN N R D B 0 = N := by unfold fillN; rw [Nat.mul_zero, Nat.add_zero]; exact Nat.min_eq_left h
theorem fillN_full {N R D B k : Nat} (h : B * D ≤ N) (h2 : N ≤ B * D) : fillN N R D B k = N := by unfold fillN; omega
def atN (T N R D B : Nat) (t : Int) : Nat := fillN N R D B (atT T t - T)
/-- What Take tells, and what is left. -/
def takeE (N D : Nat) (n : Int) : Int := if n < 1 then 1 else if N < n.toNat * D then 80 else 0
def takeN (N D : Nat) (n : Int) : Nat := if n < 1 then N else if N < n.toNat * D then N else N - n.toNat * D
/-- Of the blocks that were there none has turned but those of S. -/
structure Fb (S : Nat → Prop) (W W' : World) : Prop where
  os : W'.os = W.os
  tape : W'.tape = W.tape
  output : W'.output = W.output
  size : W.heap.size ≤ W'.heap.size
  block : ∀ k, k < W.heap.size → ¬ S k → W'.heap[k]? = W.heap[k]?
theorem Fb.refl (S : Nat → Prop) (W : World) : Fb S W W := ⟨rfl, rfl, rfl, Nat.le_refl _, fun _ _ _ => rfl⟩
theorem Fb.trans {S : Nat → Prop} {a b c : World} (h : Fb S a b) (k : Fb S b c) : Fb S a c :=
  ⟨k.os.trans h.os, k.tape.trans h.tape, k.output.trans h.output, Nat.le_trans h.size k.size, fun i hi hn => (k.block i (Nat.lt_of_lt_of_le hi h.size) hn).trans (h.block i hi hn)⟩
theorem Fb.of {S : Nat → Prop} {a b : World} (h : Below a.heap.size a b) : Fb S a b := ⟨h.os, h.tape, h.output, h.size, fun i hi _ => h.block i hi⟩
theorem Fb.go {S : Nat → Prop} {a b c : World} (h : Fb S a b) (k : Below b.heap.size b c) : Fb S a c := h.trans (Fb.of k)
theorem Fb.set {S : Nat → Prop} {a b : World} (h : Fb S a b) {x : Addr} (hx : S x.block) (u : Value) : Fb S a (b.setCell x u) :=
  h.trans ⟨rfl, rfl, rfl, by simp [World.setCell], fun k hk hn => Below.heap_setCell _ _ _ _ fun e => hn (e ▸ hx)⟩
theorem Fb.below {S : Nat → Prop} {a b : World} (h : Fb S a b) {lb : Nat} (hl : lb ≤ a.heap.size) (hs : ∀ k, S k → lb ≤ k) : Below lb a b :=
  ⟨h.os, h.tape, h.output, h.size, fun k hk => h.block k (by omega) fun e => by have := hs k e; omega⟩
theorem Fb.cell {S : Nat → Prop} {a b : World} (h : Fb S a b) {p : Addr} {v : Value} (hv : a.cell? p = some v) (hn : ¬ S p.block) : b.cell? p = some v :=
  (World.cell?_of_block (w := a) (h.block p.block (World.block_lt_of_cell? _ _ hv) hn)).trans hv
theorem Fb.heap {S : Nat → Prop} {a b : World} (h : Fb S a b) {k : Nat} {o : Obj} (hv : a.heap[k]? = some o) (hn : ¬ S k) : b.heap[k]? = some o :=
  (h.block k (Array.getElem?_eq_some_iff.1 hv).1 hn).trans hv
/-- All numbers that lie in the block are ints. -/
def Odd (W : World) (b : Nat) : Prop := ∀ i k n, W.cell? ⟨b, i, none⟩ = some (.int k n) → k = .i64
theorem Words.fb {S : Nat → Prop} {W W' : World} {b o n : Nat} {F : Nat → Nat} (h : Words W b o n F) (f : Fb S W W') (hn : ∀ k, S k → Odd W k) : Words W' b o n F := fun i hi =>
  f.cell (h i hi) fun hs => by have := hn b hs (o + i) _ _ (h i hi); cases this
theorem Sl.fb {S : Nat → Prop} {W W' : World} {a : Option Addr} {n cap : Nat} {F : Nat → Nat} (h : Sl W a n cap F) (f : Fb S W W') (hn : ∀ k, S k → Odd W k) : Sl W' a n cap F := by
  obtain ⟨h1, h2, h3, h4⟩ := h
  refine ⟨h1, h2, h3, h4.imp id ?_⟩
  rintro ⟨b, o, ha, hw⟩
  exact ⟨b, o, ha, hw.fb f hn⟩
theorem IsNat.fb {S : Nat → Prop} {W W' : World} {v : Value} {x : Nat} (h : IsNat W v x) (f : Fb S W W') (hn : ∀ k, S k → Odd W k) : IsNat W' v x := by
  obtain ⟨a, n, cap, F, rfl, hs, h0, h1, hv⟩ := h
  exact ⟨a, n, cap, F, rfl, hs.fb f hn, h0, h1, hv⟩
theorem RNat.fb {S : Nat → Prop} {W W' : World} {v : Value} {x : Nat} (h : RNat W v x) (f : Fb S W W') (hn : ∀ k, S k → Odd W k) : RNat W' v x := by
  obtain ⟨a, n, cap, F, e, hs, hd, h1, hv⟩ := h
  exact ⟨a, n, cap, F, e, hs.fb f hn, hd, h1, hv⟩
theorem Rt.fb {S : Nat → Prop} {W W' : World} {v : Value} {p q : Nat} (h : Rt W v p q) (f : Fb S W W') (hn : ∀ k, S k → Odd W k) : Rt W' v p q := by
  obtain ⟨a, n, c, a', n', c', e, h1, h2⟩ := h.raw
  exact ⟨⟨a, n, c, a', n', c', e, h1.fb f hn, h2.fb f hn⟩, h.pos, h.low⟩
theorem RRt.fb {S : Nat → Prop} {W W' : World} {v : Value} {p q : Nat} (h : RRt W v p q) (f : Fb S W W') (hn : ∀ k, S k → Odd W k) : RRt W' v p q := by
  obtain ⟨a, n, c, a', n', c', e, h1, h2⟩ := h
  exact ⟨a, n, c, a', n', c', e, h1.fb f hn, h2.fb f hn⟩
theorem Tab.fb {S : Nat → Prop} {W W' : World} (h : Tab W) (f : Fb S W W') (hn : ∀ k, S k → Odd W k) : Tab W' := fun j hj =>
  f.cell (h j hj) fun hs => by have := hn _ hs _ _ _ (h j hj); cases this
/-- The block of a bucket: its time, what it has, its burst, its rate. -/
def BkAt (W : World) (b T : Nat) (u1 u2 u3 u4 u5 u6 : Value) : Prop := W.heap[b]? = some (.cells #[.int .i64 (T : Int), u1, u2, u3, u4, u5, u6] 58)
def isSl (v : Value) : Prop := ∃ a n c, v = .slice a n c
/-- b is a bucket of the time T that has N / D tokens; its rate is R / D, its burst B. -/
structure Bv (W : World) (b T N R D B : Nat) : Prop where
  ex : ∃ p q u1 u2 u3 u4 u5 u6, BkAt W b T u1 u2 u3 u4 u5 u6 ∧ Rt W (.agg #[u1, u2]) p q ∧ Fc p q N D 20 ∧ Rt W (.agg #[u3, u4]) B 1 ∧ Rt W (.agg #[u5, u6]) R D
  cT : T ≤ 4611686018427387904
  cB : 1 ≤ B ∧ B ≤ 1099511627776
  cD : 0 < D ∧ D < P 18
  cR : R < P 17
  low : Nat.gcd R D = 1
/-- And it has no more than its burst. -/
structure Bu (W : World) (b T N R D B : Nat) : Prop extends Bv W b T N R D B where
  cN : N ≤ B * D
theorem Rt.sl {W : World} {u1 u2 : Value} {p q : Nat} (h : Rt W (.agg #[u1, u2]) p q) : isSl u1 ∧ isSl u2 := by
  obtain ⟨a, n, c, a', n', c', e, _, _⟩ := h.raw
  injection e with e
  injection e with e
  injection e with e1 e
  injection e with e2 e
  exact ⟨⟨_, _, _, e1⟩, ⟨_, _, _, e2⟩⟩
theorem Bv.odd {W : World} {b T N R D B : Nat} (h : Bv W b T N R D B) : Odd W b := by
  obtain ⟨p, q, u1, u2, u3, u4, u5, u6, hb, h1, _, h2, h3⟩ := h.ex
  obtain ⟨⟨a1, n1, c1, rfl⟩, ⟨a2, n2, c2, rfl⟩⟩ := h1.sl
  obtain ⟨⟨a3, n3, c3, rfl⟩, ⟨a4, n4, c4, rfl⟩⟩ := h2.sl
  obtain ⟨⟨a5, n5, c5, rfl⟩, ⟨a6, n6, c6, rfl⟩⟩ := h3.sl
  intro i k n e
  unfold BkAt at hb
  simp only [World.cell?, hb] at e
  match i, e with
  | 0, e => simp at e; exact e.1.symm
  | 1, e => simp at e
  | 2, e => simp at e
  | 3, e => simp at e
  | 4, e => simp at e
  | 5, e => simp at e
  | 6, e => simp at e
  | i + 7, e => simp at e
theorem Bv.lt {W : World} {b T N R D B : Nat} (h : Bv W b T N R D B) : b < W.heap.size := by
  obtain ⟨p, q, u1, u2, u3, u4, u5, u6, hb, _⟩ := h.ex
  exact (Array.getElem?_eq_some_iff.1 hb).1
/-- A bucket stays what it is where another thing turns. -/
theorem Bv.fb {S : Nat → Prop} {W W' : World} {b T N R D B : Nat} (h : Bv W b T N R D B) (f : Fb S W W') (hn : ∀ k, S k → Odd W k) (hb : ¬ S b) : Bv W' b T N R D B := by
  obtain ⟨p, q, u1, u2, u3, u4, u5, u6, hk, h1, h2, h3, h4⟩ := h.ex
  exact ⟨⟨p, q, u1, u2, u3, u4, u5, u6, f.heap hk hb, h1.fb f hn, h2, h3.fb f hn, h4.fb f hn⟩, h.cT, h.cB, h.cD, h.cR, h.low⟩
theorem Bv.go {W W' : World} {b T N R D B : Nat} (h : Bv W b T N R D B) (f : Below W.heap.size W W') : Bv W' b T N R D B :=
  h.fb (S := fun _ => False) (Fb.of f) (fun _ e => e.elim) id
theorem Bu.fb {S : Nat → Prop} {W W' : World} {b T N R D B : Nat} (h : Bu W b T N R D B) (f : Fb S W W') (hn : ∀ k, S k → Odd W k) (hb : ¬ S b) : Bu W' b T N R D B := ⟨h.toBv.fb f hn hb, h.cN⟩
theorem Bu.go {W W' : World} {b T N R D B : Nat} (h : Bu W b T N R D B) (f : Below W.heap.size W W') : Bu W' b T N R D B := ⟨h.toBv.go f, h.cN⟩
/-- A bucket, laid open. -/
theorem Bv.open {W : World} {b T N R D B : Nat} (h : Bv W b T N R D B) : ∃ p q a1 n1 c1 a2 n2 c2 a3 n3 c3 a4 n4 c4 a5 n5 c5 a6 n6 c6, Fc p q N D 20 ∧ SX W W [] [] [(.agg #[.slice a1 n1 c1, .slice a2 n2 c2], p, q), (.agg #[.slice a3 n3 c3, .slice a4 n4 c4], B, 1), (.agg #[.slice a5 n5 c5, .slice a6 n6 c6], R, D)] [] [(b, 0, .int .i64 (T : Int)), (b, 1, .slice a1 n1 c1), (b, 2, .slice a2 n2 c2), (b, 3, .slice a3 n3 c3), (b, 4, .slice a4 n4 c4), (b, 5, .slice a5 n5 c5), (b, 6, .slice a6 n6 c6)] ∧ ∀ i, W.frozen? ⟨b, i, none⟩ = false := by
  obtain ⟨p, q, u1, u2, u3, u4, u5, u6, hb, h1, f1, h2, h3⟩ := h.ex
  obtain ⟨⟨a1, n1, c1, rfl⟩, ⟨a2, n2, c2, rfl⟩⟩ := h1.sl
  obtain ⟨⟨a3, n3, c3, rfl⟩, ⟨a4, n4, c4, rfl⟩⟩ := h2.sl
  obtain ⟨⟨a5, n5, c5, rfl⟩, ⟨a6, n6, c6, rfl⟩⟩ := h3.sl
  unfold BkAt at hb
  have c : ∀ i v, #[Value.int .i64 (T : Int), .slice a1 n1 c1, .slice a2 n2 c2, .slice a3 n3 c3, .slice a4 n4 c4, .slice a5 n5 c5, .slice a6 n6 c6][i]? = some v → W.cell? ⟨b, i, none⟩ = some v := fun i v e => by simp only [World.cell?, hb]; exact e
  exact ⟨p, q, a1, n1, c1, a2, n2, c2, a3, n3, c3, a4, n4, c4, a5, n5, c5, a6, n6, c6, f1, ((((((((((sx_start W).addF h3).addF h2).addF h1).addC (c 6 _ rfl)).addC (c 5 _ rfl)).addC (c 4 _ rfl)).addC (c 3 _ rfl)).addC (c 2 _ rfl)).addC (c 1 _ rfl)).addC (c 0 _ rfl), fun i => by simp [World.frozen?, hb]⟩
/-- What it has is written over. -/
theorem Bv.put {W : World} {b T N R D B : Nat} (h : Bv W b T N R D B) {p q N' : Nat} {v1 v2 : Value} (hv : Rt W (.agg #[v1, v2]) p q) (f : Fc p q N' D 20) :
    Bv ((W.setCell ⟨b, 1, none⟩ v1).setCell ⟨b, 2, none⟩ v2) b T N' R D B ∧ Fb (fun x => x = b) W ((W.setCell ⟨b, 1, none⟩ v1).setCell ⟨b, 2, none⟩ v2) := by
  have F : Fb (fun x => x = b) W ((W.setCell ⟨b, 1, none⟩ v1).setCell ⟨b, 2, none⟩ v2) := ((Fb.refl (fun x => x = b) W).set (x := ⟨b, 1, none⟩) rfl v1).set (x := ⟨b, 2, none⟩) rfl v2
  have hn : ∀ k, k = b → Odd W k := fun k e => e ▸ h.odd
  obtain ⟨p0, q0, u1, u2, u3, u4, u5, u6, hb, h1, f1, h2, h3⟩ := h.ex
  refine ⟨⟨⟨p, q, v1, v2, u3, u4, u5, u6, ?_, hv.fb F hn, f, h2.fb F hn, h3.fb F hn⟩, h.cT, h.cB, h.cD, h.cR, h.low⟩, F⟩
  unfold BkAt at *
  simp [World.setCell, Array.getElem?_modify, hb]
/-- Its time is written over. -/
theorem Bv.time {W : World} {b T N R D B : Nat} (h : Bv W b T N R D B) {T' : Nat} (hT : T' ≤ 4611686018427387904) :
    Bv (W.setCell ⟨b, 0, none⟩ (.int .i64 (T' : Int))) b T' N R D B ∧ Fb (fun x => x = b) W (W.setCell ⟨b, 0, none⟩ (.int .i64 (T' : Int))) := by
  have F : Fb (fun x => x = b) W (W.setCell ⟨b, 0, none⟩ (.int .i64 (T' : Int))) := (Fb.refl (fun x => x = b) W).set (x := ⟨b, 0, none⟩) rfl _
  have hn : ∀ k, k = b → Odd W k := fun k e => e ▸ h.odd
  obtain ⟨p0, q0, u1, u2, u3, u4, u5, u6, hb, h1, f1, h2, h3⟩ := h.ex
  refine ⟨⟨⟨p0, q0, u1, u2, u3, u4, u5, u6, ?_, h1.fb F hn, f1, h2.fb F hn, h3.fb F hn⟩, hT, h.cB, h.cD, h.cR, h.low⟩, F⟩
  unfold BkAt at *
  simp [World.setCell, Array.getElem?_modify, hb]
end Go.Proofs.YthogfecnbddfoaaGreatDoor

