/- Contracts of the program's functions, part 16: own work, joined in build order. -/
import Derived.Test.YtdmkneojhnhomaaGreatDoorJ15
import Derived.Deep.Cut
namespace Go.Proofs.YtdmkneojhnhomaaGreatDoor
open Go.RowKit
set_option maxRecDepth 100000
set_option linter.unusedVariables false
set_option maxHeartbeats 8000000 in
theorem rcmp2_any (v u : Value) (p q x y : Nat) (w : World) (h : RRt w v p q) (k : RRt w u x y) (hp : RS p) (hq : RS q) (hx : RS x) (hy : RS y) (z : Int) (hz : cmpI (p * y) (x * q) = z) :
    Calls Tryz.prog 26 #[v, u] w fun e w' => e = .returned (.int .i64 z) ∧ Below w.heap.size w w' := by
  obtain ⟨a1, n1, c1, a2, n2, c2, e0, g1, g2⟩ := h
  subst e0
  obtain ⟨a3, n3, c3, a4, n4, c4, e1, g3, g4⟩ := k
  subst e1
  have S1 : Hid _ := ((((((sx_start w).addM g1).addM g2).addM g3).addM g4).box (.slice a1 n1 c1) (.slice a2 n2 c2) 35 _ rfl).box (.slice a3 n3 c3) (.slice a4 n4 c4) 35 _ rfl
  simp only [World.size_alloc] at S1
  obtain ⟨w0, hw0⟩ : ∃ w0, w0 = (w.alloc (.cells #[.slice a1 n1 c1, .slice a2 n2 c2] 35)).alloc (.cells #[.slice a3 n3 c3, .slice a4 n4 c4] 35) := ⟨_, rfl⟩
  have HH : Hid (RS p ∧ RS q ∧ RS x ∧ RS y ∧ RFits (p * y) ∧ RFits (x * q)) := ⟨hp, hq, hx, hy, rfits_P (hp.mul hy) (by omega), rfits_P (hx.mul hq) (by omega)⟩
  have HZ : Hid (cmpI (p * y) (x * q) = z) := hz
  clear g1 g2 g3 g4 hp hq hx hy hz
  go_enter Tryz.func26, Tryz.ntmps26
  go_wp2_with fail
  rw [← hw0] at S1
  rw [← hw0]
  obtain ⟨b2, hb2⟩ : ∃ b2, b2 = w.heap.size := ⟨_, rfl⟩
  rw [← hb2] at S1
  rw [← hb2]
  clear hw0 hb2
  refine wp_region_held_drew (S := fun w9 => w9.cell? ⟨b2, 0, none⟩ = some (.slice a1 n1 c1) ∧ w9.cell? ⟨b2, 1, none⟩ = some (.slice a2 n2 c2) ∧ w9.cell? ⟨b2 + 1, 0, none⟩ = some (.slice a3 n3 c3) ∧ w9.cell? ⟨b2 + 1, 1, none⟩ = some (.slice a4 n4 c4)) (by kernel_rfl) ⟨(S1.out.cel (b2) 0 (.slice a1 n1 c1)), (S1.out.cel (b2) 1 (.slice a2 n2 c2)), (S1.out.cel (b2 + 1) 0 (.slice a3 n3 c3)), (S1.out.cel (b2 + 1) 1 (.slice a4 n4 c4))⟩ (fun hHeld => ?_)
  refine wpAnyH_take (i := 0) (v := .pointer (some ⟨b2, 0, none⟩)) rfl (by kernel_rfl) (by kernel_rfl) (by kernel_rfl) (fun _ _ _ h => h) (Or.inl ⟨by rfl, ?_⟩) (by assumption) ?_
  · intro w hSw
    obtain ⟨g0, g1, g2, g3⟩ := hSw
    go_simp
  refine wpAnyH_take (i := 1) (v := .agg #[.slice a1 n1 c1]) rfl (by kernel_rfl) (by kernel_rfl) (by kernel_rfl) (fun _ _ _ h => h) (Or.inl ⟨by rfl, ?_⟩) (by assumption) ?_
  · intro w hSw
    obtain ⟨g0, g1, g2, g3⟩ := hSw
    go_simp
  refine wpAnyH_take (i := 2) (v := .pointer (some ⟨b2 + 1, 1, none⟩)) rfl (by kernel_rfl) (by kernel_rfl) (by kernel_rfl) (fun _ _ _ h => h) (Or.inl ⟨by rfl, ?_⟩) (by assumption) ?_
  · intro w hSw
    obtain ⟨g0, g1, g2, g3⟩ := hSw
    go_simp
  refine wpAnyH_take (i := 3) (v := .agg #[.slice a4 n4 c4]) rfl (by kernel_rfl) (by kernel_rfl) (by kernel_rfl) (fun _ _ _ h => h) (Or.inl ⟨by rfl, ?_⟩) (by assumption) ?_
  · intro w hSw
    obtain ⟨g0, g1, g2, g3⟩ := hSw
    go_simp
  refine wpAnyH_take (i := 5) (v := .pointer (some ⟨b2 + 1, 0, none⟩)) rfl (by kernel_rfl) (by kernel_rfl) (by kernel_rfl) (fun _ _ _ h => h) (Or.inl ⟨by rfl, ?_⟩) (by assumption) ?_
  · intro w hSw
    obtain ⟨g0, g1, g2, g3⟩ := hSw
    go_simp
  refine wpAnyH_take (i := 6) (v := .agg #[.slice a3 n3 c3]) rfl (by kernel_rfl) (by kernel_rfl) (by kernel_rfl) (fun _ _ _ h => h) (Or.inl ⟨by rfl, ?_⟩) (by assumption) ?_
  · intro w hSw
    obtain ⟨g0, g1, g2, g3⟩ := hSw
    go_simp
  refine wpAnyH_take (i := 7) (v := .pointer (some ⟨b2, 1, none⟩)) rfl (by kernel_rfl) (by kernel_rfl) (by kernel_rfl) (fun _ _ _ h => h) (Or.inl ⟨by rfl, ?_⟩) (by assumption) ?_
  · intro w hSw
    obtain ⟨g0, g1, g2, g3⟩ := hSw
    go_simp
  refine wpAnyH_take (i := 8) (v := .agg #[.slice a2 n2 c2]) rfl (by kernel_rfl) (by kernel_rfl) (by kernel_rfl) (fun _ _ _ h => h) (Or.inl ⟨by rfl, ?_⟩) (by assumption) ?_
  · intro w hSw
    obtain ⟨g0, g1, g2, g3⟩ := hSw
    go_simp
  refine wpAnyH_ready (rs := [4]) (by kernel_rfl) (by simp) ?_
  refine AllReadyH.cons rfl (fun K9 hK9 => ?_) AllReadyH.nil
  go_simp
  refine Calls.mono (rtimes_any _ _ p y _ ((S1.out.rat (.agg #[.slice a1 n1 c1]) p).mono (bel_dr (bel_refl _))) ((S1.out.rat (.agg #[.slice a4 n4 c4]) y).mono (bel_dr (bel_refl _))) HH.out.1.rfits HH.out.2.2.2.1.rfits) ?_
  rintro e w3 ⟨v3, rfl, hv3, hb3⟩
  replace hb3 : Below w0.heap.size w0 w3 := bel_undrew hb3
  have S2 : Hid _ := (S1.out.go hb3).addM hv3
  clear hv3 hb3 S1 hHeld
  refine hK9.out _ _ ⟨(S2.out.cel (b2) 0 (.slice a1 n1 c1)), (S2.out.cel (b2) 1 (.slice a2 n2 c2)), (S2.out.cel (b2 + 1) 0 (.slice a3 n3 c3)), (S2.out.cel (b2 + 1) 1 (.slice a4 n4 c4))⟩ (fun hHeld => ?_)
  clear hK9 K9
  refine wpAnyH_ready (rs := [9]) (by kernel_rfl) (by simp) ?_
  refine AllReadyH.cons rfl (fun K9 hK9 => ?_) AllReadyH.nil
  go_simp
  refine Calls.mono (rtimes_any _ _ x q _ (S2.out.rat (.agg #[.slice a3 n3 c3]) x) (S2.out.rat (.agg #[.slice a2 n2 c2]) q) HH.out.2.2.1.rfits HH.out.2.1.rfits) ?_
  rintro e w4 ⟨v4, rfl, hv4, hb4⟩
  have S3 : Hid _ := (S2.out.go hb4).addM hv4
  clear hv4 hb4 S2 hHeld
  refine hK9.out _ _ ⟨(S3.out.cel (b2) 0 (.slice a1 n1 c1)), (S3.out.cel (b2) 1 (.slice a2 n2 c2)), (S3.out.cel (b2 + 1) 0 (.slice a3 n3 c3)), (S3.out.cel (b2 + 1) 1 (.slice a4 n4 c4))⟩ (fun hHeld => ?_)
  clear hK9 K9
  refine wpAnyH_ready (rs := [10]) (by kernel_rfl) (by simp) ?_
  refine AllReadyH.cons rfl (fun K9 hK9 => ?_) AllReadyH.nil
  go_simp
  refine Calls.mono (rcmp_any v3 v4 (p * y) (x * q) _ (S3.out.rat v3 (p * y)) (S3.out.rat v4 (x * q)) HH.out.2.2.2.2.1 HH.out.2.2.2.2.2) ?_
  rintro e w6 ⟨rfl, hb6⟩
  have S4 : Hid _ := S3.out.go hb6
  rw [HZ.out]
  clear hb6 S3 hHeld
  refine hK9.out _ _ ⟨(S4.out.cel (b2) 0 (.slice a1 n1 c1)), (S4.out.cel (b2) 1 (.slice a2 n2 c2)), (S4.out.cel (b2 + 1) 0 (.slice a3 n3 c3)), (S4.out.cel (b2 + 1) 1 (.slice a4 n4 c4))⟩ (fun hHeld => ?_)
  clear hK9 K9
  refine wpAnyH_take (i := 11) (v := .int .i64 z) rfl (by kernel_rfl) (by kernel_rfl) (by kernel_rfl) (fun _ _ _ h => h) (Or.inl ⟨by rfl, ?_⟩) (by assumption) ?_
  · intro w hSw
    obtain ⟨g0, g1, g2, g3⟩ := hSw
    go_simp
  refine wpAnyH_done (by kernel_rfl) ?_ _
  go_wp2_with fail
  go_ret
  exact ⟨rfl, S4.out.bel⟩
set_option maxHeartbeats 8000000 in
theorem rsub2_yes (v u : Value) (p q x y : Nat) (w : World) (h : RRt w v p q) (k : RRt w u x y) (hp : RS p) (hq : RS q) (hx : RS x) (hy : RS y) (hq0 : 0 < q) (hy0 : 0 < y) (hle : x * q ≤ p * y) :
    Calls Tryz.prog 41 #[v, u] w (MakesRRB w ((p * y - x * q) / Nat.gcd (p * y - x * q) (q * y)) ((q * y) / Nat.gcd (p * y - x * q) (q * y)) true) := by
  have HR : Hid (RRt w v p q ∧ RRt w u x y) := ⟨h, k⟩
  obtain ⟨a1, n1, c1, a2, n2, c2, e0, g1, g2⟩ := h
  subst e0
  obtain ⟨a3, n3, c3, a4, n4, c4, e1, g3, g4⟩ := k
  subst e1
  have S0 : Hid _ := ((((((sx_start w).addM g1).addM g2).addM g3).addM g4).box (.slice a1 n1 c1) (.slice a2 n2 c2) 35 _ rfl).box (.slice a3 n3 c3) (.slice a4 n4 c4) 35 _ rfl
  simp only [World.size_alloc] at S0
  have S1 : Hid _ := S0.out.box (.slice none 0 0) (.slice none 0 0) 35 _ rfl
  simp only [World.size_alloc] at S1
  obtain ⟨w0, hw0⟩ : ∃ w0, w0 = ((w.alloc (.cells #[.slice a1 n1 c1, .slice a2 n2 c2] 35)).alloc (.cells #[.slice a3 n3 c3, .slice a4 n4 c4] 35)).alloc (.cells #[.slice none 0 0, .slice none 0 0] 35) := ⟨_, rfl⟩
  have f6 : w0.frozen? ⟨w.heap.size + 1 + 1, 0, none⟩ = false := by rw [hw0]; simp [go_sem]
  have f7 : w0.frozen? ⟨w.heap.size + 1 + 1, 1, none⟩ = false := by rw [hw0]; simp [go_sem]
  have FZ : Hid _ := And.intro f6 f7
  obtain ⟨z, hz⟩ : ∃ z, cmpI (p * y) (x * q) = z := ⟨_, rfl⟩
  have HC : Hid (RS p ∧ RS q ∧ RS x ∧ RS y ∧ cmpI (p * y) (x * q) = z) := ⟨hp, hq, hx, hy, hz⟩
  have dz : decide (z < 0) = false := decide_eq_false (by rw [← hz]; unfold cmpI; rw [if_neg (by omega)]; split <;> omega)
  have s1 : RSome (p * y - x * q) := ⟨Nat.lt_of_le_of_lt (Nat.sub_le _ _) (Nat.lt_of_lt_of_le (by rw [← P_B]; exact hp.mul hy) (B_le (show 2 * 180 ≤ 1000000 by omega)))⟩
  have s2 : RSome (q * y) := ⟨Nat.lt_of_lt_of_le (by rw [← P_B]; exact hq.mul hy) (B_le (show 2 * 180 ≤ 1000000 by omega))⟩
  have HH : Hid (RFits (p * y) ∧ x * q ≤ p * y ∧ RSome (p * y - x * q) ∧ RSome (q * y) ∧ 0 < q * y) := ⟨rfits_P (hp.mul hy) (by omega), hle, s1, s2, Nat.mul_pos hq0 hy0⟩
  clear g1 g2 g3 g4 hp hq hx hy hq0 hy0 hle s1 s2 S0 f6 f7 hz
  go_enter Tryz.func41, Tryz.ntmps41
  go_wp2_with fail
  rw [← hw0] at S1
  rw [← hw0]
  obtain ⟨b2, hb2⟩ : ∃ b2, b2 = w.heap.size := ⟨_, rfl⟩
  have HB : Hid (w.heap.size ≤ b2 + 1 + 1) := by show _ ≤ _; omega
  rw [← hb2] at S1 FZ
  rw [← hb2]
  clear hw0 hb2
  refine (rcmp2_any _ _ p q x y _ (HR.out.1.mono S1.out.bel) (HR.out.2.mono S1.out.bel) HC.out.1 HC.out.2.1 HC.out.2.2.1 HC.out.2.2.2.1 z HC.out.2.2.2.2).mono ?_
  rintro e w5 ⟨rfl, hb5⟩
  have FZ : Hid (w5.frozen? ⟨b2 + 1 + 1, 0, none⟩ = false ∧ w5.frozen? ⟨b2 + 1 + 1, 1, none⟩ = false) := ⟨(hb5.frozen (World.block_lt_of_cell? _ _ (S1.out.cel (b2 + 1 + 1) 0 (.slice none 0 0)))).trans FZ.out.1, (hb5.frozen (World.block_lt_of_cell? _ _ (S1.out.cel (b2 + 1 + 1) 1 (.slice none 0 0)))).trans FZ.out.2⟩
  have S1 : Hid _ := S1.out.go hb5
  clear hb5 HR
  go_wp2_with fail
  obtain ⟨w0, ew0⟩ : ∃ w0, w0 = w5 := ⟨_, rfl⟩
  rw [← ew0] at S1 FZ
  rw [← ew0]
  clear ew0
  refine wp_region_held_drew (S := fun w9 => w9.cell? ⟨b2, 0, none⟩ = some (.slice a1 n1 c1) ∧ w9.cell? ⟨b2, 1, none⟩ = some (.slice a2 n2 c2) ∧ w9.cell? ⟨b2 + 1, 0, none⟩ = some (.slice a3 n3 c3) ∧ w9.cell? ⟨b2 + 1, 1, none⟩ = some (.slice a4 n4 c4)) (by kernel_rfl) ⟨(S1.out.cel (b2) 0 (.slice a1 n1 c1)), (S1.out.cel (b2) 1 (.slice a2 n2 c2)), (S1.out.cel (b2 + 1) 0 (.slice a3 n3 c3)), (S1.out.cel (b2 + 1) 1 (.slice a4 n4 c4))⟩ (fun hHeld => ?_)
  refine wpAnyH_take (i := 0) (v := .pointer (some ⟨b2, 0, none⟩)) rfl (by kernel_rfl) (by kernel_rfl) (by kernel_rfl) (fun _ _ _ h => h) (Or.inl ⟨by rfl, ?_⟩) (by assumption) ?_
  · intro w hSw
    obtain ⟨g0, g1, g2, g3⟩ := hSw
    go_simp
  refine wpAnyH_take (i := 1) (v := .agg #[.slice a1 n1 c1]) rfl (by kernel_rfl) (by kernel_rfl) (by kernel_rfl) (fun _ _ _ h => h) (Or.inl ⟨by rfl, ?_⟩) (by assumption) ?_
  · intro w hSw
    obtain ⟨g0, g1, g2, g3⟩ := hSw
    go_simp
  refine wpAnyH_take (i := 2) (v := .pointer (some ⟨b2 + 1, 1, none⟩)) rfl (by kernel_rfl) (by kernel_rfl) (by kernel_rfl) (fun _ _ _ h => h) (Or.inl ⟨by rfl, ?_⟩) (by assumption) ?_
  · intro w hSw
    obtain ⟨g0, g1, g2, g3⟩ := hSw
    go_simp
  refine wpAnyH_take (i := 3) (v := .agg #[.slice a4 n4 c4]) rfl (by kernel_rfl) (by kernel_rfl) (by kernel_rfl) (fun _ _ _ h => h) (Or.inl ⟨by rfl, ?_⟩) (by assumption) ?_
  · intro w hSw
    obtain ⟨g0, g1, g2, g3⟩ := hSw
    go_simp
  refine wpAnyH_take (i := 5) (v := .pointer (some ⟨b2 + 1, 0, none⟩)) rfl (by kernel_rfl) (by kernel_rfl) (by kernel_rfl) (fun _ _ _ h => h) (Or.inl ⟨by rfl, ?_⟩) (by assumption) ?_
  · intro w hSw
    obtain ⟨g0, g1, g2, g3⟩ := hSw
    go_simp
  refine wpAnyH_take (i := 6) (v := .agg #[.slice a3 n3 c3]) rfl (by kernel_rfl) (by kernel_rfl) (by kernel_rfl) (fun _ _ _ h => h) (Or.inl ⟨by rfl, ?_⟩) (by assumption) ?_
  · intro w hSw
    obtain ⟨g0, g1, g2, g3⟩ := hSw
    go_simp
  refine wpAnyH_take (i := 7) (v := .pointer (some ⟨b2, 1, none⟩)) rfl (by kernel_rfl) (by kernel_rfl) (by kernel_rfl) (fun _ _ _ h => h) (Or.inl ⟨by rfl, ?_⟩) (by assumption) ?_
  · intro w hSw
    obtain ⟨g0, g1, g2, g3⟩ := hSw
    go_simp
  refine wpAnyH_take (i := 8) (v := .agg #[.slice a2 n2 c2]) rfl (by kernel_rfl) (by kernel_rfl) (by kernel_rfl) (fun _ _ _ h => h) (Or.inl ⟨by rfl, ?_⟩) (by assumption) ?_
  · intro w hSw
    obtain ⟨g0, g1, g2, g3⟩ := hSw
    go_simp
  refine wpAnyH_take (i := 11) (v := .pointer (some ⟨b2, 1, none⟩)) rfl (by kernel_rfl) (by kernel_rfl) (by kernel_rfl) (fun _ _ _ h => h) (Or.inl ⟨by rfl, ?_⟩) (by assumption) ?_
  · intro w hSw
    obtain ⟨g0, g1, g2, g3⟩ := hSw
    go_simp
  refine wpAnyH_take (i := 12) (v := .agg #[.slice a2 n2 c2]) rfl (by kernel_rfl) (by kernel_rfl) (by kernel_rfl) (fun _ _ _ h => h) (Or.inl ⟨by rfl, ?_⟩) (by assumption) ?_
  · intro w hSw
    obtain ⟨g0, g1, g2, g3⟩ := hSw
    go_simp
  refine wpAnyH_take (i := 13) (v := .pointer (some ⟨b2 + 1, 1, none⟩)) rfl (by kernel_rfl) (by kernel_rfl) (by kernel_rfl) (fun _ _ _ h => h) (Or.inl ⟨by rfl, ?_⟩) (by assumption) ?_
  · intro w hSw
    obtain ⟨g0, g1, g2, g3⟩ := hSw
    go_simp
  refine wpAnyH_take (i := 14) (v := .agg #[.slice a4 n4 c4]) rfl (by kernel_rfl) (by kernel_rfl) (by kernel_rfl) (fun _ _ _ h => h) (Or.inl ⟨by rfl, ?_⟩) (by assumption) ?_
  · intro w hSw
    obtain ⟨g0, g1, g2, g3⟩ := hSw
    go_simp
  refine wpAnyH_ready (rs := [4]) (by kernel_rfl) (by simp) ?_
  refine AllReadyH.cons rfl (fun K9 hK9 => ?_) AllReadyH.nil
  go_simp
  refine Calls.mono (rtimes_any _ _ p y _ ((S1.out.rat (.agg #[.slice a1 n1 c1]) p).mono (bel_dr (bel_refl _))) ((S1.out.rat (.agg #[.slice a4 n4 c4]) y).mono (bel_dr (bel_refl _))) HC.out.1.rfits HC.out.2.2.2.1.rfits) ?_
  rintro e w3 ⟨v3, rfl, hv3, hb3⟩
  replace hb3 : Below w0.heap.size w0 w3 := bel_undrew hb3
  have FZ : Hid (w3.frozen? ⟨b2 + 1 + 1, 0, none⟩ = false ∧ w3.frozen? ⟨b2 + 1 + 1, 1, none⟩ = false) := ⟨(hb3.frozen (World.block_lt_of_cell? _ _ (S1.out.cel (b2 + 1 + 1) 0 (.slice none 0 0)))).trans FZ.out.1, (hb3.frozen (World.block_lt_of_cell? _ _ (S1.out.cel (b2 + 1 + 1) 1 (.slice none 0 0)))).trans FZ.out.2⟩
  have S2 : Hid _ := (S1.out.go hb3).addM hv3
  clear hv3 hb3 S1 hHeld
  refine hK9.out _ _ ⟨(S2.out.cel (b2) 0 (.slice a1 n1 c1)), (S2.out.cel (b2) 1 (.slice a2 n2 c2)), (S2.out.cel (b2 + 1) 0 (.slice a3 n3 c3)), (S2.out.cel (b2 + 1) 1 (.slice a4 n4 c4))⟩ (fun hHeld => ?_)
  clear hK9 K9
  refine wpAnyH_ready (rs := [9]) (by kernel_rfl) (by simp) ?_
  refine AllReadyH.cons rfl (fun K9 hK9 => ?_) AllReadyH.nil
  go_simp
  refine Calls.mono (rtimes_any _ _ x q _ (S2.out.rat (.agg #[.slice a3 n3 c3]) x) (S2.out.rat (.agg #[.slice a2 n2 c2]) q) HC.out.2.2.1.rfits HC.out.2.1.rfits) ?_
  rintro e w4 ⟨v4, rfl, hv4, hb4⟩
  have FZ : Hid (w4.frozen? ⟨b2 + 1 + 1, 0, none⟩ = false ∧ w4.frozen? ⟨b2 + 1 + 1, 1, none⟩ = false) := ⟨(hb4.frozen (World.block_lt_of_cell? _ _ (S2.out.cel (b2 + 1 + 1) 0 (.slice none 0 0)))).trans FZ.out.1, (hb4.frozen (World.block_lt_of_cell? _ _ (S2.out.cel (b2 + 1 + 1) 1 (.slice none 0 0)))).trans FZ.out.2⟩
  have S3 : Hid _ := (S2.out.go hb4).addM hv4
  clear hv4 hb4 S2 hHeld
  refine hK9.out _ _ ⟨(S3.out.cel (b2) 0 (.slice a1 n1 c1)), (S3.out.cel (b2) 1 (.slice a2 n2 c2)), (S3.out.cel (b2 + 1) 0 (.slice a3 n3 c3)), (S3.out.cel (b2 + 1) 1 (.slice a4 n4 c4))⟩ (fun hHeld => ?_)
  clear hK9 K9
  refine wpAnyH_ready (rs := [10]) (by kernel_rfl) (by simp) ?_
  refine AllReadyH.cons rfl (fun K9 hK9 => ?_) AllReadyH.nil
  go_simp
  refine Calls.mono (rminus_any v3 v4 (p * y) (x * q) _ (S3.out.rat v3 (p * y)) (S3.out.rat v4 (x * q)) HH.out.1 HH.out.2.1) ?_
  rintro e w7 ⟨v7, rfl, hv7, hb7⟩
  have FZ : Hid (w7.frozen? ⟨b2 + 1 + 1, 0, none⟩ = false ∧ w7.frozen? ⟨b2 + 1 + 1, 1, none⟩ = false) := ⟨(hb7.frozen (World.block_lt_of_cell? _ _ (S3.out.cel (b2 + 1 + 1) 0 (.slice none 0 0)))).trans FZ.out.1, (hb7.frozen (World.block_lt_of_cell? _ _ (S3.out.cel (b2 + 1 + 1) 1 (.slice none 0 0)))).trans FZ.out.2⟩
  have S4 : Hid _ := (S3.out.go hb7).addM hv7
  clear hv7 hb7 S3 hHeld
  refine hK9.out _ _ ⟨(S4.out.cel (b2) 0 (.slice a1 n1 c1)), (S4.out.cel (b2) 1 (.slice a2 n2 c2)), (S4.out.cel (b2 + 1) 0 (.slice a3 n3 c3)), (S4.out.cel (b2 + 1) 1 (.slice a4 n4 c4))⟩ (fun hHeld => ?_)
  clear hK9 K9
  refine wpAnyH_ready (rs := [15]) (by kernel_rfl) (by simp) ?_
  refine AllReadyH.cons rfl (fun K9 hK9 => ?_) AllReadyH.nil
  go_simp
  refine Calls.mono (rtimes_any _ _ q y _ (S4.out.rat (.agg #[.slice a2 n2 c2]) q) (S4.out.rat (.agg #[.slice a4 n4 c4]) y) HC.out.2.1.rfits HC.out.2.2.2.1.rfits) ?_
  rintro e w8 ⟨v8, rfl, hv8, hb8⟩
  have FZ : Hid (w8.frozen? ⟨b2 + 1 + 1, 0, none⟩ = false ∧ w8.frozen? ⟨b2 + 1 + 1, 1, none⟩ = false) := ⟨(hb8.frozen (World.block_lt_of_cell? _ _ (S4.out.cel (b2 + 1 + 1) 0 (.slice none 0 0)))).trans FZ.out.1, (hb8.frozen (World.block_lt_of_cell? _ _ (S4.out.cel (b2 + 1 + 1) 1 (.slice none 0 0)))).trans FZ.out.2⟩
  have S5 : Hid _ := (S4.out.go hb8).addM hv8
  clear hv8 hb8 S4 hHeld
  refine hK9.out _ _ ⟨(S5.out.cel (b2) 0 (.slice a1 n1 c1)), (S5.out.cel (b2) 1 (.slice a2 n2 c2)), (S5.out.cel (b2 + 1) 0 (.slice a3 n3 c3)), (S5.out.cel (b2 + 1) 1 (.slice a4 n4 c4))⟩ (fun hHeld => ?_)
  clear hK9 K9
  refine wpAnyH_ready (rs := [16]) (by kernel_rfl) (by simp) ?_
  refine AllReadyH.cons rfl (fun K9 hK9 => ?_) AllReadyH.nil
  go_simp
  refine Calls.mono (rmade_any v7 v8 (p * y - x * q) (q * y) _ (S5.out.rat v7 (p * y - x * q)) (S5.out.rat v8 (q * y)) HH.out.2.2.1 HH.out.2.2.2.1 HH.out.2.2.2.2) ?_
  rintro e w6 ⟨v6, rfl, hv6, hb6⟩
  have FZ : Hid (w6.frozen? ⟨b2 + 1 + 1, 0, none⟩ = false ∧ w6.frozen? ⟨b2 + 1 + 1, 1, none⟩ = false) := ⟨(hb6.frozen (World.block_lt_of_cell? _ _ (S5.out.cel (b2 + 1 + 1) 0 (.slice none 0 0)))).trans FZ.out.1, (hb6.frozen (World.block_lt_of_cell? _ _ (S5.out.cel (b2 + 1 + 1) 1 (.slice none 0 0)))).trans FZ.out.2⟩
  have S6 : Hid _ := (S5.out.go hb6).addG hv6
  obtain ⟨a6, n6, c6, a7, n7, c7, ev, _, _⟩ := hv6
  subst ev
  clear hb6 S5 hHeld
  have z0 := S6.out.cel (b2 + 1 + 1) 0 (.slice none 0 0)
  have z1 := S6.out.cel (b2 + 1 + 1) 1 (.slice none 0 0)
  have y0 := FZ.out.1
  have y1 := FZ.out.2
  have t0 := (S6.out.cel (b2) 0 (.slice a1 n1 c1))
  have t1 := (S6.out.cel (b2) 1 (.slice a2 n2 c2))
  have t2 := (S6.out.cel (b2 + 1) 0 (.slice a3 n3 c3))
  have t3 := (S6.out.cel (b2 + 1) 1 (.slice a4 n4 c4))
  refine hK9.out _ _ ⟨t0, t1, t2, t3⟩ (fun hHeld => ?_)
  clear hK9 K9
  refine wpAnyH_ready (rs := [17]) (by kernel_rfl) (by simp) ?_
  refine AllReadyH.cons rfl (fun K9 hK9 => ?_) AllReadyH.nil
  go_simp
  clear hHeld
  refine hK9.out _ _ (by simp [go_sem, *]) (fun hHeld => ?_)
  clear hK9 K9
  refine wpAnyH_take (i := 18) (v := .bool true) rfl (by kernel_rfl) (by kernel_rfl) (by kernel_rfl) (fun _ _ _ h => h) (Or.inl ⟨by rfl, ?_⟩) (by assumption) ?_
  · intro w hSw
    obtain ⟨g0, g1, g2, g3⟩ := hSw
    go_simp
  refine wpAnyH_done (by kernel_rfl) ?_ _
  have Z : Hid _ := rrat_put (w0 := w) (v := .slice a6 n6 c6) (u := .slice a7 n7 c7) z0 z1 (S6.out.rfr (.agg #[.slice a6 n6 c6, .slice a7 n7 c7]) ((p * y - x * q) / Nat.gcd (p * y - x * q) (q * y)) ((q * y) / Nat.gcd (p * y - x * q) (q * y))) S6.out.bel HB.out
  clear S6 FZ t0 t1 t2 t3
  go_wp2_with fail
  exact bodyPost_ret (v := .tuple #[.agg #[.slice a6 n6 c6, .slice a7 n7 c7], .bool true]) (by simp [results, Tryz.results41, go_sem, z0, z1]) rfl ⟨_, rfl, Z.out.1, Z.out.2⟩
set_option maxHeartbeats 8000000 in
theorem rsub2_no (v u : Value) (p q x y : Nat) (w : World) (h : RRt w v p q) (k : RRt w u x y) (hp : RS p) (hq : RS q) (hx : RS x) (hy : RS y) (hlt : p * y < x * q) :
    Calls Tryz.prog 41 #[v, u] w (MakesRRB w 0 1 false) := by
  have HR : Hid (RRt w v p q ∧ RRt w u x y) := ⟨h, k⟩
  obtain ⟨a1, n1, c1, a2, n2, c2, e0, g1, g2⟩ := h
  subst e0
  obtain ⟨a3, n3, c3, a4, n4, c4, e1, g3, g4⟩ := k
  subst e1
  have S0 : Hid _ := ((((((sx_start w).addM g1).addM g2).addM g3).addM g4).box (.slice a1 n1 c1) (.slice a2 n2 c2) 35 _ rfl).box (.slice a3 n3 c3) (.slice a4 n4 c4) 35 _ rfl
  simp only [World.size_alloc] at S0
  have S1 : Hid _ := S0.out.box (.slice none 0 0) (.slice none 0 0) 35 _ rfl
  simp only [World.size_alloc] at S1
  obtain ⟨w0, hw0⟩ : ∃ w0, w0 = ((w.alloc (.cells #[.slice a1 n1 c1, .slice a2 n2 c2] 35)).alloc (.cells #[.slice a3 n3 c3, .slice a4 n4 c4] 35)).alloc (.cells #[.slice none 0 0, .slice none 0 0] 35) := ⟨_, rfl⟩
  have f6 : w0.frozen? ⟨w.heap.size + 1 + 1, 0, none⟩ = false := by rw [hw0]; simp [go_sem]
  have f7 : w0.frozen? ⟨w.heap.size + 1 + 1, 1, none⟩ = false := by rw [hw0]; simp [go_sem]
  have FZ : Hid _ := And.intro f6 f7
  obtain ⟨z, hz⟩ : ∃ z, cmpI (p * y) (x * q) = z := ⟨_, rfl⟩
  have HC : Hid (RS p ∧ RS q ∧ RS x ∧ RS y ∧ cmpI (p * y) (x * q) = z) := ⟨hp, hq, hx, hy, hz⟩
  have dz : decide (z < 0) = true := decide_eq_true (by rw [← hz]; unfold cmpI; rw [if_pos hlt]; omega)
  clear g1 g2 g3 g4 hp hq hx hy hlt S0 f6 f7 hz
  go_enter Tryz.func41, Tryz.ntmps41
  go_wp2_with fail
  rw [← hw0] at S1
  rw [← hw0]
  obtain ⟨b2, hb2⟩ : ∃ b2, b2 = w.heap.size := ⟨_, rfl⟩
  have HB : Hid (w.heap.size ≤ b2 + 1 + 1) := by show _ ≤ _; omega
  rw [← hb2] at S1 FZ
  rw [← hb2]
  clear hw0 hb2
  refine (rcmp2_any _ _ p q x y _ (HR.out.1.mono S1.out.bel) (HR.out.2.mono S1.out.bel) HC.out.1 HC.out.2.1 HC.out.2.2.1 HC.out.2.2.2.1 z HC.out.2.2.2.2).mono ?_
  rintro e w5 ⟨rfl, hb5⟩
  have FZ : Hid (w5.frozen? ⟨b2 + 1 + 1, 0, none⟩ = false ∧ w5.frozen? ⟨b2 + 1 + 1, 1, none⟩ = false) := ⟨(hb5.frozen (World.block_lt_of_cell? _ _ (S1.out.cel (b2 + 1 + 1) 0 (.slice none 0 0)))).trans FZ.out.1, (hb5.frozen (World.block_lt_of_cell? _ _ (S1.out.cel (b2 + 1 + 1) 1 (.slice none 0 0)))).trans FZ.out.2⟩
  have S1 : Hid _ := S1.out.go hb5
  clear hb5 HR
  go_wp2_with fail
  refine (rzero2_any _).mono ?_
  rintro e w6 ⟨v6, rfl, hv6, hb6⟩
  have hv' := hv6
  obtain ⟨a6, n6, c6, a7, n7, c7, ev, _, _⟩ := hv'
  subst ev
  have z0 := cell_later hb6 (S1.out.cel (b2 + 1 + 1) 0 (.slice none 0 0))
  have z1 := cell_later hb6 (S1.out.cel (b2 + 1 + 1) 1 (.slice none 0 0))
  have y0 := (hb6.frozen (World.block_lt_of_cell? _ _ (S1.out.cel (b2 + 1 + 1) 0 (.slice none 0 0)))).trans FZ.out.1
  have y1 := (hb6.frozen (World.block_lt_of_cell? _ _ (S1.out.cel (b2 + 1 + 1) 1 (.slice none 0 0)))).trans FZ.out.2
  have Z : Hid _ := rrat_put (w0 := w) (v := .slice a6 n6 c6) (u := .slice a7 n7 c7) z0 z1 hv6 (bel_go S1.out.bel hb6) HB.out
  clear hv6 hb6 S1 FZ
  go_wp2_with fail
  exact bodyPost_ret (v := .tuple #[.agg #[.slice a6 n6 c6, .slice a7 n7 c7], .bool false]) (by simp [results, Tryz.results41, go_sem, z0, z1]) rfl ⟨_, rfl, Z.out.1, Z.out.2⟩
end Go.Proofs.YtdmkneojhnhomaaGreatDoor
namespace Go.Proofs.YtdmkneojhnhomaaGreatDoor
open Go.RowKit
set_option maxRecDepth 100000
set_option linter.unusedVariables false
theorem Fc.radd {p q N1 D1 n x y N2 D2 m : Nat} (h : Fc p q N1 D1 n) (k : Fc x y N2 D2 m) (hn : n ≤ 90) (hm : m ≤ 90) : ∃ A B, Fc A B (N1 * D2 + N2 * D1) (D1 * D2) (n + m + 1) ∧ ∀ v u w, RRt w v p q → RRt w u x y → Calls Tryz.prog 24 #[v, u] w (MakesRR w A B) := by
  have low := low_terms (p * y + x * q) (q * y) (Nat.mul_pos h.pos k.pos)
  have s1 : p * y + x * q < P (n + m + 1) := P_twice (mulP_lt h.s1 k.s2) (by rw [Nat.add_comm n m]; exact mulP_lt k.s1 h.s2)
  have s2 : q * y < P (n + m + 1) := P_up (mulP_lt h.s2 k.s2) (by omega)
  exact ⟨_, _, ⟨low.1, low.2.2, Nat.mul_pos h.dpos k.dpos, val_add h.pos k.pos h.val k.val low.2.1, Nat.lt_of_le_of_lt (Nat.div_le_self _ _) s1, Nat.lt_of_le_of_lt (Nat.div_le_self _ _) s2⟩, fun v u w e1 e2 => radd2_any v u p q x y w e1 e2 (h.rs1 hn) (h.rs2 hn) (k.rs1 hm) (k.rs2 hm) h.pos k.pos⟩
theorem Fc.rsub {p q N1 D1 n x y N2 D2 m : Nat} (h : Fc p q N1 D1 n) (k : Fc x y N2 D2 m) (hn : n ≤ 90) (hm : m ≤ 90) (hle : N2 * D1 ≤ N1 * D2) : ∃ A B, Fc A B (N1 * D2 - N2 * D1) (D1 * D2) (n + m) ∧ ∀ v u w, RRt w v p q → RRt w u x y → Calls Tryz.prog 41 #[v, u] w (MakesRRB w A B true) := by
  have hle' := (h.le k).2 hle
  have low := low_terms (p * y - x * q) (q * y) (Nat.mul_pos h.pos k.pos)
  have s1 : p * y - x * q < P (n + m) := Nat.lt_of_le_of_lt (Nat.sub_le _ _) (mulP_lt h.s1 k.s2)
  exact ⟨_, _, ⟨low.1, low.2.2, Nat.mul_pos h.dpos k.dpos, (val_sub h.pos k.pos h.dpos k.dpos h.val k.val hle' low.2.1).1, Nat.lt_of_le_of_lt (Nat.div_le_self _ _) s1, Nat.lt_of_le_of_lt (Nat.div_le_self _ _) (mulP_lt h.s2 k.s2)⟩, fun v u w e1 e2 => rsub2_yes v u p q x y w e1 e2 (h.rs1 hn) (h.rs2 hn) (k.rs1 hm) (k.rs2 hm) h.pos k.pos hle'⟩
theorem Fc.rsub_no {p q N1 D1 n x y N2 D2 m : Nat} (h : Fc p q N1 D1 n) (k : Fc x y N2 D2 m) (hn : n ≤ 90) (hm : m ≤ 90) (hlt : N1 * D2 < N2 * D1) : ∀ v u w, RRt w v p q → RRt w u x y → Calls Tryz.prog 41 #[v, u] w (MakesRRB w 0 1 false) := fun v u w e1 e2 =>
  rsub2_no v u p q x y w e1 e2 (h.rs1 hn) (h.rs2 hn) (k.rs1 hm) (k.rs2 hm) (Nat.lt_of_not_le fun e => by have := (h.le k).1 e; omega)
theorem Fc.rcmp {p q N1 D1 n x y N2 D2 m : Nat} (h : Fc p q N1 D1 n) (k : Fc x y N2 D2 m) (hn : n ≤ 90) (hm : m ≤ 90) {z : Int} (hz : cmpI (N1 * D2) (N2 * D1) = z) : ∀ v u w, RRt w v p q → RRt w u x y → Calls Tryz.prog 26 #[v, u] w fun e w' => e = .returned (.int .i64 z) ∧ Below w.heap.size w w' := fun v u w e1 e2 =>
  rcmp2_any v u p q x y w e1 e2 (h.rs1 hn) (h.rs2 hn) (k.rs1 hm) (k.rs2 hm) z (by rw [cmp_scale (Nat.mul_pos h.dpos k.dpos) (Nat.mul_pos h.pos k.pos) (h.cross k).1 (h.cross k).2, hz])
theorem Fc.rdiv {p q N1 D1 n x y N2 D2 m : Nat} (h : Fc p q N1 D1 n) (k : Fc x y N2 D2 m) (hn : n ≤ 90) (hm : m ≤ 90) (h0 : 0 < N2) : ∃ A B, Fc A B (N1 * D2) (D1 * N2) (n + m) ∧ ∀ v u w, RRt w v p q → RRt w u x y → Calls Tryz.prog 44 #[v, u] w (MakesRRB w A B true) := by
  have x0 : 0 < x := Nat.pos_of_ne_zero fun e => by have := k.zero.1 e; omega
  have low := low_terms (p * y) (q * x) (Nat.mul_pos h.pos x0)
  exact ⟨_, _, ⟨low.1, low.2.2, Nat.mul_pos h.dpos h0, val_mul (x := y) (y := x) (N2 := D2) (D2 := N2) h.pos x0 h.val (by rw [Nat.mul_comm y, Nat.mul_comm D2]; exact k.val.symm) low.2.1, Nat.lt_of_le_of_lt (Nat.div_le_self _ _) (mulP_lt h.s1 k.s2), Nat.lt_of_le_of_lt (Nat.div_le_self _ _) (mulP_lt h.s2 k.s1)⟩, fun v u w e1 e2 => rdiv2_yes v u p q x y w e1 e2 (h.rs1 hn) (h.rs2 hn) (k.rs1 hm) (k.rs2 hm) h.pos x0⟩
/-- v is a bucket of the document's. -/
structure RB (W : World) (v : Value) (T N R D B : Nat) : Prop where
  ex : ∃ p q a1 n1 c1 a2 n2 c2 a3 n3 c3 a4 n4 c4, v = .agg #[.int .i64 (B : Int), .slice a1 n1 c1, .slice a2 n2 c2, .slice a3 n3 c3, .slice a4 n4 c4, .int .i64 (T : Int)] ∧ RRt W (.agg #[.slice a1 n1 c1, .slice a2 n2 c2]) R D ∧ RRt W (.agg #[.slice a3 n3 c3, .slice a4 n4 c4]) p q ∧ Fc p q N D 20
  cT : T ≤ 4611686018427387904
  cB : 1 ≤ B ∧ B ≤ 1099511627776
  cD : 0 < D ∧ D < P 18
  cR : R < P 17
  low : Nat.gcd R D = 1
  cN : N ≤ B * D
theorem RB.mono {W W' : World} {v : Value} {T N R D B : Nat} (h : RB W v T N R D B) (k : Below W.heap.size W W') : RB W' v T N R D B := by
  obtain ⟨p, q, a1, n1, c1, a2, n2, c2, a3, n3, c3, a4, n4, c4, e, h1, h2, h3⟩ := h.ex
  exact ⟨⟨p, q, a1, n1, c1, a2, n2, c2, a3, n3, c3, a4, n4, c4, e, h1.mono k, h2.mono k, h3⟩, h.cT, h.cB, h.cD, h.cR, h.low, h.cN⟩
theorem RB.fb {S : Nat → Prop} {W W' : World} {v : Value} {T N R D B : Nat} (h : RB W v T N R D B) (f : Fb S W W') (hn : ∀ k, S k → Odd W k) : RB W' v T N R D B := by
  obtain ⟨p, q, a1, n1, c1, a2, n2, c2, a3, n3, c3, a4, n4, c4, e, h1, h2, h3⟩ := h.ex
  exact ⟨⟨p, q, a1, n1, c1, a2, n2, c2, a3, n3, c3, a4, n4, c4, e, h1.fb f hn, h2.fb f hn, h3⟩, h.cT, h.cB, h.cD, h.cR, h.low, h.cN⟩
/-- A box of six cells. -/
def Rx (W : World) (g : Nat) (x0 u1 u2 u3 u4 x5 : Value) : Prop := W.heap[g]? = some (.cells #[x0, u1, u2, u3, u4, x5] 37)
theorem Rx.go {W W' : World} {g : Nat} {x0 u1 u2 u3 u4 x5 : Value} (h : Rx W g x0 u1 u2 u3 u4 x5) (k : Below W.heap.size W W') : Rx W' g x0 u1 u2 u3 u4 x5 := (k.block g (Array.getElem?_eq_some_iff.1 h).1).trans h
theorem Rx.cells {W : World} {g : Nat} {x0 u1 u2 u3 u4 x5 : Value} (h : Rx W g x0 u1 u2 u3 u4 x5) : W.cell? ⟨g, 0, none⟩ = some x0 ∧ W.cell? ⟨g, 1, none⟩ = some u1 ∧ W.cell? ⟨g, 2, none⟩ = some u2 ∧ W.cell? ⟨g, 3, none⟩ = some u3 ∧ W.cell? ⟨g, 4, none⟩ = some u4 ∧ W.cell? ⟨g, 5, none⟩ = some x5 ∧ ∀ i, W.frozen? ⟨g, i, none⟩ = false := by
  unfold Rx at h
  exact ⟨by simp [World.cell?, h], by simp [World.cell?, h], by simp [World.cell?, h], by simp [World.cell?, h], by simp [World.cell?, h], by simp [World.cell?, h], fun i => by simp [World.frozen?, h]⟩
theorem Rx.odd {W : World} {g : Nat} {x0 x5 : Int} {a1 a2 a3 a4 : Option Addr} {n1 c1 n2 c2 n3 c3 n4 c4 : Nat} (h : Rx W g (.int .i64 x0) (.slice a1 n1 c1) (.slice a2 n2 c2) (.slice a3 n3 c3) (.slice a4 n4 c4) (.int .i64 x5)) : Odd W g := by
  intro i k n e
  unfold Rx at h
  simp only [World.cell?, h] at e
  match i, e with
  | 0, e => simp at e; exact e.1.symm
  | 1, e => simp at e
  | 2, e => simp at e
  | 3, e => simp at e
  | 4, e => simp at e
  | 5, e => simp at e; exact e.1.symm
  | i + 6, e => simp at e
theorem Rx.tok {W : World} {g : Nat} {x0 u1 u2 u3 u4 x5 : Value} (h : Rx W g x0 u1 u2 u3 u4 x5) (v3 v4 : Value) : Rx ((W.setCell ⟨g, 3, none⟩ v3).setCell ⟨g, 4, none⟩ v4) g x0 u1 u2 v3 v4 x5 := by
  unfold Rx at *
  simp [World.setCell, Array.getElem?_modify, h]
theorem Rx.time {W : World} {g : Nat} {x0 u1 u2 u3 u4 x5 : Value} (h : Rx W g x0 u1 u2 u3 u4 x5) (v5 : Value) : Rx (W.setCell ⟨g, 5, none⟩ v5) g x0 u1 u2 u3 u4 v5 := by
  unfold Rx at *
  simp [World.setCell, Array.getElem?_modify, h]
end Go.Proofs.YtdmkneojhnhomaaGreatDoor
namespace Go.Proofs.YtdmkneojhnhomaaGreatDoor
open Go.RowKit
set_option maxRecDepth 100000
set_option linter.unusedVariables false
theorem max_int (t s : Int) : ∃ M : Int, (if t < s then s else t) = M ∧ (if s < t then t else s) = M ∧ M = max t s := by
  refine ⟨max t s, ?_, ?_, rfl⟩
  · split <;> omega
  · split <;> omega
/-- The answer is put into a box of the call's own. -/
theorem rx_end {W0 W : World} {r g : Nat} {x0 x5 : Int} {a1 a2 a3 a4 : Option Addr} {n1 c1 n2 c2 n3 c3 n4 c4 : Nat} (hr : Rx W r (.int .i64 0) (.slice none 0 0) (.slice none 0 0) (.slice none 0 0) (.slice none 0 0) (.int .i64 0)) (hl : W0.heap.size ≤ r) (hb : Below W0.heap.size W0 W) {T N R D B : Nat} {v : Value} (h : RB W v T N R D B) (u0 u1 u2 u3 u4 u5 : Value) :
    RB ((((((W.setCell ⟨r, 0, none⟩ u0).setCell ⟨r, 1, none⟩ u1).setCell ⟨r, 2, none⟩ u2).setCell ⟨r, 3, none⟩ u3).setCell ⟨r, 4, none⟩ u4).setCell ⟨r, 5, none⟩ u5) v T N R D B ∧ Below W0.heap.size W0 ((((((W.setCell ⟨r, 0, none⟩ u0).setCell ⟨r, 1, none⟩ u1).setCell ⟨r, 2, none⟩ u2).setCell ⟨r, 3, none⟩ u3).setCell ⟨r, 4, none⟩ u4).setCell ⟨r, 5, none⟩ u5) := by
  have F : Fb (fun x => x = r) W ((((((W.setCell ⟨r, 0, none⟩ u0).setCell ⟨r, 1, none⟩ u1).setCell ⟨r, 2, none⟩ u2).setCell ⟨r, 3, none⟩ u3).setCell ⟨r, 4, none⟩ u4).setCell ⟨r, 5, none⟩ u5) := ((((((Fb.refl (fun x => x = r) W).set (x := ⟨r, 0, none⟩) rfl u0).set (x := ⟨r, 1, none⟩) rfl u1).set (x := ⟨r, 2, none⟩) rfl u2).set (x := ⟨r, 3, none⟩) rfl u3).set (x := ⟨r, 4, none⟩) rfl u4).set (x := ⟨r, 5, none⟩) rfl u5
  exact ⟨h.fb F (fun k e => e ▸ hr.odd), hb.trans (F.below hb.size (fun k e => e ▸ hl))⟩
set_option maxHeartbeats 8000000 in
theorem rat8_any (v : Value) (T N R D B : Nat) (t : Int) (w : World) (h : RB w v T N R D B) :
    Calls Tryz.prog 14 #[v, .int .i64 t] w fun e w' => ∃ v', e = .returned v' ∧ RB w' v' (atT T t) (atN T N R D B t) R D B ∧ Below w.heap.size w w' := by
  have HK : Hid (T ≤ 4611686018427387904 ∧ (1 ≤ B ∧ B ≤ 1099511627776) ∧ (0 < D ∧ D < P 18) ∧ R < P 17 ∧ Nat.gcd R D = 1 ∧ N ≤ B * D) := ⟨h.cT, h.cB, h.cD, h.cR, h.low, h.cN⟩
  obtain ⟨p, q, a1, n1, c1, a2, n2, c2, a3, n3, c3, a4, n4, c4, e0, g1, g2, f0⟩ := h.ex
  subst e0
  obtain ⟨M1, m1, m2, m3⟩ := max_int t (T : Int)
  obtain ⟨M, m4, m5, m6, m7, m8⟩ := min_int M1
  obtain ⟨tn, hto⟩ : ∃ tn : Nat, M = (tn : Int) := ⟨M.toNat, by omega⟩
  have eT : atT T t = tn := by have := HK.out.1; unfold atT; omega
  obtain ⟨k, ek⟩ : ∃ k : Nat, k = tn - T := ⟨_, rfl⟩
  have HO : Hid (atT T t = tn ∧ T ≤ tn ∧ tn ≤ 4611686018427387904 ∧ k = tn - T ∧ atN T N R D B t = fillN N R D B k) := ⟨eT, by have := HK.out.1; omega, by omega, ek, by unfold atN; rw [eT, ek]⟩
  have hk : k ≤ 9223372036854775807 := by omega
  rw [hto] at m4 m5
  have qk : wrap64 ((tn : Int) - (T : Int)) = (k : Int) := by have := HO.out; rw [IntWalk.wrap64_in _ ⟨by omega, by omega⟩]; omega
  have FR : Fc R D R D 18 := ⟨HK.out.2.2.2.2.1, HK.out.2.2.1.1, HK.out.2.2.1.1, rfl, P_up HK.out.2.2.2.1 (by omega), HK.out.2.2.1.2⟩
  obtain ⟨A, C, fg, mi⟩ := FR.rmulInt (by omega) (k := k) hk
  obtain ⟨X, Y, fs, ad⟩ := f0.radd fg (by omega) (by omega)
  have h2 : B * D < P 1 * P 18 := Nat.mul_lt_mul'' (by rw [P_one]; have := HK.out.2.1; omega) HK.out.2.2.1.2
  have h3 : R * k < P 17 * P 1 := Nat.mul_lt_mul'' HK.out.2.2.2.1 (by rw [P_one]; omega)
  rw [← P_add] at h2 h3
  have h4 : N + R * k < P (19 + 1) := P_twice (Nat.lt_of_le_of_lt HK.out.2.2.2.2.2 h2) (P_up h3 (by omega))
  have fs2 := (fs.scale (N := N + R * k) (D := D) (k := D) (by grind) rfl HK.out.2.2.1.1).norm (m := 20) h4 (P_up HK.out.2.2.1.2 (by omega))
  have FBB : Fc B 1 B 1 1 := ⟨Nat.gcd_one_right _, by omega, by omega, rfl, by rw [P_one]; have := HK.out.2.1; omega, by rw [P_one]; omega⟩
  obtain ⟨z, hz⟩ : ∃ z, cmpI ((N + R * k) * 1) (B * D) = z := ⟨_, rfl⟩
  have CM : Hid (∀ v u w, RRt w v X Y → RRt w u B 1 → Calls Tryz.prog 26 #[v, u] w fun e w' => e = .returned (.int .i64 z) ∧ Below w.heap.size w w') := fs2.rcmp FBB (by omega) (by omega) hz
  obtain ⟨bb, hbb⟩ : ∃ bb, decide (0 < z) = bb := ⟨_, rfl⟩
  have HBN : Hid (decide (B * D < N + R * k) = bb) := by
    show _ = _
    rw [← hbb, ← hz, cmpI_pos, Nat.mul_one]
  have MI : Hid (∀ v w, RRt w v R D → Calls Tryz.prog 23 #[v, .int .i64 (k : Int)] w (MakesRRB w A C true)) := mi
  have AD : Hid (∀ v u w, RRt w v p q → RRt w u A C → Calls Tryz.prog 24 #[v, u] w (MakesRR w X Y)) := ad
  have FS : Hid (Fc X Y (N + R * k) D 20 ∧ B * D < P 19) := ⟨fs2, h2⟩
  have WH : Hid (∀ w, Calls Tryz.prog 25 #[.int .u64 (B : Int)] w (MakesRR w B 1)) := fun w => rwhole_any B w (by have := HK.out.2.1; omega)
  have mB : IntKind.u64.wrap (B : Int) = (B : Int) := by have := HK.out.2.1; rw [IntKind.wrap_u64]; omega
  have S1 : Hid _ := (((sx_start w).addG g2).addG g1).go (bel_al (o := .cells #[.int .i64 0, .slice none 0 0, .slice none 0 0, .slice none 0 0, .slice none 0 0, .int .i64 0] 37) (bel_al (o := .cells #[.int .i64 (B : Int), .slice a1 n1 c1, .slice a2 n2 c2, .slice a3 n3 c3, .slice a4 n4 c4, .int .i64 (T : Int)] 37) (bel_refl w)))
  have X1 : Hid (Rx ((w.alloc (.cells #[.int .i64 (B : Int), .slice a1 n1 c1, .slice a2 n2 c2, .slice a3 n3 c3, .slice a4 n4 c4, .int .i64 (T : Int)] 37)).alloc (.cells #[.int .i64 0, .slice none 0 0, .slice none 0 0, .slice none 0 0, .slice none 0 0, .int .i64 0] 37)) w.heap.size (.int .i64 (B : Int)) (.slice a1 n1 c1) (.slice a2 n2 c2) (.slice a3 n3 c3) (.slice a4 n4 c4) (.int .i64 (T : Int)) ∧ Rx ((w.alloc (.cells #[.int .i64 (B : Int), .slice a1 n1 c1, .slice a2 n2 c2, .slice a3 n3 c3, .slice a4 n4 c4, .int .i64 (T : Int)] 37)).alloc (.cells #[.int .i64 0, .slice none 0 0, .slice none 0 0, .slice none 0 0, .slice none 0 0, .int .i64 0] 37)) (w.heap.size + 1) (.int .i64 0) (.slice none 0 0) (.slice none 0 0) (.slice none 0 0) (.slice none 0 0) (.int .i64 0)) := by
    refine ⟨Rx.go (W := w.alloc (.cells #[.int .i64 (B : Int), .slice a1 n1 c1, .slice a2 n2 c2, .slice a3 n3 c3, .slice a4 n4 c4, .int .i64 (T : Int)] 37)) (heap_new w (.cells #[.int .i64 (B : Int), .slice a1 n1 c1, .slice a2 n2 c2, .slice a3 n3 c3, .slice a4 n4 c4, .int .i64 (T : Int)] 37)) (bel_al (bel_refl _)), ?_⟩
    have := heap_new (w.alloc (.cells #[.int .i64 (B : Int), .slice a1 n1 c1, .slice a2 n2 c2, .slice a3 n3 c3, .slice a4 n4 c4, .int .i64 (T : Int)] 37)) (.cells #[.int .i64 0, .slice none 0 0, .slice none 0 0, .slice none 0 0, .slice none 0 0, .int .i64 0] 37)
    rw [World.size_alloc] at this
    exact this
  clear h g1 g2 f0 m3 m6 m7 m8 hto eT ek hk FR fg mi fs ad h2 h3 h4 fs2 FBB hz
  go_enter Tryz.func14, Tryz.ntmps14
  go_wp2_with fail
  obtain ⟨w0, hw0⟩ : ∃ w0, w0 = (w.alloc (.cells #[.int .i64 (B : Int), .slice a1 n1 c1, .slice a2 n2 c2, .slice a3 n3 c3, .slice a4 n4 c4, .int .i64 (T : Int)] 37)).alloc (.cells #[.int .i64 0, .slice none 0 0, .slice none 0 0, .slice none 0 0, .slice none 0 0, .int .i64 0] 37) := ⟨_, rfl⟩
  obtain ⟨g, hg⟩ : ∃ g, g = w.heap.size := ⟨_, rfl⟩
  have HL : Hid (w.heap.size ≤ g) := by show _ ≤ _; omega
  rw [← hw0, ← hg] at X1
  rw [← hw0] at S1
  rw [← hw0, ← hg]
  clear hw0 hg m1 m2 m4 m5 qk
  refine (MI.out _ _ (S1.out.rfr (.agg #[.slice a1 n1 c1, .slice a2 n2 c2]) R D)).mono ?_
  rintro e w3 ⟨v3, rfl, hv3, hb3⟩
  have hv' := hv3
  obtain ⟨a5, n5, c5, a6, n6, c6, ev, _, _⟩ := hv'
  subst ev
  have bx := bel_go hb3 (bel_al (o := .cells #[.slice a5 n5 c5, .slice a6 n6 c6] 35) (bel_refl _))
  have S2 : Hid _ := (((S1.out.go hb3).addG hv3).go (bel_al (o := .cells #[.slice a5 n5 c5, .slice a6 n6 c6] 35) (bel_refl _)))
  have X2 : Hid (Rx (w3.alloc (.cells #[.slice a5 n5 c5, .slice a6 n6 c6] 35)) g (.int .i64 (B : Int)) (.slice a1 n1 c1) (.slice a2 n2 c2) (.slice a3 n3 c3) (.slice a4 n4 c4) (.int .i64 (T : Int)) ∧ Rx (w3.alloc (.cells #[.slice a5 n5 c5, .slice a6 n6 c6] 35)) (g + 1) (.int .i64 0) (.slice none 0 0) (.slice none 0 0) (.slice none 0 0) (.slice none 0 0) (.int .i64 0)) := ⟨X1.out.1.go bx, X1.out.2.go bx⟩
  obtain ⟨-, -, -, k3, k4, -, -⟩ := X2.out.1.cells
  clear hv3 hb3 bx S1 X1
  go_wp2_with fail
  refine (AD.out _ _ _ (S2.out.rfr (.agg #[.slice a3 n3 c3, .slice a4 n4 c4]) p q) (S2.out.rfr (.agg #[.slice a5 n5 c5, .slice a6 n6 c6]) A C)).mono ?_
  rintro e w5 ⟨v5, rfl, hv5, hb5⟩
  have hv' := hv5
  obtain ⟨a7, n7, c7, a8, n8, c8, ev, _, _⟩ := hv'
  subst ev
  have X3 : Hid (Rx w5 g (.int .i64 (B : Int)) (.slice a1 n1 c1) (.slice a2 n2 c2) (.slice a3 n3 c3) (.slice a4 n4 c4) (.int .i64 (T : Int)) ∧ Rx w5 (g + 1) (.int .i64 0) (.slice none 0 0) (.slice none 0 0) (.slice none 0 0) (.slice none 0 0) (.int .i64 0)) := ⟨X2.out.1.go hb5, X2.out.2.go hb5⟩
  have FF : Fb (fun x => x = g) w5 ((w5.setCell ⟨g, 3, none⟩ (.slice a7 n7 c7)).setCell ⟨g, 4, none⟩ (.slice a8 n8 c8)) := ((Fb.refl (fun x => x = g) w5).set (x := ⟨g, 3, none⟩) rfl _).set (x := ⟨g, 4, none⟩) rfl _
  have ho : ∀ k, k = g → Odd w5 k := fun k e => e ▸ X3.out.1.odd
  have X4 : Hid (Rx ((w5.setCell ⟨g, 3, none⟩ (.slice a7 n7 c7)).setCell ⟨g, 4, none⟩ (.slice a8 n8 c8)) g (.int .i64 (B : Int)) (.slice a1 n1 c1) (.slice a2 n2 c2) (.slice a7 n7 c7) (.slice a8 n8 c8) (.int .i64 (T : Int)) ∧ Rx ((w5.setCell ⟨g, 3, none⟩ (.slice a7 n7 c7)).setCell ⟨g, 4, none⟩ (.slice a8 n8 c8)) (g + 1) (.int .i64 0) (.slice none 0 0) (.slice none 0 0) (.slice none 0 0) (.slice none 0 0) (.int .i64 0) ∧ RRt ((w5.setCell ⟨g, 3, none⟩ (.slice a7 n7 c7)).setCell ⟨g, 4, none⟩ (.slice a8 n8 c8)) (.agg #[.slice a1 n1 c1, .slice a2 n2 c2]) R D ∧ RRt ((w5.setCell ⟨g, 3, none⟩ (.slice a7 n7 c7)).setCell ⟨g, 4, none⟩ (.slice a8 n8 c8)) (.agg #[.slice a7 n7 c7, .slice a8 n8 c8]) X Y ∧ Below w.heap.size w ((w5.setCell ⟨g, 3, none⟩ (.slice a7 n7 c7)).setCell ⟨g, 4, none⟩ (.slice a8 n8 c8))) := ⟨X3.out.1.tok _ _, FF.heap X3.out.2 (by show ¬ g + 1 = g; omega), ((S2.out.rfr (.agg #[.slice a1 n1 c1, .slice a2 n2 c2]) R D).mono hb5).fb FF ho, hv5.fb FF ho, ((bel_go S2.out.bel hb5).setCell HL.out _).setCell HL.out _⟩
  obtain ⟨-, -, -, k3, k4, -, kf⟩ := X3.out.1.cells
  have kf3 := kf 3
  have kf4 := kf 4
  obtain ⟨k0, -, -, -, -, -, -⟩ := X4.out.1.cells
  clear hv5 hb5 S2 X2 X3 FF ho kf
  go_wp2_with fail
  clear k0 k3 k4 kf3 kf4
  obtain ⟨w6, hw6⟩ : ∃ w6, w6 = (w5.setCell ⟨g, 3, none⟩ (.slice a7 n7 c7)).setCell ⟨g, 4, none⟩ (.slice a8 n8 c8) := ⟨_, rfl⟩
  rw [← hw6] at X4
  rw [← hw6]
  clear hw6
  refine (WH.out _).mono ?_
  rintro e w7 ⟨v7, rfl, hv7, hb7⟩
  have hv' := hv7
  obtain ⟨a9, n9, c9, a10, n10, c10, ev, _, _⟩ := hv'
  subst ev
  have bx := bel_go hb7 (bel_al (o := .cells #[.slice a9 n9 c9, .slice a10 n10 c10] 35) (bel_refl _))
  have ba := bel_al (o := .cells #[.slice a9 n9 c9, .slice a10 n10 c10] 35) (bel_refl w7)
  have X5 : Hid (Rx (w7.alloc (.cells #[.slice a9 n9 c9, .slice a10 n10 c10] 35)) g (.int .i64 (B : Int)) (.slice a1 n1 c1) (.slice a2 n2 c2) (.slice a7 n7 c7) (.slice a8 n8 c8) (.int .i64 (T : Int)) ∧ Rx (w7.alloc (.cells #[.slice a9 n9 c9, .slice a10 n10 c10] 35)) (g + 1) (.int .i64 0) (.slice none 0 0) (.slice none 0 0) (.slice none 0 0) (.slice none 0 0) (.int .i64 0) ∧ RRt (w7.alloc (.cells #[.slice a9 n9 c9, .slice a10 n10 c10] 35)) (.agg #[.slice a1 n1 c1, .slice a2 n2 c2]) R D ∧ RRt (w7.alloc (.cells #[.slice a9 n9 c9, .slice a10 n10 c10] 35)) (.agg #[.slice a7 n7 c7, .slice a8 n8 c8]) X Y ∧ RRt (w7.alloc (.cells #[.slice a9 n9 c9, .slice a10 n10 c10] 35)) (.agg #[.slice a9 n9 c9, .slice a10 n10 c10]) B 1 ∧ Below w.heap.size w (w7.alloc (.cells #[.slice a9 n9 c9, .slice a10 n10 c10] 35))) := ⟨X4.out.1.go bx, X4.out.2.1.go bx, X4.out.2.2.1.mono bx, X4.out.2.2.2.1.mono bx, hv7.mono ba, bel_go X4.out.2.2.2.2 bx⟩
  have D0 : (w7.alloc (.cells #[.slice a9 n9 c9, .slice a10 n10 c10] 35)).cell? ⟨w7.heap.size, 0, none⟩ = some (.slice a9 n9 c9) := by simp [go_sem]
  have D1 : (w7.alloc (.cells #[.slice a9 n9 c9, .slice a10 n10 c10] 35)).cell? ⟨w7.heap.size, 1, none⟩ = some (.slice a10 n10 c10) := by simp [go_sem]
  have DD : Hid _ := And.intro D0 D1
  obtain ⟨-, -, -, k3, k4, -, -⟩ := X5.out.1.cells
  clear hv7 hb7 bx ba X4 D0 D1
  go_wp2_with fail
  refine (CM.out _ _ _ X5.out.2.2.2.1 X5.out.2.2.2.2.1).mono ?_
  rintro e w9 ⟨rfl, hb9⟩
  obtain ⟨b7, e7⟩ : ∃ b7, b7 = w7.heap.size := ⟨_, rfl⟩
  have X6 : Hid (Rx w9 g (.int .i64 (B : Int)) (.slice a1 n1 c1) (.slice a2 n2 c2) (.slice a7 n7 c7) (.slice a8 n8 c8) (.int .i64 (T : Int)) ∧ Rx w9 (g + 1) (.int .i64 0) (.slice none 0 0) (.slice none 0 0) (.slice none 0 0) (.slice none 0 0) (.int .i64 0) ∧ RRt w9 (.agg #[.slice a1 n1 c1, .slice a2 n2 c2]) R D ∧ RRt w9 (.agg #[.slice a7 n7 c7, .slice a8 n8 c8]) X Y ∧ RRt w9 (.agg #[.slice a9 n9 c9, .slice a10 n10 c10]) B 1 ∧ Below w.heap.size w w9 ∧ w9.cell? ⟨b7, 0, none⟩ = some (.slice a9 n9 c9) ∧ w9.cell? ⟨b7, 1, none⟩ = some (.slice a10 n10 c10)) := ⟨X5.out.1.go hb9, X5.out.2.1.go hb9, X5.out.2.2.1.mono hb9, X5.out.2.2.2.1.mono hb9, X5.out.2.2.2.2.1.mono hb9, bel_go X5.out.2.2.2.2.2 hb9, by rw [e7]; exact cell_later hb9 DD.out.1, by rw [e7]; exact cell_later hb9 DD.out.2⟩
  rw [← e7]
  clear hb9 X5 DD k3 k4 e7
  cases bb
  · have HF : Hid (Fc X Y (fillN N R D B k) D 20) := by
      have h1 : ¬ B * D < N + R * k := of_decide_eq_false HBN.out
      have h2 : fillN N R D B k = N + R * k := by unfold fillN; omega
      rw [h2]
      exact FS.out.1
    have X7 : Hid (Rx w9 g (.int .i64 (B : Int)) (.slice a1 n1 c1) (.slice a2 n2 c2) (.slice a7 n7 c7) (.slice a8 n8 c8) (.int .i64 (T : Int)) ∧ Rx w9 (g + 1) (.int .i64 0) (.slice none 0 0) (.slice none 0 0) (.slice none 0 0) (.slice none 0 0) (.int .i64 0) ∧ RRt w9 (.agg #[.slice a1 n1 c1, .slice a2 n2 c2]) R D ∧ RRt w9 (.agg #[.slice a7 n7 c7, .slice a8 n8 c8]) X Y ∧ Below w.heap.size w w9) := ⟨X6.out.1, X6.out.2.1, X6.out.2.2.1, X6.out.2.2.2.1, X6.out.2.2.2.2.2.1⟩
    clear X6
    have FT : Fb (fun x => x = g) w9 (w9.setCell ⟨g, 5, none⟩ (.int .i64 (tn : Int))) := (Fb.refl (fun x => x = g) w9).set (x := ⟨g, 5, none⟩) rfl _
    have ho : ∀ k, k = g → Odd w9 k := fun k e => e ▸ X7.out.1.odd
    have X8 : Hid (Rx (w9.setCell ⟨g, 5, none⟩ (.int .i64 (tn : Int))) g (.int .i64 (B : Int)) (.slice a1 n1 c1) (.slice a2 n2 c2) (.slice a7 n7 c7) (.slice a8 n8 c8) (.int .i64 (tn : Int)) ∧ Rx (w9.setCell ⟨g, 5, none⟩ (.int .i64 (tn : Int))) (g + 1) (.int .i64 0) (.slice none 0 0) (.slice none 0 0) (.slice none 0 0) (.slice none 0 0) (.int .i64 0)) := ⟨X7.out.1.time _, FT.heap X7.out.2.1 (by show ¬ g + 1 = g; omega)⟩
    have RV : Hid (RB (w9.setCell ⟨g, 5, none⟩ (.int .i64 (tn : Int))) (.agg #[.int .i64 (B : Int), .slice a1 n1 c1, .slice a2 n2 c2, .slice a7 n7 c7, .slice a8 n8 c8, .int .i64 (tn : Int)]) (atT T t) (atN T N R D B t) R D B ∧ Below w.heap.size w (w9.setCell ⟨g, 5, none⟩ (.int .i64 (tn : Int)))) := by
      have o := HO.out
      refine ⟨⟨⟨X, Y, _, _, _, _, _, _, _, _, _, _, _, _, by rw [o.1], X7.out.2.2.1.fb FT ho, X7.out.2.2.2.1.fb FT ho, by rw [o.2.2.2.2]; exact HF.out⟩, by rw [o.1]; exact o.2.2.1, HK.out.2.1, HK.out.2.2.1, HK.out.2.2.2.1, HK.out.2.2.2.2.1, by rw [o.2.2.2.2]; exact fillN_le _ _ _ _ _⟩, X7.out.2.2.2.2.setCell HL.out _⟩
    obtain ⟨-, -, -, -, -, j5, jf⟩ := X7.out.1.cells
    have jf5 := jf 5
    obtain ⟨i0, i1, i2, i3, i4, i5, -⟩ := X8.out.1.cells
    obtain ⟨l0, l1, l2, l3, l4, l5, lf⟩ := X8.out.2.cells
    have lf0 := lf 0
    have lf1 := lf 1
    have lf2 := lf 2
    have lf3 := lf 3
    have lf4 := lf 4
    have lf5 := lf 5
    have EN : Hid _ := rx_end X8.out.2 (by have := HL.out; omega : w.heap.size ≤ g + 1) RV.out.2 RV.out.1 (.int .i64 (B : Int)) (.slice a1 n1 c1) (.slice a2 n2 c2) (.slice a7 n7 c7) (.slice a8 n8 c8) (.int .i64 (tn : Int)) (g := 0) (x0 := 0) (x5 := 0) (a1 := none) (a2 := none) (a3 := none) (a4 := none) (n1 := 0) (c1 := 0) (n2 := 0) (c2 := 0) (n3 := 0) (c3 := 0) (n4 := 0) (c4 := 0)
    clear FT ho jf lf
    go_wp2_with fail
    exact bodyPost_ret (v := .agg #[.int .i64 (B : Int), .slice a1 n1 c1, .slice a2 n2 c2, .slice a7 n7 c7, .slice a8 n8 c8, .int .i64 (tn : Int)]) (by simp [results, Tryz.results14, go_sem, l0, l1, l2, l3, l4, l5]) rfl ⟨_, rfl, EN.out.1, EN.out.2⟩
  · have HF : Hid (Fc B 1 (fillN N R D B k) D 20) := by
      have h1 : B * D < N + R * k := of_decide_eq_true HBN.out
      have h2 : fillN N R D B k = B * D := by unfold fillN; omega
      rw [h2]
      exact ⟨Nat.gcd_one_right _, by omega, HK.out.2.2.1.1, by rw [Nat.mul_one], P_up (n := 1) (by rw [P_one]; have := HK.out.2.1; omega) (by omega), P_up (n := 1) (by rw [P_one]; omega) (by omega)⟩
    have F3 : Fb (fun x => x = g) w9 ((w9.setCell ⟨g, 3, none⟩ (.slice a9 n9 c9)).setCell ⟨g, 4, none⟩ (.slice a10 n10 c10)) := ((Fb.refl (fun x => x = g) w9).set (x := ⟨g, 3, none⟩) rfl _).set (x := ⟨g, 4, none⟩) rfl _
    have h3 : ∀ k, k = g → Odd w9 k := fun k e => e ▸ X6.out.1.odd
    have X7 : Hid (Rx ((w9.setCell ⟨g, 3, none⟩ (.slice a9 n9 c9)).setCell ⟨g, 4, none⟩ (.slice a10 n10 c10)) g (.int .i64 (B : Int)) (.slice a1 n1 c1) (.slice a2 n2 c2) (.slice a9 n9 c9) (.slice a10 n10 c10) (.int .i64 (T : Int)) ∧ Rx ((w9.setCell ⟨g, 3, none⟩ (.slice a9 n9 c9)).setCell ⟨g, 4, none⟩ (.slice a10 n10 c10)) (g + 1) (.int .i64 0) (.slice none 0 0) (.slice none 0 0) (.slice none 0 0) (.slice none 0 0) (.int .i64 0) ∧ RRt ((w9.setCell ⟨g, 3, none⟩ (.slice a9 n9 c9)).setCell ⟨g, 4, none⟩ (.slice a10 n10 c10)) (.agg #[.slice a1 n1 c1, .slice a2 n2 c2]) R D ∧ RRt ((w9.setCell ⟨g, 3, none⟩ (.slice a9 n9 c9)).setCell ⟨g, 4, none⟩ (.slice a10 n10 c10)) (.agg #[.slice a9 n9 c9, .slice a10 n10 c10]) B 1 ∧ Below w.heap.size w ((w9.setCell ⟨g, 3, none⟩ (.slice a9 n9 c9)).setCell ⟨g, 4, none⟩ (.slice a10 n10 c10))) := ⟨X6.out.1.tok _ _, F3.heap X6.out.2.1 (by show ¬ g + 1 = g; omega), X6.out.2.2.1.fb F3 h3, X6.out.2.2.2.2.1.fb F3 h3, (X6.out.2.2.2.2.2.1.setCell HL.out _).setCell HL.out _⟩
    have u0 := X6.out.2.2.2.2.2.2.1
    have u1 := X6.out.2.2.2.2.2.2.2
    obtain ⟨-, -, -, k3, k4, -, kf⟩ := X6.out.1.cells
    have kf3 := kf 3
    have kf4 := kf 4
    clear X6 F3 h3 kf
    have FT : Fb (fun x => x = g) ((w9.setCell ⟨g, 3, none⟩ (.slice a9 n9 c9)).setCell ⟨g, 4, none⟩ (.slice a10 n10 c10)) (((w9.setCell ⟨g, 3, none⟩ (.slice a9 n9 c9)).setCell ⟨g, 4, none⟩ (.slice a10 n10 c10)).setCell ⟨g, 5, none⟩ (.int .i64 (tn : Int))) := (Fb.refl (fun x => x = g) ((w9.setCell ⟨g, 3, none⟩ (.slice a9 n9 c9)).setCell ⟨g, 4, none⟩ (.slice a10 n10 c10))).set (x := ⟨g, 5, none⟩) rfl _
    have ho : ∀ k, k = g → Odd ((w9.setCell ⟨g, 3, none⟩ (.slice a9 n9 c9)).setCell ⟨g, 4, none⟩ (.slice a10 n10 c10)) k := fun k e => e ▸ X7.out.1.odd
    have X8 : Hid (Rx (((w9.setCell ⟨g, 3, none⟩ (.slice a9 n9 c9)).setCell ⟨g, 4, none⟩ (.slice a10 n10 c10)).setCell ⟨g, 5, none⟩ (.int .i64 (tn : Int))) g (.int .i64 (B : Int)) (.slice a1 n1 c1) (.slice a2 n2 c2) (.slice a9 n9 c9) (.slice a10 n10 c10) (.int .i64 (tn : Int)) ∧ Rx (((w9.setCell ⟨g, 3, none⟩ (.slice a9 n9 c9)).setCell ⟨g, 4, none⟩ (.slice a10 n10 c10)).setCell ⟨g, 5, none⟩ (.int .i64 (tn : Int))) (g + 1) (.int .i64 0) (.slice none 0 0) (.slice none 0 0) (.slice none 0 0) (.slice none 0 0) (.int .i64 0)) := ⟨X7.out.1.time _, FT.heap X7.out.2.1 (by show ¬ g + 1 = g; omega)⟩
    have RV : Hid (RB (((w9.setCell ⟨g, 3, none⟩ (.slice a9 n9 c9)).setCell ⟨g, 4, none⟩ (.slice a10 n10 c10)).setCell ⟨g, 5, none⟩ (.int .i64 (tn : Int))) (.agg #[.int .i64 (B : Int), .slice a1 n1 c1, .slice a2 n2 c2, .slice a9 n9 c9, .slice a10 n10 c10, .int .i64 (tn : Int)]) (atT T t) (atN T N R D B t) R D B ∧ Below w.heap.size w (((w9.setCell ⟨g, 3, none⟩ (.slice a9 n9 c9)).setCell ⟨g, 4, none⟩ (.slice a10 n10 c10)).setCell ⟨g, 5, none⟩ (.int .i64 (tn : Int)))) := by
      have o := HO.out
      refine ⟨⟨⟨B, 1, _, _, _, _, _, _, _, _, _, _, _, _, by rw [o.1], X7.out.2.2.1.fb FT ho, X7.out.2.2.2.1.fb FT ho, by rw [o.2.2.2.2]; exact HF.out⟩, by rw [o.1]; exact o.2.2.1, HK.out.2.1, HK.out.2.2.1, HK.out.2.2.2.1, HK.out.2.2.2.2.1, by rw [o.2.2.2.2]; exact fillN_le _ _ _ _ _⟩, X7.out.2.2.2.2.setCell HL.out _⟩
    obtain ⟨-, -, -, -, -, j5, jf⟩ := X7.out.1.cells
    have jf5 := jf 5
    obtain ⟨i0, i1, i2, i3, i4, i5, -⟩ := X8.out.1.cells
    obtain ⟨l0, l1, l2, l3, l4, l5, lf⟩ := X8.out.2.cells
    have lf0 := lf 0
    have lf1 := lf 1
    have lf2 := lf 2
    have lf3 := lf 3
    have lf4 := lf 4
    have lf5 := lf 5
    have EN : Hid _ := rx_end X8.out.2 (by have := HL.out; omega : w.heap.size ≤ g + 1) RV.out.2 RV.out.1 (.int .i64 (B : Int)) (.slice a1 n1 c1) (.slice a2 n2 c2) (.slice a9 n9 c9) (.slice a10 n10 c10) (.int .i64 (tn : Int)) (g := 0) (x0 := 0) (x5 := 0) (a1 := none) (a2 := none) (a3 := none) (a4 := none) (n1 := 0) (c1 := 0) (n2 := 0) (c2 := 0) (n3 := 0) (c3 := 0) (n4 := 0) (c4 := 0)
    clear FT ho jf lf
    go_wp2_with fail
    exact bodyPost_ret (v := .agg #[.int .i64 (B : Int), .slice a1 n1 c1, .slice a2 n2 c2, .slice a9 n9 c9, .slice a10 n10 c10, .int .i64 (tn : Int)]) (by simp [results, Tryz.results14, go_sem, l0, l1, l2, l3, l4, l5]) rfl ⟨_, rfl, EN.out.1, EN.out.2⟩
end Go.Proofs.YtdmkneojhnhomaaGreatDoor
namespace Go.Proofs.YtdmkneojhnhomaaGreatDoor
open Go.RowKit
set_option maxRecDepth 100000
set_option linter.unusedVariables false
theorem Rx.all {W : World} {g : Nat} {x0 u1 u2 u3 u4 x5 : Value} (h : Rx W g x0 u1 u2 u3 u4 x5) (v0 v1 v2 v3 v4 v5 : Value) : Rx ((((((W.setCell ⟨g, 0, none⟩ (v0)).setCell ⟨g, 1, none⟩ (v1)).setCell ⟨g, 2, none⟩ (v2)).setCell ⟨g, 3, none⟩ (v3)).setCell ⟨g, 4, none⟩ (v4)).setCell ⟨g, 5, none⟩ (v5)) g v0 v1 v2 v3 v4 v5 ∧ Fb (fun x => x = g) W ((((((W.setCell ⟨g, 0, none⟩ (v0)).setCell ⟨g, 1, none⟩ (v1)).setCell ⟨g, 2, none⟩ (v2)).setCell ⟨g, 3, none⟩ (v3)).setCell ⟨g, 4, none⟩ (v4)).setCell ⟨g, 5, none⟩ (v5)) := by
  refine ⟨?_, ((((((Fb.refl (fun x => x = g) W).set (x := ⟨g, 0, none⟩) rfl v0).set (x := ⟨g, 1, none⟩) rfl v1).set (x := ⟨g, 2, none⟩) rfl v2).set (x := ⟨g, 3, none⟩) rfl v3).set (x := ⟨g, 4, none⟩) rfl v4).set (x := ⟨g, 5, none⟩) rfl v5⟩
  unfold Rx at *
  simp [World.setCell, Array.getElem?_modify, h]
set_option maxHeartbeats 8000000 in
theorem rtake8_any (v : Value) (T N R D B : Nat) (t n : Int) (w : World) (h : RB w v T N R D B) (hn : n ≤ 9223372036854775807) :
    Calls Tryz.prog 17 #[v, .int .i64 t, .int .i64 n] w fun e w' => ∃ v', e = .returned (.tuple #[v', .int .i64 (takeE (atN T N R D B t) D n)]) ∧ RB w' v' (atT T t) (takeN (atN T N R D B t) D n) R D B ∧ Below w.heap.size w w' := by
  have HR : Hid (RB w v T N R D B) := h
  obtain ⟨p, q, a1, n1, c1, a2, n2, c2, a3, n3, c3, a4, n4, c4, e0, -, -, -⟩ := h.ex
  subst e0
  have X1 : Hid (Rx ((w.alloc (.cells #[.int .i64 (B : Int), .slice a1 n1 c1, .slice a2 n2 c2, .slice a3 n3 c3, .slice a4 n4 c4, .int .i64 (T : Int)] 37)).alloc (.cells #[.int .i64 0, .slice none 0 0, .slice none 0 0, .slice none 0 0, .slice none 0 0, .int .i64 0] 37)) w.heap.size (.int .i64 (B : Int)) (.slice a1 n1 c1) (.slice a2 n2 c2) (.slice a3 n3 c3) (.slice a4 n4 c4) (.int .i64 (T : Int)) ∧ Rx ((w.alloc (.cells #[.int .i64 (B : Int), .slice a1 n1 c1, .slice a2 n2 c2, .slice a3 n3 c3, .slice a4 n4 c4, .int .i64 (T : Int)] 37)).alloc (.cells #[.int .i64 0, .slice none 0 0, .slice none 0 0, .slice none 0 0, .slice none 0 0, .int .i64 0] 37)) (w.heap.size + 1) (.int .i64 0) (.slice none 0 0) (.slice none 0 0) (.slice none 0 0) (.slice none 0 0) (.int .i64 0) ∧ Below w.heap.size w ((w.alloc (.cells #[.int .i64 (B : Int), .slice a1 n1 c1, .slice a2 n2 c2, .slice a3 n3 c3, .slice a4 n4 c4, .int .i64 (T : Int)] 37)).alloc (.cells #[.int .i64 0, .slice none 0 0, .slice none 0 0, .slice none 0 0, .slice none 0 0, .int .i64 0] 37))) := by
    refine ⟨Rx.go (W := w.alloc (.cells #[.int .i64 (B : Int), .slice a1 n1 c1, .slice a2 n2 c2, .slice a3 n3 c3, .slice a4 n4 c4, .int .i64 (T : Int)] 37)) (heap_new w (.cells #[.int .i64 (B : Int), .slice a1 n1 c1, .slice a2 n2 c2, .slice a3 n3 c3, .slice a4 n4 c4, .int .i64 (T : Int)] 37)) (bel_al (bel_refl _)), ?_, bel_al (bel_al (bel_refl _))⟩
    have := heap_new (w.alloc (.cells #[.int .i64 (B : Int), .slice a1 n1 c1, .slice a2 n2 c2, .slice a3 n3 c3, .slice a4 n4 c4, .int .i64 (T : Int)] 37)) (.cells #[.int .i64 0, .slice none 0 0, .slice none 0 0, .slice none 0 0, .slice none 0 0, .int .i64 0] 37)
    rw [World.size_alloc] at this
    exact this
  clear h
  go_enter Tryz.func17, Tryz.ntmps17
  go_wp2_with fail
  obtain ⟨w0, hw0⟩ : ∃ w0, w0 = (w.alloc (.cells #[.int .i64 (B : Int), .slice a1 n1 c1, .slice a2 n2 c2, .slice a3 n3 c3, .slice a4 n4 c4, .int .i64 (T : Int)] 37)).alloc (.cells #[.int .i64 0, .slice none 0 0, .slice none 0 0, .slice none 0 0, .slice none 0 0, .int .i64 0] 37) := ⟨_, rfl⟩
  obtain ⟨g, hg⟩ : ∃ g, g = w.heap.size := ⟨_, rfl⟩
  have HL : Hid (w.heap.size ≤ g) := by show _ ≤ _; omega
  rw [← hw0] at X1
  have HW : Hid (Below w.heap.size w w0) := X1.out.2.2
  have XG : Hid (Rx w0 g (.int .i64 (B : Int)) (.slice a1 n1 c1) (.slice a2 n2 c2) (.slice a3 n3 c3) (.slice a4 n4 c4) (.int .i64 (T : Int)) ∧ Rx w0 (g + 1) (.int .i64 0) (.slice none 0 0) (.slice none 0 0) (.slice none 0 0) (.slice none 0 0) (.int .i64 0)) := by rw [hg]; exact ⟨X1.out.1, X1.out.2.1⟩
  clear X1 HL
  rw [← hw0, ← hg]
  refine (rat8_any _ T N R D B t w0 (HR.out.mono (by rw [hw0]; exact bel_al (bel_al (bel_refl _))))).mono ?_
  clear hw0
  rintro e w1 ⟨v1, rfl, h1, hb1⟩
  have HX : Hid (g = w.heap.size) := hg
  clear hg
  obtain ⟨M, hM⟩ : ∃ M, M = atN T N R D B t := ⟨_, rfl⟩
  obtain ⟨T', hT'⟩ : ∃ T', T' = atT T t := ⟨_, rfl⟩
  have HM : Hid (M = atN T N R D B t ∧ T' = atT T t) := ⟨hM, hT'⟩
  rw [← hM, ← hT'] at h1
  clear hM hT' HR
  have HK : Hid (T' ≤ 4611686018427387904 ∧ (1 ≤ B ∧ B ≤ 1099511627776) ∧ (0 < D ∧ D < P 18) ∧ R < P 17 ∧ Nat.gcd R D = 1 ∧ M ≤ B * D) := ⟨h1.cT, h1.cB, h1.cD, h1.cR, h1.low, h1.cN⟩
  obtain ⟨p, q, a5, n5, c5, a6, n6, c6, a7, n7, c7, a8, n8, c8, e1, g1, g2, f0⟩ := h1.ex
  subst e1
  have x1 := XG.out.1.go hb1
  have AL := x1.all (.int .i64 (B : Int)) (.slice a5 n5 c5) (.slice a6 n6 c6) (.slice a7 n7 c7) (.slice a8 n8 c8) (.int .i64 (T' : Int))
  have ho : ∀ k, k = g → Odd w1 k := fun k e => e ▸ x1.odd
  have X2 : Hid (Rx ((((((w1.setCell ⟨g, 0, none⟩ (.int .i64 (B : Int))).setCell ⟨g, 1, none⟩ (.slice a5 n5 c5)).setCell ⟨g, 2, none⟩ (.slice a6 n6 c6)).setCell ⟨g, 3, none⟩ (.slice a7 n7 c7)).setCell ⟨g, 4, none⟩ (.slice a8 n8 c8)).setCell ⟨g, 5, none⟩ (.int .i64 (T' : Int))) g (.int .i64 (B : Int)) (.slice a5 n5 c5) (.slice a6 n6 c6) (.slice a7 n7 c7) (.slice a8 n8 c8) (.int .i64 (T' : Int)) ∧ Rx ((((((w1.setCell ⟨g, 0, none⟩ (.int .i64 (B : Int))).setCell ⟨g, 1, none⟩ (.slice a5 n5 c5)).setCell ⟨g, 2, none⟩ (.slice a6 n6 c6)).setCell ⟨g, 3, none⟩ (.slice a7 n7 c7)).setCell ⟨g, 4, none⟩ (.slice a8 n8 c8)).setCell ⟨g, 5, none⟩ (.int .i64 (T' : Int))) (g + 1) (.int .i64 0) (.slice none 0 0) (.slice none 0 0) (.slice none 0 0) (.slice none 0 0) (.int .i64 0) ∧ RB ((((((w1.setCell ⟨g, 0, none⟩ (.int .i64 (B : Int))).setCell ⟨g, 1, none⟩ (.slice a5 n5 c5)).setCell ⟨g, 2, none⟩ (.slice a6 n6 c6)).setCell ⟨g, 3, none⟩ (.slice a7 n7 c7)).setCell ⟨g, 4, none⟩ (.slice a8 n8 c8)).setCell ⟨g, 5, none⟩ (.int .i64 (T' : Int))) (.agg #[.int .i64 (B : Int), .slice a5 n5 c5, .slice a6 n6 c6, .slice a7 n7 c7, .slice a8 n8 c8, .int .i64 (T' : Int)]) T' M R D B ∧ RRt ((((((w1.setCell ⟨g, 0, none⟩ (.int .i64 (B : Int))).setCell ⟨g, 1, none⟩ (.slice a5 n5 c5)).setCell ⟨g, 2, none⟩ (.slice a6 n6 c6)).setCell ⟨g, 3, none⟩ (.slice a7 n7 c7)).setCell ⟨g, 4, none⟩ (.slice a8 n8 c8)).setCell ⟨g, 5, none⟩ (.int .i64 (T' : Int))) (.agg #[.slice a5 n5 c5, .slice a6 n6 c6]) R D ∧ RRt ((((((w1.setCell ⟨g, 0, none⟩ (.int .i64 (B : Int))).setCell ⟨g, 1, none⟩ (.slice a5 n5 c5)).setCell ⟨g, 2, none⟩ (.slice a6 n6 c6)).setCell ⟨g, 3, none⟩ (.slice a7 n7 c7)).setCell ⟨g, 4, none⟩ (.slice a8 n8 c8)).setCell ⟨g, 5, none⟩ (.int .i64 (T' : Int))) (.agg #[.slice a7 n7 c7, .slice a8 n8 c8]) p q ∧ Below w.heap.size w ((((((w1.setCell ⟨g, 0, none⟩ (.int .i64 (B : Int))).setCell ⟨g, 1, none⟩ (.slice a5 n5 c5)).setCell ⟨g, 2, none⟩ (.slice a6 n6 c6)).setCell ⟨g, 3, none⟩ (.slice a7 n7 c7)).setCell ⟨g, 4, none⟩ (.slice a8 n8 c8)).setCell ⟨g, 5, none⟩ (.int .i64 (T' : Int)))) := ⟨AL.1, AL.2.heap (XG.out.2.go hb1) (by show ¬ g + 1 = g; omega), h1.fb AL.2 ho, g1.fb AL.2 ho, g2.fb AL.2 ho, by
    have hb := bel_go HW.out hb1
    exact hb.trans (AL.2.below hb.size (fun k e => by rw [e, HX.out]; omega))⟩
  have FH : Hid (Fc p q M D 20) := f0
  obtain ⟨k0, k1, k2, k3, k4, k5, kf⟩ := x1.cells
  have kf0 := kf 0
  have kf1 := kf 1
  have kf2 := kf 2
  have kf3 := kf 3
  have kf4 := kf 4
  have kf5 := kf 5
  clear h1 hb1 XG HW AL ho x1 g1 g2 f0 kf
  go_upto_region 2 with fail
  clear k0 k1 k2 k3 k4 k5 kf0 kf1 kf2 kf3 kf4 kf5
  obtain ⟨w2, hw2⟩ : ∃ w2, w2 = ((((((w1.setCell ⟨g, 0, none⟩ (.int .i64 (B : Int))).setCell ⟨g, 1, none⟩ (.slice a5 n5 c5)).setCell ⟨g, 2, none⟩ (.slice a6 n6 c6)).setCell ⟨g, 3, none⟩ (.slice a7 n7 c7)).setCell ⟨g, 4, none⟩ (.slice a8 n8 c8)).setCell ⟨g, 5, none⟩ (.int .i64 (T' : Int))) := ⟨_, rfl⟩
  rw [← hw2] at X2
  rw [← hw2]
  clear hw2
  by_cases hlt : n < 1
  · have d1 : decide (n < 1) = true := decide_eq_true hlt
    have HE : Hid (takeE M D n = 1 ∧ takeN M D n = M) := by
      unfold takeE takeN
      rw [if_pos hlt, if_pos hlt]
      exact ⟨rfl, rfl⟩
    have X3 : Hid (Rx w2 g (.int .i64 (B : Int)) (.slice a5 n5 c5) (.slice a6 n6 c6) (.slice a7 n7 c7) (.slice a8 n8 c8) (.int .i64 (T' : Int)) ∧ Rx w2 (g + 1) (.int .i64 0) (.slice none 0 0) (.slice none 0 0) (.slice none 0 0) (.slice none 0 0) (.int .i64 0) ∧ RB w2 (.agg #[.int .i64 (B : Int), .slice a5 n5 c5, .slice a6 n6 c6, .slice a7 n7 c7, .slice a8 n8 c8, .int .i64 (T' : Int)]) T' M R D B ∧ Below w.heap.size w w2) := ⟨X2.out.1, X2.out.2.1, X2.out.2.2.1, X2.out.2.2.2.2.2⟩
    clear hlt X2
    obtain ⟨i0, i1, i2, i3, i4, i5, -⟩ := X3.out.1.cells
    obtain ⟨l0, l1, l2, l3, l4, l5, lf⟩ := X3.out.2.1.cells
    have lf0 := lf 0
    have lf1 := lf 1
    have lf2 := lf 2
    have lf3 := lf 3
    have lf4 := lf 4
    have lf5 := lf 5
    have EN : Hid _ := rx_end X3.out.2.1 (by have := HX.out; omega : w.heap.size ≤ g + 1) X3.out.2.2.2 X3.out.2.2.1 (.int .i64 (B : Int)) (.slice a5 n5 c5) (.slice a6 n6 c6) (.slice a7 n7 c7) (.slice a8 n8 c8) (.int .i64 (T' : Int)) (g := 0) (x0 := 0) (x5 := 0) (a1 := none) (a2 := none) (a3 := none) (a4 := none) (n1 := 0) (c1 := 0) (n2 := 0) (c2 := 0) (n3 := 0) (c3 := 0) (n4 := 0) (c4 := 0)
    clear lf
    go_wp2_with fail
    refine bodyPost_ret (v := .tuple #[.agg #[.int .i64 (B : Int), .slice a5 n5 c5, .slice a6 n6 c6, .slice a7 n7 c7, .slice a8 n8 c8, .int .i64 (T' : Int)], .int .i64 1]) (by simp [results, Tryz.results17, go_sem, l0, l1, l2, l3, l4, l5]) rfl ⟨.agg #[.int .i64 (B : Int), .slice a5 n5 c5, .slice a6 n6 c6, .slice a7 n7 c7, .slice a8 n8 c8, .int .i64 (T' : Int)], ?_, ?_, EN.out.2⟩
    · rw [← HM.out.1, HE.out.1]
    · rw [← HM.out.1, ← HM.out.2, HE.out.2]
      exact EN.out.1
  · obtain ⟨k, rfl⟩ : ∃ k : Nat, n = (k : Int) := ⟨n.toNat, by omega⟩
    have d1 : decide ((k : Int) < 1) = false := decide_eq_false hlt
    have HN : Hid (1 ≤ k ∧ k ≤ 9223372036854775807) := ⟨by omega, by omega⟩
    have mk : IntKind.u64.wrap (k : Int) = (k : Int) := by rw [IntKind.wrap_u64]; omega
    have FK : Hid (Fc k 1 k 1 1) := ⟨Nat.gcd_one_right _, by omega, by omega, rfl, by rw [P_one]; omega, by rw [P_one]; omega⟩
    have WH : Hid (∀ w, Calls Tryz.prog 25 #[.int .u64 (k : Int)] w (MakesRR w k 1)) := fun w => rwhole_any k w (by omega)
    obtain ⟨-, -, -, y3, y4, -, -⟩ := X2.out.1.cells
    have S1 : Hid _ := ((((sx_start w2).addG X2.out.2.2.2.2.1).addG X2.out.2.2.2.1).addC y4).addC y3
    clear hlt hn y3 y4
    go_wp2_with fail
    by_cases h2 : k * D ≤ M
    · have HE : Hid (takeE M D (k : Int) = 0 ∧ takeN M D (k : Int) = M - k * D) := by
        unfold takeE takeN
        have h9 : ¬ (k : Int) < 1 := by have := HN.out; omega
        rw [Int.toNat_natCast, if_neg h9, if_neg h9, if_neg (Nat.not_lt.2 h2), if_neg (Nat.not_lt.2 h2)]
        exact ⟨rfl, rfl⟩
      obtain ⟨X, Y, fs, ad⟩ := FH.out.rsub FK.out (by omega) (by omega) (by rw [Nat.mul_one]; exact h2)
      rw [Nat.mul_one, Nat.mul_one] at fs
      have FS : Hid (Fc X Y (M - k * D) D 20) := fs.norm (by
        have h3 : B * D < P 1 * P 18 := Nat.mul_lt_mul'' (by rw [P_one]; have := HK.out.2.1; omega) HK.out.2.2.1.2
        rw [← P_add] at h3
        have := HK.out.2.2.2.2.2
        exact Nat.lt_of_le_of_lt (by omega) (P_up h3 (by omega))) (P_up HK.out.2.2.1.2 (by omega))
      have AD : Hid (∀ v u w, RRt w v p q → RRt w u k 1 → Calls Tryz.prog 41 #[v, u] w (MakesRRB w X Y true)) := ad
      clear fs ad h2
      refine wp_region_inv (JC w2 [sEq (.pointer (some ⟨g, 3, none⟩)), sEq (.agg #[.slice a7 n7 c7, .slice a8 n8 c8]), sEq (.int .i64 (k : Int)), sEq (.int .u64 (k : Int)), sRRt (k) (1), sRRtB (X) (Y) true, sRRtB (X) (Y) true, sRRt (X) (Y), sEq (.bool true), sAny, sAny, sEq (.bool true)] (9, 10, 7)) 31 (by kernel_rfl) rfl (by kernel_rfl) (JC.start _ _ _) (fun HG HN => ⟨?_, ?_, ?_, ?_, ?_, ?_, ?_, ?_, ?_, ?_, ?_, ?_, trivial⟩) ?_
      · intro L vs a w' hJ hF hP hL
        have q3 : (a.tmps[3]?).getD undef = .pointer (some ⟨g, 0, none⟩) := hF.old 3 rfl
        exact run_val (v := .pointer (some ⟨g, 3, none⟩)) rfl (by simp [execOp, go_sem, q3]) ⟨_, rfl, hJ.step hL rfl (Below.refl _ _) (by exact rfl)⟩
      · intro L vs a w' hJ hF hP hL
        have p0 : L 0 = true := hP ⟨0, .data⟩ (by simp) rfl
        have s0 : vs 0 = .pointer (some ⟨g, 3, none⟩) := hJ.sp 0 p0
        have q17 := hF.slot 0 17 rfl p0
        have cb0 := cell_later hJ.bel (S1.out.cel (g) 3 (.slice a7 n7 c7))
        have cb1 := cell_later hJ.bel (S1.out.cel (g) 4 (.slice a8 n8 c8))
        exact run_val (v := .agg #[.slice a7 n7 c7, .slice a8 n8 c8]) rfl (by simp [execOp, go_sem, q17, s0, cb0, cb1]) ⟨_, rfl, hJ.step hL rfl (Below.refl _ _) (by exact rfl)⟩
      · intro L vs a w' hJ hF hP hL
        have q2 : (a.tmps[2]?).getD undef = .int .i64 (k : Int) := hF.old 2 rfl
        exact run_val (v := .int .i64 (k : Int)) rfl (by simp [execOp, go_sem, q2]) ⟨_, rfl, hJ.step hL rfl (Below.refl _ _) (by exact rfl)⟩
      · intro L vs a w' hJ hF hP hL
        have p2 : L 2 = true := hP ⟨2, .data⟩ (by simp) rfl
        have s2 : vs 2 = .int .i64 (k : Int) := hJ.sp 2 p2
        have q19 := hF.slot 2 19 rfl p2
        exact run_val (v := .int .u64 (k : Int)) rfl (by simp [execOp, go_sem, q19, s2, mk]) ⟨_, rfl, hJ.step hL rfl (Below.refl _ _) (by exact rfl)⟩
      · intro L vs a w' hJ hF hP hL
        have p3 : L 3 = true := hP ⟨3, .data⟩ (by simp) rfl
        have s3 : vs 3 = .int .u64 (k : Int) := hJ.sp 3 p3
        have q20 := hF.slot 3 20 rfl p3
        refine run_call (f := 25) (args := #[.int .u64 (k : Int)]) rfl (by simp [go_sem, q20, s3]) (WH.out _) ?_
        rintro e w2 ⟨v, rfl, hv, hb⟩
        exact ⟨_, rfl, _, rfl, hJ.step hL rfl hb (by exact hv)⟩
      · intro L vs a w' hJ hF hP hL
        have p1 : L 1 = true := hP ⟨1, .data⟩ (by simp) rfl
        have s1 : vs 1 = .agg #[.slice a7 n7 c7, .slice a8 n8 c8] := hJ.sp 1 p1
        have q18 := hF.slot 1 18 rfl p1
        have p4 : L 4 = true := hP ⟨4, .data⟩ (by simp) rfl
        have s4 : RRt w' (vs 4) (k) (1) := hJ.sp 4 p4
        have q21 := hF.slot 4 21 rfl p4
        refine run_call (f := 41) (args := #[.agg #[.slice a7 n7 c7, .slice a8 n8 c8], vs 4]) rfl (by simp [go_sem, q18, s1, q21]) (AD.out _ _ _ ((S1.out.rfr (.agg #[.slice a7 n7 c7, .slice a8 n8 c8]) p q).mono hJ.bel) s4) ?_
        rintro e w2 ⟨v1, rfl, h1, hb⟩
        exact ⟨_, rfl, _, rfl, hJ.step hL rfl hb (by exact ⟨v1, rfl, h1⟩)⟩
      · intro L vs a w' hJ hF hP hL
        have p5 : L 5 = true := hP ⟨5, .data⟩ (by simp) rfl
        have s5 : ∃ p, vs 5 = .tuple #[p, .bool true] ∧ RRt w' p (X) (Y) := hJ.sp 5 p5
        have q22 := hF.slot 5 22 rfl p5
        exact run_val (v := vs 5) rfl (by simp [execOp, go_sem, q22]) ⟨_, rfl, hJ.step hL rfl (Below.refl _ _) (by exact s5)⟩
      · intro L vs a w' hJ hF hP hL
        have p6 : L 6 = true := hP ⟨6, .data⟩ (by simp) rfl
        have s6 : ∃ p, vs 6 = .tuple #[p, .bool true] ∧ RRt w' p (X) (Y) := hJ.sp 6 p6
        have q16 := hF.slot 6 16 rfl p6
        obtain ⟨vp, e1, e2⟩ := s6
        exact run_val (v := vp) rfl (by simp [execOp, go_sem, q16, e1]) ⟨_, rfl, hJ.step hL rfl (Below.refl _ _) (by exact e2)⟩
      · intro L vs a w' hJ hF hP hL
        have p6 : L 6 = true := hP ⟨6, .data⟩ (by simp) rfl
        have s6 : ∃ p, vs 6 = .tuple #[p, .bool true] ∧ RRt w' p (X) (Y) := hJ.sp 6 p6
        have q16 := hF.slot 6 16 rfl p6
        obtain ⟨vp, e1, e2⟩ := s6
        exact run_val (v := .bool true) rfl (by simp [execOp, go_sem, q16, e1]) ⟨_, rfl, hJ.step hL rfl (Below.refl _ _) (by exact rfl)⟩
      · intro L vs a w' hJ hF hP hL
        exact run_val (v := .pointer (some ⟨w'.heap.size, 0, none⟩)) (w' := w'.alloc (.cells #[.slice none 0 0, .slice none 0 0] 35)) rfl (by simp [execOp, go_sem]) ⟨_, rfl, hJ.alloc hL rfl (by decide) rfl _⟩
      · intro L vs a w' hJ hF hP hL
        have p9 : L 9 = true := hP ⟨9, .data⟩ (by simp) rfl
        have q8 := hF.slot 9 8 rfl p9
        have p7 : L 7 = true := hP ⟨7, .data⟩ (by simp) rfl
        have s7 : RRt w' (vs 7) (X) (Y) := hJ.sp 7 p7
        have q23 := hF.slot 7 23 rfl p7
        obtain ⟨bk, e1, e2, e3, e4, e4', e5, e6⟩ := hJ.bx p9
        obtain ⟨e7, e7'⟩ := e5 hL
        have s7' := s7
        obtain ⟨aa, nn, cc, a2, n2, c2, e8, _, _⟩ := s7'
        exact run_unit (w' := (w'.setCell ⟨bk, 0, none⟩ (.slice aa nn cc)).setCell ⟨bk, 1, none⟩ (.slice a2 n2 c2)) rfl (by simp [execOp, go_sem, q8, q23, e1, e8, e7, e4, e7', e4']) ⟨undef, rfl, hJ.store hL p9 p7 (by decide) rfl e1 e8⟩
      · intro L vs a w' hJ hF hP hL
        have p8 : L 8 = true := hP ⟨8, .data⟩ (by simp) rfl
        have s8 : vs 8 = .bool true := hJ.sp 8 p8
        have q24 := hF.slot 8 24 rfl p8
        exact run_val (v := .bool true) rfl (by simp [execOp, go_sem, q24, s8]) ⟨_, rfl, hJ.step hL rfl (Below.refl _ _) (by exact rfl)⟩
      intro L vs w' hA hJ
      have s7 : RRt w' (vs 7) (X) (Y) := hJ.sp 7 (hA 7 (by simp))
      have s8 : vs 8 = .bool true := hJ.sp 8 (hA 8 (by simp))
      have s11 : vs 11 = .bool true := hJ.sp 11 (hA 11 (by simp))
      obtain ⟨bk9, eb9, ge9, lt9, fz9, fz9', _, e6⟩ := hJ.bx (hA 9 (by simp))
      obtain ⟨_, u9, u9', eu9, ce9, ce9'⟩ := e6 (hA 10 (by simp))
      clear e6
      simp only [putL, Act.put, List.setIfInBounds_toArray, List.set_cons_zero, List.set_cons_succ, Nat.reduceAdd]
      have s7' := s7
      obtain ⟨a9, n9, c9, a10, n10, c10, q1, _, _⟩ := s7'
      rw [q1] at s7 eu9
      obtain ⟨rfl, rfl⟩ : u9 = .slice a9 n9 c9 ∧ u9' = .slice a10 n10 c10 := by simpa using eu9.symm
      simp only [eb9, s8, s11]
      obtain ⟨w3, ew⟩ : ∃ w3, w3 = w' := ⟨_, rfl⟩
      obtain ⟨b9, e1⟩ : ∃ b9, b9 = bk9 := ⟨_, rfl⟩
      have X4 : Hid (Rx w3 g (.int .i64 (B : Int)) (.slice a5 n5 c5) (.slice a6 n6 c6) (.slice a7 n7 c7) (.slice a8 n8 c8) (.int .i64 (T' : Int)) ∧ Rx w3 (g + 1) (.int .i64 0) (.slice none 0 0) (.slice none 0 0) (.slice none 0 0) (.slice none 0 0) (.int .i64 0) ∧ RRt w3 (.agg #[.slice a5 n5 c5, .slice a6 n6 c6]) R D ∧ RRt w3 (.agg #[.slice a9 n9 c9, .slice a10 n10 c10]) X Y ∧ Below w.heap.size w w3) := by
        rw [ew]
        exact ⟨X2.out.1.go hJ.bel, X2.out.2.1.go hJ.bel, X2.out.2.2.2.1.mono hJ.bel, s7, bel_go X2.out.2.2.2.2.2 hJ.bel⟩
      rw [← e1] at ce9 ce9'
      rw [← ew] at ce9 ce9'
      rw [← ew, ← e1]
      clear ew e1 q1 s7 s8 s11 eu9 eb9 ge9 lt9 fz9 fz9' hJ hA S1 X2
      have F3 : Fb (fun x => x = g) w3 ((w3.setCell ⟨g, 3, none⟩ (.slice a9 n9 c9)).setCell ⟨g, 4, none⟩ (.slice a10 n10 c10)) := ((Fb.refl (fun x => x = g) w3).set (x := ⟨g, 3, none⟩) rfl _).set (x := ⟨g, 4, none⟩) rfl _
      have h3 : ∀ k, k = g → Odd w3 k := fun k e => e ▸ X4.out.1.odd
      have X5 : Hid (Rx ((w3.setCell ⟨g, 3, none⟩ (.slice a9 n9 c9)).setCell ⟨g, 4, none⟩ (.slice a10 n10 c10)) g (.int .i64 (B : Int)) (.slice a5 n5 c5) (.slice a6 n6 c6) (.slice a9 n9 c9) (.slice a10 n10 c10) (.int .i64 (T' : Int)) ∧ Rx ((w3.setCell ⟨g, 3, none⟩ (.slice a9 n9 c9)).setCell ⟨g, 4, none⟩ (.slice a10 n10 c10)) (g + 1) (.int .i64 0) (.slice none 0 0) (.slice none 0 0) (.slice none 0 0) (.slice none 0 0) (.int .i64 0) ∧ RB ((w3.setCell ⟨g, 3, none⟩ (.slice a9 n9 c9)).setCell ⟨g, 4, none⟩ (.slice a10 n10 c10)) (.agg #[.int .i64 (B : Int), .slice a5 n5 c5, .slice a6 n6 c6, .slice a9 n9 c9, .slice a10 n10 c10, .int .i64 (T' : Int)]) T' (M - k * D) R D B ∧ Below w.heap.size w ((w3.setCell ⟨g, 3, none⟩ (.slice a9 n9 c9)).setCell ⟨g, 4, none⟩ (.slice a10 n10 c10))) := ⟨X4.out.1.tok _ _, F3.heap X4.out.2.1 (by show ¬ g + 1 = g; omega), ⟨⟨X, Y, _, _, _, _, _, _, _, _, _, _, _, _, rfl, X4.out.2.2.1.fb F3 h3, X4.out.2.2.2.1.fb F3 h3, FS.out⟩, HK.out.1, HK.out.2.1, HK.out.2.2.1, HK.out.2.2.2.1, HK.out.2.2.2.2.1, by have := HK.out.2.2.2.2.2; omega⟩, X4.out.2.2.2.2.trans (F3.below X4.out.2.2.2.2.size (fun k e => by rw [e, HX.out]; omega))⟩
      obtain ⟨-, -, -, k3, k4, -, kf⟩ := X4.out.1.cells
      have kf3 := kf 3
      have kf4 := kf 4
      clear X4 F3 h3 kf
      obtain ⟨i0, i1, i2, i3, i4, i5, -⟩ := X5.out.1.cells
      obtain ⟨l0, l1, l2, l3, l4, l5, lf⟩ := X5.out.2.1.cells
      have lf0 := lf 0
      have lf1 := lf 1
      have lf2 := lf 2
      have lf3 := lf 3
      have lf4 := lf 4
      have lf5 := lf 5
      have EN : Hid _ := rx_end X5.out.2.1 (by have := HX.out; omega : w.heap.size ≤ g + 1) X5.out.2.2.2 X5.out.2.2.1 (.int .i64 (B : Int)) (.slice a5 n5 c5) (.slice a6 n6 c6) (.slice a9 n9 c9) (.slice a10 n10 c10) (.int .i64 (T' : Int)) (g := 0) (x0 := 0) (x5 := 0) (a1 := none) (a2 := none) (a3 := none) (a4 := none) (n1 := 0) (c1 := 0) (n2 := 0) (c2 := 0) (n3 := 0) (c3 := 0) (n4 := 0) (c4 := 0)
      clear lf
      go_wp2_with fail
      refine bodyPost_ret (v := .tuple #[.agg #[.int .i64 (B : Int), .slice a5 n5 c5, .slice a6 n6 c6, .slice a9 n9 c9, .slice a10 n10 c10, .int .i64 (T' : Int)], .int .i64 0]) (by simp [results, Tryz.results17, go_sem, l0, l1, l2, l3, l4, l5]) rfl ⟨.agg #[.int .i64 (B : Int), .slice a5 n5 c5, .slice a6 n6 c6, .slice a9 n9 c9, .slice a10 n10 c10, .int .i64 (T' : Int)], ?_, ?_, EN.out.2⟩
      · rw [← HM.out.1, HE.out.1]
      · rw [← HM.out.1, ← HM.out.2, HE.out.2]
        exact EN.out.1
    · have HE : Hid (takeE M D (k : Int) = 80 ∧ takeN M D (k : Int) = M) := by
        unfold takeE takeN
        have h9 : ¬ (k : Int) < 1 := by have := HN.out; omega
        rw [Int.toNat_natCast, if_neg h9, if_neg h9, if_pos (Nat.lt_of_not_le h2), if_pos (Nat.lt_of_not_le h2)]
        exact ⟨rfl, rfl⟩
      have AD : Hid (∀ v u w, RRt w v p q → RRt w u k 1 → Calls Tryz.prog 41 #[v, u] w (MakesRRB w 0 1 false)) := FH.out.rsub_no FK.out (by omega) (by omega) (by rw [Nat.mul_one]; omega)
      clear h2
      refine wp_region_inv (JC w2 [sEq (.pointer (some ⟨g, 3, none⟩)), sEq (.agg #[.slice a7 n7 c7, .slice a8 n8 c8]), sEq (.int .i64 (k : Int)), sEq (.int .u64 (k : Int)), sRRt (k) (1), sRRtB (0) (1) false, sRRtB (0) (1) false, sRRt (0) (1), sEq (.bool false), sAny, sAny, sEq (.bool false)] (9, 10, 7)) 31 (by kernel_rfl) rfl (by kernel_rfl) (JC.start _ _ _) (fun HG HN => ⟨?_, ?_, ?_, ?_, ?_, ?_, ?_, ?_, ?_, ?_, ?_, ?_, trivial⟩) ?_
      · intro L vs a w' hJ hF hP hL
        have q3 : (a.tmps[3]?).getD undef = .pointer (some ⟨g, 0, none⟩) := hF.old 3 rfl
        exact run_val (v := .pointer (some ⟨g, 3, none⟩)) rfl (by simp [execOp, go_sem, q3]) ⟨_, rfl, hJ.step hL rfl (Below.refl _ _) (by exact rfl)⟩
      · intro L vs a w' hJ hF hP hL
        have p0 : L 0 = true := hP ⟨0, .data⟩ (by simp) rfl
        have s0 : vs 0 = .pointer (some ⟨g, 3, none⟩) := hJ.sp 0 p0
        have q17 := hF.slot 0 17 rfl p0
        have cb0 := cell_later hJ.bel (S1.out.cel (g) 3 (.slice a7 n7 c7))
        have cb1 := cell_later hJ.bel (S1.out.cel (g) 4 (.slice a8 n8 c8))
        exact run_val (v := .agg #[.slice a7 n7 c7, .slice a8 n8 c8]) rfl (by simp [execOp, go_sem, q17, s0, cb0, cb1]) ⟨_, rfl, hJ.step hL rfl (Below.refl _ _) (by exact rfl)⟩
      · intro L vs a w' hJ hF hP hL
        have q2 : (a.tmps[2]?).getD undef = .int .i64 (k : Int) := hF.old 2 rfl
        exact run_val (v := .int .i64 (k : Int)) rfl (by simp [execOp, go_sem, q2]) ⟨_, rfl, hJ.step hL rfl (Below.refl _ _) (by exact rfl)⟩
      · intro L vs a w' hJ hF hP hL
        have p2 : L 2 = true := hP ⟨2, .data⟩ (by simp) rfl
        have s2 : vs 2 = .int .i64 (k : Int) := hJ.sp 2 p2
        have q19 := hF.slot 2 19 rfl p2
        exact run_val (v := .int .u64 (k : Int)) rfl (by simp [execOp, go_sem, q19, s2, mk]) ⟨_, rfl, hJ.step hL rfl (Below.refl _ _) (by exact rfl)⟩
      · intro L vs a w' hJ hF hP hL
        have p3 : L 3 = true := hP ⟨3, .data⟩ (by simp) rfl
        have s3 : vs 3 = .int .u64 (k : Int) := hJ.sp 3 p3
        have q20 := hF.slot 3 20 rfl p3
        refine run_call (f := 25) (args := #[.int .u64 (k : Int)]) rfl (by simp [go_sem, q20, s3]) (WH.out _) ?_
        rintro e w2 ⟨v, rfl, hv, hb⟩
        exact ⟨_, rfl, _, rfl, hJ.step hL rfl hb (by exact hv)⟩
      · intro L vs a w' hJ hF hP hL
        have p1 : L 1 = true := hP ⟨1, .data⟩ (by simp) rfl
        have s1 : vs 1 = .agg #[.slice a7 n7 c7, .slice a8 n8 c8] := hJ.sp 1 p1
        have q18 := hF.slot 1 18 rfl p1
        have p4 : L 4 = true := hP ⟨4, .data⟩ (by simp) rfl
        have s4 : RRt w' (vs 4) (k) (1) := hJ.sp 4 p4
        have q21 := hF.slot 4 21 rfl p4
        refine run_call (f := 41) (args := #[.agg #[.slice a7 n7 c7, .slice a8 n8 c8], vs 4]) rfl (by simp [go_sem, q18, s1, q21]) (AD.out _ _ _ ((S1.out.rfr (.agg #[.slice a7 n7 c7, .slice a8 n8 c8]) p q).mono hJ.bel) s4) ?_
        rintro e w2 ⟨v1, rfl, h1, hb⟩
        exact ⟨_, rfl, _, rfl, hJ.step hL rfl hb (by exact ⟨v1, rfl, h1⟩)⟩
      · intro L vs a w' hJ hF hP hL
        have p5 : L 5 = true := hP ⟨5, .data⟩ (by simp) rfl
        have s5 : ∃ p, vs 5 = .tuple #[p, .bool false] ∧ RRt w' p (0) (1) := hJ.sp 5 p5
        have q22 := hF.slot 5 22 rfl p5
        exact run_val (v := vs 5) rfl (by simp [execOp, go_sem, q22]) ⟨_, rfl, hJ.step hL rfl (Below.refl _ _) (by exact s5)⟩
      · intro L vs a w' hJ hF hP hL
        have p6 : L 6 = true := hP ⟨6, .data⟩ (by simp) rfl
        have s6 : ∃ p, vs 6 = .tuple #[p, .bool false] ∧ RRt w' p (0) (1) := hJ.sp 6 p6
        have q16 := hF.slot 6 16 rfl p6
        obtain ⟨vp, e1, e2⟩ := s6
        exact run_val (v := vp) rfl (by simp [execOp, go_sem, q16, e1]) ⟨_, rfl, hJ.step hL rfl (Below.refl _ _) (by exact e2)⟩
      · intro L vs a w' hJ hF hP hL
        have p6 : L 6 = true := hP ⟨6, .data⟩ (by simp) rfl
        have s6 : ∃ p, vs 6 = .tuple #[p, .bool false] ∧ RRt w' p (0) (1) := hJ.sp 6 p6
        have q16 := hF.slot 6 16 rfl p6
        obtain ⟨vp, e1, e2⟩ := s6
        exact run_val (v := .bool false) rfl (by simp [execOp, go_sem, q16, e1]) ⟨_, rfl, hJ.step hL rfl (Below.refl _ _) (by exact rfl)⟩
      · intro L vs a w' hJ hF hP hL
        exact run_val (v := .pointer (some ⟨w'.heap.size, 0, none⟩)) (w' := w'.alloc (.cells #[.slice none 0 0, .slice none 0 0] 35)) rfl (by simp [execOp, go_sem]) ⟨_, rfl, hJ.alloc hL rfl (by decide) rfl _⟩
      · intro L vs a w' hJ hF hP hL
        have p9 : L 9 = true := hP ⟨9, .data⟩ (by simp) rfl
        have q8 := hF.slot 9 8 rfl p9
        have p7 : L 7 = true := hP ⟨7, .data⟩ (by simp) rfl
        have s7 : RRt w' (vs 7) (0) (1) := hJ.sp 7 p7
        have q23 := hF.slot 7 23 rfl p7
        obtain ⟨bk, e1, e2, e3, e4, e4', e5, e6⟩ := hJ.bx p9
        obtain ⟨e7, e7'⟩ := e5 hL
        have s7' := s7
        obtain ⟨aa, nn, cc, a2, n2, c2, e8, _, _⟩ := s7'
        exact run_unit (w' := (w'.setCell ⟨bk, 0, none⟩ (.slice aa nn cc)).setCell ⟨bk, 1, none⟩ (.slice a2 n2 c2)) rfl (by simp [execOp, go_sem, q8, q23, e1, e8, e7, e4, e7', e4']) ⟨undef, rfl, hJ.store hL p9 p7 (by decide) rfl e1 e8⟩
      · intro L vs a w' hJ hF hP hL
        have p8 : L 8 = true := hP ⟨8, .data⟩ (by simp) rfl
        have s8 : vs 8 = .bool false := hJ.sp 8 p8
        have q24 := hF.slot 8 24 rfl p8
        exact run_val (v := .bool false) rfl (by simp [execOp, go_sem, q24, s8]) ⟨_, rfl, hJ.step hL rfl (Below.refl _ _) (by exact rfl)⟩
      intro L vs w' hA hJ
      have s7 : RRt w' (vs 7) (0) (1) := hJ.sp 7 (hA 7 (by simp))
      have s8 : vs 8 = .bool false := hJ.sp 8 (hA 8 (by simp))
      have s11 : vs 11 = .bool false := hJ.sp 11 (hA 11 (by simp))
      obtain ⟨bk9, eb9, ge9, lt9, fz9, fz9', _, e6⟩ := hJ.bx (hA 9 (by simp))
      obtain ⟨_, u9, u9', eu9, ce9, ce9'⟩ := e6 (hA 10 (by simp))
      clear e6
      simp only [putL, Act.put, List.setIfInBounds_toArray, List.set_cons_zero, List.set_cons_succ, Nat.reduceAdd]
      simp only [eb9, s8, s11]
      obtain ⟨w3, ew⟩ : ∃ w3, w3 = w' := ⟨_, rfl⟩
      have X5 : Hid (Rx w3 g (.int .i64 (B : Int)) (.slice a5 n5 c5) (.slice a6 n6 c6) (.slice a7 n7 c7) (.slice a8 n8 c8) (.int .i64 (T' : Int)) ∧ Rx w3 (g + 1) (.int .i64 0) (.slice none 0 0) (.slice none 0 0) (.slice none 0 0) (.slice none 0 0) (.int .i64 0) ∧ RB w3 (.agg #[.int .i64 (B : Int), .slice a5 n5 c5, .slice a6 n6 c6, .slice a7 n7 c7, .slice a8 n8 c8, .int .i64 (T' : Int)]) T' M R D B ∧ Below w.heap.size w w3) := by
        rw [ew]
        exact ⟨X2.out.1.go hJ.bel, X2.out.2.1.go hJ.bel, X2.out.2.2.1.mono hJ.bel, bel_go X2.out.2.2.2.2.2 hJ.bel⟩
      rw [← ew]
      clear ew s7 s8 s11 eu9 eb9 ge9 lt9 fz9 fz9' hJ hA S1 X2 ce9 ce9'
      obtain ⟨i0, i1, i2, i3, i4, i5, -⟩ := X5.out.1.cells
      obtain ⟨l0, l1, l2, l3, l4, l5, lf⟩ := X5.out.2.1.cells
      have lf0 := lf 0
      have lf1 := lf 1
      have lf2 := lf 2
      have lf3 := lf 3
      have lf4 := lf 4
      have lf5 := lf 5
      have EN : Hid _ := rx_end X5.out.2.1 (by have := HX.out; omega : w.heap.size ≤ g + 1) X5.out.2.2.2 X5.out.2.2.1 (.int .i64 (B : Int)) (.slice a5 n5 c5) (.slice a6 n6 c6) (.slice a7 n7 c7) (.slice a8 n8 c8) (.int .i64 (T' : Int)) (g := 0) (x0 := 0) (x5 := 0) (a1 := none) (a2 := none) (a3 := none) (a4 := none) (n1 := 0) (c1 := 0) (n2 := 0) (c2 := 0) (n3 := 0) (c3 := 0) (n4 := 0) (c4 := 0)
      clear lf
      go_wp2_with fail
      refine bodyPost_ret (v := .tuple #[.agg #[.int .i64 (B : Int), .slice a5 n5 c5, .slice a6 n6 c6, .slice a7 n7 c7, .slice a8 n8 c8, .int .i64 (T' : Int)], .int .i64 80]) (by simp [results, Tryz.results17, go_sem, l0, l1, l2, l3, l4, l5]) rfl ⟨.agg #[.int .i64 (B : Int), .slice a5 n5 c5, .slice a6 n6 c6, .slice a7 n7 c7, .slice a8 n8 c8, .int .i64 (T' : Int)], ?_, ?_, EN.out.2⟩
      · rw [← HM.out.1, HE.out.1]
      · rw [← HM.out.1, ← HM.out.2, HE.out.2]
        exact EN.out.1
end Go.Proofs.YtdmkneojhnhomaaGreatDoor
