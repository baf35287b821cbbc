/- Contracts of the program's functions, part 19: own work, joined in build order. -/
import Derived.Test.YthogfecnbddfoaaGreatDoorJ18
import Derived.Deep.Slices
import Derived.Deep.Grids
import Derived.ChangeSlices
import Derived.ProofKit
import Derived.SizedLaws
import Derived.OpenShut
import Derived.LaidMore
import Derived.WalkKit
import Derived.ChangeOld
namespace Go.Proofs.YthogfecnbddfoaaGreatDoor
open Go.RowKit
set_option maxRecDepth 100000
set_option linter.unusedVariables false
/-- What few tells. -/
def fewN (n : Int) (m : Nat) : Nat := (if n < 0 then -(n + 1) else n).toNat % (m + 1)
theorem fewN_le (n : Int) (m : Nat) : fewN n m ≤ m := by
  have := Nat.mod_lt (if n < 0 then -(n + 1) else n).toNat (Nat.succ_pos m)
  unfold fewN
  rw [Nat.succ_eq_add_one] at this
  omega
set_option maxHeartbeats 1000000 in
theorem few_any (n : Int) (m : Nat) (w : World) (h1 : -9223372036854775808 ≤ n) (h2 : n ≤ 9223372036854775807) (hm : m ≤ 9223372036854775806) : Calls Tryz.prog 4 #[.int .i64 n, .int .i64 (m : Int)] w fun e w' => e = .returned (.int .i64 ((fewN n m : Nat) : Int)) ∧ w' = w := by
  obtain ⟨m1, em⟩ : ∃ m1 : Nat, m1 = m + 1 := ⟨_, rfl⟩
  have r1 : wrap64 ((m : Int) + 1) = (m1 : Int) := by rw [IntWalk.wrap64_in _ ⟨by omega, by omega⟩]; omega
  have hz : ¬ (m1 : Int) = 0 := by omega
  have hz2 : ¬ m1 = 0 := by omega
  by_cases h : n < 0
  · obtain ⟨k, ek⟩ : ∃ k : Nat, (k : Int) = -(n + 1) := ⟨(-(n + 1)).toNat, by omega⟩
    have d1 : decide (n < 0) = true := decide_eq_true h
    obtain ⟨n1, e1⟩ : ∃ n1 : Int, n1 = n + 1 := ⟨_, rfl⟩
    have r2 : wrap64 (n + 1) = n1 := by rw [IntWalk.wrap64_in _ ⟨by omega, by omega⟩]; omega
    have r3 : wrap64 (-n1) = (k : Int) := by rw [IntWalk.wrap64_in _ ⟨by omega, by omega⟩]; omega
    have r4 : IntKind.i64.wrap (-n1) = (k : Int) := by rw [IntKind.wrap_i64]; omega
    have HF : Hid (fewN n m = k % m1) := by
      show _ = _
      unfold fewN
      rw [if_pos h, ← ek, Int.toNat_natCast, ← em]
    clear h1 h2 hm em h ek e1
    go_enter Tryz.func4, Tryz.ntmps4
    go_wp2_with fail
    go_ret
    exact ⟨ret_int (by rw [HF.out]; rfl), rfl⟩
  · obtain ⟨k, rfl⟩ : ∃ k : Nat, n = (k : Int) := ⟨n.toNat, by omega⟩
    have d1 : decide ((k : Int) < 0) = false := decide_eq_false h
    have HF : Hid (fewN (k : Int) m = k % m1) := by
      show _ = _
      unfold fewN
      rw [if_neg h, Int.toNat_natCast, ← em]
    clear h1 hm em h
    go_enter Tryz.func4, Tryz.ntmps4
    go_wp2_with fail
    go_ret
    exact ⟨ret_int (by rw [HF.out]; rfl), rfl⟩
/-- The bits of a half. -/
def uHalf : Nat := 4602678819172646912
theorem half_ok (per : Int) (h1 : 1 ≤ per) (h2 : per ≤ 1073741824) : rateOk uHalf per := ⟨by decide +kernel, h1, h2, .inr (by decide)⟩
theorem half_one : rP uHalf 1 = 1 ∧ rQ uHalf 1 = 2 := by decide +kernel
theorem told_100 (b : Nat) (w : World) (h : Bu w b 100 0 1 2 10) (hT : Tab w) : Calls Tryz.prog 24 #[.pointer (some ⟨b, 0, none⟩), .int .i64 100] w fun e w' => ∃ v, e = .returned v ∧ Rt w' v 0 1 ∧ Bu w' b 100 0 1 2 10 ∧ Fb (fun x => x = b) w w' := by
  refine (bat_any b 100 0 1 2 10 100 w h hT).mono ?_
  rintro e w' ⟨v, p, q, rfl, hv, f, hB, hF⟩
  have e1 : atN 100 0 1 2 10 100 = 0 := by decide
  have e2 : atT 100 100 = 100 := by decide
  rw [e1] at f hB
  rw [e2] at hB
  obtain ⟨rfl, rfl⟩ := f.one (p' := 0) (q' := 1) (m := 20) ⟨by decide, by omega, by omega, by omega, P_pos _, P_lt (by omega : 0 < 20)⟩
  exact ⟨v, rfl, hv, hB, hF⟩
theorem told_103 (b : Nat) (w : World) (h : Bu w b 100 0 1 2 10) (hT : Tab w) : Calls Tryz.prog 24 #[.pointer (some ⟨b, 0, none⟩), .int .i64 103] w fun e w' => ∃ v, e = .returned v ∧ Rt w' v 3 2 ∧ Bu w' b 103 3 1 2 10 ∧ Fb (fun x => x = b) w w' := by
  refine (bat_any b 100 0 1 2 10 103 w h hT).mono ?_
  rintro e w' ⟨v, p, q, rfl, hv, f, hB, hF⟩
  have e1 : atN 100 0 1 2 10 103 = 3 := by decide
  have e2 : atT 100 103 = 103 := by decide
  rw [e1] at f hB
  rw [e2] at hB
  obtain ⟨rfl, rfl⟩ := f.one (p' := 3) (q' := 2) (m := 20) ⟨by decide, by omega, by omega, by omega, P_up (n := 1) (by rw [P_one]; omega) (by omega), P_up (n := 1) (by rw [P_one]; omega) (by omega)⟩
  exact ⟨v, rfl, hv, hB, hF⟩
theorem told_3 (b : Nat) (w : World) (h : Bu w b 103 3 1 2 10) (hT : Tab w) : Calls Tryz.prog 10 #[.pointer (some ⟨b, 0, none⟩), .int .i64 104, .int .i64 3] w fun e w' => e = .returned (.int .i64 80) ∧ Bu w' b 104 4 1 2 10 ∧ Fb (fun x => x = b) w w' := by
  refine (btake_any b 103 3 1 2 10 104 3 w h hT (by omega)).mono ?_
  rintro e w' ⟨rfl, hB, hF⟩
  have e1 : takeE (atN 103 3 1 2 10 104) 2 3 = 80 := by decide
  have e2 : takeN (atN 103 3 1 2 10 104) 2 3 = 4 := by decide
  have e3 : atT 103 104 = 104 := by decide
  rw [e2, e3] at hB
  exact ⟨by rw [e1], hB, hF⟩
theorem told_2 (b : Nat) (w : World) (h : Bu w b 104 4 1 2 10) (hT : Tab w) : Calls Tryz.prog 10 #[.pointer (some ⟨b, 0, none⟩), .int .i64 104, .int .i64 2] w fun e w' => e = .returned (.int .i64 0) ∧ Fb (fun x => x = b) w w' := by
  refine (btake_any b 104 4 1 2 10 104 2 w h hT (by omega)).mono ?_
  rintro e w' ⟨rfl, hB, hF⟩
  have e1 : takeE (atN 104 4 1 2 10 104) 2 2 = 0 := by decide
  exact ⟨by rw [e1], hF⟩
set_option maxHeartbeats 4000000 in
theorem btold_true (w : World) (hT : Tab w) : Calls Tryz.prog 8 #[] w fun e w' => e = .returned (.bool true) ∧ Below w.heap.size w w' := by
  have NW : Hid (∀ w, Tab w → Calls Tryz.prog 5 #[.int .i64 10, .float .f64 4602678819172646912, .int .i64 1, .int .i64 100] w (NewYes w 100 1 2 10)) := fun w hT => by
    have := bnew_yes 10 uHalf 1 100 w (by omega) (by omega) (half_ok _ (by omega) (by omega)) (by omega) hT
    rw [half_one.1, half_one.2] at this
    exact this
  have HT : Hid (Tab w) := hT
  clear hT
  go_enter Tryz.func8, Tryz.ntmps8
  go_wp2_with fail
  refine (NW.out _ HT.out).mono ?_
  rintro e w1 ⟨b, rfl, hb, hB, hb1⟩
  have Z0 : Hid (Bu w1 b 100 0 1 2 10 ∧ Tab w1 ∧ Below w.heap.size w w1 ∧ w.heap.size ≤ b) := ⟨hB, HT.out.go hb1, hb1, hb⟩
  clear hb hB hb1
  go_wp2_with fail
  refine (told_x _).mono ?_
  rintro e w2 ⟨v2, rfl, hv, hb2⟩
  have hv' := hv
  obtain ⟨a7, n7, c7, a8, n8, c8, ev, _, _⟩ := hv'
  subst ev
  have ba := bel_go hb2 (bel_al (o := .cells #[.slice a7 n7 c7, .slice a8 n8 c8] 35) (bel_refl _))
  have Z1 : Hid (Bu (w2.alloc (.cells #[.slice a7 n7 c7, .slice a8 n8 c8] 35)) b 100 0 1 2 10 ∧ Tab (w2.alloc (.cells #[.slice a7 n7 c7, .slice a8 n8 c8] 35)) ∧ Below w.heap.size w (w2.alloc (.cells #[.slice a7 n7 c7, .slice a8 n8 c8] 35)) ∧ w.heap.size ≤ b ∧ RRt (w2.alloc (.cells #[.slice a7 n7 c7, .slice a8 n8 c8] 35)) (.agg #[.slice a7 n7 c7, .slice a8 n8 c8]) 3 2 ∧ w2.heap.size ≠ b) := ⟨Z0.out.1.go ba, Z0.out.2.1.go ba, bel_go Z0.out.2.2.1 ba, Z0.out.2.2.2, hv.mono (bel_al (bel_refl _)), by have := (Z0.out.1.go hb2).lt; omega⟩
  clear hv hb2 ba Z0
  go_wp2_with fail
  obtain ⟨W, hW⟩ : ∃ W, W = w2.alloc (.cells #[.slice a7 n7 c7, .slice a8 n8 c8] 35) := ⟨_, rfl⟩
  have z0 : W.cell? ⟨w2.heap.size, 0, none⟩ = some (.slice a7 n7 c7) := by rw [hW]; simp [go_sem]
  have z1 : W.cell? ⟨w2.heap.size, 1, none⟩ = some (.slice a8 n8 c8) := by rw [hW]; simp [go_sem]
  obtain ⟨g, hg⟩ : ∃ g, g = w2.heap.size := ⟨_, rfl⟩
  rw [← hW] at Z1
  rw [← hg] at z0 z1 Z1
  rw [← hW, ← hg]
  clear hW hg
  have ne : Hid (g ≠ b) := Z1.out.2.2.2.2.2
  have rs : Hid (RS 0 ∧ RS 1 ∧ RS 2 ∧ RS 3) := ⟨rs_few (by omega), rs_few (by omega), rs_few (by omega), rs_few (by omega)⟩
  refine wp_region_held_drew (S := fun w9 => w9.cell? ⟨g, 0, none⟩ = some (.slice a7 n7 c7) ∧ w9.cell? ⟨g, 1, none⟩ = some (.slice a8 n8 c8)) (by kernel_rfl) ⟨z0, z1⟩ (fun hHeld => ?_)
  refine wpAnyH_take (i := 0) (v := .pointer (some ⟨b, 0, none⟩)) rfl (by kernel_rfl) (by kernel_rfl) (by kernel_rfl) (fun _ _ _ h => h) (Or.inl ⟨by rfl, ?_⟩) (by assumption) ?_
  · intro w hSw
    obtain ⟨g1, g2⟩ := hSw
    go_simp
  refine wpAnyH_ready (rs := [1]) (by kernel_rfl) (by simp) ?_
  refine AllReadyH.cons rfl (fun K9 hK9 => ?_) AllReadyH.nil
  go_simp
  refine Calls.mono (told_100 b _ (Z1.out.1.go (bel_dr (bel_refl _))) (Z1.out.2.1.go (bel_dr (bel_refl _)))) ?_
  rintro e w3 ⟨v3, rfl, hv3, hB3, hF3⟩
  replace hF3 := (Fb.of (S := fun x => x = b) (bel_dr (bel_refl W))).trans hF3
  have y0 := hF3.cell z0 ne.out
  have y1 := hF3.cell z1 ne.out
  have Z2 : Hid (Rt w3 v3 0 1 ∧ Bu w3 b 100 0 1 2 10 ∧ Tab w3 ∧ Fb (fun x => x = b) w w3 ∧ RRt w3 (.agg #[.slice a7 n7 c7, .slice a8 n8 c8]) 3 2) := ⟨hv3, hB3, Z1.out.2.1.fb hF3 (fun k e => e ▸ Z1.out.1.odd), (Fb.of Z1.out.2.2.1).trans hF3, Z1.out.2.2.2.2.1.fb hF3 (fun k e => e ▸ Z1.out.1.odd)⟩
  have Z9 : Hid (w.heap.size ≤ b) := Z1.out.2.2.2.1
  clear hv3 hB3 hF3 Z1 hHeld
  refine hK9.out _ _ ⟨y0, y1⟩ (fun hHeld => ?_)
  clear hK9 K9
  refine wpAnyH_ready (rs := [2]) (by kernel_rfl) (by simp) ?_
  refine AllReadyH.cons rfl (fun K9 hK9 => ?_) AllReadyH.nil
  go_simp
  refine Calls.mono (rzero2_any _) ?_
  rintro e w4 ⟨v4, rfl, hv4, hb4⟩
  have x0 := cell_later hb4 y0
  have x1 := cell_later hb4 y1
  have Z3 : Hid (Rt w4 v3 0 1 ∧ RRt w4 v4 0 1 ∧ Bu w4 b 100 0 1 2 10 ∧ Tab w4 ∧ Fb (fun x => x = b) w w4 ∧ RRt w4 (.agg #[.slice a7 n7 c7, .slice a8 n8 c8]) 3 2) := ⟨Z2.out.1.mono hb4, hv4, Z2.out.2.1.go hb4, Z2.out.2.2.1.go hb4, Z2.out.2.2.2.1.go hb4, Z2.out.2.2.2.2.mono hb4⟩
  clear hv4 hb4 Z2 hHeld y0 y1
  refine hK9.out _ _ ⟨x0, x1⟩ (fun hHeld => ?_)
  clear hK9 K9
  refine wpAnyH_ready (rs := [3]) (by kernel_rfl) (by simp) ?_
  refine AllReadyH.cons rfl (fun K9 hK9 => ?_) AllReadyH.nil
  go_simp
  refine Calls.mono (rsame_true v3 v4 0 1 _ Z3.out.1 Z3.out.2.1 rs.out.1 rs.out.2.1) ?_
  rintro e w5 ⟨rfl, hb5⟩
  have u0 := cell_later hb5 x0
  have u1 := cell_later hb5 x1
  have Z4 : Hid (Bu w5 b 100 0 1 2 10 ∧ Tab w5 ∧ Fb (fun x => x = b) w w5 ∧ RRt w5 (.agg #[.slice a7 n7 c7, .slice a8 n8 c8]) 3 2) := ⟨Z3.out.2.2.1.go hb5, Z3.out.2.2.2.1.go hb5, Z3.out.2.2.2.2.1.go hb5, Z3.out.2.2.2.2.2.mono hb5⟩
  clear hb5 Z3 hHeld x0 x1
  refine hK9.out _ _ ⟨u0, u1⟩ (fun hHeld => ?_)
  clear hK9 K9
  refine wpAnyH_take (i := 4) (v := .bool true) rfl (by kernel_rfl) (by kernel_rfl) (by kernel_rfl) (fun _ _ _ h => h) (Or.inl ⟨by rfl, ?_⟩) (by assumption) ?_
  · intro w hSw
    obtain ⟨g1, g2⟩ := hSw
    go_simp
  refine wpAnyH_take (i := 5) (v := .pointer (some ⟨b, 0, none⟩)) rfl (by kernel_rfl) (by kernel_rfl) (by kernel_rfl) (fun _ _ _ h => h) (Or.inl ⟨by rfl, ?_⟩) (by assumption) ?_
  · intro w hSw
    obtain ⟨g1, g2⟩ := hSw
    go_simp
  refine wpAnyH_take (i := 7) (v := (.agg #[.slice a7 n7 c7, .slice a8 n8 c8])) rfl (by kernel_rfl) (by kernel_rfl) (by kernel_rfl) (fun _ _ _ h => h) (Or.inl ⟨by rfl, ?_⟩) (by assumption) ?_
  · intro w hSw
    obtain ⟨g1, g2⟩ := hSw
    go_simp
  refine wpAnyH_ready (rs := [6]) (by kernel_rfl) (by simp) ?_
  refine AllReadyH.cons rfl (fun K9 hK9 => ?_) AllReadyH.nil
  go_simp
  refine Calls.mono (told_103 b _ Z4.out.1 Z4.out.2.1) ?_
  rintro e w6 ⟨v6, rfl, hv6, hB6, hF6⟩
  have t0 := hF6.cell u0 ne.out
  have t1 := hF6.cell u1 ne.out
  have Z5 : Hid (Rt w6 v6 3 2 ∧ Bu w6 b 103 3 1 2 10 ∧ Tab w6 ∧ Fb (fun x => x = b) w w6 ∧ RRt w6 (.agg #[.slice a7 n7 c7, .slice a8 n8 c8]) 3 2) := ⟨hv6, hB6, Z4.out.2.1.fb hF6 (fun k e => e ▸ Z4.out.1.odd), Z4.out.2.2.1.trans hF6, Z4.out.2.2.2.fb hF6 (fun k e => e ▸ Z4.out.1.odd)⟩
  clear hv6 hB6 hF6 Z4 hHeld u0 u1
  refine hK9.out _ _ ⟨t0, t1⟩ (fun hHeld => ?_)
  clear hK9 K9
  refine wpAnyH_ready (rs := [8]) (by kernel_rfl) (by simp) ?_
  refine AllReadyH.cons rfl (fun K9 hK9 => ?_) AllReadyH.nil
  go_simp
  refine Calls.mono (rsame_true v6 (.agg #[.slice a7 n7 c7, .slice a8 n8 c8]) 3 2 _ Z5.out.1 Z5.out.2.2.2.2 rs.out.2.2.2 rs.out.2.2.1) ?_
  rintro e w7 ⟨rfl, hb7⟩
  have s0 := cell_later hb7 t0
  have s1 := cell_later hb7 t1
  have Z6 : Hid (Bu w7 b 103 3 1 2 10 ∧ Tab w7 ∧ Fb (fun x => x = b) w w7) := ⟨Z5.out.2.1.go hb7, Z5.out.2.2.1.go hb7, Z5.out.2.2.2.1.go hb7⟩
  clear hb7 Z5 hHeld t0 t1
  refine hK9.out _ _ ⟨s0, s1⟩ (fun hHeld => ?_)
  clear hK9 K9
  refine wpAnyH_take (i := 9) (v := .bool true) rfl (by kernel_rfl) (by kernel_rfl) (by kernel_rfl) (fun _ _ _ h => h) (Or.inl ⟨by rfl, ?_⟩) (by assumption) ?_
  · intro w hSw
    obtain ⟨g1, g2⟩ := hSw
    go_simp
  refine wpAnyH_take (i := 10) (v := .bool true) rfl (by kernel_rfl) (by kernel_rfl) (by kernel_rfl) (fun _ _ _ h => h) (Or.inl ⟨by rfl, ?_⟩) (by assumption) ?_
  · intro w hSw
    obtain ⟨g1, g2⟩ := hSw
    go_simp
  refine wpAnyH_done (by kernel_rfl) ?_ _
  go_wp2_with fail
  refine (told_3 b _ Z6.out.1 Z6.out.2.1).mono ?_
  rintro e w8 ⟨rfl, hB8, hF8⟩
  have Z7 : Hid (Bu w8 b 104 4 1 2 10 ∧ Tab w8 ∧ Fb (fun x => x = b) w w8) := ⟨hB8, Z6.out.2.1.fb hF8 (fun k e => e ▸ Z6.out.1.odd), Z6.out.2.2.trans hF8⟩
  clear hB8 hF8 Z6
  go_wp2_with fail
  refine (told_2 b _ Z7.out.1 Z7.out.2.1).mono ?_
  rintro e w9 ⟨rfl, hF9⟩
  have Z8 : Hid (Below w.heap.size w w9) := (Z7.out.2.2.trans hF9).below (Nat.le_refl _) (fun k e => e ▸ Z9.out)
  clear hF9 Z7
  go_wp2_with fail
  go_ret
  exact ⟨rfl, Z8.out⟩
end Go.Proofs.YthogfecnbddfoaaGreatDoor

namespace Go.Proofs.YthogfecnbddfoaaGreatDoor
open Go.RowKit
set_option maxRecDepth 100000
set_option linter.unusedVariables false
theorem take_80 {N D k : Nat} (h1 : 1 ≤ k) (h : N < k * D) : takeE N D (k : Int) = 80 := by
  unfold takeE
  rw [Int.toNat_natCast, if_neg (by omega), if_pos h]
theorem take_0 {N D k : Nat} (h1 : 1 ≤ k) (h : k * D ≤ N) : takeE N D (k : Int) = 0 := by
  unfold takeE
  rw [Int.toNat_natCast, if_neg (by omega), if_neg (by omega)]
theorem atT_of {T x : Nat} (h : T ≤ x) (h2 : x ≤ 4611686018427387904) : atT T (x : Int) = x := by unfold atT; omega
theorem atN_of {T N R D B x : Nat} (h : T ≤ x) (h2 : x ≤ 4611686018427387904) : atN T N R D B (x : Int) = fillN N R D B (x - T) := by unfold atN; rw [atT_of h h2]
theorem wf_i64 {n : Int} (h : (Lit.int .i64 n).wf = true) : -9223372036854775808 ≤ n ∧ n ≤ 9223372036854775807 := by
  have hmin : IntKind.i64.min = -9223372036854775808 := rfl
  have hmax : IntKind.i64.max = 9223372036854775807 := rfl
  have h2 : IntKind.i64.min ≤ n ∧ n ≤ IntKind.i64.max := by simpa [Lit.wf] using h
  rw [hmin, hmax] at h2
  exact h2
theorem wf_u64 {n : Int} (h : (Lit.int .u64 n).wf = true) : ∃ u : Nat, n = (u : Int) ∧ u < 18446744073709551616 := by
  have hmin : IntKind.u64.min = 0 := rfl
  have hmax : IntKind.u64.max = 18446744073709551615 := rfl
  have h2 : IntKind.u64.min ≤ n ∧ n ≤ IntKind.u64.max := by simpa [Lit.wf] using h
  rw [hmin, hmax] at h2
  exact ⟨n.toNat, by omega, by omega⟩
theorem ownD : ownKnob Tryz.prog.godebug = none := by kernel_rfl
theorem laidOutD : laidOutB Tryz.prog = true := by kernel_rfl
end Go.Proofs.YthogfecnbddfoaaGreatDoor

namespace Go.Proofs.YthogfecnbddfoaaGreatDoor
open Go.RowKit Go.ChangeShapes Go.WideShapes Go.ChangeAt
set_option linter.unusedVariables false
/-- A slice of numbers that came in. -/
structure ISl (w : World) (a : Option Addr) (n cap : Nat) (xs : Nat → Int) : Prop where
  le : n ≤ cap
  lim : cap ≤ 9223372036854775807
  wf : ∀ i, i < n → -9223372036854775808 ≤ xs i ∧ xs i ≤ 9223372036854775807
  at' : n = 0 ∨ ∃ b o, a = some ⟨b, o, none⟩ ∧ ∀ i, i < n → w.cell? ⟨b, o + i, none⟩ = some (.int .i64 (xs i))
theorem ISl.at {w W : World} {a : Option Addr} {n cap : Nat} {xs : Nat → Int} (h : ISl w a n cap xs) (hB : Below w.heap.size w W) (hn : 0 < n) : ∃ b o, a = some ⟨b, o, none⟩ ∧ ∀ i, i < n → W.cell? ⟨b, o + i, none⟩ = some (.int .i64 (xs i)) := by
  rcases h.at' with e | ⟨b, o, e, hc⟩
  · omega
  · exact ⟨b, o, e, fun i hi => cell_later hB (hc i hi)⟩
theorem addr_plus (b off i : Nat) : (⟨b, off, none⟩ : Addr).add i = ⟨b, off + i, none⟩ := by
  unfold Addr.add
  rcases Nat.eq_zero_or_pos i with e | e
  · subst e; simp
  · rw [if_neg (by omega)]
/-- A slice of steps that came in. -/
structure SSl (w : World) (a : Option Addr) (n cap : Nat) (F : Nat → Nat → Int) : Prop where
  le : n ≤ cap
  lim : cap ≤ 9223372036854775807
  wf : ∀ i j, i < n → j < 3 → -9223372036854775808 ≤ F i j ∧ F i j ≤ 9223372036854775807
  at' : n = 0 ∨ ∃ b o, a = some ⟨b, o, none⟩ ∧ ∀ i j, i < n → j < 3 → w.cell? ⟨b, o + i * 3 + j, none⟩ = some (.int .i64 (F i j))
theorem SSl.at {w W : World} {a : Option Addr} {n cap : Nat} {F : Nat → Nat → Int} (h : SSl w a n cap F) (hB : Below w.heap.size w W) (hn : 0 < n) : ∃ b o, a = some ⟨b, o, none⟩ ∧ ∀ i j, i < n → j < 3 → W.cell? ⟨b, o + i * 3 + j, none⟩ = some (.int .i64 (F i j)) := by
  rcases h.at' with e | ⟨b, o, e, hc⟩
  · omega
  · exact ⟨b, o, e, fun i j hi hj => cell_later hB (hc i j hi hj)⟩
theorem plus_more (a : Addr) (m j : Nat) : (a.add m).add j = a.add (m + j) := by
  unfold Addr.add
  rcases Nat.eq_zero_or_pos m with e | e
  · subst e; simp
  · rcases Nat.eq_zero_or_pos j with e2 | e2
    · subst e2; simp
    · rw [if_neg (by omega), if_neg (by omega), if_neg (by omega)]
      simp [Nat.add_assoc]
theorem stepsK_of {K : Nat} {H : Type} {enc : TypeId × Value → H} {P : Program} {w : World} {base : Nat} {spare : Nat → Bool} {held : Bool} {t e : TypeId} {fuel : Nat} {cs : List Value} {x : DataW H × List MemPlace} {fs : Array Field}
    (ht : P.underlying t = some (.slice e)) (he : P.underlying e = some (.struct fs)) (ce : P.cellsOf e = K) (hsz : fs.size = K)
    (hf : ∀ j, j < K → ∃ f, fs[j]? = some f ∧ f.offset = j ∧ P.cellsOf f.type = 1 ∧ P.underlying f.type = some (.int .i64)) (h : DataW.trod enc P w base spare held fuel t cs = some x) :
    cs = [.slice none 0 0] ∨ ∃ (a : Addr) (len cap : Nat), cs = [.slice (some a) len cap] ∧ len ≤ cap ∧ cap ≤ maxLen ∧ ∀ i j, i < len → j < K → ∃ v, w.cell? (a.add (i * K + j)) = some (.int .i64 v) ∧ (Lit.int .i64 v).wf = true := by
  rcases Deep.open_slice ht h with ⟨h0, _⟩ | ⟨a, len, cap, m, n, D, Pl, rfl, hb, hl, hm, hmm, _, hx⟩
  · exact .inl h0
  · refine .inr ⟨a, len, cap, rfl, hl, hm, fun i j hi hj => ?_⟩
    have hlm : len ≤ m := by rw [hmm]; split <;> omega
    obtain ⟨cs', h1, h2⟩ := hx i (by omega)
    rw [ce] at h1
    obtain ⟨_, hlen, hcell⟩ := World.cells?_some h1
    obtain ⟨xs, k, _, _, _, hxl, hff⟩ := DataW.trod_struct he h2
    obtain ⟨f, f1, f2, f3, f4⟩ := hf j hj
    have g := hff j f f1
    rw [f2, f3] at g
    have hxj : ∃ y, xs[j]? = some y := ⟨_, List.getElem?_eq_getElem (by omega)⟩
    obtain ⟨y, hy⟩ := hxj
    rw [hy] at g
    obtain ⟨v, hv, _, hw⟩ := DataW.trod_int f4 g
    refine ⟨v, ?_, hw⟩
    have e1 := hcell j hj
    rw [plus_more] at e1
    rw [e1]
    have e2 := congrArg (fun l => l[0]?) hv
    simpa using e2
theorem ssl_of {w : World} {a : Addr} {len cap : Nat} (hl : len ≤ cap) (hm : cap ≤ maxLen) (h : ∀ i j, i < len → j < 3 → ∃ v, w.cell? (a.add (i * 3 + j)) = some (.int .i64 v) ∧ (Lit.int .i64 v).wf = true) :
    ∃ F, SSl w (some a) len cap F := by
  refine ⟨fun i j => intOf ((w.cell? (a.add (i * 3 + j))).getD undef), hl, by simp only [maxLen] at hm; omega, fun i j hi hj => ?_, ?_⟩
  · obtain ⟨v, hv, hw⟩ := h i j hi hj
    show -9223372036854775808 ≤ intOf ((w.cell? (a.add (i * 3 + j))).getD undef) ∧ _
    rw [hv]
    exact wf_i64 hw
  · rcases Nat.eq_zero_or_pos len with e | e
    · exact .inl e
    · obtain ⟨b, off, spot⟩ := a
      obtain ⟨v, hc, _⟩ := h 0 0 e (by omega)
      have hspot : spot = none := by simpa [Addr.add] using World.cell?_spot hc
      subst hspot
      refine .inr ⟨b, off, rfl, fun i j hi hj => ?_⟩
      obtain ⟨v, hv, _⟩ := h i j hi hj
      rw [addr_plus] at hv
      have e3 : off + i * 3 + j = off + (i * 3 + j) := by omega
      rw [e3, hv, addr_plus, hv]
      rfl
theorem steps_of {H : Type} {enc : TypeId × Value → H} {w : World} {base : Nat} {held : Bool} {fuel : Nat} {a : Option Addr} {len cap : Nat} {x : DataW H × List MemPlace} (h : DataW.trod enc Tryz.prog w base (fun _ => true) held fuel 23 (Value.slice a len cap).cells.toList = some x) : ∃ F, SSl w a len cap F := by
  rcases stepsK_of (K := 3) Tryz.underlying23 Tryz.underlying42 (by kernel_rfl) rfl (fun j hj => match j, hj with
    | 0, _ => ⟨_, rfl, rfl, by kernel_rfl, by kernel_rfl⟩
    | 1, _ => ⟨_, rfl, rfl, by kernel_rfl, by kernel_rfl⟩
    | 2, _ => ⟨_, rfl, rfl, by kernel_rfl, by kernel_rfl⟩) h with hcs | ⟨y, l, c, hcs, hl, hm, hcell⟩
  · simp [Value.cells] at hcs
    obtain ⟨rfl, rfl, rfl⟩ := hcs
    exact ⟨fun _ _ => 0, Nat.le_refl _, by omega, fun i j hi _ => by omega, .inl rfl⟩
  · simp [Value.cells] at hcs
    obtain ⟨rfl, rfl, rfl⟩ := hcs
    exact ssl_of hl hm hcell
end Go.Proofs.YthogfecnbddfoaaGreatDoor

namespace Go.Proofs.YthogfecnbddfoaaGreatDoor
open Go.RowKit
set_option maxRecDepth 100000
set_option linter.unusedVariables false
set_option maxHeartbeats 2000000 in
theorem rwhole_any (n : Nat) (w : World) (hn : n < 18446744073709551616) : Calls Tryz.prog 13 #[.int .u64 (n : Int)] w (MakesRR w n 1) := by
  have ba : Hid (Below w.heap.size w (w.alloc (.cells #[.slice none 0 0, .slice none 0 0] 35))) := bel_al (bel_refl w)
  have HN : Hid (n < 18446744073709551616) := hn
  clear hn
  go_enter Tryz.func13, Tryz.ntmps13
  go_wp2_with fail
  refine (rof_any n _ HN.out).mono ?_
  rintro e w1 ⟨v1, rfl, hv1, hb1⟩
  obtain ⟨a1, n1, k1, rfl⟩ := hv1.isAgg
  have c0 : w1.cell? ⟨w.heap.size, 0, none⟩ = some (.slice none 0 0) := cell_later hb1 (by simp [go_sem])
  have c1 : w1.cell? ⟨w.heap.size, 1, none⟩ = some (.slice none 0 0) := cell_later hb1 (by simp [go_sem])
  have f0 : w1.frozen? ⟨w.heap.size, 0, none⟩ = false := (hb1.frozen (by simp)).trans (by simp [go_sem])
  have f1 : w1.frozen? ⟨w.heap.size, 1, none⟩ = false := (hb1.frozen (by simp)).trans (by simp [go_sem])
  have I1 : Hid (RNat w1 (.agg #[.slice a1 n1 k1]) n ∧ Below w.heap.size w w1) := ⟨hv1, bel_go ba.out hb1⟩
  clear hv1 hb1 ba
  go_wp2_with fail
  refine (rof_any 1 _ (by omega)).mono ?_
  rintro e w2 ⟨v2, rfl, hv2, hb2⟩
  obtain ⟨a2, n2, k2, rfl⟩ := hv2.isAgg
  have x0 := cell_later hb2 c0
  have x1 := cell_later hb2 c1
  have y0 := (hb2.frozen (World.block_lt_of_cell? _ _ c0)).trans f0
  have y1 := (hb2.frozen (World.block_lt_of_cell? _ _ c1)).trans f1
  have Z : Hid _ := rrat_put (v := .slice a1 n1 k1) (u := .slice a2 n2 k2) x0 x1 (V := .agg #[.slice a1 n1 k1, .slice a2 n2 k2]) (p := n) (q := 1) ⟨_, _, _, _, _, _, rfl, I1.out.1.mono hb2, hv2⟩ (bel_go I1.out.2 hb2) (Nat.le_refl _)
  clear hv2 hb2 c0 c1 f0 f1 I1
  go_wp2_with fail
  exact bodyPost_ret (v := .agg #[.slice a1 n1 k1, .slice a2 n2 k2]) (by simp [results, Tryz.results13, go_sem, x0, x1]) rfl ⟨_, rfl, Z.out.1, Z.out.2⟩
set_option maxHeartbeats 2000000 in
theorem rsign2_any (v : Value) (p q : Nat) (w : World) (h : RRt w v p q) (hp : RFits p) (z : Int) (hz : z = if p = 0 then 0 else 1) : Calls Tryz.prog 40 #[v] w fun e w' => e = .returned (.int .i64 z) ∧ Below w.heap.size w w' := by
  obtain ⟨a, n, c, a', n', c', rfl, h1, h2⟩ := h
  have HH : Hid (RNat (w.alloc (.cells #[.slice a n c, .slice a' n' c'] 35)) (.agg #[.slice a n c]) p ∧ RFits p ∧ Below w.heap.size w (w.alloc (.cells #[.slice a n c, .slice a' n' c'] 35))) := ⟨h1.mono (bel_al (bel_refl _)), hp, bel_al (bel_refl _)⟩
  clear h1 h2 hp
  go_enter Tryz.func40, Tryz.ntmps40
  go_wp2_with fail
  refine (rzero_any _ p _ HH.out.1 HH.out.2.1).mono ?_
  rintro e w1 ⟨rfl, hb1⟩
  have B1 : Hid (Below w.heap.size w w1) := bel_go HH.out.2.2 hb1
  clear hb1 HH
  by_cases e0 : p = 0
  · have d : decide (p = 0) = true := decide_eq_true e0
    rw [if_pos e0] at hz
    have HZ : Hid (z = 0) := hz
    clear e0 hz
    go_wp2_with fail
    go_ret
    exact ⟨ret_int HZ.out.symm, B1.out⟩
  · have d : decide (p = 0) = false := decide_eq_false e0
    rw [if_neg e0] at hz
    have HZ : Hid (z = 1) := hz
    clear e0 hz
    go_wp2_with fail
    go_ret
    exact ⟨ret_int HZ.out.symm, B1.out⟩
set_option maxHeartbeats 8000000 in
theorem rmul2_any (v u : Value) (p q x y : Nat) (w : World) (h : RRt w v p q) (k : RRt w u x y) (hp : RS p) (hq : RS q) (hx : RS x) (hy : RS y) (hq0 : 0 < q) (hy0 : 0 < y) :
    Calls Tryz.prog 27 #[v, u] w (MakesRR w (p * x / Nat.gcd (p * x) (q * y)) (q * y / Nat.gcd (p * x) (q * y))) := by
  obtain ⟨a1, n1, c1, a2, n2, c2, e0, g1, g2⟩ := h
  subst e0
  obtain ⟨a3, n3, c3, a4, n4, c4, e1, g3, g4⟩ := k
  subst e1
  have S0 : Hid _ := ((((((sx_start w).addM g1).addM g2).addM g3).addM g4).box (.slice a1 n1 c1) (.slice a2 n2 c2) 35 _ rfl).box (.slice a3 n3 c3) (.slice a4 n4 c4) 35 _ rfl
  simp only [World.size_alloc] at S0
  have S1 : Hid _ := S0.out.box (.slice none 0 0) (.slice none 0 0) 35 _ rfl
  simp only [World.size_alloc] at S1
  obtain ⟨w0, hw0⟩ : ∃ w0, w0 = ((w.alloc (.cells #[.slice a1 n1 c1, .slice a2 n2 c2] 35)).alloc (.cells #[.slice a3 n3 c3, .slice a4 n4 c4] 35)).alloc (.cells #[.slice none 0 0, .slice none 0 0] 35) := ⟨_, rfl⟩
  have f6 : w0.frozen? ⟨w.heap.size + 1 + 1, 0, none⟩ = false := by rw [hw0]; simp [go_sem]
  have f7 : w0.frozen? ⟨w.heap.size + 1 + 1, 1, none⟩ = false := by rw [hw0]; simp [go_sem]
  have FZ : Hid _ := And.intro f6 f7
  have s1 : RSome (p * x) := ⟨Nat.lt_of_lt_of_le (by rw [← P_B]; exact hp.mul hx) (B_le (show 2 * 180 ≤ 1000000 by omega))⟩
  have s2 : RSome (q * y) := ⟨Nat.lt_of_lt_of_le (by rw [← P_B]; exact hq.mul hy) (B_le (show 2 * 180 ≤ 1000000 by omega))⟩
  have HH : Hid (RS p ∧ RS q ∧ RS x ∧ RS y ∧ RSome (p * x) ∧ RSome (q * y) ∧ 0 < q * y) := ⟨hp, hq, hx, hy, s1, s2, Nat.mul_pos hq0 hy0⟩
  clear g1 g2 g3 g4 hp hq hx hy hq0 hy0 s1 s2 S0 f6 f7
  go_enter Tryz.func27, Tryz.ntmps27
  go_wp2_with fail
  rw [← hw0] at S1
  rw [← hw0]
  obtain ⟨b2, hb2⟩ : ∃ b2, b2 = w.heap.size := ⟨_, rfl⟩
  have HB : Hid (w.heap.size ≤ b2 + 1 + 1) := by show _ ≤ _; omega
  rw [← hb2] at S1 FZ
  rw [← hb2]
  clear hw0 hb2
  refine wp_region_held_drew (S := fun w9 => w9.cell? ⟨b2, 0, none⟩ = some (.slice a1 n1 c1) ∧ w9.cell? ⟨b2, 1, none⟩ = some (.slice a2 n2 c2) ∧ w9.cell? ⟨b2 + 1, 0, none⟩ = some (.slice a3 n3 c3) ∧ w9.cell? ⟨b2 + 1, 1, none⟩ = some (.slice a4 n4 c4)) (by kernel_rfl) ⟨(S1.out.cel (b2) 0 (.slice a1 n1 c1)), (S1.out.cel (b2) 1 (.slice a2 n2 c2)), (S1.out.cel (b2 + 1) 0 (.slice a3 n3 c3)), (S1.out.cel (b2 + 1) 1 (.slice a4 n4 c4))⟩ (fun hHeld => ?_)
  refine wpAnyH_take (i := 0) (v := .pointer (some ⟨b2, 0, none⟩)) rfl (by kernel_rfl) (by kernel_rfl) (by kernel_rfl) (fun _ _ _ h => h) (Or.inl ⟨by rfl, ?_⟩) (by assumption) ?_
  · intro w hSw
    obtain ⟨g0, g1, g2, g3⟩ := hSw
    go_simp
  refine wpAnyH_take (i := 1) (v := .agg #[.slice a1 n1 c1]) rfl (by kernel_rfl) (by kernel_rfl) (by kernel_rfl) (fun _ _ _ h => h) (Or.inl ⟨by rfl, ?_⟩) (by assumption) ?_
  · intro w hSw
    obtain ⟨g0, g1, g2, g3⟩ := hSw
    go_simp
  refine wpAnyH_take (i := 2) (v := .pointer (some ⟨b2 + 1, 0, none⟩)) rfl (by kernel_rfl) (by kernel_rfl) (by kernel_rfl) (fun _ _ _ h => h) (Or.inl ⟨by rfl, ?_⟩) (by assumption) ?_
  · intro w hSw
    obtain ⟨g0, g1, g2, g3⟩ := hSw
    go_simp
  refine wpAnyH_take (i := 3) (v := .agg #[.slice a3 n3 c3]) rfl (by kernel_rfl) (by kernel_rfl) (by kernel_rfl) (fun _ _ _ h => h) (Or.inl ⟨by rfl, ?_⟩) (by assumption) ?_
  · intro w hSw
    obtain ⟨g0, g1, g2, g3⟩ := hSw
    go_simp
  refine wpAnyH_take (i := 5) (v := .pointer (some ⟨b2, 1, none⟩)) rfl (by kernel_rfl) (by kernel_rfl) (by kernel_rfl) (fun _ _ _ h => h) (Or.inl ⟨by rfl, ?_⟩) (by assumption) ?_
  · intro w hSw
    obtain ⟨g0, g1, g2, g3⟩ := hSw
    go_simp
  refine wpAnyH_take (i := 6) (v := .agg #[.slice a2 n2 c2]) rfl (by kernel_rfl) (by kernel_rfl) (by kernel_rfl) (fun _ _ _ h => h) (Or.inl ⟨by rfl, ?_⟩) (by assumption) ?_
  · intro w hSw
    obtain ⟨g0, g1, g2, g3⟩ := hSw
    go_simp
  refine wpAnyH_take (i := 7) (v := .pointer (some ⟨b2 + 1, 1, none⟩)) rfl (by kernel_rfl) (by kernel_rfl) (by kernel_rfl) (fun _ _ _ h => h) (Or.inl ⟨by rfl, ?_⟩) (by assumption) ?_
  · intro w hSw
    obtain ⟨g0, g1, g2, g3⟩ := hSw
    go_simp
  refine wpAnyH_take (i := 8) (v := .agg #[.slice a4 n4 c4]) rfl (by kernel_rfl) (by kernel_rfl) (by kernel_rfl) (fun _ _ _ h => h) (Or.inl ⟨by rfl, ?_⟩) (by assumption) ?_
  · intro w hSw
    obtain ⟨g0, g1, g2, g3⟩ := hSw
    go_simp
  refine wpAnyH_ready (rs := [4]) (by kernel_rfl) (by simp) ?_
  refine AllReadyH.cons rfl (fun K9 hK9 => ?_) AllReadyH.nil
  go_simp
  refine Calls.mono (rtimes_any _ _ p x _ ((S1.out.rat (.agg #[.slice a1 n1 c1]) p).mono (bel_dr (bel_refl _))) ((S1.out.rat (.agg #[.slice a3 n3 c3]) x).mono (bel_dr (bel_refl _))) HH.out.1.rfits HH.out.2.2.1.rfits) ?_
  rintro e w3 ⟨v3, rfl, hv3, hb3⟩
  replace hb3 : Below w0.heap.size w0 w3 := bel_undrew hb3
  have FZ : Hid (w3.frozen? ⟨b2 + 1 + 1, 0, none⟩ = false ∧ w3.frozen? ⟨b2 + 1 + 1, 1, none⟩ = false) := ⟨(hb3.frozen (World.block_lt_of_cell? _ _ (S1.out.cel (b2 + 1 + 1) 0 (.slice none 0 0)))).trans FZ.out.1, (hb3.frozen (World.block_lt_of_cell? _ _ (S1.out.cel (b2 + 1 + 1) 1 (.slice none 0 0)))).trans FZ.out.2⟩
  have S2 : Hid _ := (S1.out.go hb3).addM hv3
  clear hv3 hb3 S1 hHeld
  refine hK9.out _ _ ⟨(S2.out.cel (b2) 0 (.slice a1 n1 c1)), (S2.out.cel (b2) 1 (.slice a2 n2 c2)), (S2.out.cel (b2 + 1) 0 (.slice a3 n3 c3)), (S2.out.cel (b2 + 1) 1 (.slice a4 n4 c4))⟩ (fun hHeld => ?_)
  clear hK9 K9
  refine wpAnyH_ready (rs := [9]) (by kernel_rfl) (by simp) ?_
  refine AllReadyH.cons rfl (fun K9 hK9 => ?_) AllReadyH.nil
  go_simp
  refine Calls.mono (rtimes_any _ _ q y _ (S2.out.rat (.agg #[.slice a2 n2 c2]) q) (S2.out.rat (.agg #[.slice a4 n4 c4]) y) HH.out.2.1.rfits HH.out.2.2.2.1.rfits) ?_
  rintro e w4 ⟨v4, rfl, hv4, hb4⟩
  have FZ : Hid (w4.frozen? ⟨b2 + 1 + 1, 0, none⟩ = false ∧ w4.frozen? ⟨b2 + 1 + 1, 1, none⟩ = false) := ⟨(hb4.frozen (World.block_lt_of_cell? _ _ (S2.out.cel (b2 + 1 + 1) 0 (.slice none 0 0)))).trans FZ.out.1, (hb4.frozen (World.block_lt_of_cell? _ _ (S2.out.cel (b2 + 1 + 1) 1 (.slice none 0 0)))).trans FZ.out.2⟩
  have S3 : Hid _ := (S2.out.go hb4).addM hv4
  clear hv4 hb4 S2 hHeld
  refine hK9.out _ _ ⟨(S3.out.cel (b2) 0 (.slice a1 n1 c1)), (S3.out.cel (b2) 1 (.slice a2 n2 c2)), (S3.out.cel (b2 + 1) 0 (.slice a3 n3 c3)), (S3.out.cel (b2 + 1) 1 (.slice a4 n4 c4))⟩ (fun hHeld => ?_)
  clear hK9 K9
  refine wpAnyH_ready (rs := [10]) (by kernel_rfl) (by simp) ?_
  refine AllReadyH.cons rfl (fun K9 hK9 => ?_) AllReadyH.nil
  go_simp
  refine Calls.mono (rmade_any v3 v4 (p * x) (q * y) _ (S3.out.rat v3 (p * x)) (S3.out.rat v4 (q * y)) HH.out.2.2.2.2.1 HH.out.2.2.2.2.2.1 HH.out.2.2.2.2.2.2) ?_
  rintro e w6 ⟨v6, rfl, hv6, hb6⟩
  have FZ : Hid (w6.frozen? ⟨b2 + 1 + 1, 0, none⟩ = false ∧ w6.frozen? ⟨b2 + 1 + 1, 1, none⟩ = false) := ⟨(hb6.frozen (World.block_lt_of_cell? _ _ (S3.out.cel (b2 + 1 + 1) 0 (.slice none 0 0)))).trans FZ.out.1, (hb6.frozen (World.block_lt_of_cell? _ _ (S3.out.cel (b2 + 1 + 1) 1 (.slice none 0 0)))).trans FZ.out.2⟩
  have S4 : Hid _ := (S3.out.go hb6).addG hv6
  obtain ⟨a6, n6, c6, a7, n7, c7, ev, _, _⟩ := hv6
  subst ev
  clear hb6 S3 hHeld
  have z0 := S4.out.cel (b2 + 1 + 1) 0 (.slice none 0 0)
  have z1 := S4.out.cel (b2 + 1 + 1) 1 (.slice none 0 0)
  have y0 := FZ.out.1
  have y1 := FZ.out.2
  have t0 := (S4.out.cel (b2) 0 (.slice a1 n1 c1))
  have t1 := (S4.out.cel (b2) 1 (.slice a2 n2 c2))
  have t2 := (S4.out.cel (b2 + 1) 0 (.slice a3 n3 c3))
  have t3 := (S4.out.cel (b2 + 1) 1 (.slice a4 n4 c4))
  refine hK9.out _ _ ⟨t0, t1, t2, t3⟩ (fun hHeld => ?_)
  clear hK9 K9
  refine wpAnyH_ready (rs := [11]) (by kernel_rfl) (by simp) ?_
  refine AllReadyH.cons rfl (fun K9 hK9 => ?_) AllReadyH.nil
  go_simp
  clear hHeld
  refine hK9.out _ _ (by simp [go_sem, *]) (fun hHeld => ?_)
  clear hK9 K9
  refine wpAnyH_done (by kernel_rfl) ?_ _
  have Z : Hid _ := rrat_put (w0 := w) (v := .slice a6 n6 c6) (u := .slice a7 n7 c7) z0 z1 (S4.out.rfr (.agg #[.slice a6 n6 c6, .slice a7 n7 c7]) (p * x / Nat.gcd (p * x) (q * y)) (q * y / Nat.gcd (p * x) (q * y))) S4.out.bel HB.out
  clear S4 FZ t0 t1 t2 t3
  go_wp2_with fail
  exact bodyPost_ret (v := .agg #[.slice a6 n6 c6, .slice a7 n7 c7]) (by simp [results, Tryz.results27, go_sem, z0, z1]) rfl ⟨_, rfl, Z.out.1, Z.out.2⟩
set_option maxHeartbeats 8000000 in
theorem rdiv2_yes (v u : Value) (p q x y : Nat) (w : World) (h : RRt w v p q) (k : RRt w u x y) (hp : RS p) (hq : RS q) (hx : RS x) (hy : RS y) (hq0 : 0 < q) (hx0 : 0 < x) :
    Calls Tryz.prog 25 #[v, u] w (MakesRRB w (p * y / Nat.gcd (p * y) (q * x)) (q * x / Nat.gcd (p * y) (q * x)) true) := by
  obtain ⟨a1, n1, c1, a2, n2, c2, e0, g1, g2⟩ := h
  subst e0
  obtain ⟨a3, n3, c3, a4, n4, c4, e1, g3, g4⟩ := k
  subst e1
  have S0 : Hid _ := ((((((sx_start w).addM g1).addM g2).addM g3).addM g4).box (.slice a1 n1 c1) (.slice a2 n2 c2) 35 _ rfl).box (.slice a3 n3 c3) (.slice a4 n4 c4) 35 _ rfl
  simp only [World.size_alloc] at S0
  have S1 : Hid _ := S0.out.box (.slice none 0 0) (.slice none 0 0) 35 _ rfl
  simp only [World.size_alloc] at S1
  obtain ⟨w0, hw0⟩ : ∃ w0, w0 = ((w.alloc (.cells #[.slice a1 n1 c1, .slice a2 n2 c2] 35)).alloc (.cells #[.slice a3 n3 c3, .slice a4 n4 c4] 35)).alloc (.cells #[.slice none 0 0, .slice none 0 0] 35) := ⟨_, rfl⟩
  have f6 : w0.frozen? ⟨w.heap.size + 1 + 1, 0, none⟩ = false := by rw [hw0]; simp [go_sem]
  have f7 : w0.frozen? ⟨w.heap.size + 1 + 1, 1, none⟩ = false := by rw [hw0]; simp [go_sem]
  have FZ : Hid _ := And.intro f6 f7
  have s1 : RSome (p * y) := ⟨Nat.lt_of_lt_of_le (by rw [← P_B]; exact hp.mul hy) (B_le (show 2 * 180 ≤ 1000000 by omega))⟩
  have s2 : RSome (q * x) := ⟨Nat.lt_of_lt_of_le (by rw [← P_B]; exact hq.mul hx) (B_le (show 2 * 180 ≤ 1000000 by omega))⟩
  have HH : Hid (RS p ∧ RS q ∧ RS x ∧ RS y ∧ RSome (p * y) ∧ RSome (q * x) ∧ 0 < q * x) := ⟨hp, hq, hx, hy, s1, s2, Nat.mul_pos hq0 hx0⟩
  have SG : Hid (∀ v w, RRt w v x y → Calls Tryz.prog 40 #[v] w fun e w' => e = .returned (.int .i64 1) ∧ Below w.heap.size w w') := fun v w h => rsign2_any v x y w h hx.rfits 1 (by rw [if_neg (by omega)])
  have g34 : Hid (RRt w (.agg #[.slice a3 n3 c3, .slice a4 n4 c4]) x y) := ⟨_, _, _, _, _, _, rfl, g3, g4⟩
  clear g1 g2 g3 g4 hp hq hx hy hq0 hx0 s1 s2 S0 f6 f7
  go_enter Tryz.func25, Tryz.ntmps25
  go_wp2_with fail
  rw [← hw0] at S1
  rw [← hw0]
  obtain ⟨b2, hb2⟩ : ∃ b2, b2 = w.heap.size := ⟨_, rfl⟩
  have HB : Hid (w.heap.size ≤ b2 + 1 + 1) := by show _ ≤ _; omega
  rw [← hb2] at S1 FZ
  rw [← hb2]
  clear hw0 hb2
  refine (SG.out _ _ (g34.out.mono S1.out.bel)).mono ?_
  rintro e w5 ⟨rfl, hb5⟩
  have FZ : Hid (w5.frozen? ⟨b2 + 1 + 1, 0, none⟩ = false ∧ w5.frozen? ⟨b2 + 1 + 1, 1, none⟩ = false) := ⟨(hb5.frozen (World.block_lt_of_cell? _ _ (S1.out.cel (b2 + 1 + 1) 0 (.slice none 0 0)))).trans FZ.out.1, (hb5.frozen (World.block_lt_of_cell? _ _ (S1.out.cel (b2 + 1 + 1) 1 (.slice none 0 0)))).trans FZ.out.2⟩
  have S1 : Hid _ := S1.out.go hb5
  clear hb5 g34 SG
  go_wp2_with fail
  obtain ⟨w0, ew0⟩ : ∃ w0, w0 = w5 := ⟨_, rfl⟩
  rw [← ew0] at S1 FZ
  rw [← ew0]
  clear ew0
  refine wp_region_held_drew (S := fun w9 => w9.cell? ⟨b2, 0, none⟩ = some (.slice a1 n1 c1) ∧ w9.cell? ⟨b2, 1, none⟩ = some (.slice a2 n2 c2) ∧ w9.cell? ⟨b2 + 1, 0, none⟩ = some (.slice a3 n3 c3) ∧ w9.cell? ⟨b2 + 1, 1, none⟩ = some (.slice a4 n4 c4)) (by kernel_rfl) ⟨(S1.out.cel (b2) 0 (.slice a1 n1 c1)), (S1.out.cel (b2) 1 (.slice a2 n2 c2)), (S1.out.cel (b2 + 1) 0 (.slice a3 n3 c3)), (S1.out.cel (b2 + 1) 1 (.slice a4 n4 c4))⟩ (fun hHeld => ?_)
  refine wpAnyH_take (i := 0) (v := .pointer (some ⟨b2, 0, none⟩)) rfl (by kernel_rfl) (by kernel_rfl) (by kernel_rfl) (fun _ _ _ h => h) (Or.inl ⟨by rfl, ?_⟩) (by assumption) ?_
  · intro w hSw
    obtain ⟨g0, g1, g2, g3⟩ := hSw
    go_simp
  refine wpAnyH_take (i := 1) (v := .agg #[.slice a1 n1 c1]) rfl (by kernel_rfl) (by kernel_rfl) (by kernel_rfl) (fun _ _ _ h => h) (Or.inl ⟨by rfl, ?_⟩) (by assumption) ?_
  · intro w hSw
    obtain ⟨g0, g1, g2, g3⟩ := hSw
    go_simp
  refine wpAnyH_take (i := 2) (v := .pointer (some ⟨b2 + 1, 1, none⟩)) rfl (by kernel_rfl) (by kernel_rfl) (by kernel_rfl) (fun _ _ _ h => h) (Or.inl ⟨by rfl, ?_⟩) (by assumption) ?_
  · intro w hSw
    obtain ⟨g0, g1, g2, g3⟩ := hSw
    go_simp
  refine wpAnyH_take (i := 3) (v := .agg #[.slice a4 n4 c4]) rfl (by kernel_rfl) (by kernel_rfl) (by kernel_rfl) (fun _ _ _ h => h) (Or.inl ⟨by rfl, ?_⟩) (by assumption) ?_
  · intro w hSw
    obtain ⟨g0, g1, g2, g3⟩ := hSw
    go_simp
  refine wpAnyH_take (i := 5) (v := .pointer (some ⟨b2, 1, none⟩)) rfl (by kernel_rfl) (by kernel_rfl) (by kernel_rfl) (fun _ _ _ h => h) (Or.inl ⟨by rfl, ?_⟩) (by assumption) ?_
  · intro w hSw
    obtain ⟨g0, g1, g2, g3⟩ := hSw
    go_simp
  refine wpAnyH_take (i := 6) (v := .agg #[.slice a2 n2 c2]) rfl (by kernel_rfl) (by kernel_rfl) (by kernel_rfl) (fun _ _ _ h => h) (Or.inl ⟨by rfl, ?_⟩) (by assumption) ?_
  · intro w hSw
    obtain ⟨g0, g1, g2, g3⟩ := hSw
    go_simp
  refine wpAnyH_take (i := 7) (v := .pointer (some ⟨b2 + 1, 0, none⟩)) rfl (by kernel_rfl) (by kernel_rfl) (by kernel_rfl) (fun _ _ _ h => h) (Or.inl ⟨by rfl, ?_⟩) (by assumption) ?_
  · intro w hSw
    obtain ⟨g0, g1, g2, g3⟩ := hSw
    go_simp
  refine wpAnyH_take (i := 8) (v := .agg #[.slice a3 n3 c3]) rfl (by kernel_rfl) (by kernel_rfl) (by kernel_rfl) (fun _ _ _ h => h) (Or.inl ⟨by rfl, ?_⟩) (by assumption) ?_
  · intro w hSw
    obtain ⟨g0, g1, g2, g3⟩ := hSw
    go_simp
  refine wpAnyH_ready (rs := [4]) (by kernel_rfl) (by simp) ?_
  refine AllReadyH.cons rfl (fun K9 hK9 => ?_) AllReadyH.nil
  go_simp
  refine Calls.mono (rtimes_any _ _ p y _ ((S1.out.rat (.agg #[.slice a1 n1 c1]) p).mono (bel_dr (bel_refl _))) ((S1.out.rat (.agg #[.slice a4 n4 c4]) y).mono (bel_dr (bel_refl _))) HH.out.1.rfits HH.out.2.2.2.1.rfits) ?_
  rintro e w3 ⟨v3, rfl, hv3, hb3⟩
  replace hb3 : Below w0.heap.size w0 w3 := bel_undrew hb3
  have FZ : Hid (w3.frozen? ⟨b2 + 1 + 1, 0, none⟩ = false ∧ w3.frozen? ⟨b2 + 1 + 1, 1, none⟩ = false) := ⟨(hb3.frozen (World.block_lt_of_cell? _ _ (S1.out.cel (b2 + 1 + 1) 0 (.slice none 0 0)))).trans FZ.out.1, (hb3.frozen (World.block_lt_of_cell? _ _ (S1.out.cel (b2 + 1 + 1) 1 (.slice none 0 0)))).trans FZ.out.2⟩
  have S2 : Hid _ := (S1.out.go hb3).addM hv3
  clear hv3 hb3 S1 hHeld
  refine hK9.out _ _ ⟨(S2.out.cel (b2) 0 (.slice a1 n1 c1)), (S2.out.cel (b2) 1 (.slice a2 n2 c2)), (S2.out.cel (b2 + 1) 0 (.slice a3 n3 c3)), (S2.out.cel (b2 + 1) 1 (.slice a4 n4 c4))⟩ (fun hHeld => ?_)
  clear hK9 K9
  refine wpAnyH_ready (rs := [9]) (by kernel_rfl) (by simp) ?_
  refine AllReadyH.cons rfl (fun K9 hK9 => ?_) AllReadyH.nil
  go_simp
  refine Calls.mono (rtimes_any _ _ q x _ (S2.out.rat (.agg #[.slice a2 n2 c2]) q) (S2.out.rat (.agg #[.slice a3 n3 c3]) x) HH.out.2.1.rfits HH.out.2.2.1.rfits) ?_
  rintro e w4 ⟨v4, rfl, hv4, hb4⟩
  have FZ : Hid (w4.frozen? ⟨b2 + 1 + 1, 0, none⟩ = false ∧ w4.frozen? ⟨b2 + 1 + 1, 1, none⟩ = false) := ⟨(hb4.frozen (World.block_lt_of_cell? _ _ (S2.out.cel (b2 + 1 + 1) 0 (.slice none 0 0)))).trans FZ.out.1, (hb4.frozen (World.block_lt_of_cell? _ _ (S2.out.cel (b2 + 1 + 1) 1 (.slice none 0 0)))).trans FZ.out.2⟩
  have S3 : Hid _ := (S2.out.go hb4).addM hv4
  clear hv4 hb4 S2 hHeld
  refine hK9.out _ _ ⟨(S3.out.cel (b2) 0 (.slice a1 n1 c1)), (S3.out.cel (b2) 1 (.slice a2 n2 c2)), (S3.out.cel (b2 + 1) 0 (.slice a3 n3 c3)), (S3.out.cel (b2 + 1) 1 (.slice a4 n4 c4))⟩ (fun hHeld => ?_)
  clear hK9 K9
  refine wpAnyH_ready (rs := [10]) (by kernel_rfl) (by simp) ?_
  refine AllReadyH.cons rfl (fun K9 hK9 => ?_) AllReadyH.nil
  go_simp
  refine Calls.mono (rmade_any v3 v4 (p * y) (q * x) _ (S3.out.rat v3 (p * y)) (S3.out.rat v4 (q * x)) HH.out.2.2.2.2.1 HH.out.2.2.2.2.2.1 HH.out.2.2.2.2.2.2) ?_
  rintro e w6 ⟨v6, rfl, hv6, hb6⟩
  have FZ : Hid (w6.frozen? ⟨b2 + 1 + 1, 0, none⟩ = false ∧ w6.frozen? ⟨b2 + 1 + 1, 1, none⟩ = false) := ⟨(hb6.frozen (World.block_lt_of_cell? _ _ (S3.out.cel (b2 + 1 + 1) 0 (.slice none 0 0)))).trans FZ.out.1, (hb6.frozen (World.block_lt_of_cell? _ _ (S3.out.cel (b2 + 1 + 1) 1 (.slice none 0 0)))).trans FZ.out.2⟩
  have S4 : Hid _ := (S3.out.go hb6).addG hv6
  obtain ⟨a6, n6, c6, a7, n7, c7, ev, _, _⟩ := hv6
  subst ev
  clear hb6 S3 hHeld
  have z0 := S4.out.cel (b2 + 1 + 1) 0 (.slice none 0 0)
  have z1 := S4.out.cel (b2 + 1 + 1) 1 (.slice none 0 0)
  have y0 := FZ.out.1
  have y1 := FZ.out.2
  have t0 := (S4.out.cel (b2) 0 (.slice a1 n1 c1))
  have t1 := (S4.out.cel (b2) 1 (.slice a2 n2 c2))
  have t2 := (S4.out.cel (b2 + 1) 0 (.slice a3 n3 c3))
  have t3 := (S4.out.cel (b2 + 1) 1 (.slice a4 n4 c4))
  refine hK9.out _ _ ⟨t0, t1, t2, t3⟩ (fun hHeld => ?_)
  clear hK9 K9
  refine wpAnyH_ready (rs := [11]) (by kernel_rfl) (by simp) ?_
  refine AllReadyH.cons rfl (fun K9 hK9 => ?_) AllReadyH.nil
  go_simp
  clear hHeld
  refine hK9.out _ _ (by simp [go_sem, *]) (fun hHeld => ?_)
  clear hK9 K9
  refine wpAnyH_take (i := 12) (v := .bool true) rfl (by kernel_rfl) (by kernel_rfl) (by kernel_rfl) (fun _ _ _ h => h) (Or.inl ⟨by rfl, ?_⟩) (by assumption) ?_
  · intro w hSw
    obtain ⟨g0, g1, g2, g3⟩ := hSw
    go_simp
  refine wpAnyH_done (by kernel_rfl) ?_ _
  have Z : Hid _ := rrat_put (w0 := w) (v := .slice a6 n6 c6) (u := .slice a7 n7 c7) z0 z1 (S4.out.rfr (.agg #[.slice a6 n6 c6, .slice a7 n7 c7]) (p * y / Nat.gcd (p * y) (q * x)) (q * x / Nat.gcd (p * y) (q * x))) S4.out.bel HB.out
  clear S4 FZ t0 t1 t2 t3
  go_wp2_with fail
  exact bodyPost_ret (v := .tuple #[.agg #[.slice a6 n6 c6, .slice a7 n7 c7], .bool true]) (by simp [results, Tryz.results25, go_sem, z0, z1]) rfl ⟨_, rfl, Z.out.1, Z.out.2⟩
end Go.Proofs.YthogfecnbddfoaaGreatDoor

namespace Go.Proofs.YthogfecnbddfoaaGreatDoor
open Go.RowKit
set_option maxRecDepth 100000
set_option linter.unusedVariables false
set_option maxHeartbeats 8000000 in
theorem rmulInt2_yes (v : Value) (p q k : Nat) (w : World) (h : RRt w v p q) (hp : RS p) (hq : RS q) (hk : k ≤ 9223372036854775807) (hq0 : 0 < q) :
    Calls Tryz.prog 11 #[v, .int .i64 (k : Int)] w (MakesRRB w (p * k / Nat.gcd (p * k) (q * 1)) (q * 1 / Nat.gcd (p * k) (q * 1)) true) := by
  obtain ⟨a1, n1, c1, a2, n2, c2, e0, g1, g2⟩ := h
  subst e0
  have S1 : Hid _ := ((((sx_start w).addG (v := .agg #[.slice a1 n1 c1, .slice a2 n2 c2]) (x := p) (y := q) ⟨_, _, _, _, _, _, rfl, g1, g2⟩).box (.slice a1 n1 c1) (.slice a2 n2 c2) 35 _ rfl).box (.slice none 0 0) (.slice none 0 0) 35 _ rfl)
  simp only [World.size_alloc] at S1
  obtain ⟨w0, hw0⟩ : ∃ w0, w0 = (w.alloc (.cells #[.slice a1 n1 c1, .slice a2 n2 c2] 35)).alloc (.cells #[.slice none 0 0, .slice none 0 0] 35) := ⟨_, rfl⟩
  have f6 : w0.frozen? ⟨w.heap.size + 1, 0, none⟩ = false := by rw [hw0]; simp [go_sem]
  have f7 : w0.frozen? ⟨w.heap.size + 1, 1, none⟩ = false := by rw [hw0]; simp [go_sem]
  have FZ : Hid _ := And.intro f6 f7
  have hk2 : RS k := rs_word (by omega)
  have h1 : RS 1 := rs_word (by omega)
  have HH : Hid (RS p ∧ RS q ∧ RS k ∧ RS 1 ∧ 0 < q ∧ k < 18446744073709551616) := ⟨hp, hq, hk2, h1, hq0, by omega⟩
  have d1 : decide ((k : Int) < 0) = false := decide_eq_false (by omega)
  have m1 : IntKind.u64.wrap (k : Int) = (k : Int) := by rw [IntKind.wrap_u64]; omega
  clear g1 g2 hp hq hq0 hk2 h1 f6 f7
  go_enter Tryz.func11, Tryz.ntmps11
  go_wp2_with fail
  rw [← hw0] at S1
  rw [← hw0]
  obtain ⟨b2, hb2⟩ : ∃ b2, b2 = w.heap.size := ⟨_, rfl⟩
  have HB : Hid (w.heap.size ≤ b2 + 1) := by show _ ≤ _; omega
  rw [← hb2] at S1 FZ
  rw [← hb2]
  clear hw0 hb2
  refine wp_region_held_drew (S := fun w9 => w9.cell? ⟨b2, 0, none⟩ = some (.slice a1 n1 c1) ∧ w9.cell? ⟨b2, 1, none⟩ = some (.slice a2 n2 c2)) (by kernel_rfl) ⟨(S1.out.cel (b2) 0 (.slice a1 n1 c1)), (S1.out.cel (b2) 1 (.slice a2 n2 c2))⟩ (fun hHeld => ?_)
  refine wpAnyH_take (i := 0) (v := .agg #[.slice a1 n1 c1, .slice a2 n2 c2]) rfl (by kernel_rfl) (by kernel_rfl) (by kernel_rfl) (fun _ _ _ h => h) (Or.inl ⟨by rfl, ?_⟩) (by assumption) ?_
  · intro w hSw
    obtain ⟨g0, g1⟩ := hSw
    go_simp
  refine wpAnyH_take (i := 1) (v := .int .i64 (k : Int)) rfl (by kernel_rfl) (by kernel_rfl) (by kernel_rfl) (fun _ _ _ h => h) (Or.inl ⟨by rfl, ?_⟩) (by assumption) ?_
  · intro w hSw
    obtain ⟨g0, g1⟩ := hSw
    go_simp
  refine wpAnyH_take (i := 2) (v := .int .u64 (k : Int)) rfl (by kernel_rfl) (by kernel_rfl) (by kernel_rfl) (fun _ _ _ h => h) (Or.inl ⟨by rfl, ?_⟩) (by assumption) ?_
  · intro w hSw
    obtain ⟨g0, g1⟩ := hSw
    go_simp
  refine wpAnyH_ready (rs := [3]) (by kernel_rfl) (by simp) ?_
  refine AllReadyH.cons rfl (fun K9 hK9 => ?_) AllReadyH.nil
  go_simp
  refine Calls.mono (rwhole_any k _ HH.out.2.2.2.2.2) ?_
  rintro e w3 ⟨v3, rfl, hv3, hb3⟩
  replace hb3 : Below w0.heap.size w0 w3 := bel_undrew hb3
  have FZ : Hid (w3.frozen? ⟨b2 + 1, 0, none⟩ = false ∧ w3.frozen? ⟨b2 + 1, 1, none⟩ = false) := ⟨(hb3.frozen (World.block_lt_of_cell? _ _ (S1.out.cel (b2 + 1) 0 (.slice none 0 0)))).trans FZ.out.1, (hb3.frozen (World.block_lt_of_cell? _ _ (S1.out.cel (b2 + 1) 1 (.slice none 0 0)))).trans FZ.out.2⟩
  have S2 : Hid _ := (S1.out.go hb3).addG hv3
  clear hv3 hb3 S1 hHeld
  refine hK9.out _ _ ⟨(S2.out.cel (b2) 0 (.slice a1 n1 c1)), (S2.out.cel (b2) 1 (.slice a2 n2 c2))⟩ (fun hHeld => ?_)
  clear hK9 K9
  refine wpAnyH_ready (rs := [4]) (by kernel_rfl) (by simp) ?_
  refine AllReadyH.cons rfl (fun K9 hK9 => ?_) AllReadyH.nil
  go_simp
  refine Calls.mono (rmul2_any _ v3 p q k 1 _ (S2.out.rfr (.agg #[.slice a1 n1 c1, .slice a2 n2 c2]) p q) (S2.out.rfr v3 k 1) HH.out.1 HH.out.2.1 HH.out.2.2.1 HH.out.2.2.2.1 HH.out.2.2.2.2.1 (by omega)) ?_
  rintro e w6 ⟨v6, rfl, hv6, hb6⟩
  have FZ : Hid (w6.frozen? ⟨b2 + 1, 0, none⟩ = false ∧ w6.frozen? ⟨b2 + 1, 1, none⟩ = false) := ⟨(hb6.frozen (World.block_lt_of_cell? _ _ (S2.out.cel (b2 + 1) 0 (.slice none 0 0)))).trans FZ.out.1, (hb6.frozen (World.block_lt_of_cell? _ _ (S2.out.cel (b2 + 1) 1 (.slice none 0 0)))).trans FZ.out.2⟩
  have S4 : Hid _ := (S2.out.go hb6).addG hv6
  obtain ⟨a6, n6, c6, a7, n7, c7, ev, _, _⟩ := hv6
  subst ev
  clear hb6 S2 hHeld
  have z0 := S4.out.cel (b2 + 1) 0 (.slice none 0 0)
  have z1 := S4.out.cel (b2 + 1) 1 (.slice none 0 0)
  have y0 := FZ.out.1
  have y1 := FZ.out.2
  have t0 := (S4.out.cel (b2) 0 (.slice a1 n1 c1))
  have t1 := (S4.out.cel (b2) 1 (.slice a2 n2 c2))
  refine hK9.out _ _ ⟨t0, t1⟩ (fun hHeld => ?_)
  clear hK9 K9
  refine wpAnyH_ready (rs := [5]) (by kernel_rfl) (by simp) ?_
  refine AllReadyH.cons rfl (fun K9 hK9 => ?_) AllReadyH.nil
  go_simp
  clear hHeld
  refine hK9.out _ _ (by simp [go_sem, *]) (fun hHeld => ?_)
  clear hK9 K9
  refine wpAnyH_take (i := 6) (v := .bool true) rfl (by kernel_rfl) (by kernel_rfl) (by kernel_rfl) (fun _ _ _ h => h) (Or.inl ⟨by rfl, ?_⟩) (by assumption) ?_
  · intro w hSw
    obtain ⟨g0, g1⟩ := hSw
    go_simp
  refine wpAnyH_done (by kernel_rfl) ?_ _
  have Z : Hid _ := rrat_put (w0 := w) (v := .slice a6 n6 c6) (u := .slice a7 n7 c7) z0 z1 (S4.out.rfr (.agg #[.slice a6 n6 c6, .slice a7 n7 c7]) (p * k / Nat.gcd (p * k) (q * 1)) (q * 1 / Nat.gcd (p * k) (q * 1))) S4.out.bel HB.out
  clear S4 FZ t0 t1
  go_wp2_with fail
  exact bodyPost_ret (v := .tuple #[.agg #[.slice a6 n6 c6, .slice a7 n7 c7], .bool true]) (by simp [results, Tryz.results11, go_sem, z0, z1]) rfl ⟨_, rfl, Z.out.1, Z.out.2⟩
set_option maxHeartbeats 8000000 in
theorem rdivInt2_yes (v : Value) (p q k : Nat) (w : World) (h : RRt w v p q) (hp : RS p) (hq : RS q) (hk : k ≤ 9223372036854775807) (hq0 : 0 < q) (hk0 : 0 < k) :
    Calls Tryz.prog 9 #[v, .int .i64 (k : Int)] w (MakesRRB w (p * 1 / Nat.gcd (p * 1) (q * k)) (q * k / Nat.gcd (p * 1) (q * k)) true) := by
  obtain ⟨a1, n1, c1, a2, n2, c2, e0, g1, g2⟩ := h
  subst e0
  have S1 : Hid _ := ((((sx_start w).addG (v := .agg #[.slice a1 n1 c1, .slice a2 n2 c2]) (x := p) (y := q) ⟨_, _, _, _, _, _, rfl, g1, g2⟩).box (.slice a1 n1 c1) (.slice a2 n2 c2) 35 _ rfl).box (.slice none 0 0) (.slice none 0 0) 35 _ rfl)
  simp only [World.size_alloc] at S1
  obtain ⟨w0, hw0⟩ : ∃ w0, w0 = (w.alloc (.cells #[.slice a1 n1 c1, .slice a2 n2 c2] 35)).alloc (.cells #[.slice none 0 0, .slice none 0 0] 35) := ⟨_, rfl⟩
  have f6 : w0.frozen? ⟨w.heap.size + 1, 0, none⟩ = false := by rw [hw0]; simp [go_sem]
  have f7 : w0.frozen? ⟨w.heap.size + 1, 1, none⟩ = false := by rw [hw0]; simp [go_sem]
  have FZ : Hid _ := And.intro f6 f7
  have hk2 : RS k := rs_word (by omega)
  have h1 : RS 1 := rs_word (by omega)
  have HH : Hid (RS p ∧ RS q ∧ RS k ∧ RS 1 ∧ 0 < q ∧ k < 18446744073709551616 ∧ 0 < k) := ⟨hp, hq, hk2, h1, hq0, by omega, hk0⟩
  have d1 : decide ((k : Int) < 1) = false := decide_eq_false (by omega)
  have m1 : IntKind.u64.wrap (k : Int) = (k : Int) := by rw [IntKind.wrap_u64]; omega
  clear g1 g2 hp hq hq0 hk2 h1 f6 f7 hk0
  go_enter Tryz.func9, Tryz.ntmps9
  go_wp2_with fail
  rw [← hw0] at S1
  rw [← hw0]
  obtain ⟨b2, hb2⟩ : ∃ b2, b2 = w.heap.size := ⟨_, rfl⟩
  have HB : Hid (w.heap.size ≤ b2 + 1) := by show _ ≤ _; omega
  rw [← hb2] at S1 FZ
  rw [← hb2]
  clear hw0 hb2
  refine wp_region_held_drew (S := fun w9 => w9.cell? ⟨b2, 0, none⟩ = some (.slice a1 n1 c1) ∧ w9.cell? ⟨b2, 1, none⟩ = some (.slice a2 n2 c2)) (by kernel_rfl) ⟨(S1.out.cel (b2) 0 (.slice a1 n1 c1)), (S1.out.cel (b2) 1 (.slice a2 n2 c2))⟩ (fun hHeld => ?_)
  refine wpAnyH_take (i := 0) (v := .agg #[.slice a1 n1 c1, .slice a2 n2 c2]) rfl (by kernel_rfl) (by kernel_rfl) (by kernel_rfl) (fun _ _ _ h => h) (Or.inl ⟨by rfl, ?_⟩) (by assumption) ?_
  · intro w hSw
    obtain ⟨g0, g1⟩ := hSw
    go_simp
  refine wpAnyH_take (i := 1) (v := .int .i64 (k : Int)) rfl (by kernel_rfl) (by kernel_rfl) (by kernel_rfl) (fun _ _ _ h => h) (Or.inl ⟨by rfl, ?_⟩) (by assumption) ?_
  · intro w hSw
    obtain ⟨g0, g1⟩ := hSw
    go_simp
  refine wpAnyH_take (i := 2) (v := .int .u64 (k : Int)) rfl (by kernel_rfl) (by kernel_rfl) (by kernel_rfl) (fun _ _ _ h => h) (Or.inl ⟨by rfl, ?_⟩) (by assumption) ?_
  · intro w hSw
    obtain ⟨g0, g1⟩ := hSw
    go_simp
  refine wpAnyH_ready (rs := [3]) (by kernel_rfl) (by simp) ?_
  refine AllReadyH.cons rfl (fun K9 hK9 => ?_) AllReadyH.nil
  go_simp
  refine Calls.mono (rwhole_any k _ HH.out.2.2.2.2.2.1) ?_
  rintro e w3 ⟨v3, rfl, hv3, hb3⟩
  replace hb3 : Below w0.heap.size w0 w3 := bel_undrew hb3
  have FZ : Hid (w3.frozen? ⟨b2 + 1, 0, none⟩ = false ∧ w3.frozen? ⟨b2 + 1, 1, none⟩ = false) := ⟨(hb3.frozen (World.block_lt_of_cell? _ _ (S1.out.cel (b2 + 1) 0 (.slice none 0 0)))).trans FZ.out.1, (hb3.frozen (World.block_lt_of_cell? _ _ (S1.out.cel (b2 + 1) 1 (.slice none 0 0)))).trans FZ.out.2⟩
  have S2 : Hid _ := (S1.out.go hb3).addG hv3
  clear hv3 hb3 S1 hHeld
  refine hK9.out _ _ ⟨(S2.out.cel (b2) 0 (.slice a1 n1 c1)), (S2.out.cel (b2) 1 (.slice a2 n2 c2))⟩ (fun hHeld => ?_)
  clear hK9 K9
  refine wpAnyH_ready (rs := [4]) (by kernel_rfl) (by simp) ?_
  refine AllReadyH.cons rfl (fun K9 hK9 => ?_) AllReadyH.nil
  go_simp
  refine Calls.mono (rdiv2_yes _ v3 p q k 1 _ (S2.out.rfr (.agg #[.slice a1 n1 c1, .slice a2 n2 c2]) p q) (S2.out.rfr v3 k 1) HH.out.1 HH.out.2.1 HH.out.2.2.1 HH.out.2.2.2.1 HH.out.2.2.2.2.1 HH.out.2.2.2.2.2.2) ?_
  rintro e w6 ⟨v6, rfl, hv6, hb6⟩
  have FZ : Hid (w6.frozen? ⟨b2 + 1, 0, none⟩ = false ∧ w6.frozen? ⟨b2 + 1, 1, none⟩ = false) := ⟨(hb6.frozen (World.block_lt_of_cell? _ _ (S2.out.cel (b2 + 1) 0 (.slice none 0 0)))).trans FZ.out.1, (hb6.frozen (World.block_lt_of_cell? _ _ (S2.out.cel (b2 + 1) 1 (.slice none 0 0)))).trans FZ.out.2⟩
  have S4 : Hid _ := (S2.out.go hb6).addG hv6
  obtain ⟨a6, n6, c6, a7, n7, c7, ev, _, _⟩ := hv6
  subst ev
  clear hb6 S2 hHeld
  have z0 := S4.out.cel (b2 + 1) 0 (.slice none 0 0)
  have z1 := S4.out.cel (b2 + 1) 1 (.slice none 0 0)
  have y0 := FZ.out.1
  have y1 := FZ.out.2
  have t0 := (S4.out.cel (b2) 0 (.slice a1 n1 c1))
  have t1 := (S4.out.cel (b2) 1 (.slice a2 n2 c2))
  refine hK9.out _ _ ⟨t0, t1⟩ (fun hHeld => ?_)
  clear hK9 K9
  refine wpAnyH_take (i := 5) (v := .agg #[.slice a6 n6 c6, .slice a7 n7 c7]) rfl (by kernel_rfl) (by kernel_rfl) (by kernel_rfl) (fun _ _ _ h => h) (Or.inl ⟨by rfl, ?_⟩) (by assumption) ?_
  · intro w hSw
    obtain ⟨g0, g1⟩ := hSw
    go_simp
  refine wpAnyH_take (i := 6) (v := .bool true) rfl (by kernel_rfl) (by kernel_rfl) (by kernel_rfl) (fun _ _ _ h => h) (Or.inl ⟨by rfl, ?_⟩) (by assumption) ?_
  · intro w hSw
    obtain ⟨g0, g1⟩ := hSw
    go_simp
  refine wpAnyH_ready (rs := [7]) (by kernel_rfl) (by simp) ?_
  refine AllReadyH.cons rfl (fun K9 hK9 => ?_) AllReadyH.nil
  go_simp
  clear hHeld
  refine hK9.out _ _ (by simp [go_sem, *]) (fun hHeld => ?_)
  clear hK9 K9
  refine wpAnyH_take (i := 8) (v := .bool true) rfl (by kernel_rfl) (by kernel_rfl) (by kernel_rfl) (fun _ _ _ h => h) (Or.inl ⟨by rfl, ?_⟩) (by assumption) ?_
  · intro w hSw
    obtain ⟨g0, g1⟩ := hSw
    go_simp
  refine wpAnyH_done (by kernel_rfl) ?_ _
  have Z : Hid _ := rrat_put (w0 := w) (v := .slice a6 n6 c6) (u := .slice a7 n7 c7) z0 z1 (S4.out.rfr (.agg #[.slice a6 n6 c6, .slice a7 n7 c7]) (p * 1 / Nat.gcd (p * 1) (q * k)) (q * k / Nat.gcd (p * 1) (q * k))) S4.out.bel HB.out
  clear S4 FZ t0 t1
  go_wp2_with fail
  exact bodyPost_ret (v := .tuple #[.agg #[.slice a6 n6 c6, .slice a7 n7 c7], .bool true]) (by simp [results, Tryz.results9, go_sem, z0, z1]) rfl ⟨_, rfl, Z.out.1, Z.out.2⟩
/-- By their values. -/
theorem Fc.rmulInt {p q N D n k : Nat} (h : Fc p q N D n) (hn : n ≤ 80) (hk : k ≤ 9223372036854775807) : ∃ A B, Fc A B (N * k) D (n + 1) ∧ ∀ v w, RRt w v p q → Calls Tryz.prog 11 #[v, .int .i64 (k : Int)] w (MakesRRB w A B true) := by
  have kk : Fc k 1 k 1 1 := ⟨Nat.gcd_one_right _, by omega, by omega, rfl, by rw [P_one]; omega, by rw [P_one]; omega⟩
  have low := low_terms (p * k) (q * 1) (by rw [Nat.mul_one]; exact h.pos)
  have s1 : p * k < P (n + 1) := mulP_lt h.s1 kk.s1
  have s2 : q * 1 < P (n + 1) := mulP_lt h.s2 kk.s2
  have vv := val_mul h.pos kk.pos h.val kk.val low.2.1
  rw [Nat.mul_one D] at vv
  exact ⟨_, _, ⟨low.1, low.2.2, h.dpos, vv, Nat.lt_of_le_of_lt (Nat.div_le_self _ _) s1, Nat.lt_of_le_of_lt (Nat.div_le_self _ _) s2⟩, fun v w e => rmulInt2_yes v p q k w e (h.rs1 (by omega)) (h.rs2 (by omega)) hk h.pos⟩
theorem Fc.rdivInt {p q N D n k : Nat} (h : Fc p q N D n) (hn : n ≤ 80) (hk : k ≤ 9223372036854775807) (hk0 : 0 < k) : ∃ A B, Fc A B N (D * k) (n + 1) ∧ ∀ v w, RRt w v p q → Calls Tryz.prog 9 #[v, .int .i64 (k : Int)] w (MakesRRB w A B true) := by
  have kk : Fc 1 k 1 k 1 := ⟨Nat.gcd_one_left _, by omega, by omega, rfl, by rw [P_one]; omega, by rw [P_one]; omega⟩
  have low := low_terms (p * 1) (q * k) (Nat.mul_pos h.pos hk0)
  have s1 : p * 1 < P (n + 1) := mulP_lt h.s1 kk.s1
  have s2 : q * k < P (n + 1) := mulP_lt h.s2 kk.s2
  have vv := val_mul h.pos kk.pos h.val kk.val low.2.1
  rw [Nat.mul_one N] at vv
  exact ⟨_, _, ⟨low.1, low.2.2, Nat.mul_pos h.dpos hk0, vv, Nat.lt_of_le_of_lt (Nat.div_le_self _ _) s1, Nat.lt_of_le_of_lt (Nat.div_le_self _ _) s2⟩, fun v w e => rdivInt2_yes v p q k w e (h.rs1 (by omega)) (h.rs2 (by omega)) hk h.pos hk0⟩
end Go.Proofs.YthogfecnbddfoaaGreatDoor

