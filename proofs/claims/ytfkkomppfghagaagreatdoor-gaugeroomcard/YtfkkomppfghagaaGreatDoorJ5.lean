/- Contracts of the program's functions, part 5: own work, joined in build order. -/
import Derived.Test.YtfkkomppfghagaaGreatDoorJ4
import Derived.Deep.RegionHeld3
namespace Go.Proofs.YtfkkomppfghagaaGreatDoor
open Go.RowKit
set_option maxRecDepth 100000
set_option linter.unusedVariables false
theorem V_top2 (Y : Nat → Nat) (k : Nat) : V Y (k + 2) = (Y (k + 1) * 18446744073709551616 + Y k) * P k + V Y k := by
  rw [V_succ, V_succ, P_succ, Nat.add_mul, Nat.mul_assoc (Y (k + 1)), Nat.mul_comm 18446744073709551616]
  omega
theorem ac4 (a b c d : Nat) : b + c + d + a = a + b + c + d := by omega
theorem V_top3 (R : Nat → Nat) (k : Nat) : V R (k + 3) = ((R (k + 2) * 18446744073709551616 + R (k + 1)) * 18446744073709551616 + R k) * P k + V R k := by
  rw [V_succ, V_top2, P_succ, P_succ]
  have e0 : P k * 18446744073709551616 * 18446744073709551616 = 18446744073709551616 * 18446744073709551616 * P k := by rw [Nat.mul_assoc, Nat.mul_comm]
  rw [e0, Nat.add_mul, Nat.add_mul, Nat.add_mul, Nat.add_mul, Nat.mul_assoc (R (k + 2)), Nat.mul_assoc (R (k + 2))]
  exact ac4 _ _ _ _
theorem guess_near {R Y : Nat → Nat} {k : Nat} (hR : Ok R (k + 3)) (hY : Ok Y (k + 2)) (htop : 9223372036854775808 ≤ Y (k + 1)) (hlt : V R (k + 3) < V Y (k + 2) * 18446744073709551616) :
    V R (k + 3) / V Y (k + 2) ≤ guess (R k) (R (k + 1)) (R (k + 2)) (Y k) (Y (k + 1)) ∧ guess (R k) (R (k + 1)) (R (k + 2)) (Y k) (Y (k + 1)) ≤ V R (k + 3) / V Y (k + 2) + 1 ∧ guess (R k) (R (k + 1)) (R (k + 2)) (Y k) (Y (k + 1)) < 18446744073709551616 := by
  have hT := V_top2 Y k
  have hR3 := V_top3 R k
  have hp := P_pos k
  have hyl := V_lt (hY.mono (show k ≤ k + 2 by omega))
  have hrl := V_lt (hR.mono (show k ≤ k + 3 by omega))
  have hYpos : 0 < V Y (k + 2) := by
    have : 1 * P k ≤ (Y (k + 1) * 18446744073709551616 + Y k) * P k := Nat.mul_le_mul_right _ (by omega)
    omega
  have hQ : V R (k + 3) / V Y (k + 2) < 18446744073709551616 := by
    rw [Nat.div_lt_iff_lt_mul hYpos, Nat.mul_comm]
    exact hlt
  unfold guess
  split
  · rename_i h
    refine ⟨by omega, ?_, by omega⟩
    have : 18446744073709551614 ≤ V R (k + 3) / V Y (k + 2) := by
      rw [Nat.le_div_iff_mul_le hYpos]
      have h1 : V Y (k + 2) ≤ (Y (k + 1) + 1) * P (k + 1) := by
        rw [V_succ, Nat.add_mul]
        have := V_lt (hY.mono (show k + 1 ≤ k + 2 by omega))
        omega
      have h2 : R (k + 2) * P (k + 2) ≤ V R (k + 3) := by rw [V_succ]; exact Nat.le_add_left _ _
      have h3 : Y (k + 1) * P (k + 2) ≤ R (k + 2) * P (k + 2) := Nat.mul_le_mul_right _ h
      have h4 : 18446744073709551614 * ((Y (k + 1) + 1) * P (k + 1)) ≤ Y (k + 1) * P (k + 2) := by
        rw [P_succ (k + 1), ← Nat.mul_assoc, Nat.mul_comm (P (k + 1)), ← Nat.mul_assoc]
        exact Nat.mul_le_mul_right _ (by omega)
      have h5 : 18446744073709551614 * V Y (k + 2) ≤ 18446744073709551614 * ((Y (k + 1) + 1) * P (k + 1)) := Nat.mul_le_mul_left _ h1
      exact Nat.le_trans h5 (Nat.le_trans h4 (Nat.le_trans h3 h2))
    omega
  rename_i h
  have hT0 : 0 < Y (k + 1) * 18446744073709551616 + Y k := by omega
  have hr1 := hR (k + 1) (by omega)
  have hr0 := hR k (by omega)
  have hg : ((R (k + 2) * 18446744073709551616 + R (k + 1)) * 18446744073709551616 + R k) / (Y (k + 1) * 18446744073709551616 + Y k) < 18446744073709551616 := by
    rw [Nat.div_lt_iff_lt_mul hT0]
    omega
  exact ⟨guess_ge hR3 hrl hT hT0 rfl, guess_le hR3 hT hyl hT0 hYpos rfl (by omega), hg⟩
theorem take_exact {F Y d bor top p V' : Nat} (h1 : V' + Y * d = F + bor * p) (hV : V' < p) (hYp : Y ≤ p) (hY : 0 < Y) (hlo : (F + top * p) / Y ≤ d) (hle : bor ≤ top) : d = (F + top * p) / Y ∧ V' = (F + top * p) % Y := by
  obtain ⟨t, rfl⟩ : ∃ t, top = bor + t := ⟨top - bor, by omega⟩
  have e : F + (bor + t) * p = Y * d + (V' + t * p) := by rw [Nat.add_mul]; omega
  have hd : d = (F + (bor + t) * p) / Y := by
    refine Nat.le_antisymm ?_ hlo
    rw [Nat.le_div_iff_mul_le hY, e, Nat.mul_comm]
    exact Nat.le_add_right _ _
  have hm : V' + t * p < Y := by
    have h2 := Nat.div_add_mod (F + (bor + t) * p) Y
    rw [← hd, e] at h2
    have h3 : (Y * d + (V' + t * p)) % Y < Y := Nat.mod_lt _ hY
    omega
  have ht : t = 0 := by
    rcases Nat.eq_zero_or_pos t with h0 | h0
    · exact h0
    have : 1 * p ≤ t * p := Nat.mul_le_mul_right _ h0
    omega
  subst ht
  refine ⟨hd, ?_⟩
  rw [e, Nat.mul_add_mod, Nat.zero_mul, Nat.add_zero, Nat.mod_eq_of_lt (by omega)]
theorem take_mend {F Y d bor top p V' V'' c : Nat} (h1 : V' + Y * d = F + bor * p) (hV : V' < p) (hV2 : V'' < p) (hYp : Y ≤ p) (hY : 0 < Y) (hhi : d ≤ (F + top * p) / Y + 1) (hgt : top < bor) (h2 : V'' + c * p = V' + Y) (hc : c ≤ 1) (htop : F + top * p < Y * p) :
    0 < d ∧ d - 1 = (F + top * p) / Y ∧ V'' = (F + top * p) % Y := by
  obtain ⟨t, rfl⟩ : ∃ t, bor = top + 1 + t := ⟨bor - top - 1, by omega⟩
  have hlt : F + top * p < Y * d := by
    have : (top + 1 + t) * p = top * p + p + t * p := by rw [Nat.add_mul, Nat.add_mul, Nat.one_mul]
    omega
  have hd0 : 0 < d := by
    rcases Nat.eq_zero_or_pos d with h0 | h0
    · subst h0; omega
    exact h0
  have hdq : (F + top * p) / Y < d := (Nat.div_lt_iff_lt_mul hY).2 (by rw [Nat.mul_comm d]; exact hlt)
  have hd : d = (F + top * p) / Y + 1 := Nat.le_antisymm hhi hdq
  have h3 := Nat.div_add_mod (F + top * p) Y
  have h4 : (F + top * p) % Y < Y := Nat.mod_lt _ hY
  refine ⟨hd0, by rw [hd, Nat.add_sub_cancel], ?_⟩
  have e1 : Y * d = Y * ((F + top * p) / Y) + Y := by rw [hd, Nat.mul_add, Nat.mul_one]
  have e2 : (top + 1 + t) * p = top * p + p + t * p := by rw [Nat.add_mul, Nat.add_mul, Nat.one_mul]
  rw [e1, e2] at h1
  generalize (F + top * p) % Y = m at *
  generalize Y * ((F + top * p) / Y) = z at *
  generalize top * p = tp at *
  have ht : t = 0 := by
    rcases Nat.eq_zero_or_pos t with h0 | h0
    · exact h0
    have : 1 * p ≤ t * p := Nat.mul_le_mul_right _ h0
    omega
  subst ht
  have : c = 0 ∨ c = 1 := by omega
  rcases this with rfl | rfl <;> omega
def Took (w w' : World) (b N o k : Nat) (F Y : Nat → Nat) (d : Nat) (H : Nat → Nat) : Prop :=
  Row w' b N H ∧ (∀ j, j < o ∨ o + k + 3 ≤ j → H j = F j) ∧ H (o + k + 2) = 0 ∧ d = V (fro F o) (k + 3) / V Y (k + 2) ∧ V (fro H o) (k + 2) = V (fro F o) (k + 3) % V Y (k + 2) ∧ w.grownBy w' (some b)
theorem guess_any (b o cap b' o' cap' : Nat) (r0 r1 r2 y0 y1 G : Nat) (w : World) (hG : G = guess r0 r1 r2 y0 y1) (hr0 : w.cell? ⟨b, o, none⟩ = some (.int .u64 (r0 : Int))) (hr1 : w.cell? ⟨b, o + 1, none⟩ = some (.int .u64 (r1 : Int))) (hr2 : w.cell? ⟨b, o + 2, none⟩ = some (.int .u64 (r2 : Int)))
    (hy0 : w.cell? ⟨b', o', none⟩ = some (.int .u64 (y0 : Int))) (hy1 : w.cell? ⟨b', o' + 1, none⟩ = some (.int .u64 (y1 : Int))) (l0 : r0 < 18446744073709551616) (l1 : r1 < 18446744073709551616) (m0 : y0 < 18446744073709551616) (m1 : y1 < 18446744073709551616) :
    Calls Tryz.prog 159 #[.slice (some ⟨b, o, none⟩) 3 cap, .slice (some ⟨b', o', none⟩) 2 cap'] w fun e w' => e = .returned (.int .u64 (G : Int)) ∧ ∃ n, w' = w.drewN n := by
  by_cases h : y1 ≤ r2
  · have hg : G = 18446744073709551615 := by rw [hG, guess, if_pos h]
    refine (guess_top b o cap b' o' cap' r2 y1 w hr2 hy1 h).mono fun e w' hh => ⟨hh.1.trans ?_, hh.2⟩
    rw [hg]
    rfl
  exact guess_low b o cap b' o' cap' r0 r1 r2 y0 y1 G w (by rw [hG, guess, if_neg h]) hr0 hr1 hr2 hy0 hy1 (by omega) l0 l1 m0 m1
set_option maxHeartbeats 2000000 in
theorem take_any (b N o k cap b' o' cap' : Nat) (F Y : Nat → Nat) (w : World) (hF : Row w b N F) (hY : Sl w (some ⟨b', o', none⟩) (k + 2) cap' Y) (ho : o + k + 3 ≤ N) (hk : k ≤ 4294967296) (hc : k + 3 ≤ cap) (hne : b' ≠ b)
    (htop : 9223372036854775808 ≤ Y (k + 1)) (hlt : V (fro F o) (k + 3) < V Y (k + 2) * 18446744073709551616) :
    Calls Tryz.prog 151 #[.slice (some ⟨b, o, none⟩) (k + 3) cap, .slice (some ⟨b', o', none⟩) (k + 2) cap'] w fun e w' => ∃ d : Nat, e = .returned (.int .u64 (d : Int)) ∧ ∃ H, Took w w' b N o k F Y d H := by
  obtain ⟨b2, o2, eb, hw⟩ := hY.at 0 (by omega)
  cases eb
  have hR : Ok (fro F o) (k + 3) := fun i hi => hF.2 _ (by omega)
  obtain ⟨g1, g2, g3⟩ := guess_near hR hY.2.2.1 htop hlt
  obtain ⟨G, hG⟩ : ∃ G, G = guess (fro F o k) (fro F o (k + 1)) (fro F o (k + 2)) (Y k) (Y (k + 1)) := ⟨_, rfl⟩
  rw [← hG] at g1 g2 g3
  have hcap' : k + 2 ≤ cap' := hY.1
  have hr0 : w.cell? ⟨b, o + k, none⟩ = some (.int .u64 (fro F o k : Nat)) := hF.cell (by omega)
  have hr1 : w.cell? ⟨b, o + k + 1, none⟩ = some (.int .u64 (fro F o (k + 1) : Nat)) := hF.cell (by omega)
  have hr2 : w.cell? ⟨b, o + k + 2, none⟩ = some (.int .u64 (fro F o (k + 2) : Nat)) := hF.cell (by omega)
  have hy0 : w.cell? ⟨b', o' + k, none⟩ = some (.int .u64 (Y k : Nat)) := hw k (by omega)
  have hy1 : w.cell? ⟨b', o' + k + 1, none⟩ = some (.int .u64 (Y (k + 1) : Nat)) := hw (k + 1) (by omega)
  have HH : Hid (Row w b N F ∧ Sl w (some ⟨b', o', none⟩) (k + 2) cap' Y ∧ V (fro F o) (k + 3) / V Y (k + 2) ≤ G ∧ G ≤ V (fro F o) (k + 3) / V Y (k + 2) + 1 ∧ V (fro F o) (k + 3) < V Y (k + 2) * 18446744073709551616) := ⟨hF, hY, g1, g2, hlt⟩
  have GG := fun w' nd (e : w' = w.drewN nd) => guess_any b (o + k) (cap - k) b' (o' + k) (cap' - k) _ _ _ _ _ G w' hG (by rw [e]; exact hr0) (by rw [e]; exact hr1) (by rw [e]; exact hr2) (by rw [e]; exact hy0) (by rw [e]; exact hy1) (hR _ (by omega)) (hR _ (by omega)) (hY.2.2.1 _ (by omega)) (hY.2.2.1 _ (by omega))
  have GH : Hid _ := GG
  have d1 : ¬ cap = k := by omega
  have d2 : ¬ cap' = k := by omega
  have hcI : (k : Int) + 3 ≤ cap := by omega
  have hcI' : (k : Int) + 2 ≤ cap' := by omega
  clear hF hY hG g1 g2 hlt hR hw GG hr0 hr1 hr2 hy0 hy1
  go_enter Tryz.func151, Tryz.ntmps151
  go_wp2_with fail
  go_quiet ((go_at_call 159; exact Calls.quiet_of (GH.out _ _ rfl)))
  go_wp2_with fail
  refine (subProduct_any b N o (k + 3) cap F (some ⟨b', o', none⟩) (k + 2) cap' Y G (w.drewN nq) HH.out.1 HH.out.2.1 (by omega) (by omega) (by omega) (by omega) g3 (fun b2 o2 e => by cases e; exact hne)).mono ?_
  rintro e w1 ⟨c, rfl, H, hP⟩
  obtain ⟨p1, p2, p3, p4, p5⟩ := hP
  have p5' : w.grownBy w1 (some b) := ⟨p5.os, p5.tape, p5.output, p5.size, p5.block⟩
  have htc : H (o + k + 2) = F (o + k + 2) := p2 _ (by omega)
  have hct : w1.cell? ⟨b, o + (k + 2), none⟩ = some (.int .u64 (F (o + k + 2) : Nat)) := by rw [← htc]; exact p1.cell (by omega)
  have hft : w1.frozen? ⟨b, o + (k + 2), none⟩ = false := p1.frozen _
  have hsum : V (fro F o) (k + 3) = V (fro F o) (k + 2) + F (o + k + 2) * P (k + 2) := V_succ ..
  have hYlt : V Y (k + 2) < P (k + 2) := V_lt HH.out.2.1.2.2.1
  have hY0 : 0 < V Y (k + 2) := by
    have h1 := HH.out.2.2.2.2
    rcases Nat.eq_zero_or_pos (V Y (k + 2)) with h0 | h0
    · rw [h0] at h1; omega
    exact h0
  have hHlt : V (fro H o) (k + 2) < P (k + 2) := V_lt fun i hi => p1.2 _ (by omega)
  by_cases hle : c ≤ F (o + k + 2)
  · have hdl : decide (F (o + k + 2) < c) = false := decide_eq_false (by omega)
    obtain ⟨t1, t2⟩ := take_exact p4 hHlt (Nat.le_of_lt hYlt) hY0 (by rw [← hsum]; exact HH.out.2.2.1) hle
    rw [← hsum] at t1 t2
    have T : Hid (Took w (w1.setCell ⟨b, o + (k + 2), none⟩ (.int .u64 0)) b N o k F Y G (put H (o + (k + 2)) 0)) := by
      refine ⟨p1.set (o + (k + 2)) (v := 0) (by omega), fun j hj => ?_, put_same _ _ _, t1, ?_, grown_set _ p5' _ _⟩
      · rw [put_other _ _ (by omega)]
        exact p2 j (by omega)
      rw [V_put]
      exact t2
    clear p1 p2 p3 p4 p5 p5' htc hsum t1 t2 hYlt hY0 hHlt hle
    go_wp2_with fail
    go_ret
    exact ⟨G, rfl, _, T.out⟩
  have hdl : decide (F (o + k + 2) < c) = true := decide_eq_true (by omega)
  have HP : Hid (Row w1 b N H ∧ (∀ j, j < o ∨ o + (k + 2) ≤ j → H j = F j) ∧ V (fro H o) (k + 2) + V Y (k + 2) * G = V (fro F o) (k + 2) + c * P (k + 2) ∧ w.grownBy w1 (some b)) := ⟨p1, p2, p4, p5'⟩
  have hG0 : 0 < G := by
    rcases Nat.eq_zero_or_pos G with h0 | h0
    · exfalso
      rw [h0, Nat.mul_zero] at p4
      have h2 : (F (o + k + 2) + 1) * P (k + 2) ≤ c * P (k + 2) := Nat.mul_le_mul_right _ (by omega)
      have h3 : 1 * P (k + 2) ≤ (F (o + k + 2) + 1) * P (k + 2) := Nat.mul_le_mul_right _ (by omega)
      omega
    exact h0
  obtain ⟨v, hv⟩ : ∃ v, v = G - 1 := ⟨_, rfl⟩
  have ev : ((G : Nat) : Int) - 1 = ((v : Nat) : Int) := by omega
  have vl : v < 18446744073709551616 := by omega
  have HV : Hid (v = G - 1) := hv
  have B1 : Sl w1 (some ⟨b', o', none⟩) (k + 2) cap' Y := by
    obtain ⟨s1, s2, s3, s4⟩ := HH.out.2.1
    refine ⟨s1, s2, s3, .inr ⟨b', o', rfl, ?_⟩⟩
    rcases s4 with s4 | ⟨b2, o2, e2, hw2⟩
    · omega
    cases e2
    exact hw2.kept p5' (by simpa using hne)
  have HB1 : Hid _ := B1
  have HT : Hid _ := And.intro hsum (And.intro hYlt (And.intro hY0 hHlt))
  clear p1 p2 p3 p4 p5 p5' htc hsum hYlt hY0 hHlt hle hv B1
  go_wp2_with fail
  refine (addWords_any b N o (k + 2) cap H (some ⟨b', o', none⟩) (k + 2) cap' Y w1 HP.out.1 HB1.out (by omega) (by omega) (Nat.le_refl _) (fun b2 o2 e => by cases e; exact hne)).mono ?_
  rintro e w2 ⟨c2, rfl, H2, q1, q2, q3, q4, q5⟩
  have hct2 : w2.cell? ⟨b, o + (k + 2), none⟩ = some (.int .u64 (H2 (o + (k + 2)) : Nat)) := q1.cell (by omega)
  have hft2 : w2.frozen? ⟨b, o + (k + 2), none⟩ = false := q1.frozen _
  have T : Hid (Took w (w2.setCell ⟨b, o + (k + 2), none⟩ (.int .u64 0)) b N o k F Y v (put H2 (o + (k + 2)) 0)) := by
    obtain ⟨z1, z2, z3, z4⟩ := HT.out
    obtain ⟨y1, y2, y3, y4⟩ := HP.out
    have hH2 : V (fro H2 o) (k + 2) < P (k + 2) := V_lt fun i hi => q1.2 _ (by omega)
    have hmx : V (fro F o) (k + 2) + F (o + k + 2) * P (k + 2) < V Y (k + 2) * P (k + 2) := by
      rw [← z1]
      refine Nat.lt_of_lt_of_le HH.out.2.2.2.2 (Nat.mul_le_mul_left _ ?_)
      rw [← P_one]
      exact P_le (by omega)
    obtain ⟨m1, m2, m3⟩ := take_mend y3 z4 hH2 (Nat.le_of_lt z2) z3 (by rw [← z1]; exact HH.out.2.2.2.1) (by have := of_decide_eq_true hdl; omega) q4 q3 hmx
    rw [← z1] at m2 m3
    refine ⟨q1.set (o + (k + 2)) (v := 0) (by omega), fun j hj => ?_, put_same _ _ _, by rw [HV.out]; exact m2, ?_, grown_set _ (grown_trans y4 q5) _ _⟩
    · rw [put_other _ _ (by omega), q2 j (by omega)]
      exact y2 j (by omega)
    rw [V_put]
    exact m3
  clear q1 q2 q3 q4 q5
  go_wp2_with fail
  go_ret
  exact ⟨v, rfl, _, T.out⟩
theorem slice_at (g s n len cap : Nat) (l h : Int) (hl : l = s) (hh : h = ((s + n : Nat) : Int)) (hc : s + n ≤ cap) (hn : 0 < n) (w : World) :
    (Instr.slice 43 (.slice (some ⟨g, 0, none⟩) len cap) (some (.int .i64 l)) (some (.int .i64 h)) none).run Tryz.prog w = .ok (.slice (some ⟨g, s, none⟩) n (cap - s)) w := by
  subst hl hh
  rw [run_slice_lh (P := Tryz.prog) (kl := .i64) (kh := .i64) (l := (s : Int)) (h := ((s + n : Nat) : Int)) (ht := by kernel_rfl) (h0 := by omega) (h1 := by omega) (h2 := by omega)]
  have hz : (sizeOf (Tryz.prog.elem 43)).run Tryz.prog w = .ok 1 w := by kernel_rfl
  have hne : ¬ cap = s := by omega
  rw [hz]
  simp only [Result.andThen, sliced, Int.toNat_natCast, Nat.add_sub_cancel_left, Nat.mul_one, if_neg hne, Option.map_some]
  congr 3
  unfold Addr.add
  split <;> simp_all
def PQ (wr : World) (g1 g2 k m x t : Nat) (Y R Qf : Nat → Nat) : Prop :=
  Row wr g1 (m + k + 2) R ∧ Row wr g2 m Qf ∧ x = V Y (k + 2) * (P t * V (fro Qf t) (m - t)) + V R (t + k + 2) ∧ V (fro R t) (k + 2) < V Y (k + 2) ∧ ∀ j, t + k + 2 ≤ j → j < m + k + 2 → R j = 0
theorem pq_start {wr : World} {g1 g2 k m : Nat} {Y R Qf : Nat → Nat} (h1 : Row wr g1 (m + k + 2) R) (h2 : Row wr g2 m Qf) (hz : R (m + k + 1) = 0) (hY : 0 < Y (k + 1)) : PQ wr g1 g2 k m (V R (m + k + 2)) m Y R Qf := by
  refine ⟨h1, h2, by rw [Nat.sub_self, V_zero]; simp, ?_, fun j a b => by omega⟩
  rw [V_succ, show fro R m (k + 1) = 0 from hz, Nat.zero_mul, Nat.add_zero]
  have a1 := V_lt (F := fro R m) (n := k + 1) fun i hi => h1.2 _ (by omega)
  have a2 := V_long (F := Y) (n := k + 2) (m := k + 1) (by omega) (by show Y (k + 1) ≠ 0; omega)
  omega
theorem pq_lt {wr : World} {g1 g2 k m x t : Nat} {Y R Qf : Nat → Nat} (h : PQ wr g1 g2 k m x (t + 1) Y R Qf) (ht : t < m) : V (fro R t) (k + 3) < V Y (k + 2) * 18446744073709551616 := by
  obtain ⟨h1, h2, h3, h4, h5⟩ := h
  rw [V_cons]
  have e : V (fun i => fro R t (1 + i)) (k + 2) = V (fro R (t + 1)) (k + 2) := V_congr fun i hi => by show R (t + (1 + i)) = R (t + 1 + i); rw [Nat.add_assoc]
  rw [e]
  have hR : fro R t 0 < 18446744073709551616 := h1.2 _ (by omega)
  have : (V (fro R (t + 1)) (k + 2) + 1) * 18446744073709551616 ≤ V Y (k + 2) * 18446744073709551616 := Nat.mul_le_mul_right _ h4
  omega
theorem pq_lin (x Y p q U r d z : Nat) (h : x = Y * (p * 18446744073709551616 * U) + (z + p * (Y * d + r))) : x = Y * (p * (d + 18446744073709551616 * U)) + (z + p * r) := by
  rw [h, Nat.mul_add p d, Nat.mul_add Y, Nat.mul_add p (Y * d), Nat.mul_left_comm Y p d, Nat.mul_assoc p]
  omega
theorem pq_step {w1 w2 : World} {g1 g2 k m x t d : Nat} {Y R Qf H : Nat → Nat} (h : PQ w1 g1 g2 k m x (t + 1) Y R Qf) (ht : t < m) (hT : Took w1 w2 g1 (m + k + 2) t k R Y d H) (hg : g1 ≠ g2) (hd : d < 18446744073709551616) (hY0 : 0 < V Y (k + 2)) :
    PQ (w2.setCell ⟨g2, t, none⟩ (.int .u64 (d : Int))) g1 g2 k m x t Y H (put Qf t d) := by
  obtain ⟨h1, h2, h3, h4, h5⟩ := h
  obtain ⟨t1, t2, t3, t4, t5, t6⟩ := hT
  refine ⟨⟨t1.1.setOther (by simpa using hg) _, t1.2⟩, (h2.kept t6 (by simpa using Ne.symm hg)).set t hd, ?_, ?_, fun j a b => ?_⟩
  · have e1 : V (fro (put Qf t d) t) (m - t) = d + 18446744073709551616 * V (fro Qf (t + 1)) (m - (t + 1)) := by
      rw [show m - t = (m - (t + 1)) + 1 by omega, V_cons]
      congr 1
      · exact put_same _ _ _
      congr 1
      refine V_congr fun i hi => ?_
      show put Qf t d (t + (1 + i)) = Qf (t + 1 + i)
      rw [put_other _ _ (by omega), show t + (1 + i) = t + 1 + i by omega]
    have e2 : V R (t + 1 + k + 2) = V R t + P t * V (fro R t) (k + 3) := by rw [show t + 1 + k + 2 = t + (k + 3) by omega, V_split]; rfl
    have e3 : V H (t + k + 2) = V R t + P t * V (fro H t) (k + 2) := by
      rw [Nat.add_assoc, V_split, V_congr (F := H) (G := R) fun i hi => t2 i (.inl hi)]
      rfl
    have e4 := Nat.div_add_mod (V (fro R t) (k + 3)) (V Y (k + 2))
    rw [← t4, ← t5] at e4
    rw [e1, e3]
    refine pq_lin _ _ _ 0 _ _ _ _ ?_
    rw [h3, e2, P_succ, e4]
  · rw [t5]
    exact Nat.mod_lt _ hY0
  by_cases e : j = t + k + 2
  · rw [e]; exact t3
  rw [t2 j (.inr (by omega))]
  exact h5 j (by omega) b
theorem take_pq (wr : World) (g1 g2 yb k m x s cap b' o' cap' : Nat) (Y R Qf : Nat → Nat) (yv : Value) (hP : PQ wr g1 g2 k m x (s + 1) Y R Qf) (hY : Sl wr (some ⟨b', o', none⟩) (k + 2) cap' Y) (hs : s < m) (hk : k ≤ 4294967296) (hc : k + 3 ≤ cap) (hne : b' ≠ g1) (hg : g1 ≠ g2) (hyg : yb ≠ g1)
    (htop : 9223372036854775808 ≤ Y (k + 1)) (hyc : wr.cell? ⟨yb, 0, none⟩ = some yv) :
    Calls Tryz.prog 151 #[.slice (some ⟨g1, s, none⟩) (k + 3) cap, .slice (some ⟨b', o', none⟩) (k + 2) cap'] wr fun e w2 => ∃ d : Nat, e = .returned (.int .u64 (d : Int)) ∧ ∃ H, Hid (PQ (w2.setCell ⟨g2, s, none⟩ (.int .u64 (d : Int))) g1 g2 k m x s Y H (put Qf s d) ∧ wr.grownBy w2 (some g1)) ∧ w2.cell? ⟨yb, 0, none⟩ = some yv ∧ w2.cell? ⟨g2, s, none⟩ = some (.int .u64 (Qf s : Nat)) ∧ w2.frozen? ⟨g2, s, none⟩ = false := by
  refine (take_any g1 (m + k + 2) s k cap b' o' cap' R Y wr hP.1 hY (by omega) hk hc hne htop (pq_lt hP hs)).mono ?_
  rintro e w2 ⟨d, rfl, H, hT⟩
  have hY0 : 0 < V Y (k + 2) := by have := hP.2.2.2.1; omega
  have hd : d < 18446744073709551616 := by
    rw [hT.2.2.2.1, Nat.div_lt_iff_lt_mul hY0, Nat.mul_comm]
    exact pq_lt hP hs
  have hkp := hP.2.1.kept hT.2.2.2.2.2 (by simpa using Ne.symm hg)
  exact ⟨d, rfl, H, ⟨pq_step hP hs hT hg hd hY0, hT.2.2.2.2.2⟩, hT.2.2.2.2.2.cell hyc (by simpa using hyg), hkp.cell hs, hkp.frozen s⟩
def MakesQR (w : World) (x y : Nat) (e : Ending) (w' : World) : Prop := ∃ v u, e = .returned (.tuple #[v, u]) ∧ IsNat w' v x ∧ IsNat w' u y ∧ Below w.heap.size w w'
set_option maxHeartbeats 2000000 in
theorem plainQ_any (a : Option Addr) (lx cap : Nat) (b' o' k cap' m : Nat) (X Y : Nat → Nat) (w : World) (hX : Sl w a lx cap X) (hY : Sl w (some ⟨b', o', none⟩) (k + 2) cap' Y) (hlx : lx + 1 = m + k + 2) (hm : 0 < m) (hx : lx ≤ 4294967296) (htop : 9223372036854775808 ≤ Y (k + 1)) :
    Calls Tryz.prog 138 #[.agg #[.slice a lx cap], .agg #[.slice (some ⟨b', o', none⟩) (k + 2) cap']] w (MakesQR w (V X lx / V Y (k + 2)) (V X lx % V Y (k + 2))) := by
  have HH : Hid (Sl w a lx cap X ∧ Sl w (some ⟨b', o', none⟩) (k + 2) cap' Y) := ⟨hX, hY⟩
  obtain ⟨b2, o2, eb, hw⟩ := hY.at 0 (by omega)
  cases eb
  have hb' : b' < w.heap.size := World.block_lt_of_cell? _ _ (hw 0 (by omega))
  have hd0 : decide ((lx : Int) < (k : Int) + 2) = false := decide_eq_false (by omega)
  have mk1 := make_at ((lx : Int) + 1) ((lx : Int) + 1) (lx + 1) (lx + 1) (by omega) (by omega) (Nat.le_refl _) (by omega)
  have mk2 := make_at ((lx : Int) + 1 - ((k : Int) + 2)) ((lx : Int) + 1 - ((k : Int) + 2)) m m (by omega) (by omega) (Nat.le_refl _) (by omega)
  have HB : Hid (Below w.heap.size w (((((w.alloc (.cells #[.slice a lx cap] 45)).alloc (.cells #[.slice (some ⟨b', o', none⟩) (k + 2) cap'] 45)).alloc (.cells #[.slice none 0 0] 45)).alloc (.cells #[.slice none 0 0] 45)).alloc (.cells (zeros (lx + 1)) 82))) := (((bel_alloc2 _ _ _).alloc (by simp <;> omega) _).alloc (by simp <;> omega) _).alloc (by simp <;> omega) _
  have HLX : Hid (lx + 1 = m + k + 2) := hlx
  have hkl : k + 2 ≤ lx + 1 := by omega
  have hml : m ≤ lx := by omega
  clear hX hY hw hlx
  go_enter Tryz.func138, Tryz.ntmps138
  go_wp2_with (refine (id ?_ : wpList Tryz.prog _ _ (⟨some 28, _, _, _, _, _⟩ :: _) _ _); refine wpList_copy_words rfl (.tmp 25) (.tmp 27) rfl _ _ _ _ _ _ _ rfl rfl (lx + 1) (fun _ => 0) X (row_zeros_at _ (lx + 1) _ (by simp)) (HH.out.1.mono HB.out) (by omega) (by omega) ?_)
  intro w1 hR1 hg1
  have c1 : w1.cell? ⟨w.heap.size + 1, 0, none⟩ = some (.slice (some ⟨b', o', none⟩) (k + 2) cap') := hg1.cell (by simp [go_sem]) (by simp <;> omega)
  have c2 : w1.cell? ⟨w.heap.size + 1 + 1, 0, none⟩ = some (.slice none 0 0) := hg1.cell (by simp [go_sem]) (by simp <;> omega)
  have c3 : w1.cell? ⟨w.heap.size + 1 + 1 + 1, 0, none⟩ = some (.slice none 0 0) := hg1.cell (by simp [go_sem]) (by simp <;> omega)
  have f2 : w1.frozen? ⟨w.heap.size + 1 + 1, 0, none⟩ = false := (World.frozen?_of_block (hg1.block _ (by simp <;> omega) (by simp <;> omega))).trans (by simp [go_sem])
  have f3 : w1.frozen? ⟨w.heap.size + 1 + 1 + 1, 0, none⟩ = false := (World.frozen?_of_block (hg1.block _ (by simp <;> omega) (by simp <;> omega))).trans (by simp [go_sem])
  have hs1 : w.heap.size + 1 + 1 + 1 + 1 < w1.heap.size := hR1.1.lt
  have B1 : Hid (Below w.heap.size w w1) := HB.out.grown hg1 (by simp <;> omega) (fun k hk => by cases hk; omega)
  have R1 : Hid (Row w1 (w.heap.size + 1 + 1 + 1 + 1) (lx + 1) (over (fun _ => 0) 0 X lx)) := hR1
  clear hR1 hg1 HB mk1
  go_wp2_with fail
  go_loopw [9] (fun q wr => ∃ (t : Nat) (R Qf : Nat → Nat), t ≤ m ∧ q = .int .i64 ((t : Int) - 1) ∧ PQ wr (w.heap.size + 1 + 1 + 1 + 1) w1.heap.size k m (V X lx) t Y R Qf ∧ Below (w.heap.size + 1 + 1 + 1 + 1) w1 wr) (fun q _ => (intOf q + 1).toNat)
  case atStart =>
    refine ⟨m, over (fun _ => 0) 0 X lx, fun _ => 0, Nat.le_refl _, rfl, ?_, (Below.refl _ _).alloc (by omega) _⟩
    have r1 := R1.out.below ((Below.refl _ _).alloc (Nat.le_refl _) (.cells (zeros m) 82))
    have hlx : lx + 1 = m + k + 2 := HLX.out
    rw [hlx] at r1
    have := pq_start r1 (row_zeros_at w1 m w1.heap.size rfl) (Y := Y) (by rw [over_out _ _ _ _ (.inr (by omega))]) (by omega)
    have e : V (over (fun _ => 0) 0 X lx) (m + k + 2) = V X lx := by
      rw [V_top (m := lx) (by omega) fun i a b => over_out _ _ _ _ (.inr (by omega)), V_over0]
    rw [e] at this
    exact this
  case round =>
    clear mk2
    obtain ⟨t, R, Qf, ht, rfl, hP, hB⟩ := hrel
    have hc1 : wr.cell? ⟨w.heap.size + 1, 0, none⟩ = some (.slice (some ⟨b', o', none⟩) (k + 2) cap') := (hB.cell (by simp <;> omega)).trans c1
    have HY2 : Hid (Sl wr (some ⟨b', o', none⟩) (k + 2) cap' Y) := by
      obtain ⟨s1, s2, s3, s4⟩ := HH.out.2.mono B1.out
      refine ⟨s1, s2, s3, s4.imp id ?_⟩
      rintro ⟨b2, o2, e2, hw2⟩
      cases e2
      exact ⟨b', o', rfl, fun i hi => (hB.cell (by simp <;> omega)).trans (hw2 i hi)⟩
    by_cases ht0 : t = 0
    · subst ht0
      have HBB : Hid (Below (w.heap.size + 1 + 1 + 1 + 1) w1 wr) := hB
      have hc2 : wr.cell? ⟨w.heap.size + 1 + 1, 0, none⟩ = some (.slice none 0 0) := (hB.cell (by simp <;> omega)).trans c2
      have hc3 : wr.cell? ⟨w.heap.size + 1 + 1 + 1, 0, none⟩ = some (.slice none 0 0) := (hB.cell (by simp <;> omega)).trans c3
      have hf2 : wr.frozen? ⟨w.heap.size + 1 + 1, 0, none⟩ = false := (hB.frozen (by simp <;> omega)).trans f2
      have hf3 : wr.frozen? ⟨w.heap.size + 1 + 1 + 1, 0, none⟩ = false := (hB.frozen (by simp <;> omega)).trans f3
      have HP : Hid (PQ wr (w.heap.size + 1 + 1 + 1 + 1) w1.heap.size k m (V X lx) 0 Y R Qf) := hP
      have B2 : Hid (Below w.heap.size w wr) := B1.out.trans (hB.mono (by omega))
      have HR : Hid (V Qf m = V X lx / V Y (k + 2) ∧ V R (lx + 1) = V X lx % V Y (k + 2)) := by
        obtain ⟨p1, p2, p3, p4, p5⟩ := hP
        rw [P_zero, Nat.one_mul, fro_zero, Nat.sub_zero, Nat.zero_add] at p3
        rw [fro_zero] at p4
        have e1 : V R (lx + 1) = V R (k + 2) := V_top (by omega) fun i a b => p5 i (by omega) (by have := HLX.out; omega)
        show V Qf m = _ ∧ _
        rw [e1, p3, Nat.mul_add_div (by omega), Nat.div_eq_of_lt p4, Nat.add_zero, Nat.mul_add_mod, Nat.mod_eq_of_lt p4]
        exact ⟨rfl, rfl⟩
      clear hP hB
      go_wp2_with fail
      refine (trimmed_any _ m m Qf wr (by have := HP.out.2.1.sl (o := 0) (n := m) (cap := m) (by omega) (Nat.le_refl _) (by omega); rw [fro_zero] at this; exact this) (by omega)).mono ?_
      rintro e w3 ⟨v3, rfl, hv3, hb3⟩
      have HV3 : Hid (IsNat w3 v3 (V Qf m)) := hv3
      have d2 : w3.cell? ⟨w.heap.size + 1 + 1, 0, none⟩ = some (.slice none 0 0) := cell_later hb3 hc2
      have d3 : w3.cell? ⟨w.heap.size + 1 + 1 + 1, 0, none⟩ = some (.slice none 0 0) := cell_later hb3 hc3
      have g2 : w3.frozen? ⟨w.heap.size + 1 + 1, 0, none⟩ = false := (hb3.frozen (World.block_lt_of_cell? _ _ hc2)).trans hf2
      have g3 : w3.frozen? ⟨w.heap.size + 1 + 1 + 1, 0, none⟩ = false := (hb3.frozen (World.block_lt_of_cell? _ _ hc3)).trans hf3
      have R3 : Hid (Row w3 (w.heap.size + 1 + 1 + 1 + 1) (lx + 1) R) := by have := HP.out.1.below hb3; rw [← HLX.out] at this; exact this
      have B3 : Hid (Below w.heap.size w w3) := bel_trans B2.out hb3
      obtain ⟨a3, n3, cap3, rfl⟩ := hv3.isAgg
      clear hv3 hb3 hc2 hc3 hf2 hf3 B2 HP
      go_wp2_with fail
      refine (trimmed_any _ (lx + 1) (lx + 1) R w3 (by have := R3.out.sl (o := 0) (n := lx + 1) (cap := lx + 1) (by omega) (Nat.le_refl _) (by omega); rw [fro_zero] at this; exact this) (by omega)).mono ?_
      rintro e w4 ⟨v4, rfl, hv4, hb4⟩
      have d4 : w4.cell? ⟨w.heap.size + 1 + 1, 0, none⟩ = some (.slice none 0 0) := cell_later hb4 d2
      have d5 : w4.cell? ⟨w.heap.size + 1 + 1 + 1, 0, none⟩ = some (.slice none 0 0) := cell_later hb4 d3
      have g4 : w4.frozen? ⟨w.heap.size + 1 + 1, 0, none⟩ = false := (hb4.frozen (World.block_lt_of_cell? _ _ d2)).trans g2
      have g5 : w4.frozen? ⟨w.heap.size + 1 + 1 + 1, 0, none⟩ = false := (hb4.frozen (World.block_lt_of_cell? _ _ d3)).trans g3
      have HV4 : Hid (IsNat w4 v4 (V R (lx + 1)) ∧ IsNat w4 (.agg #[.slice a3 n3 cap3]) (V Qf m)) := ⟨hv4, HV3.out.mono hb4⟩
      have B4 : Hid (Below w.heap.size w w4) := bel_trans B3.out hb4
      obtain ⟨a4, n4, cap4, rfl⟩ := hv4.isAgg
      clear hv4 hb4 d2 d3 g2 g3 B3 HV3
      go_wp2_with fail
      have n1 : ∀ kk q, (w4.setCell ⟨w.heap.size + 1 + 1, 0, none⟩ (.slice a3 n3 cap3)).cell? ⟨w.heap.size + 1 + 1 + 1, 0, none⟩ ≠ some (.int kk q) := by
        rw [World.cell?_setCell_far _ _ _ _ (by simp)]
        exact no_int_slice d5
      refine bodyPost_ret (v := .tuple #[.agg #[.slice a3 n3 cap3], .agg #[.slice a4 n4 cap4]]) (by simp [results, Tryz.results138, go_sem, d4, d5]) rfl ⟨_, _, rfl, ?_, ?_, (B4.out.setCell (by simp <;> omega) _).setCell (by simp <;> omega) _⟩
      · rw [← HR.out.1]
        exact (HV4.out.2.setCell (no_int_slice d4) _).setCell n1 _
      rw [← HR.out.2]
      exact (HV4.out.1.setCell (no_int_slice d4) _).setCell n1 _
    obtain ⟨s, rfl⟩ : ∃ s, t = s + 1 := ⟨t - 1, by omega⟩
    have HP : Hid (PQ wr (w.heap.size + 1 + 1 + 1 + 1) w1.heap.size k m (V X lx) (s + 1) Y R Qf) := hP
    have HBB : Hid (Below (w.heap.size + 1 + 1 + 1 + 1) w1 wr) := hB
    have hq2 : wr.cell? ⟨w1.heap.size, s, none⟩ = some (.int .u64 (Qf s : Nat)) := hP.2.1.cell (by omega)
    have hY0 : 0 < V Y (k + 2) := by have := hP.2.2.2.1; omega
    have hlt := pq_lt hP (by omega)
    have hsk : s + k + 3 ≤ m + k + 2 := by omega
    have hs' : (s : Int) < m := by omega
    have hne1 : b' ≠ w.heap.size + 1 + 1 + 1 + 1 := by omega
    have hcl : k + 3 ≤ lx + 1 - s := by have := HLX.out; omega
    have HT : Hid _ := hlt
    have hb1 : (s : Int) + ((k : Int) + 2) + 1 ≤ (lx : Int) + 1 := by have := HLX.out; omega
    have hb2 : s + (k + 2) + 1 ≤ lx + 1 := by have := HLX.out; omega
    have hne2 : ¬ lx + 1 = s := by omega
    have hs0 : 0 ≤ (s : Int) := by omega
    have sl := slice_at (w.heap.size + 1 + 1 + 1 + 1) s (k + 3) (lx + 1) (lx + 1) (s : Int) ((s : Int) + ((k : Int) + 2) + 1) rfl (by omega) (by omega) (by omega)
    have wr1 : IntKind.i64.wrap ((s : Int) + ((k : Int) + 2)) = (s : Int) + ((k : Int) + 2) := by rw [IntKind.wrap_i64]; omega
    have wr2 : IntKind.i64.wrap ((s : Int) + ((k : Int) + 2) + 1) = (s : Int) + ((k : Int) + 2) + 1 := by rw [IntKind.wrap_i64]; omega
    rw [show (((s + 1 : Nat) : Int) - 1) = (s : Int) by omega]
    clear hP hB hlt
    go_wp2_with fail
    have hkk : k ≤ 4294967296 := by omega
    have hgg : w.heap.size + 1 + 1 + 1 + 1 ≠ w1.heap.size := by omega
    have hyg : w.heap.size + 1 ≠ w.heap.size + 1 + 1 + 1 + 1 := by omega
    have hsm : s < m := by omega
    go_region_held3 (fun w' => w'.cell? ⟨w.heap.size + 1, 0, none⟩ = some (.slice (some ⟨b', o', none⟩) (k + 2) cap')) (simp [go_sem, *])
      (first
        | (go_at_call 151; refine (take_pq wr.drew (w.heap.size + 1 + 1 + 1 + 1) w1.heap.size (w.heap.size + 1) k m (V X lx) s (lx + 1 - s) b' o' cap' Y R Qf _ HP.out HY2.out hsm hkk hcl hne1 hgg hyg htop hc1).mono ?_; rintro e w2 ⟨d, rfl, H, HTT, hc4, hq4, hf4⟩))
    go_wp2_with fail
    go_roundw
    case rel =>
      refine ⟨s, H, put Qf s d, by omega, by go_num, HTT.out.1, ?_⟩
      exact (HBB.out.trans ((Below.refl _ _).grown (w := wr) (w' := w2) ⟨HTT.out.2.os, HTT.out.2.tape, HTT.out.2.output, HTT.out.2.size, HTT.out.2.block⟩ (by have := HBB.out.size; omega) (fun k hk => by cases hk; omega))).setCell (by simp <;> omega) _
    case measure => simp [intOf]
set_option maxHeartbeats 1000000 in
theorem divide_short (a : Option Addr) (lx cap : Nat) (b' o' k cap' : Nat) (X Y : Nat → Nat) (w : World) (hX : Sl w a lx cap X) (hY : Sl w (some ⟨b', o', none⟩) (k + 2) cap' Y) (hlx : k + 2 ≤ lx) (hx : lx ≤ 4294967296) (htop : 9223372036854775808 ≤ Y (k + 1)) (hsh : k + 2 < 100 ∨ lx - (k + 2) < 100) :
    Calls Tryz.prog 127 #[.agg #[.slice a lx cap], .agg #[.slice (some ⟨b', o', none⟩) (k + 2) cap']] w (MakesQR w (V X lx / V Y (k + 2)) (V X lx % V Y (k + 2))) := by
  have HH : Hid (Sl w a lx cap X ∧ Sl w (some ⟨b', o', none⟩) (k + 2) cap' Y) := ⟨hX, hY⟩
  have HB : Hid (Below w.heap.size w ((((w.alloc (.cells #[.slice a lx cap] 45)).alloc (.cells #[.slice (some ⟨b', o', none⟩) (k + 2) cap'] 45)).alloc (.cells #[.slice none 0 0] 45)).alloc (.cells #[.slice none 0 0] 45))) := ((bel_alloc2 _ _ _).alloc (by simp <;> omega) _).alloc (by simp <;> omega) _
  clear hX hY
  by_cases h100 : k + 2 < 100
  · have d1 : (k : Int) + 2 < 100 := by omega
    go_enter Tryz.func127, Tryz.ntmps127
    go_wp2_with fail
    refine (plainQ_any a lx cap b' o' k cap' (lx + 1 - (k + 2)) X Y _ (HH.out.1.mono HB.out) (HH.out.2.mono HB.out) (by omega) (by omega) hx htop).mono ?_
    rintro e w4 ⟨v3, v4, rfl, hv3, hv4, hb4⟩
    have d4 : w4.cell? ⟨w.heap.size + 1 + 1, 0, none⟩ = some (.slice none 0 0) := cell_later hb4 (by simp [go_sem])
    have d5 : w4.cell? ⟨w.heap.size + 1 + 1 + 1, 0, none⟩ = some (.slice none 0 0) := cell_later hb4 (by simp [go_sem])
    have g4 : w4.frozen? ⟨w.heap.size + 1 + 1, 0, none⟩ = false := (hb4.frozen (by simp <;> omega)).trans (by simp [go_sem])
    have g5 : w4.frozen? ⟨w.heap.size + 1 + 1 + 1, 0, none⟩ = false := (hb4.frozen (by simp <;> omega)).trans (by simp [go_sem])
    have B4 : Hid (Below w.heap.size w w4) := bel_trans HB.out hb4
    obtain ⟨a3, n3, cap3, rfl⟩ := hv3.isAgg
    obtain ⟨a4, n4, cap4, rfl⟩ := hv4.isAgg
    have HV : Hid _ := And.intro hv3 hv4
    clear hv3 hv4 hb4
    go_wp2_with fail
    have n1 : ∀ kk q, (w4.setCell ⟨w.heap.size + 1 + 1, 0, none⟩ (.slice a3 n3 cap3)).cell? ⟨w.heap.size + 1 + 1 + 1, 0, none⟩ ≠ some (.int kk q) := by
      rw [World.cell?_setCell_far _ _ _ _ (by simp)]
      exact no_int_slice d5
    refine bodyPost_ret (v := .tuple #[.agg #[.slice a3 n3 cap3], .agg #[.slice a4 n4 cap4]]) (by simp [results, Tryz.results127, go_sem, d4, d5]) rfl ⟨_, _, rfl, ?_, ?_, (B4.out.setCell (by simp <;> omega) _).setCell (by simp <;> omega) _⟩
    · exact (HV.out.1.setCell (no_int_slice d4) _).setCell n1 _
    exact (HV.out.2.setCell (no_int_slice d4) _).setCell n1 _
  have d1 : decide ((k : Int) + 2 < 100) = false := decide_eq_false (by omega)
  have d2 : (lx : Int) - ((k : Int) + 2) < 100 := by omega
  go_enter Tryz.func127, Tryz.ntmps127
  go_wp2_with fail
  refine (plainQ_any a lx cap b' o' k cap' (lx + 1 - (k + 2)) X Y _ (HH.out.1.mono HB.out) (HH.out.2.mono HB.out) (by omega) (by omega) hx htop).mono ?_
  rintro e w4 ⟨v3, v4, rfl, hv3, hv4, hb4⟩
  have d4 : w4.cell? ⟨w.heap.size + 1 + 1, 0, none⟩ = some (.slice none 0 0) := cell_later hb4 (by simp [go_sem])
  have d5 : w4.cell? ⟨w.heap.size + 1 + 1 + 1, 0, none⟩ = some (.slice none 0 0) := cell_later hb4 (by simp [go_sem])
  have g4 : w4.frozen? ⟨w.heap.size + 1 + 1, 0, none⟩ = false := (hb4.frozen (by simp <;> omega)).trans (by simp [go_sem])
  have g5 : w4.frozen? ⟨w.heap.size + 1 + 1 + 1, 0, none⟩ = false := (hb4.frozen (by simp <;> omega)).trans (by simp [go_sem])
  have B4 : Hid (Below w.heap.size w w4) := bel_trans HB.out hb4
  obtain ⟨a3, n3, cap3, rfl⟩ := hv3.isAgg
  obtain ⟨a4, n4, cap4, rfl⟩ := hv4.isAgg
  have HV : Hid _ := And.intro hv3 hv4
  clear hv3 hv4 hb4
  go_wp2_with fail
  have n1 : ∀ kk q, (w4.setCell ⟨w.heap.size + 1 + 1, 0, none⟩ (.slice a3 n3 cap3)).cell? ⟨w.heap.size + 1 + 1 + 1, 0, none⟩ ≠ some (.int kk q) := by
    rw [World.cell?_setCell_far _ _ _ _ (by simp)]
    exact no_int_slice d5
  refine bodyPost_ret (v := .tuple #[.agg #[.slice a3 n3 cap3], .agg #[.slice a4 n4 cap4]]) (by simp [results, Tryz.results127, go_sem, d4, d5]) rfl ⟨_, _, rfl, ?_, ?_, (B4.out.setCell (by simp <;> omega) _).setCell (by simp <;> omega) _⟩
  · exact (HV.out.1.setCell (no_int_slice d4) _).setCell n1 _
  exact (HV.out.2.setCell (no_int_slice d4) _).setCell n1 _
def MakesQRB (w : World) (x y : Nat) (ok : Bool) (e : Ending) (w' : World) : Prop := ∃ v u, e = .returned (.tuple #[v, u, .bool ok]) ∧ IsNat w' v x ∧ IsNat w' u y ∧ Below w.heap.size w w'
set_option maxHeartbeats 1000000 in
theorem divMod_lt (v u : Value) (x y : Nat) (w : World) (h : IsNat w v x) (k : IsNat w u y) (hx : Fits x) (hy : Fits y) (hlt : x < y) :
    Calls Tryz.prog 100 #[v, u] w (MakesQRB w (x / y) (x % y) true) := by
  rw [Nat.div_eq_of_lt hlt, Nat.mod_eq_of_lt hlt]
  obtain ⟨a, n, cap, rfl⟩ := h.isAgg
  obtain ⟨a', m, cap', rfl⟩ := k.isAgg
  have hm : m ≠ 0 := fun e => by have := (isNat_zero_iff k).1 e; omega
  have hmb : ((m : Int) == 0) = false := by simp <;> omega
  have HH : Hid _ := And.intro h k
  have HF : Hid _ := And.intro hx hy
  have HB : Hid (Below w.heap.size w ((((w.alloc (.cells #[.slice a n cap] 45)).alloc (.cells #[.slice a' m cap'] 45)).alloc (.cells #[.slice none 0 0] 45)).alloc (.cells #[.slice none 0 0] 45))) := ((bel_alloc2 _ _ _).alloc (by simp <;> omega) _).alloc (by simp <;> omega) _
  clear h k hx hy
  go_enter Tryz.func100, Tryz.ntmps100
  go_wp2_with fail
  refine (cmp_any _ _ x y _ (HH.out.1.mono HB.out) (HH.out.2.mono HB.out) HF.out.1 HF.out.2).mono ?_
  rintro e w1 ⟨rfl, hb1⟩
  have c1 : w1.cell? ⟨w.heap.size, 0, none⟩ = some (.slice a n cap) := cell_later hb1 (by simp [go_sem])
  have c2 : w1.cell? ⟨w.heap.size + 1 + 1, 0, none⟩ = some (.slice none 0 0) := cell_later hb1 (by simp [go_sem])
  have c3 : w1.cell? ⟨w.heap.size + 1 + 1 + 1, 0, none⟩ = some (.slice none 0 0) := cell_later hb1 (by simp [go_sem])
  have f2 : w1.frozen? ⟨w.heap.size + 1 + 1, 0, none⟩ = false := (hb1.frozen (by simp <;> omega)).trans (by simp [go_sem])
  have f3 : w1.frozen? ⟨w.heap.size + 1 + 1 + 1, 0, none⟩ = false := (hb1.frozen (by simp <;> omega)).trans (by simp [go_sem])
  have B1 : Hid (Below w.heap.size w w1) := bel_trans HB.out hb1
  have hcn : cmpI x y < 0 := by rw [cmpI_lt hlt]; omega
  clear hb1
  go_wp2_with fail
  go_region
  go_wp2_with fail
  have n1 : ∀ kk q, (w1.setCell ⟨w.heap.size + 1 + 1, 0, none⟩ (.slice none 0 0)).cell? ⟨w.heap.size + 1 + 1 + 1, 0, none⟩ ≠ some (.int kk q) := by
    rw [World.cell?_setCell_far _ _ _ _ (by simp)]
    exact no_int_slice c3
  refine bodyPost_ret (v := .tuple #[.agg #[.slice none 0 0], .agg #[.slice a n cap], .bool true]) (by simp [results, Tryz.results100, go_sem, c2, c3]) rfl ⟨_, _, rfl, isNat_zero _, ?_, ((B1.out.setCell (by simp <;> omega) _).setCell (by simp <;> omega) _).drew⟩
  exact ((HH.out.1.mono B1.out).setCell (no_int_slice c2) _).setCell n1 _
set_option maxHeartbeats 2000000 in
theorem divMod_word (a : Option Addr) (n cap : Nat) (a' : Option Addr) (cap' : Nat) (x y : Nat) (w : World) (h : IsNat w (.agg #[.slice a n cap]) x) (k : IsNat w (.agg #[.slice a' 1 cap']) y) (hx : Fits x) (hy : Fits y) (hle : y ≤ x) :
    Calls Tryz.prog 100 #[.agg #[.slice a n cap], .agg #[.slice a' 1 cap']] w (MakesQRB w (x / y) (x % y) true) := by
  obtain ⟨F, hs, h0, h1, hv⟩ := h.fits
  obtain ⟨G, ks, k0, k1, kv⟩ := k.fits
  have hn : n ≤ 4294967296 := fits_len (hv.symm ▸ hx) h1
  obtain ⟨b', o', rfl, kw⟩ := ks.at 0 (by omega)
  have hyG : y = G 0 := by rw [← kv, V_succ, V_zero, P_zero]; omega
  have hG0 : 0 < y := by have := k1 (by omega); simp only [Nat.sub_self] at this; omega
  have hyl : y < 18446744073709551616 := by rw [hyG]; exact ks.2.2.1 0 (by omega)
  have kc : w.cell? ⟨b', o', none⟩ = some (.int .u64 (y : Int)) := by rw [hyG]; exact kw 0 (by omega)
  have HH : Hid _ := And.intro h k
  have HF : Hid (Fits x ∧ Fits y) := And.intro hx hy
  have HS : Hid (Sl w a n cap F ∧ V F n = x) := ⟨hs, hv⟩
  have HB : Hid (Below w.heap.size w ((((w.alloc (.cells #[.slice a n cap] 45)).alloc (.cells #[.slice (some ⟨b', o', none⟩) 1 cap'] 45)).alloc (.cells #[.slice none 0 0] 45)).alloc (.cells #[.slice none 0 0] 45))) := ((bel_alloc2 _ _ _).alloc (by simp <;> omega) _).alloc (by simp <;> omega) _
  have HKC : Hid _ := kc
  have mk := make_at (n : Int) (n : Int) n n rfl rfl (Nat.le_refl _) (by omega)
  clear h k hx hy hs h0 h1 hv ks k0 k1 kv kw kc hyG
  go_enter Tryz.func100, Tryz.ntmps100
  go_wp2_with fail
  refine (cmp_any _ _ x y _ (HH.out.1.mono HB.out) (HH.out.2.mono HB.out) HF.out.1 HF.out.2).mono ?_
  rintro e w1 ⟨rfl, hb1⟩
  have c0 : w1.cell? ⟨w.heap.size, 0, none⟩ = some (.slice a n cap) := cell_later hb1 (by simp [go_sem])
  have c1 : w1.cell? ⟨w.heap.size + 1, 0, none⟩ = some (.slice (some ⟨b', o', none⟩) 1 cap') := cell_later hb1 (by simp [go_sem])
  have c2 : w1.cell? ⟨w.heap.size + 1 + 1, 0, none⟩ = some (.slice none 0 0) := cell_later hb1 (by simp [go_sem])
  have c3 : w1.cell? ⟨w.heap.size + 1 + 1 + 1, 0, none⟩ = some (.slice none 0 0) := cell_later hb1 (by simp [go_sem])
  have f2 : w1.frozen? ⟨w.heap.size + 1 + 1, 0, none⟩ = false := (hb1.frozen (by simp <;> omega)).trans (by simp [go_sem])
  have f3 : w1.frozen? ⟨w.heap.size + 1 + 1 + 1, 0, none⟩ = false := (hb1.frozen (by simp <;> omega)).trans (by simp [go_sem])
  have hs1 : w.heap.size + 1 + 1 + 1 < w1.heap.size := World.block_lt_of_cell? _ _ c3
  have hl0 : w.heap.size < w1.heap.size := by omega
  have hl1 : w.heap.size + 1 < w1.heap.size := by omega
  have B1 : Hid (Below w.heap.size w w1) := bel_trans HB.out hb1
  have hcn : decide (cmpI x y < 0) = false := decide_eq_false (by unfold cmpI; split <;> (try split) <;> omega)
  clear hb1
  go_wp2_with (refine (id ?_ : wpList Tryz.prog _ _ (⟨some 38, _, _, _, _, _⟩ :: _) _ _); refine wpList_copy_words rfl (.tmp 35) (.tmp 37) rfl _ _ _ _ _ _ _ rfl rfl n (fun _ => 0) F (row_zeros_at _ n _ rfl) (HS.out.1.mono (B1.out.alloc B1.out.size _)) (by omega) (by omega) ?_)
  intro w2 hR2 hg2
  have A1 : Hid (Below w1.heap.size w1 w2) := ((Below.refl _ _).alloc (Nat.le_refl _) _).grown hg2 (by simp) (fun k hk => by cases hk; omega)
  have R2 : Hid (Row w2 w1.heap.size n (over (fun _ => 0) 0 F n)) := hR2
  have B2 : Hid (Below w.heap.size w w2) := bel_trans B1.out A1.out
  have c1' := cell_later A1.out c1
  have c2' := cell_later A1.out c2
  have c3' := cell_later A1.out c3
  have f2' := (A1.out.frozen (World.block_lt_of_cell? _ _ c2)).trans f2
  have f3' := (A1.out.frozen (World.block_lt_of_cell? _ _ c3)).trans f3
  have kc2 := cell_later B2.out HKC.out
  clear hR2 hg2 c0 c1 c2 c3 f2 f3 mk
  go_wp2_with fail
  refine (divideByWord_any w1.heap.size n 0 n n y _ w2 R2.out (by omega) (by omega) hG0 hyl).mono ?_
  rintro e w3 ⟨c, rfl, H, hD⟩
  obtain ⟨e1, e2⟩ := hD.fin
  rw [fro_zero, fro_zero, V_over0, HS.out.2] at e1
  rw [fro_zero, V_over0, HS.out.2] at e2
  have hg3 := hD.2.2.2.2
  have A2 : Hid (Below (w.heap.size + 1 + 1 + 1 + 1) w2 w3) := (Below.refl _ _).grown hg3 (by have := A1.out.size; omega) (fun k hk => by cases hk; omega)
  have d2 : w3.cell? ⟨w.heap.size + 1 + 1, 0, none⟩ = some (.slice none 0 0) := (A2.out.cell (by simp <;> omega)).trans c2'
  have d3 : w3.cell? ⟨w.heap.size + 1 + 1 + 1, 0, none⟩ = some (.slice none 0 0) := (A2.out.cell (by simp <;> omega)).trans c3'
  have g2 : w3.frozen? ⟨w.heap.size + 1 + 1, 0, none⟩ = false := (A2.out.frozen (by simp <;> omega)).trans f2'
  have g3 : w3.frozen? ⟨w.heap.size + 1 + 1 + 1, 0, none⟩ = false := (A2.out.frozen (by simp <;> omega)).trans f3'
  have R3 : Hid (Row w3 w1.heap.size n H ∧ V H n = x / y ∧ c = x % y) := ⟨hD.1, e1, e2⟩
  have B3 : Hid (Below w.heap.size w w3) := B2.out.trans (A2.out.mono (by omega))
  clear hD e1 e2 hg3 c1' c2' c3' f2' f3' kc2 A2 A1 B2 R2
  go_wp2_with fail
  refine (trimmed_any _ n n H w3 (by have := R3.out.1.sl (o := 0) (n := n) (cap := n) (by omega) (Nat.le_refl _) (by omega); rw [fro_zero] at this; exact this) (by omega)).mono ?_
  rintro e w4 ⟨v4, rfl, hv4, hb4⟩
  have d2' := cell_later hb4 d2
  have d3' := cell_later hb4 d3
  have g2' := (hb4.frozen (World.block_lt_of_cell? _ _ d2)).trans g2
  have g3' := (hb4.frozen (World.block_lt_of_cell? _ _ d3)).trans g3
  have HV4 : Hid (IsNat w4 v4 (V H n)) := hv4
  have B4 : Hid (Below w.heap.size w w4) := bel_trans B3.out hb4
  obtain ⟨a4, n4, cap4, rfl⟩ := hv4.isAgg
  clear hv4 hb4 d2 d3 g2 g3
  go_wp2_with fail
  refine (of_any c w4 (by rw [R3.out.2.2]; exact Nat.lt_trans (Nat.mod_lt _ hG0) hyl)).mono ?_
  rintro e w5 ⟨v5, rfl, hv5, hb5⟩
  have d4 := cell_later hb5 d2'
  have d5 := cell_later hb5 d3'
  have g4 := (hb5.frozen (World.block_lt_of_cell? _ _ d2')).trans g2'
  have g5 := (hb5.frozen (World.block_lt_of_cell? _ _ d3')).trans g3'
  have HV5 : Hid (IsNat w5 v5 c ∧ IsNat w5 (.agg #[.slice a4 n4 cap4]) (V H n)) := ⟨hv5, HV4.out.mono hb5⟩
  have B5 : Hid (Below w.heap.size w w5) := bel_trans B4.out hb5
  obtain ⟨a5, n5, cap5, rfl⟩ := hv5.isAgg
  clear hv5 hb5 d2' d3' g2' g3' HV4 B4
  go_wp2_with fail
  have n1 : ∀ kk q, (w5.setCell ⟨w.heap.size + 1 + 1, 0, none⟩ (.slice a4 n4 cap4)).cell? ⟨w.heap.size + 1 + 1 + 1, 0, none⟩ ≠ some (.int kk q) := by
    rw [World.cell?_setCell_far _ _ _ _ (by simp)]
    exact no_int_slice d5
  refine bodyPost_ret (v := .tuple #[.agg #[.slice a4 n4 cap4], .agg #[.slice a5 n5 cap5], .bool true]) (by simp [results, Tryz.results100, go_sem, d4, d5]) rfl ⟨_, _, rfl, ?_, ?_, (B5.out.setCell (by simp <;> omega) _).setCell (by simp <;> omega) _⟩
  · rw [← R3.out.2.1]
    exact (HV5.out.2.setCell (no_int_slice d4) _).setCell n1 _
  rw [← R3.out.2.2]
  exact (HV5.out.1.setCell (no_int_slice d4) _).setCell n1 _
end Go.Proofs.YtfkkomppfghagaaGreatDoor
