/- takeDigit: one digit of the quotient is taken out of the rest. -/
import Derived.Test.YtekigmkepfhdhaaTakeM
namespace Go.Proofs.Ytekigmkepfhdhaa
open Go.RowKit
set_option maxRecDepth 100000
set_option linter.unusedVariables false
/-- One digit was taken. -/
def Took (w w' : World) (b N o k : Nat) (F Y : Nat → Nat) (d : Nat) (H : Nat → Nat) : Prop :=
  Row w' b N H ∧ (∀ j, j < o ∨ o + k + 3 ≤ j → H j = F j) ∧ H (o + k + 2) = 0 ∧ d = V (fro F o) (k + 3) / V Y (k + 2) ∧ V (fro H o) (k + 2) = V (fro F o) (k + 3) % V Y (k + 2) ∧ w.grownBy w' (some b)
theorem guess_any (b o cap b' o' cap' : Nat) (r0 r1 r2 y0 y1 G : Nat) (w : World) (hG : G = guess r0 r1 r2 y0 y1) (hr0 : w.cell? ⟨b, o, none⟩ = some (.int .u64 (r0 : Int))) (hr1 : w.cell? ⟨b, o + 1, none⟩ = some (.int .u64 (r1 : Int))) (hr2 : w.cell? ⟨b, o + 2, none⟩ = some (.int .u64 (r2 : Int)))
    (hy0 : w.cell? ⟨b', o', none⟩ = some (.int .u64 (y0 : Int))) (hy1 : w.cell? ⟨b', o' + 1, none⟩ = some (.int .u64 (y1 : Int))) (l0 : r0 < 18446744073709551616) (l1 : r1 < 18446744073709551616) (m0 : y0 < 18446744073709551616) (m1 : y1 < 18446744073709551616) :
    Calls Try.prog 77 #[.slice (some ⟨b, o, none⟩) 3 cap, .slice (some ⟨b', o', none⟩) 2 cap'] w fun e w' => e = .returned (.int .u64 (G : Int)) ∧ ∃ n, w' = w.drewN n := by
  by_cases h : y1 ≤ r2
  · have hg : G = 18446744073709551615 := by rw [hG, guess, if_pos h]
    refine (guess_top b o cap b' o' cap' r2 y1 w hr2 hy1 h).mono fun e w' hh => ⟨hh.1.trans ?_, hh.2⟩
    rw [hg]
    rfl
  · exact guess_low b o cap b' o' cap' r0 r1 r2 y0 y1 G w (by rw [hG, guess, if_neg h]) hr0 hr1 hr2 hy0 hy1 (by omega) l0 l1 m0 m1
set_option maxHeartbeats 2000000 in
theorem take_any (b N o k cap b' o' cap' : Nat) (F Y : Nat → Nat) (w : World) (hF : Row w b N F) (hY : Sl w (some ⟨b', o', none⟩) (k + 2) cap' Y) (ho : o + k + 3 ≤ N) (hk : k ≤ 4294967296) (hc : k + 3 ≤ cap) (hne : b' ≠ b)
    (htop : 9223372036854775808 ≤ Y (k + 1)) (hlt : V (fro F o) (k + 3) < V Y (k + 2) * 18446744073709551616) :
    Calls Try.prog 74 #[.slice (some ⟨b, o, none⟩) (k + 3) cap, .slice (some ⟨b', o', none⟩) (k + 2) cap'] w fun e w' => ∃ d : Nat, e = .returned (.int .u64 (d : Int)) ∧ ∃ H, Took w w' b N o k F Y d H := by
  obtain ⟨b2, o2, eb, hw⟩ := hY.at 0 (by omega)
  cases eb
  have hR : Ok (fro F o) (k + 3) := fun i hi => hF.2 _ (by omega)
  obtain ⟨g1, g2, g3⟩ := guess_near hR hY.2.2.1 htop hlt
  obtain ⟨G, hG⟩ : ∃ G, G = guess (fro F o k) (fro F o (k + 1)) (fro F o (k + 2)) (Y k) (Y (k + 1)) := ⟨_, rfl⟩
  rw [← hG] at g1 g2 g3
  have hcap' : k + 2 ≤ cap' := hY.1
  have hr0 : w.cell? ⟨b, o + k, none⟩ = some (.int .u64 (fro F o k : Nat)) := hF.cell (by omega)
  have hr1 : w.cell? ⟨b, o + k + 1, none⟩ = some (.int .u64 (fro F o (k + 1) : Nat)) := hF.cell (by omega)
  have hr2 : w.cell? ⟨b, o + k + 2, none⟩ = some (.int .u64 (fro F o (k + 2) : Nat)) := hF.cell (by omega)
  have hy0 : w.cell? ⟨b', o' + k, none⟩ = some (.int .u64 (Y k : Nat)) := hw k (by omega)
  have hy1 : w.cell? ⟨b', o' + k + 1, none⟩ = some (.int .u64 (Y (k + 1) : Nat)) := hw (k + 1) (by omega)
  have HH : Hid (Row w b N F ∧ Sl w (some ⟨b', o', none⟩) (k + 2) cap' Y ∧ V (fro F o) (k + 3) / V Y (k + 2) ≤ G ∧ G ≤ V (fro F o) (k + 3) / V Y (k + 2) + 1 ∧ V (fro F o) (k + 3) < V Y (k + 2) * 18446744073709551616) := ⟨hF, hY, g1, g2, hlt⟩
  have GG := fun w' nd (e : w' = w.drewN nd) => guess_any b (o + k) (cap - k) b' (o' + k) (cap' - k) _ _ _ _ _ G w' hG (by rw [e]; exact hr0) (by rw [e]; exact hr1) (by rw [e]; exact hr2) (by rw [e]; exact hy0) (by rw [e]; exact hy1) (hR _ (by omega)) (hR _ (by omega)) (hY.2.2.1 _ (by omega)) (hY.2.2.1 _ (by omega))
  have GH : Hid _ := GG
  have d1 : ¬ cap = k := by omega
  have d2 : ¬ cap' = k := by omega
  have hcI : (k : Int) + 3 ≤ cap := by omega
  have hcI' : (k : Int) + 2 ≤ cap' := by omega
  clear hF hY hG g1 g2 hlt hR hw GG hr0 hr1 hr2 hy0 hy1
  go_enter Try.func74, Try.ntmps74
  go_wp2_with fail
  go_quiet ((go_at_call 77; exact Calls.quiet_of (GH.out _ _ rfl)))
  go_wp2_with fail
  refine (subProduct_any b N o (k + 3) cap F (some ⟨b', o', none⟩) (k + 2) cap' Y G (w.drewN nq) HH.out.1 HH.out.2.1 (by omega) (by omega) (by omega) (by omega) g3 (fun b2 o2 e => by cases e; exact hne)).mono ?_
  rintro e w1 ⟨c, rfl, H, hP⟩
  obtain ⟨p1, p2, p3, p4, p5⟩ := hP
  have p5' : w.grownBy w1 (some b) := ⟨p5.os, p5.tape, p5.output, p5.size, p5.block⟩
  have htc : H (o + k + 2) = F (o + k + 2) := p2 _ (by omega)
  have hct : w1.cell? ⟨b, o + (k + 2), none⟩ = some (.int .u64 (F (o + k + 2) : Nat)) := by rw [← htc]; exact p1.cell (by omega)
  have hft : w1.frozen? ⟨b, o + (k + 2), none⟩ = false := p1.frozen _
  have hsum : V (fro F o) (k + 3) = V (fro F o) (k + 2) + F (o + k + 2) * P (k + 2) := V_succ ..
  have hYlt : V Y (k + 2) < P (k + 2) := V_lt HH.out.2.1.2.2.1
  have hY0 : 0 < V Y (k + 2) := by
    have h1 := HH.out.2.2.2.2
    rcases Nat.eq_zero_or_pos (V Y (k + 2)) with h0 | h0
    · rw [h0] at h1; omega
    · exact h0
  have hHlt : V (fro H o) (k + 2) < P (k + 2) := V_lt fun i hi => p1.2 _ (by omega)
  by_cases hle : c ≤ F (o + k + 2)
  · have hdl : decide (F (o + k + 2) < c) = false := decide_eq_false (by omega)
    obtain ⟨t1, t2⟩ := take_exact p4 hHlt (Nat.le_of_lt hYlt) hY0 (by rw [← hsum]; exact HH.out.2.2.1) hle
    rw [← hsum] at t1 t2
    have T : Hid (Took w (w1.setCell ⟨b, o + (k + 2), none⟩ (.int .u64 0)) b N o k F Y G (put H (o + (k + 2)) 0)) := by
      refine ⟨p1.set (o + (k + 2)) (v := 0) (by omega), fun j hj => ?_, put_same _ _ _, t1, ?_, grown_set _ p5' _ _⟩
      · rw [put_other _ _ (by omega)]
        exact p2 j (by omega)
      · rw [V_put]
        exact t2
    clear p1 p2 p3 p4 p5 p5' htc hsum t1 t2 hYlt hY0 hHlt hle
    go_wp2_with fail
    go_ret
    exact ⟨G, rfl, _, T.out⟩
  · have hdl : decide (F (o + k + 2) < c) = true := decide_eq_true (by omega)
    have HP : Hid (Row w1 b N H ∧ (∀ j, j < o ∨ o + (k + 2) ≤ j → H j = F j) ∧ V (fro H o) (k + 2) + V Y (k + 2) * G = V (fro F o) (k + 2) + c * P (k + 2) ∧ w.grownBy w1 (some b)) := ⟨p1, p2, p4, p5'⟩
    have hG0 : 0 < G := by
      rcases Nat.eq_zero_or_pos G with h0 | h0
      · exfalso
        rw [h0, Nat.mul_zero] at p4
        have h2 : (F (o + k + 2) + 1) * P (k + 2) ≤ c * P (k + 2) := Nat.mul_le_mul_right _ (by omega)
        have h3 : 1 * P (k + 2) ≤ (F (o + k + 2) + 1) * P (k + 2) := Nat.mul_le_mul_right _ (by omega)
        omega
      · exact h0
    obtain ⟨v, hv⟩ : ∃ v, v = G - 1 := ⟨_, rfl⟩
    have ev : ((G : Nat) : Int) - 1 = ((v : Nat) : Int) := by omega
    have vl : v < 18446744073709551616 := by omega
    have HV : Hid (v = G - 1) := hv
    have B1 : Sl w1 (some ⟨b', o', none⟩) (k + 2) cap' Y := by
      obtain ⟨s1, s2, s3, s4⟩ := HH.out.2.1
      refine ⟨s1, s2, s3, .inr ⟨b', o', rfl, ?_⟩⟩
      rcases s4 with s4 | ⟨b2, o2, e2, hw2⟩
      · omega
      · cases e2
        exact hw2.kept p5' (by simpa using hne)
    have HB1 : Hid _ := B1
    have HT : Hid _ := And.intro hsum (And.intro hYlt (And.intro hY0 hHlt))
    clear p1 p2 p3 p4 p5 p5' htc hsum hYlt hY0 hHlt hle hv B1
    go_wp2_with fail
    refine (addWords_any b N o (k + 2) cap H (some ⟨b', o', none⟩) (k + 2) cap' Y w1 HP.out.1 HB1.out (by omega) (by omega) (Nat.le_refl _) (fun b2 o2 e => by cases e; exact hne)).mono ?_
    rintro e w2 ⟨c2, rfl, H2, q1, q2, q3, q4, q5⟩
    have hct2 : w2.cell? ⟨b, o + (k + 2), none⟩ = some (.int .u64 (H2 (o + (k + 2)) : Nat)) := q1.cell (by omega)
    have hft2 : w2.frozen? ⟨b, o + (k + 2), none⟩ = false := q1.frozen _
    have T : Hid (Took w (w2.setCell ⟨b, o + (k + 2), none⟩ (.int .u64 0)) b N o k F Y v (put H2 (o + (k + 2)) 0)) := by
      obtain ⟨z1, z2, z3, z4⟩ := HT.out
      obtain ⟨y1, y2, y3, y4⟩ := HP.out
      have hH2 : V (fro H2 o) (k + 2) < P (k + 2) := V_lt fun i hi => q1.2 _ (by omega)
      have hmx : V (fro F o) (k + 2) + F (o + k + 2) * P (k + 2) < V Y (k + 2) * P (k + 2) := by
        rw [← z1]
        refine Nat.lt_of_lt_of_le HH.out.2.2.2.2 (Nat.mul_le_mul_left _ ?_)
        rw [← P_one]
        exact P_le (by omega)
      obtain ⟨m1, m2, m3⟩ := take_mend y3 z4 hH2 (Nat.le_of_lt z2) z3 (by rw [← z1]; exact HH.out.2.2.2.1) (by have := of_decide_eq_true hdl; omega) q4 q3 hmx
      rw [← z1] at m2 m3
      refine ⟨q1.set (o + (k + 2)) (v := 0) (by omega), fun j hj => ?_, put_same _ _ _, by rw [HV.out]; exact m2, ?_, grown_set _ (grown_trans y4 q5) _ _⟩
      · rw [put_other _ _ (by omega), q2 j (by omega)]
        exact y2 j (by omega)
      · rw [V_put]
        exact m3
    clear q1 q2 q3 q4 q5
    go_wp2_with fail
    go_ret
    exact ⟨v, rfl, _, T.out⟩
end Go.Proofs.Ytekigmkepfhdhaa
