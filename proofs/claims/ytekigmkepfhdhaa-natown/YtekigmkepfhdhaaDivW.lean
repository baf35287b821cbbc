/- divideByWord: a row of words divided by a word. -/
import Derived.Test.YtekigmkepfhdhaaDiv64A
namespace Go.Proofs.Ytekigmkepfhdhaa
open Go.RowKit
set_option maxRecDepth 100000
set_option linter.unusedVariables false
theorem V_cons (G : Nat → Nat) (m : Nat) : V G (m + 1) = G 0 + 18446744073709551616 * V (fun i => G (1 + i)) m := by
  rw [Nat.add_comm m 1, V_split, P_one, V_succ, V_zero, P_zero, Nat.zero_add, Nat.mul_one]
/-- The words from k on are divided; rest is left of them. -/
def DW (w wr : World) (b N o n y : Nat) (F : Nat → Nat) (k rest : Nat) (H : Nat → Nat) : Prop :=
  Row wr b N H ∧ (∀ j, j < o + k ∨ o + n ≤ j → H j = F j) ∧ rest < y ∧ V (fro F o) n = y * (P k * V (fro H (o + k)) (n - k)) + (rest * P k + V (fro F o) k) ∧ w.grownBy wr (some b)
theorem DW.start {w : World} {b N n y : Nat} {F : Nat → Nat} (o : Nat) (h : Row w b N F) (hy : 0 < y) : DW w w b N o n y F n 0 F :=
  ⟨h, fun _ _ => rfl, hy, by rw [Nat.sub_self, V_zero]; simp, World.grownBy.refl _ _⟩
theorem dw_lin (X y q P r' U rest T f c : Nat) (h1 : rest * 18446744073709551616 + f = y * q + r') (h2 : X = y * (P * 18446744073709551616 * U) + (rest * (P * 18446744073709551616) + (c + f * P))) :
    X = y * (P * (q + 18446744073709551616 * U)) + (r' * P + c) := by
  have e1 : y * (P * (q + 18446744073709551616 * U)) = y * q * P + y * (P * 18446744073709551616 * U) := by
    rw [Nat.mul_add, Nat.mul_add, Nat.mul_assoc y q, Nat.mul_comm q, Nat.mul_assoc P]
  have e2 := congrArg (· * P) h1
  simp only [Nat.add_mul] at e2
  have e3 : rest * (P * 18446744073709551616) = rest * 18446744073709551616 * P := by rw [Nat.mul_assoc, Nat.mul_comm P]
  rw [h2, e1, e3]
  omega
theorem DW.step {w wr : World} {b N o n y : Nat} {F : Nat → Nat} {t rest : Nat} {H : Nat → Nat} (h : DW w wr b N o n y F (t + 1) rest H) (hn : o + n ≤ N) (ht : t < n) (hy : y < 18446744073709551616) :
    (rest * 18446744073709551616 + H (o + t)) / y < 18446744073709551616 ∧
    DW w (wr.setCell ⟨b, o + t, none⟩ (.int .u64 (((rest * 18446744073709551616 + H (o + t)) / y : Nat) : Int))) b N o n y F t ((rest * 18446744073709551616 + H (o + t)) % y) (put H (o + t) ((rest * 18446744073709551616 + H (o + t)) / y)) := by
  obtain ⟨h1, h2, h3, h4, h5⟩ := h
  have hH : H (o + t) < 18446744073709551616 := h1.2 _ (by omega)
  have hF : H (o + t) = F (o + t) := h2 _ (by omega)
  have hq : (rest * 18446744073709551616 + H (o + t)) / y < 18446744073709551616 := by
    rw [Nat.div_lt_iff_lt_mul (by omega)]
    have : (rest + 1) * 18446744073709551616 ≤ y * 18446744073709551616 := Nat.mul_le_mul_right _ h3
    rw [Nat.mul_comm 18446744073709551616 y]
    omega
  refine ⟨hq, h1.set _ hq, fun j hj => ?_, Nat.mod_lt _ (by omega), ?_, grown_set _ h5 _ _⟩
  · rw [put_other _ _ (by omega)]
    exact h2 j (by omega)
  · have e1 : V (fro (put H (o + t) ((rest * 18446744073709551616 + H (o + t)) / y)) (o + t)) (n - t) = (rest * 18446744073709551616 + H (o + t)) / y + 18446744073709551616 * V (fro H (o + (t + 1))) (n - (t + 1)) := by
      rw [show n - t = (n - (t + 1)) + 1 by omega, V_cons]
      congr 1
      · exact put_same _ _ _
      · congr 1
        refine V_congr fun i hi => ?_
        show put H (o + t) _ (o + t + (1 + i)) = H (o + (t + 1) + i)
        rw [put_other _ _ (by omega), show o + t + (1 + i) = o + (t + 1) + i by omega]
    rw [e1]
    rw [P_succ, V_succ] at h4
    refine dw_lin _ _ _ _ _ _ rest 0 (H (o + t)) _ (Nat.div_add_mod _ _).symm ?_
    rw [h4, hF]
    rfl
set_option maxHeartbeats 1000000 in
theorem divideByWord_any (b N o n cap y : Nat) (F : Nat → Nat) (w : World) (hF : Row w b N F) (ho : o + n ≤ N) (hn : n ≤ 1099511627776) (hy0 : 0 < y) (hy : y < 18446744073709551616) :
    Calls Try.prog 50 #[.slice (some ⟨b, o, none⟩) n cap, .int .u64 (y : Int)] w fun e w' => ∃ c : Nat, e = .returned (.int .u64 (c : Int)) ∧ ∃ H, DW w w' b N o n y F 0 c H := by
  have A0 := DW.start (n := n) o hF hy0
  clear hF
  go_enter Try.func50, Try.ntmps50
  go_wp2_with fail
  go_loopw [5, 6] (fun cv t wr => ∃ (k c : Nat) (H : Nat → Nat), k ≤ n ∧ t = .int .i64 ((k : Int) - 1) ∧ cv = .int .u64 ((c : Nat) : Int) ∧ DW w wr b N o n y F k c H) (fun _ t _ => (intOf t + 1).toNat)
  case atStart => exact ⟨n, 0, F, Nat.le_refl _, rfl, rfl, A0⟩
  case round =>
    clear A0
    obtain ⟨k, c, H, hk, rfl, rfl, hA⟩ := hrel
    by_cases hk0 : k = 0
    · subst hk0
      have HA : Hid _ := hA
      clear hA
      go_wp2_with fail
      go_ret
      exact ⟨c, rfl, H, HA.out⟩
    · obtain ⟨t, rfl⟩ : ∃ t, k = t + 1 := ⟨k - 1, by omega⟩
      have hc2 : wr.cell? ⟨b, o + t, none⟩ = some (.int .u64 (H (o + t) : Nat)) := hA.1.cell (by omega)
      have hf2 : wr.frozen? ⟨b, o + t, none⟩ = false := hA.1.frozen _
      have S : Hid _ := (hA.step ho (by omega) hy).2
      have hcy : c < y := hA.2.2.1
      have hH : H (o + t) < 18446744073709551616 := hA.1.2 _ (by omega)
      clear hA
      go_wp2_with fail
      refine (div64_any c (H (o + t)) y _ hcy hH hy).mono ?_
      rintro e w1 ⟨rfl, nd, rfl⟩
      go_wp2_with fail
      go_roundw
      case rel => exact ⟨t, _, _, by omega, by go_num, rfl, by obtain ⟨q1, q2, q3, q4, q5⟩ := S.out; exact ⟨q1, q2, q3, q4, grown_drew q5 nd⟩⟩
      case measure => simp [intOf]
theorem DW.fin {w wr : World} {b N o n y c : Nat} {F H : Nat → Nat} (h : DW w wr b N o n y F 0 c H) : V (fro H o) n = V (fro F o) n / y ∧ c = V (fro F o) n % y := by
  obtain ⟨_, _, h3, h4, _⟩ := h
  rw [P_zero, V_zero, Nat.one_mul, Nat.mul_one, Nat.add_zero, Nat.sub_zero, Nat.add_zero] at h4
  rw [h4, Nat.mul_add_div (by omega), Nat.div_eq_of_lt h3, Nat.add_zero, Nat.mul_add_mod, Nat.mod_eq_of_lt h3]
  exact ⟨rfl, rfl⟩
end Go.Proofs.Ytekigmkepfhdhaa
