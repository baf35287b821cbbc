/- guessDigit: the digit by three words and two, or the greatest word. -/
import Derived.Test.YtekigmkepfhdhaaGuessM
namespace Go.Proofs.Ytekigmkepfhdhaa
open Go.RowKit
set_option maxRecDepth 100000
set_option linter.unusedVariables false
/-- What guessDigit answers. -/
def guess (r0 r1 r2 y0 y1 : Nat) : Nat := if y1 ≤ r2 then 18446744073709551615 else ((r2 * 18446744073709551616 + r1) * 18446744073709551616 + r0) / (y1 * 18446744073709551616 + y0)
set_option maxHeartbeats 1000000 in
theorem guess_top (b o cap b' o' cap' : Nat) (r2 y1 : Nat) (w : World) (hr2 : w.cell? ⟨b, o + 2, none⟩ = some (.int .u64 (r2 : Int))) (hy1 : w.cell? ⟨b', o' + 1, none⟩ = some (.int .u64 (y1 : Int))) (h : y1 ≤ r2) :
    Calls Try.prog 77 #[.slice (some ⟨b, o, none⟩) 3 cap, .slice (some ⟨b', o', none⟩) 2 cap'] w fun e w' => e = .returned (.int .u64 18446744073709551615) ∧ ∃ n, w' = w.drewN n := by
  have hd : decide ((y1 : Int) ≤ (r2 : Int)) = true := decide_eq_true (by omega)
  have hd' : decide (y1 ≤ r2) = true := decide_eq_true h
  go_enter Try.func77, Try.ntmps77
  go_wp2_with fail
  go_region
  go_wp2_with fail
  go_ret
  exact ⟨rfl, 1, rfl⟩
theorem quiet_k {f : FuncId} {args : Array Value} {w : World} {k n : Nat} {v : Value} (h : Calls Try.prog f args (w.drewN (k + n)) fun e w' => e = .returned v ∧ ∃ m, w' = (w.drewN (k + n)).drewN m) :
    Calls Try.prog f args (w.drewN (k + n)) fun e w'' => e = .returned v ∧ ∃ m, w'' = w.drewN (k + m) :=
  h.mono fun _ _ ⟨he, m, hm⟩ => ⟨he, n + m, by rw [hm, World.drewN_drewN, Nat.add_assoc]⟩
theorem div64_qr (r2 r1 y1 q r A : Nat) (w : World) (h : r2 < y1) (l1 : r1 < 18446744073709551616) (m1 : y1 < 18446744073709551616) (hA : A = r2 * 18446744073709551616 + r1) (hq : q = A / y1 ∧ r = A % y1) :
    Calls Try.prog 68 #[.int .u64 (r2 : Int), .int .u64 (r1 : Int), .int .u64 (y1 : Int)] w fun e w' => e = .returned (.tuple #[.int .u64 (q : Int), .int .u64 (r : Int)]) ∧ ∃ n, w' = w.drewN n := by
  rw [hq.1, hq.2, hA]
  exact div64_any r2 r1 y1 w h l1 m1
set_option maxHeartbeats 2000000 in
theorem guess_low (b o cap b' o' cap' : Nat) (r0 r1 r2 y0 y1 G : Nat) (w : World) (hG : G = ((r2 * 18446744073709551616 + r1) * 18446744073709551616 + r0) / (y1 * 18446744073709551616 + y0)) (hr0 : w.cell? ⟨b, o, none⟩ = some (.int .u64 (r0 : Int))) (hr1 : w.cell? ⟨b, o + 1, none⟩ = some (.int .u64 (r1 : Int))) (hr2 : w.cell? ⟨b, o + 2, none⟩ = some (.int .u64 (r2 : Int)))
    (hy0 : w.cell? ⟨b', o', none⟩ = some (.int .u64 (y0 : Int))) (hy1 : w.cell? ⟨b', o' + 1, none⟩ = some (.int .u64 (y1 : Int))) (h : r2 < y1) (l0 : r0 < 18446744073709551616) (l1 : r1 < 18446744073709551616) (m0 : y0 < 18446744073709551616) (m1 : y1 < 18446744073709551616) :
    Calls Try.prog 77 #[.slice (some ⟨b, o, none⟩) 3 cap, .slice (some ⟨b', o', none⟩) 2 cap'] w fun e w' => e = .returned (.int .u64 (G : Int)) ∧ ∃ n, w' = w.drewN n := by
  have hd' : decide (y1 ≤ r2) = false := decide_eq_false (by omega)
  obtain ⟨A, hA⟩ : ∃ A, A = r2 * 18446744073709551616 + r1 := ⟨_, rfl⟩
  have HA : Hid (A = r2 * 18446744073709551616 + r1) := hA
  have hq0 : A / y1 < 18446744073709551616 := by
    rw [Nat.div_lt_iff_lt_mul (by omega), hA]
    have : (r2 + 1) * 18446744073709551616 ≤ y1 * 18446744073709551616 := Nat.mul_le_mul_right _ h
    rw [Nat.mul_comm 18446744073709551616 y1]
    omega
  have hrr : A % y1 < y1 := Nat.mod_lt _ (by omega)
  have D0 : Hid (Dig2 A r0 (y1 * 18446744073709551616 + y0) y1 (A / y1) (A % y1)) := dig2_start rfl l0 (by omega)
  obtain ⟨q, hq⟩ : ∃ q, q = A / y1 := ⟨_, rfl⟩
  obtain ⟨r, hr⟩ : ∃ r, r = A % y1 := ⟨_, rfl⟩
  rw [← hq] at hq0 D0
  rw [← hr] at hrr D0
  have HQ : Hid (q = A / y1 ∧ r = A % y1) := ⟨hq, hr⟩
  rw [← hA] at hG
  have HG : Hid (G = (A * 18446744073709551616 + r0) / (y1 * 18446744073709551616 + y0)) := hG
  clear hq hr hA hG
  go_enter Try.func77, Try.ntmps77
  go_wp2_with fail
  go_region
  go_wp2_with fail
  go_quiet ((go_at_call 68; exact quiet_k (div64_qr r2 r1 y1 q r A _ h l1 m1 HA.out HQ.out)))
  go_wp2_with fail
  refine (mul64_any q y0 _ hq0 m0).mono ?_
  rintro e w1 ⟨rfl, rfl⟩
  have hYp : 0 < y1 * 18446744073709551616 + y0 := by omega
  go_wp2_with fail
  go_loop [5, 6, 7, 8] (fun a c d e => ∃ (g t : Nat), a = .int .u64 ((g : Nat) : Int) ∧ c = .int .u64 ((t : Nat) : Int) ∧ d = .int .u64 ((mulHi g y0 : Nat) : Int) ∧ e = .int .u64 ((mulLo g y0 : Nat) : Int) ∧ t < 18446744073709551616 ∧ g < 18446744073709551616 ∧ Hid (Dig2 A r0 (y1 * 18446744073709551616 + y0) y1 g t)) (fun a _ _ _ => (intOf a).toNat)
  case atStart => exact ⟨q, r, rfl, rfl, rfl, rfl, by omega, hq0, D0⟩
  case round =>
    obtain ⟨g, t, rfl, rfl, rfl, rfl, ht, hg, HD⟩ := hrel
    have me := mul_eq g y0
    have ml := mulLo_lt g y0
    rcases Nat.lt_trichotomy t (mulHi g y0) with h1 | h1 | h1
    · have d1 : decide (t < mulHi g y0) = true := decide_eq_true h1
      have hc : t * 18446744073709551616 + r0 < g * y0 := by omega
      clear me ml h1
      obtain ⟨hp, HN⟩ := HD.out.step rfl hYp hc
      obtain ⟨v, hv⟩ : ∃ v, v = g - 1 := ⟨_, rfl⟩
      have ev : ((g : Nat) : Int) - 1 = ((v : Nat) : Int) := by omega
      have vl : v < 18446744073709551616 := by omega
      obtain ⟨mp1, mp2⟩ := mul_pred hp m0
      rw [← hv] at mp1 mp2
      have HM : Hid (Dig2 A r0 (y1 * 18446744073709551616 + y0) y1 v (t + y1) ∧ v < g) := ⟨by rw [hv]; exact HN, by omega⟩
      have ad := add64_c0 t y1
      have sb := sub64_c0 (mulLo g y0) y0
      have ae := add_eq t y1 0
      have ahl := addHi_le t y1 0 ht m1 (by omega)
      have mvl := mulHi_le v y0 vl m0
      have mv2 : ((mulHi g y0 : Nat) : Int) - ((subHi (mulLo g y0) y0 0 : Nat) : Int) = ((mulHi v y0 : Nat) : Int) := by omega
      have mvb : ((mulHi v y0 : Nat) : Int) < 18446744073709551616 := by omega
      clear HN hv hc mp2 mvl
      by_cases hcy : addHi t y1 0 = 0
      · have hcb : (((addHi t y1 0 : Nat) : Int) != 0) = false := by simp [hcy]
        have al : addLo t y1 0 = t + y1 := by rw [hcy] at ae; omega
        have hlt : t + y1 < 18446744073709551616 := by rw [← al]; exact addLo_lt _ _ _
        clear ae hcy ahl
        go_wp2_with fail
        go_round
        case rel => exact ⟨v, t + y1, rfl, by go_num, rfl, rfl, hlt, vl, HM.out.1⟩
        case measure => simp [intOf]; have := HM.out.2; omega
      · have hcb : (((addHi t y1 0 : Nat) : Int) != 0) = true := by simp; omega
        have hge : 18446744073709551616 ≤ t + y1 := by omega
        have HQ2 : Hid (v = (A * 18446744073709551616 + r0) / (y1 * 18446744073709551616 + y0)) := HM.out.1.broke rfl hYp vl m0 hge
        clear ae hcy ahl hge
        go_wp2_with fail
        go_ret
        exact ⟨ret_int (congrArg _ (HQ2.out.trans HG.out.symm)), 1 + nq, rfl⟩
    · have d1 : decide (t < mulHi g y0) = false := decide_eq_false (by omega)
      have d2 : (((mulHi g y0 : Nat) : Int) == ((t : Nat) : Int)) = true := by simp; omega
      by_cases h2 : r0 < mulLo g y0
      · have d3 : decide (r0 < mulLo g y0) = true := decide_eq_true h2
        have hc : t * 18446744073709551616 + r0 < g * y0 := by omega
        clear me ml h1 h2
        obtain ⟨hp, HN⟩ := HD.out.step rfl hYp hc
        obtain ⟨v, hv⟩ : ∃ v, v = g - 1 := ⟨_, rfl⟩
        have ev : ((g : Nat) : Int) - 1 = ((v : Nat) : Int) := by omega
        have vl : v < 18446744073709551616 := by omega
        obtain ⟨mp1, mp2⟩ := mul_pred hp m0
        rw [← hv] at mp1 mp2
        have HM : Hid (Dig2 A r0 (y1 * 18446744073709551616 + y0) y1 v (t + y1) ∧ v < g) := ⟨by rw [hv]; exact HN, by omega⟩
        have ad := add64_c0 t y1
        have sb := sub64_c0 (mulLo g y0) y0
        have ae := add_eq t y1 0
        have ahl := addHi_le t y1 0 ht m1 (by omega)
        have mvl := mulHi_le v y0 vl m0
        have mv2 : ((mulHi g y0 : Nat) : Int) - ((subHi (mulLo g y0) y0 0 : Nat) : Int) = ((mulHi v y0 : Nat) : Int) := by omega
        have mvb : ((mulHi v y0 : Nat) : Int) < 18446744073709551616 := by omega
        clear HN hv hc mp2 mvl
        by_cases hcy : addHi t y1 0 = 0
        · have hcb : (((addHi t y1 0 : Nat) : Int) != 0) = false := by simp [hcy]
          have al : addLo t y1 0 = t + y1 := by rw [hcy] at ae; omega
          have hlt : t + y1 < 18446744073709551616 := by rw [← al]; exact addLo_lt _ _ _
          clear ae hcy ahl
          go_wp2_with fail
          go_round
          case rel => exact ⟨v, t + y1, rfl, by go_num, rfl, rfl, hlt, vl, HM.out.1⟩
          case measure => simp [intOf]; have := HM.out.2; omega
        · have hcb : (((addHi t y1 0 : Nat) : Int) != 0) = true := by simp; omega
          have hge : 18446744073709551616 ≤ t + y1 := by omega
          have HQ2 : Hid (v = (A * 18446744073709551616 + r0) / (y1 * 18446744073709551616 + y0)) := HM.out.1.broke rfl hYp vl m0 hge
          clear ae hcy ahl hge
          go_wp2_with fail
          go_ret
          exact ⟨ret_int (congrArg _ (HQ2.out.trans HG.out.symm)), 1 + nq, rfl⟩
      · have d3 : decide (r0 < mulLo g y0) = false := decide_eq_false h2
        have HQ2 : Hid (g = (A * 18446744073709551616 + r0) / (y1 * 18446744073709551616 + y0)) := HD.out.done rfl hYp (by omega)
        clear me ml h1 h2
        go_wp2_with fail
        go_ret
        exact ⟨ret_int (congrArg _ (HQ2.out.trans HG.out.symm)), 1 + nq, rfl⟩
    · have d1 : decide (t < mulHi g y0) = false := decide_eq_false (by omega)
      have d2 : (((mulHi g y0 : Nat) : Int) == ((t : Nat) : Int)) = false := by simp; omega
      have HQ2 : Hid (g = (A * 18446744073709551616 + r0) / (y1 * 18446744073709551616 + y0)) := HD.out.done rfl hYp (by omega)
      clear me ml h1
      go_wp2_with fail
      go_ret
      exact ⟨ret_int (congrArg _ (HQ2.out.trans HG.out.symm)), 1 + nq, rfl⟩
end Go.Proofs.Ytekigmkepfhdhaa
