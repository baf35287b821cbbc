/- addProduct adds words times a digit to a row. -/
import Derived.Test.YtekigmkepfhdhaaProdM
namespace Go.Proofs.Ytekigmkepfhdhaa
open Go.RowKit
set_option maxRecDepth 100000
set_option linter.unusedVariables false
set_option maxHeartbeats 1000000 in
theorem addProduct_any (b N o n cap : Nat) (F : Nat → Nat) (a : Option Addr) (m cap' : Nat) (G : Nat → Nat) (d : Nat) (w : World) (hF : Row w b N F) (hG : Sl w a m cap' G) (ho : o + m ≤ N) (hn : m ≤ 1099511627776) (hm : m ≤ cap) (hnc : n ≤ cap) (hd : d < 18446744073709551616)
    (hne : ∀ b' o', a = some ⟨b', o', none⟩ → b' ≠ b) :
    Calls Try.prog 65 #[.slice (some ⟨b, o, none⟩) n cap, .slice a m cap', .int .u64 (d : Int)] w fun e w' => ∃ c : Nat, e = .returned (.int .u64 (c : Int)) ∧ ∃ H, Prod w w' b N o F (V G m * d) m c H := by
  have A0 := Prod.start o hF
  have HG : Hid (Sl w a m cap' G) := hG
  have HN : Hid _ := hne
  clear hG hF hne
  have hmc : (m : Int) ≤ cap := by omega
  go_enter Try.func65, Try.ntmps65
  go_wp2_with fail
  go_loopw [7, 19] (fun cv t wr => ∃ (k c : Nat) (H : Nat → Nat), k ≤ m ∧ t = .int .i64 (k : Int) ∧ cv = .int .u64 ((c : Nat) : Int) ∧ Prod w wr b N o F (V G k * d) k c H) (fun _ t _ => m - (intOf t).toNat)
  case atStart => exact ⟨0, 0, F, by omega, rfl, rfl, by rw [V_zero, Nat.zero_mul]; exact A0⟩
  case round =>
    clear A0
    obtain ⟨k, c, H, hk, rfl, rfl, hA⟩ := hrel
    by_cases hkm : k < m
    · obtain ⟨b', o', rfl, hw⟩ := HG.out.at k hkm
      have hbb : b' ≠ b := HN.out b' o' rfl
      have hc1 : wr.cell? ⟨b', o' + k, none⟩ = some (.int .u64 (G k : Nat)) := hA.2.2.2.2.cell (hw k hkm) (by simpa using hbb)
      have hc2 : wr.cell? ⟨b, o + k, none⟩ = some (.int .u64 (H (o + k) : Nat)) := hA.1.cell (by omega)
      have hf2 : wr.frozen? ⟨b, o + k, none⟩ = false := hA.1.frozen _
      have hGk : G k < 18446744073709551616 := HG.out.2.2.1 k hkm
      have ad1 := add64_c0 (mulLo (G k) d) c
      have ad2 := add64_c0 (H (o + k)) (addLo (mulLo (G k) d) c 0)
      have S : Hid _ := hA.step (by omega) hGk hd
      have hb1 : ((mulHi (G k) d : Nat) : Int) + ((addHi (mulLo (G k) d) c 0 : Nat) : Int) < 18446744073709551616 := by have := mid_le (G k) d c hGk hd hA.2.2.1; omega
      have hb2 : ((mulHi (G k) d : Nat) : Int) + ((addHi (mulLo (G k) d) c 0 : Nat) : Int) + ((addHi (H (o + k)) (addLo (mulLo (G k) d) c 0) 0 : Nat) : Int) < 18446744073709551616 := by
        have := ap_lt (G k) d (H (o + k)) c hGk hd (hA.1.2 _ (by omega)) hA.2.2.1
        unfold apHi at this
        omega
      clear hA hw hbb
      go_wp2_with fail
      refine (mul64_any (G k) d _ hGk hd).mono ?_
      rintro e w1 ⟨rfl, rfl⟩
      go_wp2_with fail
      go_roundw
      case rel => exact ⟨k + 1, _, _, by omega, by go_num, by unfold apHi; go_num, S.out⟩
      case measure => simp [intOf]; omega
    · obtain rfl : k = m := by omega
      have HA : Hid _ := hA
      clear hA
      go_wp2_with fail
      go_ret
      exact ⟨c, rfl, H, HA.out⟩
end Go.Proofs.Ytekigmkepfhdhaa
