/- addWords adds words to a row. -/
import Derived.Test.YtekigmkepfhdhaaCarry
namespace Go.Proofs.Ytekigmkepfhdhaa
open Go.RowKit
set_option maxRecDepth 100000
/-- What a loop that adds has made of the row F, k words far. -/
def Added (w wr : World) (b N o : Nat) (F : Nat → Nat) (y k c : Nat) (H : Nat → Nat) : Prop :=
  Row wr b N H ∧ (∀ j, j < o ∨ o + k ≤ j → H j = F j) ∧ c ≤ 1 ∧ V (fro H o) k + c * P k = V (fro F o) k + y ∧ w.grownBy wr (some b)
theorem Added.start {w : World} {b N : Nat} {F : Nat → Nat} (o : Nat) (h : Row w b N F) : Added w w b N o F 0 0 0 F :=
  ⟨h, fun _ _ => rfl, by omega, by simp [V_zero], World.grownBy.refl _ _⟩
theorem Added.step {w wr : World} {b N o : Nat} {F : Nat → Nat} {y k c : Nat} {H : Nat → Nat} (h : Added w wr b N o F y k c H) (hk : o + k < N) (g : Nat) (hg : g < 18446744073709551616) :
    Added w (wr.setCell ⟨b, o + k, none⟩ (.int .u64 (addLo (H (o + k)) g c : Nat))) b N o F (y + g * P k) (k + 1) (addHi (H (o + k)) g c) (put H (o + k) (addLo (H (o + k)) g c)) := by
  obtain ⟨h1, h2, h3, h4, h5⟩ := h
  refine ⟨h1.set _ (addLo_lt _ _ _), fun j hj => ?_, addHi_le _ _ _ (h1.2 _ hk) hg h3, ?_, grown_set _ h5 _ _⟩
  · rw [put_other _ _ (by omega)]
    exact h2 j (by omega)
  · have hF : F (o + k) = H (o + k) := (h2 _ (by omega)).symm
    rw [V_succ, V_succ, V_put, P_succ]
    show V (fro H o) k + put H (o + k) _ (o + k) * P k + _ = V (fro F o) k + F (o + k) * P k + _
    rw [put_same, hF]
    exact add_step _ _ _ _ _ _ _ _ _ (add_eq _ _ _) h4
theorem Added.fin {w wr : World} {b N o : Nat} {F : Nat → Nat} {y k c n : Nat} {H : Nat → Nat} (h : Added w wr b N o F y k c H) (hk : k ≤ n) (hc : c = 0 ∨ k = n) :
    Added w wr b N o F y n c H := by
  obtain ⟨h1, h2, h3, h4, h5⟩ := h
  refine ⟨h1, fun j hj => h2 j (by omega), h3, ?_, h5⟩
  rcases hc with rfl | rfl
  · have := V_ext (F := fro F o) (H := fro H o) hk fun i hi _ => h2 (o + i) (by omega)
    omega
  · exact h4
set_option maxHeartbeats 1000000 in
theorem addWords_any (b N o n cap : Nat) (F : Nat → Nat) (a : Option Addr) (m cap' : Nat) (G : Nat → Nat) (w : World) (hF : Row w b N F) (hG : Sl w a m cap' G) (ho : o + n ≤ N) (hn : n ≤ 1099511627776) (hm : m ≤ n)
    (hne : ∀ b' o', a = some ⟨b', o', none⟩ → b' ≠ b) :
    Calls Try.prog 43 #[.slice (some ⟨b, o, none⟩) n cap, .slice a m cap'] w fun e w' => ∃ c : Nat, e = .returned (.int .u64 (c : Int)) ∧ ∃ H, Added w w' b N o F (V G m) n c H := by
  have A0 := Added.start o hF
  have HG : Hid (Sl w a m cap' G) := hG
  have HN : Hid _ := hne
  clear hG hF hne
  go_enter Try.func43, Try.ntmps43
  go_wp2_with fail
  go_loopw [5, 11] (fun cv t wr => ∃ (k c : Nat) (H : Nat → Nat), k ≤ m ∧ t = .int .i64 (k : Int) ∧ cv = .int .u64 ((c : Nat) : Int) ∧ Added w wr b N o F (V G k) k c H) (fun _ t _ => m - (intOf t).toNat)
  case atStart => exact ⟨0, 0, F, by omega, rfl, rfl, A0⟩
  case round =>
    clear A0
    obtain ⟨k, c, H, hk, rfl, rfl, hA⟩ := hrel
    by_cases hkm : k < m
    · obtain ⟨b', o', rfl, hw⟩ := HG.out.at k hkm
      have hbb : b' ≠ b := HN.out b' o' rfl
      have hc1 : wr.cell? ⟨b', o' + k, none⟩ = some (.int .u64 (G k : Nat)) := hA.2.2.2.2.cell (hw k hkm) (by simpa using hbb)
      have hc2 : wr.cell? ⟨b, o + k, none⟩ = some (.int .u64 (H (o + k) : Nat)) := hA.1.cell (by omega)
      have hf2 : wr.frozen? ⟨b, o + k, none⟩ = false := hA.1.frozen _
      have ad := add64 (H (o + k)) (G k) c hA.2.2.1
      have S : Hid _ := hA.step (by omega) (G k) (HG.out.2.2.1 k hkm)
      clear hA hw hbb
      go_wp2_with (simp only [ad])
      go_roundw
      case rel => exact ⟨k + 1, _, _, by omega, by go_num, rfl, S.out⟩
      case measure => simp [intOf]; omega
    · obtain rfl : k = m := by omega
      have HA : Hid _ := hA
      clear hA hkm hk
      go_wp2_with fail
      go_loopw [5, 8] (fun cv t wr => ∃ (q c : Nat) (H : Nat → Nat), k ≤ q ∧ q ≤ n ∧ t = .int .i64 (q : Int) ∧ cv = .int .u64 ((c : Nat) : Int) ∧ Added w wr b N o F (V G k) q c H) (fun _ t _ => n - (intOf t).toNat)
      case atStart => exact ⟨k, c, H, by omega, by omega, rfl, rfl, HA.out⟩
      case round =>
        clear HA
        obtain ⟨q, c2, H2, hq, hqn, rfl, rfl, hA⟩ := hrel
        by_cases hgo : c2 = 0 ∨ q = n
        · have S : Hid _ := hA.fin hqn hgo
          clear hA
          by_cases hc : c2 = 0
          · subst hc
            go_wp2_with fail
            go_ret
            exact ⟨0, rfl, H2, S.out⟩
          · obtain rfl : q = n := by omega
            have hcb : (((c2 : Nat) : Int) != 0) = true := by simp; omega
            go_wp2_with fail
            go_ret
            exact ⟨c2, rfl, H2, S.out⟩
        · have hcb : (((c2 : Nat) : Int) != 0) = true := by simp; omega
          have hqn' : (q : Int) < n := by omega
          have hc2 : wr.cell? ⟨b, o + q, none⟩ = some (.int .u64 (H2 (o + q) : Nat)) := hA.1.cell (by omega)
          have hf2 : wr.frozen? ⟨b, o + q, none⟩ = false := hA.1.frozen _
          have ad := add64_y0 (H2 (o + q)) c2 hA.2.2.1
          have S : Hid _ := hA.step (by omega) 0 (by omega)
          clear hA
          go_wp2_with (simp only [ad])
          go_roundw
          case rel => exact ⟨q + 1, _, _, by omega, by omega, by go_num, rfl, by have := S.out; rw [Nat.zero_mul, Nat.add_zero] at this; exact this⟩
          case measure => simp [intOf]; omega
end Go.Proofs.Ytekigmkepfhdhaa
