/- trimmed makes of words the number that they say. -/
import Derived.Test.YtekigmkepfhdhaaBase
namespace Go.Proofs.Ytekigmkepfhdhaa
open Go.RowKit
set_option maxRecDepth 100000
theorem Sl.at {w : World} {a : Option Addr} {n cap : Nat} {F : Nat → Nat} (h : Sl w a n cap F) (i : Nat) (hi : i < n) : ∃ b o, a = some ⟨b, o, none⟩ ∧ Words w b o n F := by
  rcases h.2.2.2 with h0 | h0
  · omega
  · exact h0
/-- The first k words of a slice, where those beyond are 0. -/
theorem isNat_cut {w : World} {b o n cap k : Nat} {F : Nat → Nat} (h : Sl w (some ⟨b, o, none⟩) n cap F) (hk : k ≤ n) (h0 : 0 < k) (hz : ∀ i, k ≤ i → i < n → F i = 0) (hf : F (k - 1) ≠ 0) :
    IsNat w (.agg #[.slice (some ⟨b, o, none⟩) k cap]) (V F n) := by
  obtain ⟨b', o', e, hw⟩ := h.at 0 (by omega)
  cases e
  refine ⟨_, k, cap, F, rfl, ⟨by have := h.1; omega, h.2.1, h.2.2.1.mono hk, .inr ⟨b, o, rfl, fun i hi => hw i (by omega)⟩⟩, fun e => absurd e (by omega), fun _ => hf, (V_top hk hz).symm⟩
set_option maxHeartbeats 400000 in
theorem trimmed_any (a : Option Addr) (n cap : Nat) (F : Nat → Nat) (w : World) (h : Sl w a n cap F) (hn : n ≤ 1099511627776) :
    Calls Try.prog 34 #[.slice a n cap] w fun e w' => ∃ v, e = .returned v ∧ IsNat w' v (V F n) ∧ Below w.heap.size w w' := by
  go_enter Try.func34, Try.ntmps34
  go_wp2
  go_loop [3] (fun t => ∃ k : Nat, k ≤ n ∧ t = .int .i64 k ∧ (∀ i, k ≤ i → i < n → F i = 0)) (fun t => (intOf t).toNat)
  case atStart => exact ⟨n, Nat.le_refl _, rfl, fun i h1 h2 => absurd h1 (by omega)⟩
  case round =>
    obtain ⟨k, hk, rfl, hz⟩ := hrel
    by_cases h0 : k = 0
    · subst h0
      have HZ : Hid _ := hz
      clear hz
      go_wp2
      refine bodyPost_ret (v := .agg #[.slice none 0 0]) (by simp [results, Try.results34, go_sem]) rfl ⟨_, rfl, ?_, ?_⟩
      · rw [V_zeros fun i hi => HZ.out i (Nat.zero_le _) hi]; exact isNat_zero _
      · exact (Below.refl _ _).alloc (Nat.le_refl _) _
    · obtain ⟨b, o, rfl, hw⟩ := h.at (k - 1) (by omega)
      have hc : (w.alloc (.cells #[.slice none 0 0] 27)).cell? ⟨b, o + (k - 1), none⟩ = some (.int .u64 (F (k - 1) : Nat)) := cell_later ((Below.refl _ _).alloc (Nat.le_refl _) _) (hw (k - 1) (by omega))
      have h0' : (0 : Int) < k := by omega
      have HZ : Hid _ := hz
      have HW : Hid _ := hw
      have HH : Hid _ := h
      clear hz hw h
      by_cases hf : F (k - 1) = 0
      · rw [hf] at hc
        go_wp2
        go_round
        case rel =>
          refine ⟨k - 1, by omega, by go_num, fun i h1 h2 => ?_⟩
          by_cases e : i = k - 1
          · rw [e, hf]
          · exact HZ.out i (by omega) h2
        case measure => simp [intOf]; omega
      · have hne : (((F (k - 1) : Nat) : Int) == 0) = false := by simp; omega
        have hk0 : ((k : Int) == 0) = false := by simp; omega
        have hcap : (k : Int) ≤ cap := by have := HH.out.1; omega
        go_wp2
        refine bodyPost_ret (v := .agg #[.slice (some ⟨b, o, none⟩) k cap]) (by simp [results, Try.results34, go_sem]) rfl ⟨_, rfl, ?_, ?_⟩
        · exact (isNat_cut HH.out hk (by omega) HZ.out hf).mono ((Below.refl _ _).alloc (Nat.le_refl _) _)
        · exact (Below.refl _ _).alloc (Nat.le_refl _) _
end Go.Proofs.Ytekigmkepfhdhaa
