/- fillChunk: a word's digits. -/
import Derived.Test.YtekigmkepfhdhaaDivModC
import Derived.Test.YtekigmkepfhdhaaBytes
namespace Go.Proofs.Ytekigmkepfhdhaa
open Go.RowKit
set_option maxRecDepth 100000
set_option linter.unusedVariables false
/-- The sign of x's decimal digit at a place. -/
def decAt (x p : Nat) : Nat := 48 + x / 10 ^ p % 10
theorem decAt_lt (x p : Nat) : decAt x p < 256 := by have := Nat.mod_lt (x / 10 ^ p) (show 0 < 10 by omega); unfold decAt; omega
theorem decAt_div (x p q : Nat) : decAt (x / 10 ^ q) p = decAt x (q + p) := by unfold decAt; rw [Nat.div_div_eq_div_mul, ← Nat.pow_add]
theorem decAt_mod (x p q : Nat) (h : p < q) : decAt (x % 10 ^ q) p = decAt x p := by
  unfold decAt
  obtain ⟨t, rfl⟩ : ∃ t, q = p + (t + 1) := ⟨q - p - 1, by omega⟩
  rw [Nat.pow_add, Nat.mod_mul_right_div_self]
  rw [Nat.mod_mod_of_dvd _ ⟨10 ^ t, by rw [Nat.pow_succ, Nat.mul_comm]⟩]
/-- The last places of n, from k on, hold digits of x. -/
def DecFill (D D' : Nat → Nat) (o n k x : Nat) : Prop := (∀ i, k ≤ i → i < n → D' (o + i) = decAt x (n - 1 - i)) ∧ ∀ j, j < o + k ∨ o + n ≤ j → D' j = D j
theorem DecFill.start (D : Nat → Nat) (o n x : Nat) : DecFill D D o n n x := ⟨fun i h1 h2 => absurd h2 (by omega), fun _ _ => rfl⟩
theorem DecFill.step {D D' : Nat → Nat} {o n t x : Nat} (h : DecFill D D' o n (t + 1) x) (ht : t < n) : DecFill D (put D' (o + t) (decAt x (n - 1 - t))) o n t x := by
  refine ⟨fun i h1 h2 => ?_, fun j hj => ?_⟩
  · by_cases e : i = t
    · subst e
      exact put_same _ _ _
    · rw [put_other _ _ (by omega)]
      exact h.1 i (by omega) h2
  · rw [put_other _ _ (by omega)]
    exact h.2 j (by omega)
set_option maxHeartbeats 1000000 in
theorem fillChunk_any (b N o n cap c : Nat) (D : Nat → Nat) (w : World) (hD : BRow w b N D) (ho : o + n ≤ N) (hn : n ≤ 1099511627776) (hc : c < 18446744073709551616) :
    Calls Try.prog 76 #[.slice (some ⟨b, o, none⟩) n cap, .int .u64 (c : Int)] w fun e w' => e = .returned (.tuple #[]) ∧ ∃ D', BRow w' b N D' ∧ DecFill D D' o n 0 c ∧ w.grownBy w' (some b) := by
  have A0 : Hid _ := hD
  clear hD
  go_enter Try.func76, Try.ntmps76
  go_wp2_with fail
  go_loopw [1, 4] (fun cv t wr => ∃ (k : Nat) (D' : Nat → Nat), k ≤ n ∧ t = .int .i64 ((k : Int) - 1) ∧ cv = .int .u64 ((c / 10 ^ (n - k) : Nat) : Int) ∧ BRow wr b N D' ∧ DecFill D D' o n k c ∧ w.grownBy wr (some b)) (fun _ t _ => (intOf t + 1).toNat)
  case atStart => exact ⟨n, D, Nat.le_refl _, rfl, by simp, A0.out, DecFill.start _ _ _ _, World.grownBy.refl _ _⟩
  case round =>
    obtain ⟨k, D', hk, rfl, rfl, hA⟩ := hrel
    by_cases hk0 : k = 0
    · subst hk0
      have HA : Hid _ := hA
      clear hA
      go_wp2_with fail
      exact bodyPost_end (v := .tuple #[]) (by simp [results, Try.results76, go_sem]) rfl ⟨rfl, D', HA.out⟩
    · obtain ⟨t, rfl⟩ : ∃ t, k = t + 1 := ⟨k - 1, by omega⟩
      have hc2 : wr.cell? ⟨b, o + t, none⟩ = some (.int .u8 (D' (o + t) : Nat)) := hA.1.cell (by omega)
      have hf2 : wr.frozen? ⟨b, o + t, none⟩ = false := hA.1.frozen _
      have HA : Hid _ := hA
      obtain ⟨c', e'⟩ : ∃ c', c' = c / 10 ^ (n - (t + 1)) := ⟨_, rfl⟩
      have hc' : c' < 18446744073709551616 := by rw [e']; exact Nat.lt_of_le_of_lt (Nat.div_le_self _ _) hc
      rw [← e']
      have HE : Hid _ := e'
      clear hA e'
      go_wp2_with fail
      go_roundw
      case rel =>
        have hd : c' % 10 = c' % 10 ∧ 48 + c' % 10 = decAt c (n - 1 - t) ∧ c' / 10 = c / 10 ^ (n - t) := by
          refine ⟨rfl, ?_, ?_⟩
          · rw [HE.out]; unfold decAt; rw [show n - 1 - t = n - (t + 1) by omega]
          · rw [HE.out, Nat.div_div_eq_div_mul, ← Nat.pow_succ, show (n - (t + 1)).succ = n - t by omega]
        have hb := HA.out.1.set (o + t) (decAt_lt c (n - 1 - t))
        rw [← hd.2.1] at hb
        refine ⟨t, put D' (o + t) (48 + c' % 10), by omega, by go_num, ?_, ?_, ?_, ?_⟩
        · rw [← hd.2.2]; simp
        · have := hb; simpa using this
        · rw [hd.2.1]; exact HA.out.2.1.step (by omega)
        · exact grown_set _ HA.out.2.2 _ _
      case measure => simp [intOf]
end Go.Proofs.Ytekigmkepfhdhaa
