/- DivMod, all ways. -/
import Derived.Test.YtekigmkepfhdhaaDivModB
namespace Go.Proofs.Ytekigmkepfhdhaa
open Go.RowKit
set_option linter.unusedVariables false
theorem divMod_any (v u : Value) (x y : Nat) (w : World) (h : IsNat w v x) (k : IsNat w u y) (hx : Small x) (hy : Small y) (hy0 : 0 < y) (hsh : (y < P 99 ∨ x < P 99) ∨ (P 126 ≤ y ∧ x < P 225)) :
    Calls Try.prog 24 #[v, u] w (MakesQRB w (x / y) (x % y) true) := by
  rcases Nat.lt_or_ge x y with hl | hl
  · exact divMod_lt v u x y w h k hx.fits hy.fits hl
  obtain ⟨a, n, cap, rfl⟩ := h.isAgg
  obtain ⟨a', m, cap', rfl⟩ := k.isAgg
  obtain ⟨G, ks, k0, k1, kv⟩ := id k.fits
  rcases m with _ | _ | m
  · rw [V_zero] at kv
    omega
  · exact divMod_word a n cap a' cap' x y w h k hx.fits hy.fits hl
  · obtain ⟨F, hs, h0, h1, hv⟩ := id h.fits
    refine divMod_long a n cap a' m cap' x y w h k hx hl ?_
    rcases hsh with hh | ⟨h1', h2'⟩
    · have : y < P 99 := hh.elim id fun hh => Nat.lt_of_le_of_lt hl hh
      have := len_le_of (kv.symm ▸ this) k1
      left
      omega
    · have e1 : P 126 < P (m + 1 + 1) := Nat.lt_of_le_of_lt h1' (kv ▸ V_lt ks.2.2.1)
      have e3 : 126 < m + 1 + 1 := by
        rcases Nat.lt_or_ge 126 (m + 1 + 1) with hh | hh
        · exact hh
        · exact absurd e1 (Nat.not_lt.2 (P_le hh))
      have e2 := len_le_of (hv.symm ▸ h2') h1
      right
      omega
end Go.Proofs.Ytekigmkepfhdhaa
