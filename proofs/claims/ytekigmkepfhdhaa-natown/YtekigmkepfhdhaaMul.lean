/- Mul of two numbers of which one has fewer than 100 words. -/
import Derived.Test.YtekigmkepfhdhaaPlain
namespace Go.Proofs.Ytekigmkepfhdhaa
open Go.RowKit
set_option maxRecDepth 100000
set_option linter.unusedVariables false
set_option maxHeartbeats 1000000 in
theorem mul_ge (a : Option Addr) (n cap : Nat) (a' : Option Addr) (m cap' : Nat) (x y : Nat) (w : World) (h : IsNat w (.agg #[.slice a n cap]) x) (k : IsNat w (.agg #[.slice a' m cap']) y) (hx : Fits x) (hy : Fits y) (hmn : m ≤ n) (hsh : m < 100) :
    Calls Try.prog 23 #[.agg #[.slice a n cap], .agg #[.slice a' m cap']] w (Makes w (x * y)) := by
  obtain ⟨F, hs, h0, h1, hv⟩ := h.fits
  obtain ⟨G, ks, k0, k1, kv⟩ := k.fits
  have hn : n ≤ 4294967296 := fits_len (hv.symm ▸ hx) h1
  have hm : m ≤ 4294967296 := fits_len (kv.symm ▸ hy) k1
  have hd : decide ((n : Int) < m) = false := decide_eq_false (by omega)
  have HH : Hid (Sl w a n cap F ∧ V F n = x ∧ (n = 0 → a = none) ∧ Sl w a' m cap' G ∧ V G m = y ∧ (m = 0 → a' = none)) := ⟨hs, hv, fun e => (h0 e).1, ks, kv, fun e => (k0 e).1⟩
  clear hs h0 h1 hv ks k0 k1 kv hx hy h k
  have HB : Hid (Below w.heap.size w (((w.alloc (.cells #[.slice a n cap] 27)).alloc (.cells #[.slice a' m cap'] 27)).alloc (.cells #[.slice none 0 0] 27))) := (bel_alloc2 _ _ _).alloc (by simp <;> omega) _
  go_enter Try.func23, Try.ntmps23
  go_wp2_with fail
  refine (plain_any a n cap F a' m cap' G _ (HH.out.1.mono HB.out) (HH.out.2.2.2.1.mono HB.out) HH.out.2.2.1 (by omega) (by omega)).mono ?_
  rintro e w3 ⟨v3, rfl, hv3, hb3⟩
  have hcr3 : w3.cell? ⟨w.heap.size + 1 + 1, 0, none⟩ = some (.slice none 0 0) := cell_later hb3 (by simp [go_sem])
  have hfr3 : w3.frozen? ⟨w.heap.size + 1 + 1, 0, none⟩ = false := (hb3.frozen (by simp <;> omega)).trans (by simp [go_sem])
  obtain ⟨a3, n3, cap3, rfl⟩ := hv3.isAgg
  have HV3 : Hid (IsNat w3 (.agg #[.slice a3 n3 cap3]) (V F n * V G m)) := hv3
  have B3 : Hid (Below w.heap.size w w3) := bel_trans HB.out hb3
  clear hv3 hb3
  go_wp2_with fail
  refine bodyPost_ret (v := .agg #[.slice a3 n3 cap3]) (by simp [results, Try.results23, go_sem, hcr3]) rfl ⟨_, rfl, ?_, B3.out.setCell (by simp <;> omega) _⟩
  have e1 : V F n * V G m = x * y := by rw [HH.out.2.1, HH.out.2.2.2.2.1]
  rw [← e1]
  exact HV3.out.setCell (no_int_slice hcr3) _
set_option maxHeartbeats 1000000 in
theorem mul_lt (a : Option Addr) (n cap : Nat) (a' : Option Addr) (m cap' : Nat) (x y : Nat) (w : World) (h : IsNat w (.agg #[.slice a n cap]) x) (k : IsNat w (.agg #[.slice a' m cap']) y) (hx : Fits x) (hy : Fits y) (hmn : n < m) (hsh : n < 100) :
    Calls Try.prog 23 #[.agg #[.slice a n cap], .agg #[.slice a' m cap']] w (Makes w (x * y)) := by
  obtain ⟨F, hs, h0, h1, hv⟩ := h.fits
  obtain ⟨G, ks, k0, k1, kv⟩ := k.fits
  have hn : n ≤ 4294967296 := fits_len (hv.symm ▸ hx) h1
  have hm : m ≤ 4294967296 := fits_len (kv.symm ▸ hy) k1
  have hd : (n : Int) < m := by omega
  have HH : Hid (Sl w a n cap F ∧ V F n = x ∧ (n = 0 → a = none) ∧ Sl w a' m cap' G ∧ V G m = y ∧ (m = 0 → a' = none)) := ⟨hs, hv, fun e => (h0 e).1, ks, kv, fun e => (k0 e).1⟩
  clear hs h0 h1 hv ks k0 k1 kv hx hy h k
  have HB : Hid (Below w.heap.size w (((w.alloc (.cells #[.slice a' m cap'] 27)).alloc (.cells #[.slice a n cap] 27)).alloc (.cells #[.slice none 0 0] 27))) := (bel_alloc2 _ _ _).alloc (by simp <;> omega) _
  go_enter Try.func23, Try.ntmps23
  go_wp2_with fail
  refine (plain_any a' m cap' G a n cap F _ (HH.out.2.2.2.1.mono HB.out) (HH.out.1.mono HB.out) HH.out.2.2.2.2.2 (by omega) (by omega)).mono ?_
  rintro e w3 ⟨v3, rfl, hv3, hb3⟩
  have hcr3 : w3.cell? ⟨w.heap.size + 1 + 1, 0, none⟩ = some (.slice none 0 0) := cell_later hb3 (by simp [go_sem])
  have hfr3 : w3.frozen? ⟨w.heap.size + 1 + 1, 0, none⟩ = false := (hb3.frozen (by simp <;> omega)).trans (by simp [go_sem])
  obtain ⟨a3, n3, cap3, rfl⟩ := hv3.isAgg
  have HV3 : Hid (IsNat w3 (.agg #[.slice a3 n3 cap3]) (V G m * V F n)) := hv3
  have B3 : Hid (Below w.heap.size w w3) := bel_trans HB.out hb3
  clear hv3 hb3
  go_wp2_with fail
  refine bodyPost_ret (v := .agg #[.slice a3 n3 cap3]) (by simp [results, Try.results23, go_sem, hcr3]) rfl ⟨_, rfl, ?_, B3.out.setCell (by simp <;> omega) _⟩
  have e1 : V G m * V F n = x * y := by rw [HH.out.2.1, HH.out.2.2.2.2.1]; exact Nat.mul_comm ..
  rw [← e1]
  exact HV3.out.setCell (no_int_slice hcr3) _
theorem isNat_len_le {w : World} {a : Option Addr} {n cap : Nat} {x m : Nat} (h : IsNat w (.agg #[.slice a n cap]) x) (hx : x < P m) : n ≤ m := by
  obtain ⟨F, hs, h0, h1, hv⟩ := h.fits
  exact len_le_of (hv.symm ▸ hx) h1
theorem mul_short (v u : Value) (x y : Nat) (w : World) (h : IsNat w v x) (k : IsNat w u y) (hx : Fits x) (hy : Fits y) (hsh : x < P 99 ∨ y < P 99) :
    Calls Try.prog 23 #[v, u] w (Makes w (x * y)) := by
  obtain ⟨a, n, cap, rfl⟩ := h.isAgg
  obtain ⟨a', m, cap', rfl⟩ := k.isAgg
  have hmin : n ≤ 99 ∨ m ≤ 99 := hsh.imp (isNat_len_le h) (isNat_len_le k)
  rcases Nat.lt_or_ge n m with hh | hh
  · exact mul_lt a n cap a' m cap' x y w h k hx hy hh (by omega)
  · exact mul_ge a n cap a' m cap' x y w h k hx hy hh (by omega)
end Go.Proofs.Ytekigmkepfhdhaa
