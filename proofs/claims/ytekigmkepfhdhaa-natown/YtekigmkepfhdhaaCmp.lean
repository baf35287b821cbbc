/- Uint and Cmp. -/
import Derived.Test.YtekigmkepfhdhaaRead
namespace Go.Proofs.Ytekigmkepfhdhaa
open Go.RowKit
set_option maxRecDepth 100000
theorem isNat_fits1 {w : World} {a : Option Addr} {n cap : Nat} {F : Nat → Nat} (hs : Sl w a n cap F) (h1 : 0 < n → F (n - 1) ≠ 0) : V F n < 18446744073709551616 ↔ n ≤ 1 := by
  rw [← P_one]
  constructor
  · intro h
    exact len_le_of h h1
  · intro h
    exact Nat.lt_of_lt_of_le (V_lt hs.2.2.1) (P_le h)
set_option maxHeartbeats 400000 in
theorem uint_yes (v : Value) (x : Nat) (w : World) (h : IsNat w v x) (hx : x < 18446744073709551616) :
    Calls Try.prog 37 #[v] w fun e w' => e = .returned (.tuple #[.int .u64 (x : Int), .bool true]) ∧ Below w.heap.size w w' := by
  obtain ⟨a, n, cap, F, rfl, hs, h0, h1, hv⟩ := h
  have hn := (isNat_fits1 hs h1).1 (hv.symm ▸ hx)
  by_cases e0 : n = 0
  · subst e0
    have hv0 : x = 0 := hv.symm
    subst hv0
    clear hv h1 h0
    go_enter Try.func37, Try.ntmps37
    go_wp2
    go_ret2
    exact ⟨rfl, (Below.refl _ _).alloc (Nat.le_refl _) _⟩
  · obtain rfl : n = 1 := by omega
    obtain ⟨b, o, rfl, hw⟩ := hs.at 0 (by omega)
    have hxF : x = F 0 := by rw [← hv, V_succ, V_zero, P_zero]; omega
    have hc : w.cell? ⟨b, o, none⟩ = some (.int .u64 (F 0 : Nat)) := hw 0 (by omega)
    rw [← hxF] at hc
    have hlt : b < w.heap.size := World.block_lt_of_cell? _ _ hc
    clear hw h0 h1 hv hs hxF hn e0
    go_enter Try.func37, Try.ntmps37
    go_wp2
    go_ret2
    exact ⟨rfl, (Below.refl _ _).alloc (Nat.le_refl _) _⟩
set_option maxHeartbeats 400000 in
theorem uint_no (v : Value) (x : Nat) (w : World) (h : IsNat w v x) (hf : Fits x) (hx : ¬ x < 18446744073709551616) :
    Calls Try.prog 37 #[v] w fun e w' => e = .returned (.tuple #[.int .u64 0, .bool false]) ∧ Below w.heap.size w w' := by
  obtain ⟨a, n, cap, F, rfl, hs, h0, h1, hv⟩ := h
  have hn : ¬ n ≤ 1 := fun hh => hx (hv ▸ (isNat_fits1 hs h1).2 hh)
  have hl : n ≤ 4294967296 := fits_len (hv.symm ▸ hf) h1
  have hn0 : ((n : Int) == 0) = false := by simp; omega
  have hn1 : ((n : Int) == 1) = false := by simp; omega
  clear h0 h1 hv hs hx hn hf
  go_enter Try.func37, Try.ntmps37
  go_wp2
  go_ret2
  exact ⟨rfl, (Below.refl _ _).alloc (Nat.le_refl _) _⟩
/-- -1, 0 or 1. -/
def cmpI (x y : Nat) : Int := if x < y then -1 else if x = y then 0 else 1
theorem cmpI_lt {x y : Nat} (h : x < y) : cmpI x y = -1 := by simp [cmpI, h]
theorem cmpI_gt {x y : Nat} (h : y < x) : cmpI x y = 1 := by simp [cmpI, Nat.not_lt.2 (Nat.le_of_lt h), Nat.ne_of_gt h]
theorem cmpI_eq (x : Nat) : cmpI x x = 0 := by simp [cmpI]
theorem V_lt_len {F G : Nat → Nat} {n m : Nat} (hF : Ok F n) (hm : n < m) (h1 : G (m - 1) ≠ 0) : V F n < V G m :=
  Nat.lt_of_lt_of_le (V_lt hF) (V_long hm h1)
theorem V_lt_at {F G : Nat → Nat} {n k : Nat} (hF : Ok F n) (hk : k < n) (hl : F k < G k) (he : ∀ j, k + 1 ≤ j → j < n → F j = G j) : V F n < V G n := by
  obtain ⟨t, rfl⟩ : ∃ t, n = k + 1 + t := ⟨n - (k + 1), by omega⟩
  rw [V_split F (k + 1), V_split G (k + 1), V_congr (F := fun i => F (k + 1 + i)) (G := fun i => G (k + 1 + i)) fun i hi => he _ (by omega) (by omega), V_succ, V_succ]
  have h1 := V_lt (hF.mono (show k ≤ k + 1 + t by omega))
  have h2 : (F k + 1) * P k ≤ G k * P k := Nat.mul_le_mul_right _ hl
  rw [Nat.add_mul] at h2
  omega
theorem bel_alloc2 (w : World) (o1 o2 : Obj) : Below w.heap.size w ((w.alloc o1).alloc o2) := ((Below.refl _ _).alloc (Nat.le_refl _) _).alloc (by simp) _
theorem bel_drewN {B : Nat} {a w : World} (h : Below B a w) (n : Nat) : Below B a (w.drewN n) := ⟨h.os, h.tape, h.output, h.size, h.block⟩
set_option maxHeartbeats 400000 in
theorem cmp_any (v u : Value) (x y : Nat) (w : World) (h : IsNat w v x) (k : IsNat w u y) (hx : Fits x) (hy : Fits y) :
    Calls Try.prog 26 #[v, u] w fun e w' => e = .returned (.int .i64 (cmpI x y)) ∧ Below w.heap.size w w' := by
  obtain ⟨a, n, cap, F, rfl, hs, h0, h1, hv⟩ := h
  obtain ⟨a', m, cap', G, rfl, ks, k0, k1, kv⟩ := k
  have hn : n ≤ 4294967296 := fits_len (hv.symm ▸ hx) h1
  have hm : m ≤ 4294967296 := fits_len (kv.symm ▸ hy) k1
  rcases Nat.lt_trichotomy n m with hlt | heq | hgt
  · have HC : Hid (cmpI x y = -1) := cmpI_lt (by rw [← hv, ← kv]; exact V_lt_len hs.2.2.1 hlt (k1 (by omega)))
    clear hs h0 h1 hv ks k0 k1 kv hx hy
    go_enter Try.func26, Try.ntmps26
    go_wp2
    go_ret
    exact ⟨ret_int HC.out.symm, bel_alloc2 _ _ _⟩
  · subst heq
    go_enter Try.func26, Try.ntmps26
    have HH : Hid _ := (show (Sl w a n cap F ∧ Sl w a' n cap' G ∧ V F n = x ∧ V G n = y) from ⟨hs, ks, hv, kv⟩)
    clear hs h0 h1 hv ks k0 k1 kv hx hy
    go_wp2
    go_loopw [5] (fun t wr => ∃ (k nd : Nat), k ≤ n ∧ t = .int .i64 ((k : Int) - 1) ∧ (∀ j, k ≤ j → j < n → F j = G j) ∧ wr = ((w.alloc (.cells #[.slice a n cap] 27)).alloc (.cells #[.slice a' n cap'] 27)).drewN nd) (fun t _ => (intOf t + 1).toNat)
    case atStart => exact ⟨n, 0, Nat.le_refl _, rfl, fun j h1 h2 => absurd h1 (by omega), rfl⟩
    case round =>
      obtain ⟨k, nd, hk, rfl, he, rfl⟩ := hrel
      by_cases e0 : k = 0
      · subst e0
        have HE : Hid _ := he
        clear he
        go_wp2
        go_ret
        refine ⟨ret_int ?_, bel_drewN (bel_alloc2 _ _ _) _⟩
        obtain ⟨_, _, q1, q2⟩ := HH.out
        rw [← q1, ← q2, V_congr fun i hi => HE.out i (Nat.zero_le _) hi, cmpI_eq]
      · obtain ⟨j, rfl⟩ : ∃ j, k = j + 1 := ⟨k - 1, by omega⟩
        obtain ⟨b, o, rfl, hw⟩ := HH.out.1.at j (by omega)
        obtain ⟨b', o', rfl, kw⟩ := HH.out.2.1.at j (by omega)
        have hc := hw j (by omega)
        have kc := kw j (by omega)
        have hb : b < w.heap.size := World.block_lt_of_cell? _ _ hc
        have kb : b' < w.heap.size := World.block_lt_of_cell? _ _ kc
        have HE : Hid _ := he
        clear he hw kw
        rcases Nat.lt_trichotomy (F j) (G j) with hl | hl | hl
        · have hl' : ((F j : Nat) : Int) < (G j : Nat) := by omega
          have HC : Hid (cmpI x y = -1) := by
            obtain ⟨q1, _, q3, q4⟩ := HH.out
            exact cmpI_lt (by rw [← q3, ← q4]; exact V_lt_at q1.2.2.1 (by omega) hl HE.out)
          go_wp2_with fail
          go_region
          go_wp2_with fail
          go_ret
          exact ⟨ret_int HC.out.symm, bel_drewN (bel_alloc2 _ _ _) _⟩
        · have hd1 : decide (((F j : Nat) : Int) < (G j : Nat)) = false := decide_eq_false (by omega)
          have hd2 : decide (((G j : Nat) : Int) < (F j : Nat)) = false := decide_eq_false (by omega)
          go_wp2_with fail
          go_region
          go_wp2_with fail
          go_region
          go_wp2_with fail
          go_roundw
          case rel =>
            refine ⟨j, nd + 1 + 1, by omega, by go_num, fun i h1 h2 => ?_, rfl⟩
            by_cases e : i = j
            · rw [e, hl]
            · exact HE.out i (by omega) h2
          case measure => simp [intOf]
        · have hd1 : decide (((F j : Nat) : Int) < (G j : Nat)) = false := decide_eq_false (by omega)
          have hl' : ((G j : Nat) : Int) < (F j : Nat) := by omega
          have HC : Hid (cmpI x y = 1) := by
            obtain ⟨_, q2, q3, q4⟩ := HH.out
            exact cmpI_gt (by rw [← q3, ← q4]; exact V_lt_at q2.2.2.1 (by omega) hl fun i h1 h2 => (HE.out i h1 h2).symm)
          go_wp2_with fail
          go_region
          go_wp2_with fail
          go_region
          go_wp2_with fail
          go_ret
          exact ⟨ret_int HC.out.symm, bel_drewN (bel_alloc2 _ _ _) _⟩
  · have HC : Hid (cmpI x y = 1) := cmpI_gt (by rw [← hv, ← kv]; exact V_lt_len ks.2.2.1 hgt (h1 (by omega)))
    clear hs h0 h1 hv ks k0 k1 kv hx hy
    have hd1 : decide ((n : Int) < m) = false := decide_eq_false (by omega)
    have hd2 : (m : Int) < n := by omega
    go_enter Try.func26, Try.ntmps26
    go_wp2
    go_ret
    exact ⟨ret_int HC.out.symm, bel_alloc2 _ _ _⟩
end Go.Proofs.Ytekigmkepfhdhaa
