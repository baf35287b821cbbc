/- Contracts of the program's functions, part 42: own work, joined in build order. -/
import Derived.Test.YtjnfcihichaonaaJ41
import Derived.Shelf.SlSortCmp.QuietGrown
namespace Go.Proofs.Ytjnfcihichaonaa
open Go.RowKit Go.Sort
set_option maxRecDepth 100000
set_option linter.unusedVariables false
def digs (n : Nat) : Nat := if h : n = 0 then 0 else digs (n / 2) + 1
theorem digs_lt : ∀ n, n < 2 ^ digs n := by
  intro n
  induction n using Nat.strongRecOn with
  | _ n ih =>
    rw [digs]
    split
    · omega
    · have := ih (n / 2) (by omega)
      rw [Nat.pow_succ]
      omega
theorem asked_is (n : Nat) (hn : n ≤ 1000000) (w : World) : Calls Try.prog 26 #[.int .i64 (n : Int)] w fun e w' => e = .returned (.int .i64 ((12 * digs n + 12 : Nat) : Int)) ∧ w' = w := by
  go_enter Try.func26, Try.ntmps26
  go_wp2_with fail
  go_loopw [0, 3] (fun t s wr => ∃ (m d : Nat), t = .int .i64 (m : Int) ∧ s = .int .i64 (d : Int) ∧ wr = w ∧ Hid (d + digs m = digs n ∧ d ≤ 1000000 - m ∧ m ≤ 1000000)) (fun t _ _ => (intOf t).toNat)
  case atStart => exact ⟨n, 0, rfl, rfl, rfl, ⟨by omega, by omega, hn⟩⟩
  case round =>
    obtain ⟨m, d, rfl, rfl, rfl, hH⟩ := hrel
    have hm := hH.out.2.2
    have hd := hH.out.2.1
    by_cases c : 0 < m
    · have e1 : (m : Int).tdiv 2 = ((m / 2 : Nat) : Int) := by rw [Int.tdiv_eq_ediv_of_nonneg (by omega)]; omega
      have e2 : (m : Int) / 2 = ((m / 2 : Nat) : Int) := by omega
      have w1 : IntKind.i64.wrap ((m / 2 : Nat) : Int) = ((m / 2 : Nat) : Int) := by rw [IntKind.wrap_i64]; omega
      have w2 : IntKind.i64.wrap ((d : Int) + 1) = (d : Int) + 1 := by rw [IntKind.wrap_i64]; omega
      obtain ⟨q, eq⟩ : ∃ q, q = m / 2 := ⟨_, rfl⟩
      rw [← eq] at e1 e2 w1
      have HQ : Hid (q = m / 2) := eq
      clear eq
      go_wp2_with fail
      go_roundw
      case rel =>
        have eq := HQ.out
        have h1 := hH.out.1
        rw [digs, dif_neg (by omega : ¬ m = 0), ← eq] at h1
        exact ⟨q, d + 1, rfl, by go_num, by first | rfl | trivial, ⟨by omega, by omega, by omega⟩⟩
      case measure =>
        have eq := HQ.out
        simp [intOf]
        omega
    · obtain rfl : m = 0 := by omega
      have h1 := hH.out.1
      rw [digs, dif_pos rfl] at h1
      have w3 : IntKind.i64.wrap (12 * (d : Int)) = 12 * (d : Int) := by rw [IntKind.wrap_i64]; omega
      have w4 : IntKind.i64.wrap (12 * (d : Int) + 12) = ((12 * d + 12 : Nat) : Int) := by rw [IntKind.wrap_i64]; omega
      have HD : Hid (d = digs n) := by show d = digs n; omega
      clear h1 hH
      go_wp2_with fail
      go_ret
      refine ⟨?_, rfl⟩
      rw [← HD.out]
      simp
theorem rank_is (lv : Value) (hl : ∃ a n c, lv = .slice a n c) (nx mod : Int) (tur : Bool) (k : Int) (w : World) (h0 : 0 ≤ mod) (h1 : mod ≤ 12) (hk : -9223372036854775808 ≤ k) (hk2 : k ≤ 9223372036854775807) :
    Calls Try.prog 44 #[.agg #[lv, .int .i64 nx, .int .i64 mod, .bool tur], .int .i64 k] w fun e w' => e = .returned (.int .i64 (rank mod k)) ∧ w' = w.alloc (.cells #[lv, .int .i64 nx, .int .i64 mod, .bool tur] 55) := by
  obtain ⟨la, ln, lc, rfl⟩ := hl
  go_enter Try.func44, Try.ntmps44
  by_cases c : 0 < mod
  · have e1 : IntKind.i64.wrap (k.tmod mod) = k.tmod mod := by
      have h2 := Int.tmod_lt_of_pos k c
      have h3 := Int.lt_tmod_of_pos k c
      rw [IntKind.wrap_i64]
      omega
    have e2 : IntKind.i64.wrap (k.tmod mod + mod) = k.tmod mod + mod := by
      have h2 := Int.tmod_lt_of_pos k c
      have h3 := Int.lt_tmod_of_pos k c
      rw [IntKind.wrap_i64]
      omega
    have hne : mod ≠ 0 := by omega
    have hkm : k % mod = if k.tmod mod < 0 then k.tmod mod + mod else k.tmod mod := by
      have h4 := Int.emod_nonneg k hne
      have h5 := Int.emod_lt_of_pos k c
      have h6 := Int.tmod_lt_of_pos k c
      have h7 := Int.lt_tmod_of_pos k c
      have h8 := Int.mul_tdiv_add_tmod k mod
      have h9 := Int.mul_ediv_add_emod k mod
      have h10 : mod * (k.tdiv mod - k / mod) = k % mod - k.tmod mod := by rw [Int.mul_sub]; omega
      generalize k.tdiv mod - k / mod = d at h10
      split
      · have : d = 1 := by
          rcases Int.lt_trichotomy d 1 with h | h | h
          · have : mod * d ≤ mod * 0 := Int.mul_le_mul_of_nonneg_left (by omega) h0
            omega
          · exact h
          · have : mod * 2 ≤ mod * d := Int.mul_le_mul_of_nonneg_left (by omega) h0
            omega
        subst this
        omega
      · have : d = 0 := by
          rcases Int.lt_trichotomy d 0 with h | h | h
          · have : mod * d ≤ mod * (-1) := Int.mul_le_mul_of_nonneg_left (by omega) h0
            omega
          · exact h
          · have : mod * 1 ≤ mod * d := Int.mul_le_mul_of_nonneg_left (by omega) h0
            omega
        subst this
        omega
    by_cases c2 : k.tmod mod < 0
    · go_wp2_with fail
      go_ret
      refine ⟨?_, rfl⟩
      simp [rank, c, hkm, c2]
    · go_wp2_with fail
      go_ret
      refine ⟨?_, rfl⟩
      rw [rank, if_pos c, hkm, if_neg (by omega)]
      rfl
  · go_wp2_with fail
    go_ret
    refine ⟨?_, rfl⟩
    rw [rank, if_neg (by omega)]
    rfl
theorem ahead_is (lv : Value) (hl : ∃ a n c, lv = .slice a n c) (nx mod : Int) (tur : Bool) (a b : Int) (w : World) (h0 : 0 ≤ mod) (h1 : mod ≤ 12) (ha : -9223372036854775808 ≤ a) (ha2 : a ≤ 9223372036854775807) (hb : -9223372036854775808 ≤ b) (hb2 : b ≤ 9223372036854775807) :
    Calls Try.prog 20 #[.agg #[lv, .int .i64 nx, .int .i64 mod, .bool tur], .int .i64 a, .int .i64 b] w fun e w' => e = .returned (.bool (decide (rk mod tur a < rk mod tur b))) ∧ ∃ q os', w' = grow (w.drewN q) os' := by
  have mixed : Try.prog.follows .mixedOrders = true := by kernel_rfl
  obtain ⟨s, hs⟩ : ∃ s, s = w.heap.size := ⟨_, rfl⟩
  obtain ⟨W, hW⟩ : ∃ W, W = w.alloc (.cells #[lv, .int .i64 nx, .int .i64 mod, .bool tur] 55) := ⟨_, rfl⟩
  have R : Hid (∀ k n os, -9223372036854775808 ≤ k → k ≤ 9223372036854775807 → Calls Try.prog 44 #[.agg #[lv, .int .i64 nx, .int .i64 mod, .bool tur], .int .i64 k] (grow (W.drewN n) os) fun e w'' => e = .returned (.int .i64 (rank mod k)) ∧ ∃ p : GrownBy, w'' = grow (W.drewN p.n) p.os) := fun k n os g1 g2 => Calls.grown_of ((rank_is lv hl nx mod tur k _ h0 h1 g1 g2).mono fun e w' ⟨e1, e2⟩ => ⟨e1, 0, #[_], e2⟩)
  have hlt : s < W.heap.size := by rw [hW, hs]; simp
  have eW : W.heap[s]? = some (.cells #[lv, .int .i64 nx, .int .i64 mod, .bool tur] 55) := by rw [hW, hs]; exact (MapKept.heap_alloc w _).1
  have c0 : ∀ n os, (grow (W.drewN n) os).cell? ⟨s, 0, none⟩ = some lv := fun n os => cell_grown hlt (by simp [World.cell?, eW]) n os
  have c1 : ∀ n os, (grow (W.drewN n) os).cell? ⟨s, 1, none⟩ = some (.int .i64 nx) := fun n os => cell_grown hlt (by simp [World.cell?, eW]) n os
  have c2 : ∀ n os, (grow (W.drewN n) os).cell? ⟨s, 2, none⟩ = some (.int .i64 mod) := fun n os => cell_grown hlt (by simp [World.cell?, eW]) n os
  have c3 : ∀ n os, (grow (W.drewN n) os).cell? ⟨s, 3, none⟩ = some (.bool tur) := fun n os => cell_grown hlt (by simp [World.cell?, eW]) n os
  obtain ⟨la, ln, lc, rfl⟩ := hl
  have HW : Hid (w.alloc (.cells #[.slice la ln lc, .int .i64 nx, .int .i64 mod, .bool tur] 55) = W ∧ w.heap.size = s) := ⟨hW.symm, hs.symm⟩
  have HE : Hid (∀ n os, ∃ q os', grow (W.drewN n) os = grow (w.drewN q) os') := fun n os => ⟨n, #[.cells #[.slice la ln lc, .int .i64 nx, .int .i64 mod, .bool tur] 55] ++ os, by rw [← grow_grow, hW]; rfl⟩
  clear hW hs eW hlt
  go_enter Try.func20, Try.ntmps20
  cases tur
  · go_wp2_with fail
    rw [HW.out.1, HW.out.2]
    go_quiet_grown (first | (go_at_call_of 44 (a); exact R.out a _ _ ha ha2) | (go_at_call_of 44 (b); exact R.out b _ _ hb hb2))
    go_wp2_with fail
    go_ret
    refine ⟨?_, HE.out _ _⟩
    simp [rk]
  · go_wp2_with fail
    rw [HW.out.1, HW.out.2]
    go_quiet_grown (first | (go_at_call_of 44 (a); exact R.out a _ _ ha ha2) | (go_at_call_of 44 (b); exact R.out b _ _ hb hb2))
    go_wp2_with fail
    go_ret
    refine ⟨?_, HE.out _ _⟩
    simp [rk]
end Go.Proofs.Ytjnfcihichaonaa
