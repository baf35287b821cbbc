/- Left: a number times a power of 2, or divided by one; and Bit. -/
import Derived.Test.YtekigmkepfhdhaaRight
namespace Go.Proofs.Ytekigmkepfhdhaa
open Go.RowKit
set_option maxRecDepth 100000
set_option linter.unusedVariables false
theorem natLen_zero {w : World} {a : Option Addr} {n cap : Nat} {x : Nat} (h : IsNat w (.agg #[.slice a n cap]) x) (h0 : n = 0) : x = 0 := (isNat_zero_iff h).1 h0
set_option maxHeartbeats 1000000 in
theorem left_zero (v : Value) (s : Int) (w : World) (h : IsNat w v 0) :
    Calls Try.prog 29 #[v, .int .i64 s] w (Makes2 w 0 true) := by
  obtain ⟨a, n, cap, rfl⟩ := h.isAgg
  have hn : n = 0 := (isNat_zero_iff h).2 rfl
  subst hn
  clear h
  go_enter Try.func29, Try.ntmps29
  go_wp2_with fail
  refine bodyPost_ret (v := .tuple #[.agg #[.slice none 0 0], .bool true]) (by simp [results, Try.results29, go_sem]) rfl ⟨_, rfl, isNat_zero _, bel_alloc2 _ _ _⟩
/-- What Left leaves of a number that is not 0, and a shift of t. -/
def LeftRes (w : World) (x t : Nat) (e : Ending) (w' : World) : Prop := if t ≤ 16777216 then Makes2 w (x * 2 ^ t) true e w' else Makes2 w 0 false e w'
set_option maxHeartbeats 1000000 in
theorem left_pos (v : Value) (x t : Nat) (w : World) (h : IsNat w v x) (hx : Fits x) (h0 : x ≠ 0) (hs1 : t ≤ 9223372036854775807) :
    Calls Try.prog 29 #[v, .int .i64 (t : Int)] w (LeftRes w x t) := by
  obtain ⟨a, n, cap, rfl⟩ := h.isAgg
  have hn : n ≠ 0 := fun e => h0 ((isNat_zero_iff h).1 e)
  obtain ⟨F, hs, _, h1, hv⟩ := h.fits
  have hnl : n ≤ 4294967296 := fits_len (hv.symm ▸ hx) h1
  have hbl := bitLen_words hs h1 hv
  have hb0 : 0 < bitLen x := by
    rcases Nat.eq_zero_or_pos (bitLen x) with e | e
    · have := bitLen_lt x
      rw [e, Nat.pow_zero] at this
      omega
    · exact e
  have HN : Hid (IsNat w (.agg #[.slice a n cap]) x) := h
  have hnb : ((n : Int) == 0) = false := by simp <;> omega
  have HX : Hid (Fits x) := hx
  clear h hs h1 hv hx
  go_enter Try.func29, Try.ntmps29
  go_wp2_with fail
  refine (len_any _ x _ (HN.out.mono (bel_alloc2 _ _ _)) HX.out).mono ?_
  rintro e w1 ⟨rfl, hb1⟩
  have c1 : w1.cell? ⟨w.heap.size, 0, none⟩ = some (.slice a n cap) := cell_later hb1 (by simp [go_sem])
  have c2 : w1.cell? ⟨w.heap.size + 1, 0, none⟩ = some (.slice none 0 0) := cell_later hb1 (by simp [go_sem])
  have f2 : w1.frozen? ⟨w.heap.size + 1, 0, none⟩ = false := (hb1.frozen (by simp <;> omega)).trans (by simp [go_sem])
  have B1 : Hid (Below w.heap.size w w1) := bel_trans (bel_alloc2 _ _ _) hb1
  clear hb1
  have d1 : decide ((t : Int) ≤ -((bitLen x : Nat) : Int)) = false := decide_eq_false (by omega)
  have d2 : decide ((t : Int) < 0) = false := decide_eq_false (by omega)
  by_cases hfar : t ≤ 16777216
  · have d3 : decide ((16777216 : Int) < (t : Int)) = false := decide_eq_false (by omega)
    have E : Hid (∀ e w', Makes2 w (x * 2 ^ t) true e w' → LeftRes w x t e w') := fun e w' hh => by unfold LeftRes; rw [if_pos hfar]; exact hh
    go_wp2_with fail
    refine (up_any _ x t _ (HN.out.mono B1.out) HX.out (by omega)).mono ?_
    rintro e w2 ⟨v2, rfl, hv2, hb2⟩
    have c4 : w2.cell? ⟨w.heap.size + 1, 0, none⟩ = some (.slice none 0 0) := cell_later hb2 c2
    have f4 : w2.frozen? ⟨w.heap.size + 1, 0, none⟩ = false := (hb2.frozen (World.block_lt_of_cell? _ _ c2)).trans f2
    obtain ⟨a3, n3, cap3, rfl⟩ := hv2.isAgg
    have V2 : Hid (IsNat w2 (.agg #[.slice a3 n3 cap3]) (x * 2 ^ t)) := hv2
    have B2 : Hid (Below w.heap.size w w2) := bel_trans B1.out hb2
    clear hv2 hb2 c1 c2 f2 B1
    go_wp2_with fail
    refine bodyPost_ret (v := .tuple #[.agg #[.slice a3 n3 cap3], .bool true]) (by simp [results, Try.results29, go_sem, c4]) rfl (E.out _ _ ⟨_, rfl, V2.out.setCell (no_int_slice c4) _, B2.out.setCell (by simp) _⟩)
  · have d3 : (16777216 : Int) < (t : Int) := by omega
    have E : Hid (∀ e w', Makes2 w 0 false e w' → LeftRes w x t e w') := fun e w' hh => by unfold LeftRes; rw [if_neg hfar]; exact hh
    clear hfar
    go_wp2_with fail
    refine bodyPost_ret (v := .tuple #[.agg #[.slice none 0 0], .bool false]) (by simp [results, Try.results29, go_sem, c2]) rfl (E.out _ _ ⟨_, rfl, isNat_zero _, B1.out.setCell (by simp) _⟩)
theorem left_yes (v : Value) (x t : Nat) (w : World) (h : IsNat w v x) (hx : Fits x) (hs1 : t ≤ 16777216) :
    Calls Try.prog 29 #[v, .int .i64 (t : Int)] w (Makes2 w (x * 2 ^ t) true) := by
  by_cases e : x = 0
  · subst e
    rw [Nat.zero_mul]
    exact left_zero v _ w h
  · refine (left_pos v x t w h hx e (by omega)).mono fun e w' hh => ?_
    unfold LeftRes at hh
    rw [if_pos hs1] at hh
    exact hh
theorem left_far (v : Value) (x t : Nat) (w : World) (h : IsNat w v x) (hx : Fits x) (h0 : x ≠ 0) (hs1 : 16777216 < t) (ht : t ≤ 9223372036854775807) :
    Calls Try.prog 29 #[v, .int .i64 (t : Int)] w (Makes2 w 0 false) := by
  refine (left_pos v x t w h hx h0 ht).mono fun e w' hh => ?_
  unfold LeftRes at hh
  rw [if_neg (by omega)] at hh
  exact hh
/-- Whether x has 2^i. -/
def bitOf (x i : Nat) : Bool := x / 2 ^ i % 2 == 1
theorem bit_of_word {F : Nat → Nat} {n q r : Nat} (h : Ok F n) (hq : q < n) (hr : r < 64) : F q / 2 ^ r % 2 = V F n / 2 ^ (64 * q + r) % 2 := by
  rw [← word_at h hq, Nat.pow_add, ← P_two, ← Nat.div_div_eq_div_mul]
  generalize V F n / P q = y
  rw [two64 r (by omega), Nat.mod_mul_right_div_self]
  exact Nat.mod_mod_of_dvd _ ⟨2 ^ (63 - r), by rw [show 64 - r = (63 - r) + 1 by omega, Nat.pow_succ, Nat.mul_comm]⟩
theorem bit_int {F : Nat → Nat} {n q r : Nat} (h : Ok F n) (hq : q < n) (hr : r < 64) : (bits .and .u64 (((F q : Nat) : Int) / 2 ^ r) 1 == 1) = bitOf (V F n) (64 * q + r) := by
  have hl : F q / 2 ^ r < 18446744073709551616 := Nat.lt_of_le_of_lt (Nat.div_le_self _ _) (h q hq)
  have e := bits_and_u64_nat (F q / 2 ^ r) 1 hl (by omega)
  rw [Nat.and_one_is_mod, bit_of_word h hq hr] at e
  unfold bitOf
  rw [div_int]
  refine Eq.trans (congrArg (· == 1) e) ?_
  rcases Nat.mod_two_eq_zero_or_one (V F n / 2 ^ (64 * q + r)) with z | z <;> rw [z] <;> rfl
set_option maxHeartbeats 1000000 in
theorem bit_any (v : Value) (x : Nat) (s : Int) (w : World) (h : IsNat w v x) (hx : Fits x) (hs0 : -9223372036854775808 ≤ s) (hs1 : s ≤ 9223372036854775807) :
    Calls Try.prog 30 #[v, .int .i64 s] w fun e w' => e = .returned (.bool (decide (0 ≤ s) && bitOf x s.toNat)) ∧ Below w.heap.size w w' := by
  obtain ⟨a, n, cap, rfl⟩ := h.isAgg
  obtain ⟨F, hs, _, h1, hv⟩ := h.fits
  have hnl : n ≤ 4294967296 := fits_len (hv.symm ▸ hx) h1
  have hbl := bitLen_words hs h1 hv
  have HN : Hid (IsNat w (.agg #[.slice a n cap]) x ∧ Sl w a n cap F ∧ V F n = x) := ⟨h, hs, hv⟩
  have HX : Hid (Fits x) := hx
  clear h hs h1 hv hx
  by_cases hneg : s < 0
  · have E : Hid ((decide (0 ≤ s) && bitOf x s.toNat) = false) := by show _ = false; simp; intro _; omega
    go_enter Try.func30, Try.ntmps30
    go_wp2_with fail
    go_ret
    exact ⟨by rw [E.out]; rfl, (Below.refl _ _).alloc (Nat.le_refl _) _⟩
  · obtain ⟨t, rfl⟩ := Int.eq_ofNat_of_zero_le (show 0 ≤ s by omega)
    have d1 : decide ((t : Int) < 0) = false := decide_eq_false hneg
    have E : Hid ((decide (0 ≤ (t : Int)) && bitOf x (t : Int).toNat) = bitOf x t) := by show _ = _; simp
    clear hneg
    go_enter Try.func30, Try.ntmps30
    go_wp2_with fail
    refine (len_any _ x _ (HN.out.1.mono ((Below.refl _ _).alloc (Nat.le_refl _) _)) HX.out).mono ?_
    rintro e w1 ⟨rfl, hb1⟩
    have c1 : w1.cell? ⟨w.heap.size, 0, none⟩ = some (.slice a n cap) := cell_later hb1 (by simp [go_sem])
    have B1 : Hid (Below w.heap.size w w1) := bel_trans ((Below.refl _ _).alloc (Nat.le_refl _) _) hb1
    clear hb1
    by_cases hbig : bitLen x ≤ t
    · have hbi : decide (bitLen x ≤ t) = true := decide_eq_true hbig
      have E2 : Hid (bitOf x t = false) := by
        show bitOf x t = false
        unfold bitOf
        rw [Nat.div_eq_of_lt (Nat.lt_of_lt_of_le (bitLen_lt x) (Nat.pow_le_pow_right (by omega) hbig))]
        rfl
      go_wp2_with fail
      go_ret
      exact ⟨by rw [E.out, E2.out]; rfl, B1.out⟩
    · have hbi : decide (bitLen x ≤ t) = false := decide_eq_false hbig
      have hft : t / 64 < n := by omega
      obtain ⟨b, o, rfl, hw⟩ := HN.out.2.1.at (t / 64) hft
      have hcw : w1.cell? ⟨b, o + t / 64, none⟩ = some (.int .u64 (F (t / 64) : Nat)) := cell_later B1.out (hw (t / 64) hft)
      have htb : t ≤ 274877906944 := by omega
      clear hbig hw
      have E2 : Hid ((bits .and .u64 (((F (t / 64) : Nat) : Int) / 2 ^ (t % 64)) 1 == 1) = bitOf x t) := by
        have := bit_int (r := t % 64) HN.out.2.1.2.2.1 hft (by omega)
        rw [HN.out.2.2, show 64 * (t / 64) + t % 64 = t by omega] at this
        exact this
      go_wp2_with fail
      go_ret
      exact ⟨by rw [E.out, ← E2.out]; rfl, B1.out⟩
end Go.Proofs.Ytekigmkepfhdhaa
