/- Contracts of the program's functions, part 5: own work, joined in build order. -/
import Derived.Test.YtdmkneojhnhomaaGreatDoorJ4
import Derived.Deep.AppendLies
import Derived.LoopN
import Derived.Deep.LoopGhost
import Derived.Shelf.Spec.TrailingZeros
import Derived.Deep.Cut
import Derived.Laws.BytesArg
namespace Go.Proofs.YtdmkneojhnhomaaGreatDoor
open Go.RowKit
set_option maxRecDepth 100000
set_option linter.unusedVariables false
theorem bitLen_pos' {x : Nat} (h : x ≠ 0) : 0 < bitLen x := by
  rcases Nat.eq_zero_or_pos (bitLen x) with e | e
  · have := bitLen_lt x
    rw [e] at this
    omega
  · exact e
set_option maxHeartbeats 1000000 in
theorem window_any (a : Option Addr) (m cap : Nat) (G : Nat → Nat) (n r : Nat) (at' : Int) (w : World) (h : Sl w a m cap G) (hat : at' = (n : Int) + 1) (hn : n ≤ 4294967296) (hm : m ≤ 4294967296) (hr : r ≤ 63) :
    Calls Tryz.prog 124 #[.slice a m cap, .int .i64 at', .int .i64 (r : Int)] w fun e w' => e = .returned (.int .u64 ((winW G m n r : Nat) : Int)) ∧ ∃ k, w' = w.drewN k := by
  subst hat
  have hO : Hid (Ok G m) := h.2.2.1
  have FIN : ∀ f l : Nat, cutU G m 0 (n + 1) = f → cutU G m 0 n = l → Hid (bits .or .u64 (IntKind.u64.wrap ((f : Int) * 2 ^ r)) ((l / 2 ^ (64 - r) : Nat) : Int) = ((winW G m n r : Nat) : Int)) := by
    intro f l h1 h2
    have hl : l < 18446744073709551616 := by rw [← h2]; exact ok_cut (n := n + 1) hO.out n (by omega)
    show _ = _
    rw [or_win f l r hl hr]
    unfold winW
    rw [h1, h2]
  have hr1 : (0 : Int) ≤ r := by omega
  have hr2 : (r : Int) ≤ 63 := by omega
  have hr3 : (0 : Int) ≤ 64 - (r : Int) := by omega
  by_cases h1 : n + 1 < m
  · obtain ⟨b, o, rfl, hw⟩ := h.at n (by omega)
    have hc1 := hw (n + 1) h1
    have hc2 := hw n (by omega)
    have F1 := FIN (G (n + 1)) (G n) (by rw [cutU_in (by omega), Nat.zero_add]) (by rw [cutU_in (by omega), Nat.zero_add])
    clear h hw FIN
    go_enter Tryz.func124, Tryz.ntmps124
    go_wp2_with fail
    go_region
    go_wp2_with fail
    go_ret
    exact ⟨ret_int (by rw [div_int]; exact F1.out), 1, rfl⟩
  · by_cases h2 : n < m
    · obtain ⟨b, o, rfl, hw⟩ := h.at n (by omega)
      have hc2 := hw n (by omega)
      have F1 := FIN 0 (G n) (by rw [cutU_out (by omega)]) (by rw [cutU_in (by omega), Nat.zero_add])
      have t1 : decide ((n : Int) + 1 < (m : Int)) = false := decide_eq_false (by omega)
      clear h hw FIN
      go_enter Tryz.func124, Tryz.ntmps124
      go_wp2_with fail
      go_region
      go_wp2_with fail
      go_ret
      exact ⟨ret_int (by rw [div_int]; have := F1.out; rw [show IntKind.u64.wrap (((0 : Nat) : Int) * 2 ^ r) = 0 by simp [IntKind.wrap_u64]] at this; exact this), 1, rfl⟩
    · have F1 := FIN 0 0 (by rw [cutU_out (by omega)]) (by rw [cutU_out (by omega)])
      have t1 : decide ((n : Int) + 1 < (m : Int)) = false := decide_eq_false (by omega)
      have t2 : decide (n < m) = false := decide_eq_false (by omega)
      clear h FIN
      go_enter Tryz.func124, Tryz.ntmps124
      go_wp2_with fail
      go_region
      go_wp2_with fail
      go_ret
      exact ⟨ret_int (by have := F1.out; rw [show IntKind.u64.wrap (((0 : Nat) : Int) * 2 ^ r) = 0 by simp [IntKind.wrap_u64], Nat.zero_div] at this; exact this), 1, rfl⟩
/-- What highest tells: the whole numbers, divided by one power of 2. -/
def Highest (w : World) (x y : Nat) (e : Ending) (w' : World) : Prop :=
  ∃ k : Nat, e = .returned (.tuple #[.int .u64 ((x / 2 ^ k : Nat) : Int), .int .u64 ((y / 2 ^ k : Nat) : Int)]) ∧ x / 2 ^ k < 18446744073709551616 ∧ Below w.heap.size w w'
set_option maxHeartbeats 2000000 in
theorem highest_any (v u : Value) (x y : Nat) (w : World) (h : IsNat w v x) (k : IsNat w u y) (hx : Fits x) (hyx : y ≤ x) (hy : 18446744073709551616 ≤ y) :
    Calls Tryz.prog 117 #[v, u] w (Highest w x y) := by
  have hfy : Fits y := ⟨Nat.lt_of_le_of_lt hyx hx.lt⟩
  obtain ⟨ax, n0, cap, rfl⟩ := h.isAgg
  obtain ⟨ay, m, cap', rfl⟩ := k.isAgg
  obtain ⟨F, hs, h0, h1, hv⟩ := h.fits
  obtain ⟨G, ks, k0, k1, kv⟩ := k.fits
  have hn : n0 ≤ 4294967296 := fits_len (hv.symm ▸ hx) h1
  have hm : m ≤ 4294967296 := fits_len (kv.symm ▸ hfy) k1
  have hn2 : 2 ≤ n0 := by
    rcases Nat.lt_or_ge n0 2 with hh | hh
    · have h5 := (isNat_fits1 hs h1).2 (by omega)
      omega
    · exact hh
  obtain ⟨n, rfl⟩ : ∃ n, n0 = n + 2 := ⟨n0 - 2, by omega⟩
  have hmn : m ≤ n + 2 := by
    refine len_le_of (m := n + 2) (F := G) ?_ k1
    rw [kv]
    exact Nat.lt_of_le_of_lt hyx (hv ▸ V_lt hs.2.2.1)
  obtain ⟨b, o, rfl, hw⟩ := hs.at 0 (by omega)
  have hc := hw (n + 1) (by omega)
  have hF1 : F (n + 1) < 18446744073709551616 := hs.2.2.1 _ (by omega)
  have hb0 : F (n + 1) ≠ 0 := by have := h1 (by omega); simpa using this
  have hbl := bitLen_V (F := F) (n := n + 1) hs.2.2.1 hb0
  rw [hv] at hbl
  have hbp := bitLen_pos' hb0
  have hb64 := bitLen_le64 _ hF1
  obtain ⟨r, hr⟩ : ∃ r, r = 64 - bitLen (F (n + 1)) := ⟨_, rfl⟩
  have hlx : x < 2 ^ (64 * (n + 2) - r) := by
    have := bitLen_lt x
    rw [hbl] at this
    rw [show 64 * (n + 2) - r = 64 * (n + 1) + bitLen (F (n + 1)) by omega]
    exact this
  have W1 := winW_eq (G := F) (m := n + 2) (n := n) (r := r) hs.2.2.1 (Nat.le_refl _) (by omega) (by rw [hv]; exact hlx)
  have W2 := winW_eq (G := G) (m := m) (n := n) (r := r) ks.2.2.1 hmn (by omega) (by rw [kv]; exact Nat.lt_of_le_of_lt hyx hlx)
  rw [hv] at W1
  rw [kv] at W2
  have HH : Hid (Sl w (some ⟨b, o, none⟩) (n + 2) cap F ∧ Sl w ay m cap' G ∧ winW F (n + 2) n r = x / 2 ^ (64 * (n + 1) - r) ∧ winW G m n r = y / 2 ^ (64 * (n + 1) - r) ∧ x / 2 ^ (64 * (n + 1) - r) < 18446744073709551616 ∧ r ≤ 63 ∧ bitLen (F (n + 1)) = 64 - r) := ⟨hs, ks, W1.1, W2.1, W1.2, by omega, by omega⟩
  have hlt : b < w.heap.size := World.block_lt_of_cell? _ _ hc
  have hrr : 64 - bitLen (F (n + 1)) = r := hr.symm
  clear hs h0 h1 hv ks k0 k1 kv hx hfy h k W1 W2 hlx hbl hyx hy hr hbp hb64 hw hb0
  go_enter Tryz.func117, Tryz.ntmps117
  go_wp2_with fail
  refine (lz64_any (F (n + 1)) _ hF1).mono ?_
  rintro e w1 ⟨rfl, hw1⟩
  rw [hw1, hrr]
  clear hw1 w1 hrr
  have HB : Hid (Below w.heap.size w ((w.alloc (.cells #[.slice (some ⟨b, o, none⟩) (n + 2) cap] 44)).alloc (.cells #[.slice ay m cap'] 44))) := bel_alloc2 _ _ _
  go_wp2_with fail
  go_quiet ((go_at_call 124; first | exact Calls.quiet_of (window_any _ _ _ F n r _ _ (HH.out.1.mono (bel_drewN HB.out _)) (by omega) (by omega) (by omega) HH.out.2.2.2.2.2.1) | exact Calls.quiet_of (window_any _ _ _ G n r _ _ (HH.out.2.1.mono (bel_drewN HB.out _)) (by omega) (by omega) (by omega) HH.out.2.2.2.2.2.1)))
  go_wp2_with fail
  rw [HH.out.2.2.1, HH.out.2.2.2.1]
  go_ret2
  exact ⟨64 * (n + 1) - r, rfl, HH.out.2.2.2.2.1, bel_drewN HB.out _⟩
end Go.Proofs.YtdmkneojhnhomaaGreatDoor
namespace Go.Proofs.YtdmkneojhnhomaaGreatDoor
open Go.RowKit
set_option maxRecDepth 100000
set_option linter.unusedVariables false
set_option maxHeartbeats 1000000 in
theorem wordDivisor_any (x y : Nat) (w : World) (hx : x < 18446744073709551616) (hy : y < 18446744073709551616) :
    Calls Tryz.prog 119 #[.int .u64 (x : Int), .int .u64 (y : Int)] w fun e w' => e = .returned (.int .u64 ((Nat.gcd x y : Nat) : Int)) ∧ ∃ n, w' = w.drewN n := by
  go_enter Tryz.func119, Tryz.ntmps119
  go_wp2_with fail
  go_loopw [0, 1] (fun p q wr => ∃ (a b nd : Nat), p = .int .u64 (a : Int) ∧ q = .int .u64 (b : Int) ∧ Hid (a < 18446744073709551616 ∧ b < 18446744073709551616 ∧ Nat.gcd a b = Nat.gcd x y) ∧ wr = w.drewN nd) (fun _ q _ => (intOf q).toNat)
  case atStart => exact ⟨x, y, 0, rfl, rfl, ⟨hx, hy, rfl⟩, rfl⟩
  case round =>
    obtain ⟨a, b, nd, rfl, rfl, hh, rfl⟩ := hrel
    by_cases hb : b = 0
    · subst hb
      go_wp2_with fail
      go_ret
      refine ⟨ret_int ?_, nd, rfl⟩
      rw [← hh.out.2.2, Nat.gcd_zero_right]
    · have hb1 : ((b : Int) != 0) = true := by simp; omega
      have hb2 : ((b : Int) == 0) = false := by simp; omega
      have hb0 : (0 : Int) < b := by omega
      have hlt : a % b < b := Nat.mod_lt _ (by omega)
      have hbb : b < 18446744073709551616 := hh.out.2.1
      go_wp2_with fail
      go_region
      go_wp2_with fail
      go_roundw
      case rel =>
        refine ⟨b, a % b, nd + 1, rfl, by simp, ⟨hh.out.2.1, by omega, ?_⟩, rfl⟩
        rw [← hh.out.2.2, Nat.gcd_comm a b, Nat.gcd_rec b a, Nat.gcd_comm]
      case measure => simp [intOf]; omega
end Go.Proofs.YtdmkneojhnhomaaGreatDoor
namespace Go.Proofs.YtdmkneojhnhomaaGreatDoor
open Go.RowKit
set_option maxRecDepth 100000
set_option linter.unusedVariables false
/-- The sign of x's decimal digit at a place. -/
def decAt (x p : Nat) : Nat := 48 + x / 10 ^ p % 10
theorem decAt_lt (x p : Nat) : decAt x p < 256 := by have := Nat.mod_lt (x / 10 ^ p) (show 0 < 10 by omega); unfold decAt; omega
theorem decAt_div (x p q : Nat) : decAt (x / 10 ^ q) p = decAt x (q + p) := by unfold decAt; rw [Nat.div_div_eq_div_mul, ← Nat.pow_add]
theorem decAt_mod (x p q : Nat) (h : p < q) : decAt (x % 10 ^ q) p = decAt x p := by
  unfold decAt
  obtain ⟨t, rfl⟩ : ∃ t, q = p + (t + 1) := ⟨q - p - 1, by omega⟩
  rw [Nat.pow_add, Nat.mod_mul_right_div_self]
  rw [Nat.mod_mod_of_dvd _ ⟨10 ^ t, by rw [Nat.pow_succ, Nat.mul_comm]⟩]
/-- The last places of n, from k on, hold digits of x. -/
def DecFill (D D' : Nat → Nat) (o n k x : Nat) : Prop := (∀ i, k ≤ i → i < n → D' (o + i) = decAt x (n - 1 - i)) ∧ ∀ j, j < o + k ∨ o + n ≤ j → D' j = D j
theorem DecFill.start (D : Nat → Nat) (o n x : Nat) : DecFill D D o n n x := ⟨fun i h1 h2 => absurd h2 (by omega), fun _ _ => rfl⟩
theorem DecFill.step {D D' : Nat → Nat} {o n t x : Nat} (h : DecFill D D' o n (t + 1) x) (ht : t < n) : DecFill D (put D' (o + t) (decAt x (n - 1 - t))) o n t x := by
  refine ⟨fun i h1 h2 => ?_, fun j hj => ?_⟩
  · by_cases e : i = t
    · subst e
      exact put_same _ _ _
    · rw [put_other _ _ (by omega)]
      exact h.1 i (by omega) h2
  · rw [put_other _ _ (by omega)]
    exact h.2 j (by omega)
end Go.Proofs.YtdmkneojhnhomaaGreatDoor
namespace Go.Proofs.YtdmkneojhnhomaaGreatDoor
open Go.RowKit
set_option maxRecDepth 100000
set_option linter.unusedVariables false
theorem DecFill.chunk {D D' D'' : Nat → Nat} {o n j x lo e : Nat} (h : DecFill D D' o n (n - 19 * j) x) (he : e = n - 19 * j) (hlo : lo = e - 19) (k : DecFill D' D'' (o + lo) (e - lo) 0 (x / 10000000000000000000 ^ j % 10000000000000000000)) : DecFill D D'' o n (n - 19 * (j + 1)) x := by
  have hp : (10000000000000000000 : Nat) = 10 ^ 19 := by decide
  refine ⟨fun i h1 h2 => ?_, fun i hi => ?_⟩
  · rcases Nat.lt_or_ge i e with hh | hh
    · have := k.1 (i - lo) (by omega) (by omega)
      rw [show o + lo + (i - lo) = o + i by omega] at this
      rw [this, hp, decAt_mod _ _ _ (by omega), ← Nat.pow_mul, decAt_div]
      congr 1
      omega
    · rw [k.2 _ (by omega)]
      exact h.1 i (by omega) h2
  · rw [k.2 _ (by omega)]
    exact h.2 i (by omega)
theorem BRow.kept {w w' : World} {b N : Nat} {D : Nat → Nat} {r : Option Nat} (h : BRow w b N D) (g : w.grownBy w' r) (hne : some b ≠ r) : BRow w' b N D := ⟨h.1.of_block (g.block b h.1.lt hne), h.2⟩
theorem gb_go {a b c : World} {r r' : Option Nat} (h : a.grownBy b r) (k : b.grownBy c r') (hr : ∀ j, r' = some j → a.heap.size ≤ j ∨ r = some j) : a.grownBy c r := by
  refine ⟨k.os.trans h.os, k.tape.trans h.tape, k.output.trans h.output, Nat.le_trans h.size k.size, fun i hi hn => ?_⟩
  refine (k.block i (Nat.lt_of_lt_of_le hi h.size) ?_).trans (h.block i hi hn)
  intro e
  rcases hr i e.symm with hh | hh
  · omega
  · exact hn hh.symm
theorem gb_of_below {a b : World} (h : Below a.heap.size a b) (r : Option Nat) : a.grownBy b r := ⟨h.os, h.tape, h.output, h.size, fun i hi _ => h.block i hi⟩
end Go.Proofs.YtdmkneojhnhomaaGreatDoor
namespace Go.Proofs.YtdmkneojhnhomaaGreatDoor
open Go.RowKit
set_option linter.unusedVariables false
/-- The powers that a long number is halved by. -/
def pw (i : Nat) : Nat := 10 ^ (19 * 2 ^ i)
theorem pw_zero : pw 0 = 10000000000000000000 := by decide +kernel
theorem pw_succ (i : Nat) : pw (i + 1) = pw i * pw i := by
  unfold pw
  rw [← Nat.pow_add, Nat.pow_succ]
  congr 1
  omega
theorem pw_le {i j : Nat} (h : i ≤ j) : pw i ≤ pw j := Nat.pow_le_pow_right (by decide) (Nat.mul_le_mul_left _ (Nat.pow_le_pow_right (by decide) h))
theorem pw_pos (i : Nat) : 0 < pw i := Nat.pow_pos (by decide)
theorem pw_two (i : Nat) : 2 ≤ pw i := Nat.le_trans (by rw [pw_zero]; omega) (pw_le (Nat.zero_le i))
theorem pw_six : pw 6 < P 99 := by decide +kernel
theorem pw_seven : P 126 ≤ pw 7 := by decide +kernel
theorem pw_eight : P 225 ≤ pw 8 := by decide +kernel
/-- A number whose text is spoken of here. -/
structure Tx (x : Nat) : Prop where
  lt : x < P 225
theorem Tx.le {x y : Nat} (h : Tx x) (hy : y ≤ x) : Tx y := ⟨Nat.lt_of_le_of_lt hy h.lt⟩
theorem Tx.small {x : Nat} (h : Tx x) : Small x := ⟨Nat.lt_trans h.lt (P_lt (show 225 < lim2 by decide))⟩
theorem Tx.fits {x : Nat} (h : Tx x) : Fits x := h.small.fits
theorem pw_cond {x i : Nat} (h : Tx x) (hi : pw i ≤ x) : pw i < P 99 ∨ (P 126 ≤ pw i ∧ x < P 225) := by
  rcases Nat.lt_or_ge i 7 with h1 | h1
  · exact .inl (Nat.lt_of_le_of_lt (pw_le (show i ≤ 6 by omega)) pw_six)
  · exact .inr ⟨Nat.le_trans pw_seven (pw_le h1), h.lt⟩
theorem pw_tx {i : Nat} (h : i ≤ 7) : Tx (pw i) := ⟨Nat.lt_of_le_of_lt (pw_le h) (by decide +kernel)⟩
theorem two_ten : (2 : Nat) ^ 100000 ≤ 10 ^ 30103 := by decide +kernel
theorem lt_ten_of {x L E B t : Nat} (hE : 0 < E) (hEB : 2 ^ E ≤ 10 ^ B) (h : x < 2 ^ L) (ht : L * B ≤ (t + 1) * E) : x < 10 ^ (t + 1) := by
  refine Nat.lt_of_lt_of_le h ?_
  refine (Nat.pow_le_pow_iff_left (n := E) (by omega)).1 ?_
  rw [← Nat.pow_mul, ← Nat.pow_mul, Nat.mul_comm L, Nat.pow_mul]
  refine Nat.le_trans (Nat.pow_le_pow_left hEB L) ?_
  rw [← Nat.pow_mul, Nat.mul_comm B]
  exact Nat.pow_le_pow_right (by omega) ht
theorem lt_ten {x L : Nat} (h : x < 2 ^ L) : x < 10 ^ (L * 30103 / 100000 + 1) := by
  refine lt_ten_of (E := 100000) (B := 30103) (by omega) two_ten h ?_
  have := Nat.div_add_mod (L * 30103) 100000
  have := Nat.mod_lt (L * 30103) (show 0 < 100000 by omega)
  omega
/-- A number's decimal digits are k. -/
def DecLen (x k : Nat) : Prop := 0 < k ∧ x < 10 ^ k ∧ (k = 1 ∨ 10 ^ (k - 1) ≤ x)
theorem DecLen.unique {x k l : Nat} (h : DecLen x k) (h' : DecLen x l) : k = l := by
  obtain ⟨h1, h2, h3⟩ := h
  obtain ⟨g1, g2, g3⟩ := h'
  rcases Nat.lt_trichotomy k l with hh | hh | hh
  · have := Nat.pow_le_pow_right (n := 10) (by omega) (show k ≤ l - 1 by omega)
    omega
  · exact hh
  · have := Nat.pow_le_pow_right (n := 10) (by omega) (show l ≤ k - 1 by omega)
    omega
theorem decAt_zero {x p : Nat} (h : x < 10 ^ (p + 1)) : decAt x p = 48 ↔ x < 10 ^ p := by
  unfold decAt
  rw [Nat.pow_succ] at h
  have h1 : x / 10 ^ p < 10 := Nat.div_lt_of_lt_mul (by omega)
  rw [Nat.mod_eq_of_lt h1]
  constructor
  · intro hh
    have h2 : x / 10 ^ p = 0 := by omega
    exact (Nat.div_eq_zero_iff_lt (Nat.pow_pos (by omega))).1 h2
  · intro hh
    rw [Nat.div_eq_of_lt hh]
end Go.Proofs.YtdmkneojhnhomaaGreatDoor
namespace Go.Proofs.YtdmkneojhnhomaaGreatDoor
open Go.RowKit
set_option maxRecDepth 100000
set_option linter.unusedVariables false
/-- Numbers lie in w from b's cell o on. -/
def NRow (w : World) (b o K : Nat) (M : Nat → Nat) : Prop := ∀ i, i < K → ∃ a n c, w.cell? ⟨b, o + i, none⟩ = some (.slice a n c) ∧ IsNat w (.agg #[.slice a n c]) (M i)
theorem NRow.mono {w w' : World} {b o K : Nat} {M : Nat → Nat} (h : NRow w b o K M) (hb : Below w.heap.size w w') : NRow w' b o K M := by
  intro i hi
  obtain ⟨a, n, c, h1, h2⟩ := h i hi
  exact ⟨a, n, c, cell_later hb h1, h2.mono hb⟩
def cnt (M : Nat → Nat) (x : Nat) : Nat → Nat
  | 0 => 0
  | k + 1 => cnt M x k + (if M k ≤ x then 1 else 0)
theorem cnt_le (M : Nat → Nat) (x : Nat) : ∀ k, cnt M x k ≤ k
  | 0 => Nat.le_refl _
  | k + 1 => by
    have := cnt_le M x k
    unfold cnt
    split <;> omega
end Go.Proofs.YtdmkneojhnhomaaGreatDoor
namespace Go.Proofs.YtdmkneojhnhomaaGreatDoor
open Go.RowKit
set_option linter.unusedVariables false
/-- v is a slice of the call's own, of n things. -/
def OR (w : World) (e : TypeId) (base : Nat) (v : Value) (n : Nat) (G : Nat → Value) : Prop :=
  (v = .slice none 0 0 ∧ n = 0) ∨ ∃ g cap f, v = .slice (some ⟨g, 0, none⟩) n cap ∧ base ≤ g ∧ n ≤ cap ∧ cap ≤ maxLen ∧ w.rowIs g e cap f ∧ ∀ i, i < n → f i = G i
theorem OR.owns {w : World} {e : TypeId} {base : Nat} {v : Value} {n : Nat} {G : Nat → Value} (h : OR w e base v n G) : w.ownsRow base e 1 v n ((List.range n).map G) := by
  refine ⟨by simp, ?_⟩
  rcases h with h | ⟨g, cap, f, rfl, hb, hn, hc, ⟨cur, h1, h2, h3⟩, h4⟩
  · exact .inl h
  · refine .inr ⟨g, cap, cur, rfl, hb, h1, hn, hc, by omega, ?_⟩
    refine List.ext_getElem? fun i => ?_
    rw [Nat.mul_one]
    rcases Nat.lt_or_ge i n with hi | hi
    · rw [List.getElem?_take_of_lt hi, List.getElem?_map, List.getElem?_range hi, Array.getElem?_toList, h3 i (by omega), h4 i hi]
      rfl
    · rw [List.getElem?_eq_none (by simp; omega), List.getElem?_eq_none (by simp; omega)]
theorem OR.of_owns {w : World} {e : TypeId} {base : Nat} {v : Value} {n : Nat} {G : Nat → Value} {xs : List Value} (h : w.ownsRow base e 1 v n xs) (hx : ∀ i, i < n → xs[i]? = some (G i)) : OR w e base v n G := by
  rcases h.2 with h | ⟨g, cap, cur, rfl, hb, hg, hn, hc, hs, ht⟩
  · exact .inl h
  · refine .inr ⟨g, cap, fun i => cur.getD i (.int .u64 0), rfl, hb, hn, hc, ⟨cur, hg, by omega, fun i hi => ?_⟩, fun i hi => ?_⟩
    · show _ = some (cur.getD i (.int .u64 0))
      rw [Array.getElem?_eq_getElem (by omega), Array.getD_eq_getD_getElem?, Array.getElem?_eq_getElem (by omega)]
      rfl
    · have := hx i hi
      rw [← ht, List.getElem?_take_of_lt (by omega), Array.getElem?_toList] at this
      show cur.getD i (.int .u64 0) = _
      rw [Array.getD_eq_getD_getElem?, this]
      rfl
theorem OR.kept {w w' : World} {e : TypeId} {base : Nat} {v : Value} {n : Nat} {G : Nat → Value} {row : Option Nat} (h : OR w e base v n G) (hg : w.grownBy w' row) (hne : v.ownBlock = none ∨ v.ownBlock ≠ row) : OR w' e base v n G := by
  rcases h with h | ⟨g, cap, f, rfl, hb, hn, hc, h1, h4⟩
  · exact .inl h
  · refine .inr ⟨g, cap, f, rfl, hb, hn, hc, h1.of_block (hg.block g h1.lt (by simpa [Value.ownBlock] using hne)), h4⟩
theorem OR.below {w w' : World} {e : TypeId} {base : Nat} {v : Value} {n : Nat} {G : Nat → Value} (h : OR w e base v n G) (hb : Below w.heap.size w w') : OR w' e base v n G := by
  rcases h with h | ⟨g, cap, f, rfl, hb', hn, hc, h1, h4⟩
  · exact .inl h
  · exact .inr ⟨g, cap, f, rfl, hb', hn, hc, h1.of_block (hb.block g h1.lt), h4⟩
theorem OR.nil (w : World) (e : TypeId) (base : Nat) (G : Nat → Value) : OR w e base (.slice none 0 0) 0 G := .inl ⟨rfl, rfl⟩
theorem OR.congr {w : World} {e : TypeId} {base : Nat} {v : Value} {n : Nat} {G G' : Nat → Value} (h : OR w e base v n G) (hG : ∀ i, i < n → G i = G' i) : OR w e base v n G' := by
  rcases h with h | ⟨g, cap, f, rfl, hb', hn, hc, h1, h4⟩
  · exact .inl h
  · exact .inr ⟨g, cap, f, rfl, hb', hn, hc, h1, fun i hi => (h4 i hi).trans (hG i hi)⟩
/-- One thing more, by append. -/
theorem wpList_append_one {w : World} {ops : Array Oper} {rest : List Oper} {o : Oper} {ac : Act} {Q : Exit → Act → World → Prop} (hgd : o.guard = none) (s x : Operand) (t : TypeId)
    (ho : o.op = .call { callee := .builtin .append, args := #[s, x], argTypes := #[t, t] }) (e : TypeId) (z : Value) (bytes : Nat) (ht : Tryz.prog.underlying t = some (.slice e))
    (hi : (Tryz.prog.info? e).map (fun i => (i.zero, i.size, i.bytes)) = some (some z, 1, bytes)) (hz : z.cells.size = 1) (hby : bytes ≤ 24) (base : Nat) (v : Value) (n : Nat) (G : Nat → Value) (hs : ac.eval s = v) (hown : OR w e base v n G)
    (b : Nat) (c : Nat) (hx : ac.eval x = .slice (some ⟨b, 0, none⟩) 1 c) (u : Value) (hc : w.cell? ⟨b, 0, none⟩ = some u) (h1 : u.oneCell' = true) (hn : n + 1 ≤ 1099511627776) (hbase : base ≤ w.heap.size)
    (h : ∀ g cap w', OR w' e base (.slice (some ⟨g, 0, none⟩) (n + 1) cap) (n + 1) (fun j => if j = n then u else G j) → w.grownBy w' v.ownBlock → (v.ownBlock = some g ∨ g = w.heap.size) → g < w'.heap.size → wpList Tryz.prog ops Q rest (ac.put o.dst (.slice (some ⟨g, 0, none⟩) (n + 1) cap)) w') : wpList Tryz.prog ops Q (o :: rest) ac w := by
  obtain ⟨i, hi, hzz, hsz, hb⟩ := info_parts hi
  refine wpList_append_lies w hgd s x t ho base e i z 1 bytes ht hi hzz hsz hb hz (by omega) v n _ hs hown.owns ⟨b, 0, none⟩ 1 c [u] hx rfl (fun j u' hj => ?_) (fun u' hu => by simp at hu; subst hu; exact h1) (by omega) (by simp only [maxLen]; omega) ?_ hbase _ rfl (fun g cap w' k1 k2 k3 k4 => h g cap w' (OR.of_owns k1 fun i hi => ?_) k2 k3 k4)
  · match j, hj with
    | 0, hj => simp at hj; subst hj; simpa [Addr.add] using hc
  · have := Nat.mul_le_mul (show n + 1 ≤ 1099511627776 from hn) hby
    omega
  · rcases Nat.lt_or_ge i n with hh | hh
    · rw [List.getElem?_append_left (by simpa using hh), List.getElem?_map, List.getElem?_range hh, if_neg (by omega)]
      rfl
    · obtain rfl : i = n := by omega
      rw [List.getElem?_append_right (by simp), if_pos rfl]
      simp
end Go.Proofs.YtdmkneojhnhomaaGreatDoor
namespace Go.Proofs.YtdmkneojhnhomaaGreatDoor
open Go.RowKit
set_option maxRecDepth 100000
set_option linter.unusedVariables false
def wd (F : Nat → Nat) : Nat → Value := fun j => .int .u64 ((F j : Nat) : Int)
theorem Tryz.info22b : (Tryz.prog.info? 22).map (fun i => (i.zero, i.size, i.bytes)) = some (some (.int .u64 0), 1, 8) := by kernel_rfl
/-- k words of the row are ten times what they were, and c goes on. -/
def Ten (w wr : World) (g cap n : Nat) (F : Nat → Nat) (d k c : Nat) (H : Nat → Nat) : Prop :=
  (∃ f, wr.rowIs g 22 cap f ∧ ∀ i, i < n → f i = wd H i) ∧ Ok H n ∧ c ≤ 9 ∧ V H k + c * P k = V F k * 10 + d ∧ (∀ i, k ≤ i → i < n → H i = F i) ∧ w.grownBy wr (some g)
theorem ten_lin (vh c p vf d s fk c2 : Nat) (h : vh + c * p = vf * 10 + d) (e : s + c2 * 18446744073709551616 = fk * 10 + c) : vh + s * p + c2 * (p * 18446744073709551616) = (vf + fk * p) * 10 + d := by
  have h1 : (s + c2 * 18446744073709551616) * p = (fk * 10 + c) * p := by rw [e]
  rw [Nat.add_mul, Nat.add_mul, Nat.mul_assoc c2, Nat.mul_comm 18446744073709551616 p, Nat.mul_assoc fk, Nat.mul_comm 10 p, ← Nat.mul_assoc fk p 10] at h1
  rw [Nat.add_mul]
  omega
theorem ten_lin2 (aB b eB f X c : Nat) (h1 : f + eB = X) (h2 : b + aB = f + c + 0) : b + (eB + aB) = X + c := by omega
theorem ten_eq (x c : Nat) : addLo (mulLo x 10) c 0 + (mulHi x 10 + addHi (mulLo x 10) c 0) * 18446744073709551616 = x * 10 + c := by
  have h1 := mul_eq x 10
  have h2 := add_eq (mulLo x 10) c 0
  rw [Nat.add_mul]
  exact ten_lin2 _ _ _ _ _ _ h1 h2
theorem ten_le' (s t x c : Nat) (h : s + t * 18446744073709551616 = x * 10 + c) (hx : x < 18446744073709551616) (hc : c ≤ 9) : t ≤ 9 := by omega
theorem ten_le (x c : Nat) (hx : x < 18446744073709551616) (hc : c ≤ 9) : mulHi x 10 + addHi (mulLo x 10) c 0 ≤ 9 := by
  have h := ten_eq x c
  generalize mulHi x 10 + addHi (mulLo x 10) c 0 = t at h
  generalize addLo (mulLo x 10) c 0 = s at h
  exact ten_le' s t x c h hx hc
theorem Ten.step {w wr : World} {g cap n : Nat} {F : Nat → Nat} {d k c : Nat} {H : Nat → Nat} (h : Ten w wr g cap n F d k c H) (hk : k < n) (hn : n ≤ cap) (hF : F k < 18446744073709551616) :
    Ten w (wr.setCell ⟨g, k, none⟩ (.int .u64 ((addLo (mulLo (F k) 10) c 0 : Nat) : Int))) g cap n F d (k + 1) (mulHi (F k) 10 + addHi (mulLo (F k) 10) c 0) (put H k (addLo (mulLo (F k) 10) c 0)) := by
  obtain ⟨⟨f, h1, h2⟩, h3, h4, h5, h6, h7⟩ := h
  refine ⟨⟨_, h1.set k _, fun i hi => ?_⟩, fun i hi => ?_, ten_le _ _ hF h4, ?_, fun i h8 h9 => ?_, grown_set w h7 _ _⟩
  · show (if i = k then _ else f i) = Value.int .u64 ((put H k _ i : Nat) : Int)
    by_cases e : i = k
    · subst e
      rw [if_pos rfl, put_same]
    · rw [if_neg e, put_other _ _ e, h2 i hi]
      rfl
  · unfold put
    split
    · exact addLo_lt _ _ _
    · exact h3 i hi
  · rw [V_succ, V_succ, V_congr (F := put H k _) (G := H) fun i hi => put_other _ _ (by omega), put_same, P_succ]
    exact ten_lin _ _ _ _ _ _ _ _ h5 (ten_eq _ _)
  · rw [put_other _ _ (by omega)]
    exact h6 i (by omega) h9
theorem gb_to {a b c : World} {r : Option Nat} (h : a.grownBy b r) (k : b.grownBy c r) : a.grownBy c r :=
  ⟨k.os.trans h.os, k.tape.trans h.tape, k.output.trans h.output, Nat.le_trans h.size k.size, fun i hi hn => (k.block i (Nat.lt_of_lt_of_le hi h.size) hn).trans (h.block i hi hn)⟩
/-- What timesTen makes. -/
def Tens (w : World) (base : Nat) (x n : Nat) (e : Ending) (w' : World) : Prop :=
  ∃ v n' F, e = .returned v ∧ OR w' 22 base v n' (wd F) ∧ Ok F n' ∧ V F n' = x ∧ n' ≤ n + 1 ∧ Below base w w'
theorem V_put_top (H : Nat → Nat) (n c : Nat) : V (put H n c) (n + 1) = V H n + c * P n := by
  rw [V_succ, put_same, V_congr (F := put H n c) (G := H) fun i hi => put_other _ _ (by omega)]
end Go.Proofs.YtdmkneojhnhomaaGreatDoor
namespace Go.Proofs.YtdmkneojhnhomaaGreatDoor
open Go.RowKit
set_option linter.unusedVariables false
theorem Tryz.info27 : (Tryz.prog.info? 44).map (fun i => (i.zero, i.size, i.bytes)) = some (some (.agg #[.slice none 0 0]), 1, 24) := by kernel_rfl
/-- A number stays where a block is written that holds no word. -/
theorem IsNat.keep {w w' : World} {v : Value} {x b : Nat} (h : IsNat w v x) (hg : w.grownBy w' (some b)) (hb : ∀ i z, w.cell? ⟨b, i, none⟩ ≠ some (.int .u64 z)) : IsNat w' v x := by
  obtain ⟨a, n, cap, F, rfl, ⟨s1, s2, s3, s4⟩, h0, h1, hv⟩ := h
  refine ⟨a, n, cap, F, rfl, ⟨s1, s2, s3, ?_⟩, h0, h1, hv⟩
  rcases s4 with e | ⟨b', o, rfl, hw⟩
  · exact .inl e
  · rcases Nat.eq_zero_or_pos n with e | hn
    · exact .inl e
    · refine .inr ⟨b', o, rfl, fun i hi => hg.cell (hw i hi) ?_⟩
      intro e
      cases e
      exact hb _ _ (hw i hi)
/-- v is a slice of the call's own of n numbers' cells; what is spare is nought. -/
def OZ (w : World) (base : Nat) (v : Value) (n : Nat) (G : Nat → Value) : Prop :=
  ∃ g cap f, v = .slice (some ⟨g, 0, none⟩) n cap ∧ base ≤ g ∧ n ≤ cap ∧ cap ≤ maxLen ∧ w.rowIs g 44 cap f ∧ (∀ i, i < n → f i = G i) ∧ ∀ i, n ≤ i → i < cap → f i = .slice none 0 0
theorem rowIs_noword {w : World} {g cap : Nat} {t : TypeId} {f : Nat → Value} (h : w.rowIs g t cap f) (hf : ∀ i, i < cap → ∀ z, f i ≠ .int .u64 z) : ∀ i z, w.cell? ⟨g, i, none⟩ ≠ some (.int .u64 z) := by
  intro i z e
  rcases Nat.lt_or_ge i cap with hi | hi
  · rw [h.cell hi] at e
    exact hf i hi z (by simpa using e)
  · obtain ⟨c, h1, h2, h3⟩ := h
    rw [World.cell?] at e
    simp [h1] at e
    rw [Array.getElem?_eq_none (by omega)] at e
    cases e
theorem zeroCells_nat (k : Nat) {j : Nat} (h : j < k) : (Builtin.zeroCells (Value.agg #[.slice none 0 0]).cells k)[j]? = some (.slice none 0 0) := by
  have e : (Value.agg #[.slice none 0 0]).cells = #[.slice none 0 0] := rfl
  rw [e]
  unfold Builtin.zeroCells
  rw [Array.getElem?_map, Array.getElem?_range, if_pos (by simpa using h)]
  simp [Nat.mod_one]
theorem append_oz (w : World) (base : Nat) (v : Value) (n : Nat) (G : Nat → Value) (h : OZ w base v n G) (ty : TypeId) (b c : Nat) (u : Value) (hc : w.cell? ⟨b, 0, none⟩ = some u) (h1 : u.oneCell' = true) (hn : n + 1 ≤ 1099511627776) (hbase : base ≤ w.heap.size) :
    ∃ v' w', (Builtin.append_ #[140, 140] ty #[v, .slice (some ⟨b, 0, none⟩) 1 c]).run Tryz.prog w = .ok v' w' ∧ OZ w' base v' (n + 1) (fun j => if j = n then u else G j) ∧ w.grownBy w' v.ownBlock := by
  obtain ⟨g, cap, f, rfl, hb, hnc, hcm, hr, hf, hz⟩ := h
  obtain ⟨i, hi, hzz, hsz, hby⟩ := info_parts Tryz.info27
  obtain ⟨cur, hg, hcs, hcur⟩ := id hr
  have hnews : ∀ j u', [u][j]? = some u' → w.cell? ((⟨b, 0, none⟩ : Addr).add j) = some u' := by
    intro j u' hj
    match j, hj with
    | 0, hj => simp at hj; subst hj; simpa [Addr.add] using hc
  by_cases hroom : n + 1 ≤ cap
  · have e := run_append_room (P := Tryz.prog) w 140 ty 44 i Tryz.underlying140 hi g n cap cur hg ⟨b, 0, none⟩ 1 c [u] (by rw [hsz]; rfl) hnews (by intro u' hu; simp at hu; subst hu; exact h1) hroom (by rw [hsz]; simp; omega)
    refine ⟨_, _, e, ⟨g, cap, fun j => if j = n then u else f j, rfl, hb, hroom, hcm, ⟨_, setRow_heap w g _ _ _ _ hg, ?_, fun j hj => ?_⟩, fun j hj => ?_, fun j hj1 hj2 => ?_⟩, ⟨rfl, rfl, rfl, by simp [World.setRow], fun k _ hne => setRow_other w g k _ (fun e => hne (by rw [e]; rfl))⟩⟩
    · simp [hsz]; omega
    · show _ = some (if j = n then u else f j)
      rw [List.getElem?_toArray, hsz, Nat.mul_one, List.append_assoc]
      have e1 : (cur.toList.take n).length = n := by simp; omega
      by_cases h1 : j < n
      · rw [if_neg (by omega), List.getElem?_append_left (by omega), List.getElem?_take_of_lt h1]
        simpa using hcur j hj
      · by_cases h2 : j = n
        · subst h2
          rw [if_pos rfl, List.getElem?_append_right (by omega), e1]
          simp
        · rw [if_neg h2, List.getElem?_append_right (by omega), e1, List.getElem?_append_right (by simp; omega), List.getElem?_drop]
          simp only [List.length_cons, List.length_nil]
          rw [show n + (0 + 1) + (j - n - (0 + 1)) = j by omega]
          simpa using hcur j hj
    · show (if j = n then u else f j) = if j = n then u else G j
      split
      · rfl
      · exact hf j (by omega)
    · show (if j = n then u else f j) = _
      rw [if_neg (by omega)]
      exact hz j (by omega) hj2
  · obtain rfl : n = cap := by omega
    have e := run_append_grow (P := Tryz.prog) w 140 ty 44 i _ Tryz.underlying140 hi hzz ⟨g, 0, none⟩ n n cur.toList (by rw [hsz]; simp; omega) (by
      intro j u' hj
      have hj2 : cur[j]? = some u' := by simpa using hj
      rw [Addr.add_lit]
      simp [World.cell?, hg, hj2]) ⟨b, 0, none⟩ 1 c [u] (by rw [hsz]; rfl) hnews (by omega) (by omega) (growslice_fits (by omega) (by rw [hby]; omega))
    have hge := grownCap_ge w (n + 1) n 44
    have hcm2 := grownCap_le_maxLen w (n + 1) n 44 (by simp only [maxLen]; omega)
    generalize grownCap w (n + 1) n 44 = gc at e hge hcm2
    refine ⟨_, _, e, ⟨w.heap.size, gc, fun j => if j = n then u else if j < n then f j else .slice none 0 0, rfl, hbase, hge, hcm2, ⟨_, heap_alloc_new w.drew _, ?_, fun j hj => ?_⟩, fun j hj => ?_, fun j hj1 hj2 => ?_⟩, ⟨rfl, rfl, rfl, by simp, fun k hk _ => heap_alloc_old w.drew _ hk⟩⟩
    · rw [Array.size_append, Array.size_append, size_zeroCells]
      show cur.toList.toArray.size + 1 + (gc - (n + 1)) * 1 = gc
      simp
      omega
    · show _ = some (if j = n then u else if j < n then f j else .slice none 0 0)
      rcases Nat.lt_trichotomy j n with h2 | h2 | h2
      · rw [if_neg (by omega), if_pos h2, Array.append_assoc, Array.getElem?_append_left (by simp; omega)]
        simpa using hcur j h2
      · subst h2
        rw [if_pos rfl, Array.append_assoc, Array.getElem?_append_right (by simp; omega), Array.getElem?_append_left (by simp; omega)]
        simp [hcs]
      · rw [if_neg (by omega), if_neg (by omega), Array.getElem?_append_right (by simp; omega)]
        have e3 : j - (cur.toList.toArray ++ [u].toArray).size = j - (n + 1) := by simp [hcs]
        rw [e3, zeroCells_nat _ (by omega)]
    · show (if j = n then u else if j < n then f j else _) = if j = n then u else G j
      split
      · rfl
      · rw [if_pos (by omega)]
        exact hf j (by omega)
    · show (if j = n then u else if j < n then f j else _) = _
      rw [if_neg (by omega), if_neg (by omega)]
end Go.Proofs.YtdmkneojhnhomaaGreatDoor
namespace Go.Proofs.YtdmkneojhnhomaaGreatDoor
open Go.RowKit
set_option maxRecDepth 100000
set_option linter.unusedVariables false
/-- A slice of the call's own that holds the first powers. -/
def PowsAt (w : World) (base : Nat) (v : Value) (K : Nat) : Prop := ∃ G, OZ w base v K G ∧ ∀ i, i < K → IsNat w (.agg #[G i]) (pw i)
theorem IsNat.cellOf {w : World} {u : Value} {x : Nat} (h : IsNat w (.agg #[u]) x) : ∃ a n c, u = .slice a n c := by
  obtain ⟨a, n, c, e1⟩ := h.isAgg
  exact ⟨a, n, c, by simpa using e1⟩
theorem PowsAt.nrow {w : World} {base : Nat} {v : Value} {K : Nat} (h : PowsAt w base v K) : ∃ g cap, v = .slice (some ⟨g, 0, none⟩) K cap ∧ base ≤ g ∧ g < w.heap.size ∧ NRow w g 0 K pw := by
  obtain ⟨G, ⟨g, cap, f, rfl, k1, k2, k3, k4, k5, k6⟩, h2⟩ := h
  refine ⟨g, cap, rfl, k1, k4.lt, fun i hi => ?_⟩
  obtain ⟨a, n, c, e2⟩ := (h2 i hi).cellOf
  refine ⟨a, n, c, ?_, e2 ▸ h2 i hi⟩
  rw [Nat.zero_add, k4.cell (show i < cap by omega), k5 i hi, e2]
theorem PowsAt.below {w w' : World} {base : Nat} {v : Value} {K : Nat} (h : PowsAt w base v K) (hb : Below w.heap.size w w') : PowsAt w' base v K := by
  obtain ⟨G, ⟨g, cap, f, rfl, k1, k2, k3, k4, k5, k6⟩, h2⟩ := h
  exact ⟨G, ⟨g, cap, f, rfl, k1, k2, k3, k4.of_block (hb.block g k4.lt), k5, k6⟩, fun i hi => (h2 i hi).mono hb⟩
theorem PowsAt.lower {w : World} {base base' : Nat} {v : Value} {K : Nat} (h : PowsAt w base v K) (hb : base' ≤ base) : PowsAt w base' v K := by
  obtain ⟨G, ⟨g, cap, f, rfl, k1, k2⟩, h2⟩ := h
  exact ⟨G, ⟨g, cap, f, rfl, by omega, k2⟩, h2⟩
theorem box_noword {w : World} {b : Nat} {u : Value} {x : Nat} {y : World} (h : w.rowIs b 44 1 fun _ => u) (k : IsNat y (.agg #[u]) x) : ∀ i z, w.cell? ⟨b, i, none⟩ ≠ some (.int .u64 z) := by
  obtain ⟨a, n, c, rfl⟩ := k.cellOf
  exact rowIs_noword h fun i hi z => by simp
/-- A store into a box of a number. -/
theorem PowsAt.box {w w' : World} {base b : Nat} {v : Value} {K : Nat} (h : PowsAt w base v K) (hb : b < base) (hg : w.grownBy w' (some b)) (hw : ∀ i z, w.cell? ⟨b, i, none⟩ ≠ some (.int .u64 z)) : PowsAt w' base v K := by
  obtain ⟨G, ⟨g, cap, f, rfl, k1, k2, k3, k4, k5, k6⟩, h2⟩ := h
  exact ⟨G, ⟨g, cap, f, rfl, k1, k2, k3, k4.of_block (hg.block g k4.lt (by intro e; cases e; omega)), k5, k6⟩, fun i hi => (h2 i hi).keep hg hw⟩
theorem PowsAt.noword {w : World} {base : Nat} {v : Value} {K : Nat} (h : PowsAt w base v K) : ∃ g, v.ownBlock = some g ∧ base ≤ g ∧ ∀ i z, w.cell? ⟨g, i, none⟩ ≠ some (.int .u64 z) := by
  obtain ⟨G, ⟨g, cap, f, rfl, k1, k2, k3, k4, k5, k6⟩, h2⟩ := h
  refine ⟨g, rfl, k1, rowIs_noword k4 fun i hi z => ?_⟩
  rcases Nat.lt_or_ge i K with hh | hh
  · obtain ⟨a, n, c, e⟩ := (h2 i hh).cellOf
    rw [k5 i hh, e]
    simp
  · rw [k6 i hh hi]
    simp
theorem hold {p : Prop} (h : True → p) : p := h trivial
/-- One power more, by append. -/
theorem wpList_append_pow {w : World} {ops : Array Oper} {rest : List Oper} {o : Oper} {ac : Act} {Q : Exit → Act → World → Prop} (hgd : o.guard = none) (s x : Operand)
    (ho : o.op = .call { callee := .builtin .append, args := #[s, x], argTypes := #[140, 140] }) (base : Nat) (v : Value) (K : Nat) (hs : ac.eval s = v) (hown : PowsAt w base v K)
    (b : Nat) (c : Nat) (hx : ac.eval x = .slice (some ⟨b, 0, none⟩) 1 c) (u : Value) (hc : w.cell? ⟨b, 0, none⟩ = some u) (hu : IsNat w (.agg #[u]) (pw K)) (hn : K + 1 ≤ 1099511627776) (hbase : base ≤ w.heap.size)
    (h : ∀ v' w', PowsAt w' base v' (K + 1) → w.grownBy w' v.ownBlock → (∀ y z, IsNat w y z → IsNat w' y z) → wpList Tryz.prog ops Q rest (ac.put o.dst v') w') : wpList Tryz.prog ops Q (o :: rest) ac w := by
  obtain ⟨g, e1, e2, e3⟩ := hown.noword
  obtain ⟨G, h1, h2⟩ := hown
  have hone : u.oneCell' = true := by
    obtain ⟨a, n, c, rfl⟩ := hu.cellOf
    rfl
  obtain ⟨v', w', hr, k1, k2⟩ := append_oz w base v K G h1 o.type b c u hc hone hn hbase
  refine wpList_plain hgd fun K' hK => ?_
  unfold Oper.wp execOp
  simp only [ho, resolve, invoke, builtin, Sem.run_bind, Sem.run_pure, Result.andThen_ok, List.map_toArray, List.map_cons, List.map_nil, hs, hx, hr]
  have k3 := k2
  rw [e1] at k3
  refine hK _ _ (h v' w' ⟨_, k1, fun i hi => ?_⟩ k2 fun y z hy => hy.keep k3 e3)
  by_cases e : i = K
  · subst e
    show IsNat w' (.agg #[if i = i then u else G i]) _
    rw [if_pos rfl]
    exact hu.keep k3 e3
  · show IsNat w' (.agg #[if i = K then u else G i]) _
    rw [if_neg e]
    exact (h2 i (by omega)).keep k3 e3
end Go.Proofs.YtdmkneojhnhomaaGreatDoor
namespace Go.Proofs.YtdmkneojhnhomaaGreatDoor
open Go.RowKit
set_option maxRecDepth 100000
set_option linter.unusedVariables false
/-- What holds ahead of a round: the two numbers in their boxes. -/
structure Dv (w wr : World) (x y k : Nat) (X Y : Value) (x' : Nat) : Prop where
  bx : wr.rowIs w.heap.size 44 1 (fun _ => X)
  hy : wr.rowIs (w.heap.size + 1) 44 1 (fun _ => Y)
  br : wr.rowIs (w.heap.size + 1 + 1) 44 1 (fun _ => .slice none 0 0)
  nx : IsNat wr (.agg #[X]) x'
  ny : IsNat wr (.agg #[Y]) k
  le : k ≤ x'
  hx : x' ≤ x
  gcd : Nat.gcd x' k = Nat.gcd x y
  bel : Below w.heap.size w wr
theorem Dv.go {w wr wr' : World} {x y k : Nat} {X Y : Value} {x' : Nat} (h : Dv w wr x y k X Y x') (hb : Below wr.heap.size wr wr') : Dv w wr' x y k X Y x' :=
  ⟨h.bx.of_block (hb.block _ h.bx.lt), h.hy.of_block (hb.block _ h.hy.lt), h.br.of_block (hb.block _ h.br.lt), h.nx.mono hb, h.ny.mono hb, h.le, h.hx, h.gcd, bel_go h.bel hb⟩
theorem Dv.drew {w wr : World} {x y k : Nat} {X Y : Value} {x' : Nat} (h : Dv w wr x y k X Y x') : Dv w wr.drew x y k X Y x' := h.go (bel_dr (Below.refl _ _))
theorem Dv.put {w wr : World} {x y k : Nat} {X Y : Value} {x' : Nat} (h : Dv w wr x y k X Y x') {a : Option Addr} {n c : Nat} {a' : Option Addr} {n' c' : Nat} {p q : Nat} (hp : IsNat wr (.agg #[.slice a n c]) p) (hq : IsNat wr (.agg #[.slice a' n' c']) q) (h1 : q ≤ p) (h2 : p ≤ x) (h3 : Nat.gcd p q = Nat.gcd x y) :
    Dv w ((wr.setCell ⟨w.heap.size, 0, none⟩ (.slice a n c)).setCell ⟨w.heap.size + 1, 0, none⟩ (.slice a' n' c')) x y q (.slice a n c) (.slice a' n' c') p := by
  obtain ⟨ax, nx, cx, ex⟩ := h.nx.cellOf
  obtain ⟨ay, ny, cy, ey⟩ := h.ny.cellOf
  have cx := h.bx.cell (i := 0) (by omega)
  have cy := h.hy.cell (i := 0) (by omega)
  have n0 : ∀ kk q, wr.cell? ⟨w.heap.size, 0, none⟩ ≠ some (.int kk q) := by rw [cx, ex]; exact fun kk q e => by cases e
  have n1 : ∀ kk q, (wr.setCell ⟨w.heap.size, 0, none⟩ (.slice a n c)).cell? ⟨w.heap.size + 1, 0, none⟩ ≠ some (.int kk q) := by
    rw [World.cell?_setCell_far _ _ _ _ (by simp), cy, ey]
    exact fun kk q e => by cases e
  refine ⟨?_, ?_, ?_, (hp.setCell n0 _).setCell n1 _, (hq.setCell n0 _).setCell n1 _, h1, h2, h3, (h.bel.setCell (by simp) _).setCell (by simp) _⟩
  · exact ((h.bx.set 0 (.slice a n c)).setOther (a := ⟨w.heap.size + 1, 0, none⟩) (by simp) _).congr (fun i hi => by rw [show i = 0 by omega, if_pos rfl])
  · exact (((h.hy.setOther (a := ⟨w.heap.size, 0, none⟩) (by simp) _)).set 0 (.slice a' n' c')).congr (fun i hi => by rw [show i = 0 by omega, if_pos rfl])
  · exact (h.br.setOther (a := ⟨w.heap.size, 0, none⟩) (by simp <;> omega) _).setOther (a := ⟨w.heap.size + 1, 0, none⟩) (by simp <;> omega) _
theorem Dv.start (w : World) (x y : Nat) (ax : Option Addr) (nx cx : Nat) (ay : Option Addr) (ny cy : Nat) (h : IsNat w (.agg #[.slice ax nx cx]) x) (k : IsNat w (.agg #[.slice ay ny cy]) y) (hyx : y ≤ x) :
    Dv w (((w.alloc (.cells #[.slice ax nx cx] 44)).alloc (.cells #[.slice ay ny cy] 44)).alloc (.cells #[.slice none 0 0] 44)) x y y (.slice ax nx cx) (.slice ay ny cy) x := by
  have hb : Below w.heap.size w (((w.alloc (.cells #[.slice ax nx cx] 44)).alloc (.cells #[.slice ay ny cy] 44)).alloc (.cells #[.slice none 0 0] 44)) := (bel_alloc2 _ _ _).alloc (by simp <;> omega) _
  have r1 := World.rowIs_alloc w #[.slice ax nx cx] 44 (fun _ => .slice ax nx cx) (fun i hi => by rw [show i = 0 by simpa using hi]; rfl)
  have r2 := World.rowIs_alloc (w.alloc (.cells #[.slice ax nx cx] 44)) #[.slice ay ny cy] 44 (fun _ => .slice ay ny cy) (fun i hi => by rw [show i = 0 by simpa using hi]; rfl)
  have r3 := World.rowIs_alloc ((w.alloc (.cells #[.slice ax nx cx] 44)).alloc (.cells #[.slice ay ny cy] 44)) #[.slice none 0 0] 44 (fun _ => .slice none 0 0) (fun i hi => by rw [show i = 0 by simpa using hi]; rfl)
  exact ⟨(r1.alloc _).alloc _, by have := r2.alloc (.cells #[.slice none 0 0] 44); simpa using this, by simpa using r3, h.mono hb, k.mono hb, hyx, Nat.le_refl _, rfl, hb⟩
/-- divideByWord in the shape that the region wants. -/
theorem dv_word (g n y : Nat) (F : Nat → Nat) (wr : World) (p1 b o p3 B : Nat) (x1 x2 x3 : Value) (hF : Row wr g n F) (hn : n ≤ 1099511627776) (hy0 : 0 < y) (hy : y < 18446744073709551616) (n1 : p1 ≠ g) (n2 : b ≠ g) (n3 : p3 ≠ g) (hB : B ≤ g)
    (xv : Nat) (hxv : V F n = xv) (c1 : wr.cell? ⟨p1, 0, none⟩ = some x1) (c2 : wr.cell? ⟨b, o, none⟩ = some x2) (c3 : wr.cell? ⟨p3, 0, none⟩ = some x3) (f3 : wr.frozen? ⟨p3, 0, none⟩ = false) :
    Calls Tryz.prog 120 #[.slice (some ⟨g, 0, none⟩) n n, .int .u64 (y : Int)] wr fun e w2 => ∃ c : Nat, e = .returned (.int .u64 (c : Int)) ∧ Hid (c = xv % y ∧ Below B wr w2) ∧ w2.cell? ⟨p1, 0, none⟩ = some x1 ∧ w2.cell? ⟨b, o, none⟩ = some x2 ∧ Hid (w2.cell? ⟨p3, 0, none⟩ = some x3 ∧ w2.frozen? ⟨p3, 0, none⟩ = false) := by
  refine (divideByWord_any g n 0 n n y F wr hF (by omega) hn hy0 hy).mono ?_
  rintro e w2 ⟨c, rfl, H, hD⟩
  have hc := hD.fin.2
  rw [fro_zero, hxv] at hc
  have hg := hD.2.2.2.2
  exact ⟨c, rfl, ⟨hc, (Below.refl _ _).grown hg (by have := hF.1.lt; omega) (fun k hk => by cases hk; exact hB)⟩, hg.cell c1 (by simpa using n1), hg.cell c2 (by simpa using n2), hg.cell c3 (by simpa using n3), (World.frozen?_of_block (hg.block _ (World.block_lt_of_cell? _ _ c3) (by simpa using n3))).trans f3⟩
theorem dv_gcd (a c x : Nat) (w2 : World) (p1 b o : Nat) (x1 x2 : Value) (ha : a < 18446744073709551616) (hc : c = x % a) (hx : x % a < 18446744073709551616) (c1 : w2.cell? ⟨p1, 0, none⟩ = some x1) (c2 : w2.cell? ⟨b, o, none⟩ = some x2) :
    Calls Tryz.prog 119 #[.int .u64 (a : Int), .int .u64 (c : Int)] w2 fun e w3 => e = .returned (.int .u64 ((Nat.gcd a c : Nat) : Int)) ∧ w3.cell? ⟨p1, 0, none⟩ = some x1 ∧ w3.cell? ⟨b, o, none⟩ = some x2 ∧ Hid (Below w2.heap.size w2 w3) := by
  refine (wordDivisor_any a c _ ha (by rw [hc]; exact hx)).mono ?_
  rintro e w3 ⟨rfl, n, rfl⟩
  exact ⟨rfl, c1, c2, bel_drewN (Below.refl _ _) _⟩
theorem tk_eq1 {A x y u v : Nat} (h : (A : Int) = -(1 * ((u : Int) * x - v * y))) : y * v - x * u = A ∧ x * u ≤ y * v := by
  have e1 : ((y * v : Nat) : Int) = v * y := by push_cast; exact Int.mul_comm _ _
  have e2 : ((x * u : Nat) : Int) = u * x := by push_cast; exact Int.mul_comm _ _
  omega
theorem tk_eq2 {A x y u v : Nat} (h : (A : Int) = 1 * ((u : Int) * x - v * y)) : x * u - y * v = A ∧ y * v ≤ x * u := by
  have e1 : ((y * v : Nat) : Int) = v * y := by push_cast; exact Int.mul_comm _ _
  have e2 : ((x * u : Nat) : Int) = u * x := by push_cast; exact Int.mul_comm _ _
  omega
theorem tk_eq3 {A x y u v : Nat} (h : (A : Int) = -(-1 * ((u : Int) * x - v * y))) : x * u - y * v = A ∧ y * v ≤ x * u := tk_eq2 (by rw [h]; grind)
theorem tk_eq4 {A x y u v : Nat} (h : (A : Int) = -1 * ((u : Int) * x - v * y)) : y * v - x * u = A ∧ x * u ≤ y * v := tk_eq1 (by rw [h]; grind)
set_option maxHeartbeats 4000000 in
theorem divisor_any (v u : Value) (x y : Nat) (w : World) (h : IsNat w v x) (k : IsNat w u y) (hx : x < P 198) (hyx : y ≤ x) :
    Calls Tryz.prog 108 #[v, u] w (Makes w (Nat.gcd x y)) := by
  have sx : Small x := ⟨Nat.lt_of_lt_of_le hx (P_le (show 198 ≤ lim2 by decide))⟩
  obtain ⟨ax, nx, cx, rfl⟩ := h.isAgg
  obtain ⟨ay, ny, cy, rfl⟩ := k.isAgg
  have D0 : Hid _ := Dv.start w x y ax nx cx ay ny cy h k hyx
  have HX : Hid (x < P 198 ∧ Small x) := ⟨hx, sx⟩
  clear h k hx hyx sx
  go_enter Tryz.func108, Tryz.ntmps108
  go_wp2_with fail
  go_loopg [13] y (fun gk t wr => ∃ X Y x', Hid (Dv w wr x y gk X Y x'))
  case atStart => exact ⟨_, _, x, D0.out⟩
  case round =>
    clear D0
    obtain ⟨X, Y, x', hD⟩ := hrel
    obtain ⟨ax', nx', cx', rfl⟩ := hD.out.nx.cellOf
    obtain ⟨ay', ny', cy', rfl⟩ := hD.out.ny.cellOf
    have c0 := hD.out.bx.cell (i := 0) (by omega)
    have c1 := hD.out.hy.cell (i := 0) (by omega)
    have FX : Hid (Small x' ∧ x' < P 198 ∧ Small gk) := ⟨HX.out.2.le hD.out.hx, Nat.lt_of_le_of_lt hD.out.hx HX.out.1, (HX.out.2.le hD.out.hx).le hD.out.le⟩
    have hl1 : (ny' : Int) ≤ 4294967296 := by
      obtain ⟨G, ks, k0, k1, kv⟩ := hD.out.ny.fits
      have := fits_len (kv.symm ▸ FX.out.2.2.fits) k1
      omega
    by_cases h1 : 1 < ny'
    · have h1' : (1 : Int) < (ny' : Int) := by omega
      have hbig : 18446744073709551616 ≤ gk := by
        obtain ⟨G, ks, k0, k1, kv⟩ := hD.out.ny.fits
        rcases Nat.lt_or_ge gk 18446744073709551616 with hh | hh
        · have := (isNat_fits1 ks k1).1 (kv.symm ▸ hh)
          omega
        · exact hh
      have BG : Hid (18446744073709551616 ≤ gk) := hbig
      clear hbig
      go_wp2_with fail
      refine (highest_any _ _ x' gk _ hD.out.nx hD.out.ny FX.out.1.fits hD.out.le BG.out).mono ?_
      rintro e w1 ⟨k0, rfl, hk0, hb1⟩
      have D1 : Hid _ := hD.out.go hb1
      have K0 : Hid (x' / 2 ^ k0 < 18446744073709551616) := hk0
      clear hb1 hk0 c0 c1
      go_wp2_with fail
      refine (foresee_any x' gk (x' / 2 ^ k0) (gk / 2 ^ k0) (2 ^ k0) (x' % 2 ^ k0) (gk % 2 ^ k0) _ K0.out (Nat.div_le_div_right D1.out.le) (by rw [Nat.mul_comm]; exact (Nat.div_add_mod _ _).symm) (by rw [Nat.mul_comm]; exact (Nat.div_add_mod _ _).symm) (Nat.mod_lt _ (Nat.two_pow_pos _)) (Nat.mod_lt _ (Nat.two_pow_pos _))).mono ?_
      rintro e w2 ⟨u0, v0, u1, v1, s, rfl, hFs, hbd, hb2⟩
      have D2 : Hid _ := D1.out.go hb2
      have FS : Hid ((∃ p q u2 v2, Fs x' gk (x' / 2 ^ k0) (gk / 2 ^ k0) p q u0 u1 u2 v0 v1 v2 s) ∧ (u0 < 18446744073709551616 ∧ v0 < 18446744073709551616 ∧ u1 < 18446744073709551616 ∧ v1 < 18446744073709551616)) := ⟨hFs, hbd⟩
      clear hb2 hFs hbd D1 K0
      have c0 := D2.out.bx.cell (i := 0) (by omega)
      have c1 := D2.out.hy.cell (i := 0) (by omega)
      have hl0 := D2.out.bx.lt
      have hl1 := D2.out.hy.lt
      have hl2 := D2.out.br.lt
      have BA : Hid (Below w2.heap.size w2 (w2.alloc (.cells #[.int .u64 (u0 : Int), .int .u64 (v0 : Int), .int .u64 (u1 : Int), .int .u64 (v1 : Int), .bool s] 155))) := (Below.refl _ _).alloc (Nat.le_refl _) _
      by_cases hv : v0 = 0
      · subst hv
        go_wp2_with fail
        have D3 : Hid _ := D2.out.go BA.out
        refine (divMod_198 _ _ x' gk _ D3.out.nx D3.out.ny FX.out.2.2 (by have := BG.out; omega) FX.out.2.1 FX.out.1).mono ?_
        rintro e w3 ⟨vq, vr, rfl, hvq, hvr, hb3⟩
        obtain ⟨aq, nq, cq, rfl⟩ := hvq.isAgg
        obtain ⟨ar, nr, cr, rfl⟩ := hvr.isAgg
        have D4 := D3.out.go hb3
        have b4 : Below w3.heap.size w3 ((w3.alloc (.cells #[.slice aq nq cq] 44)).alloc (.cells #[.slice ar nr cr] 44)) := bel_alloc2 _ _ _
        have hs3 := D4.br.lt
        have D5 : Hid _ := D4.go b4
        have R5 : Hid _ := hvr.mono b4
        clear D4 b4 hvq hvr hb3 c0 c1 hl0 hl1 hl2 D2 D3 BA
        go_wp2_with fail
        have c7 : ((w3.alloc (.cells #[.slice aq nq cq] 44)).alloc (.cells #[.slice ar nr cr] 44)).cell? ⟨w3.heap.size + 1, 0, none⟩ = some (.slice ar nr cr) := by simp [go_sem]
        obtain ⟨w4, hw4⟩ : ∃ w4, w4 = (w3.alloc (.cells #[.slice aq nq cq] 44)).alloc (.cells #[.slice ar nr cr] 44) := ⟨_, rfl⟩
        obtain ⟨br, hbr⟩ : ∃ br, br = w3.heap.size + 1 := ⟨_, rfl⟩
        rw [← hw4] at D5 R5 c7 ⊢
        rw [← hbr] at c7 ⊢
        have hn1 : br ≠ w.heap.size := by omega
        have hn2 : br ≠ w.heap.size + 1 := by omega
        have hn3 : w.heap.size ≠ br := by omega
        have hn4 : w.heap.size + 1 ≠ br := by omega
        clear hw4 hbr hs3
        have c0 := D5.out.bx.cell (i := 0) (by omega)
        have c1 := D5.out.hy.cell (i := 0) (by omega)
        have f0 := D5.out.bx.frozen 0
        have f1 := D5.out.hy.frozen 0
        have PT : Hid _ := D5.out.put D5.out.ny R5.out (Nat.le_of_lt (Nat.mod_lt _ (by have := BG.out; omega))) (Nat.le_trans D5.out.le D5.out.hx) (by rw [← D5.out.gcd, Nat.gcd_comm x' gk, Nat.gcd_rec gk x', Nat.gcd_comm])
        have hlt : x' % gk < gk := Nat.mod_lt _ (by have := BG.out; omega)
        clear D5 R5
        go_region
        all_goals go_wp2_with fail
        all_goals go_roundg (x' % gk)
        all_goals first
          | exact hlt
          | exact ⟨_, _, gk, PT.out⟩
          | exact ⟨_, _, gk, PT.out.drew⟩
      · have hv' : ((v0 : Int) == 0) = false := by simp; omega
        have HV : Hid (v0 ≠ 0) := hv
        clear hv
        go_wp2_with fail
        have D3 : Hid _ := D2.out.go BA.out
        obtain ⟨⟨p, q, u2, v2, hFs⟩, hbd⟩ := FS.out
        obtain ⟨A, C, hA, hC, hCA, hAY, hgcd⟩ := hFs.taken HV.out
        have TK : Calls Tryz.prog 118 #[.agg #[.int .u64 (u0 : Int), .int .u64 (v0 : Int), .int .u64 (u1 : Int), .int .u64 (v1 : Int), .bool s], .agg #[.slice ax' nx' cx'], .agg #[.slice ay' ny' cy']] (w2.alloc (.cells #[.int .u64 (u0 : Int), .int .u64 (v0 : Int), .int .u64 (u1 : Int), .int .u64 (v1 : Int), .bool s] 155)) (MakesQR (w2.alloc (.cells #[.int .u64 (u0 : Int), .int .u64 (v0 : Int), .int .u64 (u1 : Int), .int .u64 (v1 : Int), .bool s] 155)) A C) := by
          cases s
          · rw [sg_f] at hA hC
            have e1 : gk * v0 - x' * u0 = A ∧ x' * u0 ≤ gk * v0 := tk_eq1 hA
            have e2 : x' * u1 - gk * v1 = C ∧ gk * v1 ≤ x' * u1 := tk_eq2 hC
            have := taken_no u0 v0 u1 v1 _ _ x' gk _ D3.out.nx D3.out.ny FX.out.1.fits FX.out.2.2.fits hbd.1 hbd.2.1 hbd.2.2.1 hbd.2.2.2 e1.2 e2.2
            rw [e1.1, e2.1] at this
            exact this
          · rw [sg_t] at hA hC
            have e1 : x' * u0 - gk * v0 = A ∧ gk * v0 ≤ x' * u0 := tk_eq3 hA
            have e2 : gk * v1 - x' * u1 = C ∧ x' * u1 ≤ gk * v1 := tk_eq4 hC
            have := taken_yes u0 v0 u1 v1 _ _ x' gk _ D3.out.nx D3.out.ny FX.out.1.fits FX.out.2.2.fits hbd.1 hbd.2.1 hbd.2.2.1 hbd.2.2.2 e1.2 e2.2
            rw [e1.1, e2.1] at this
            exact this
        refine TK.mono ?_
        rintro e w3 ⟨va, vc, rfl, hva, hvc, hb3⟩
        obtain ⟨aq, nq, cq, rfl⟩ := hva.isAgg
        obtain ⟨ar, nr, cr, rfl⟩ := hvc.isAgg
        have D4 : Hid _ := D3.out.go hb3
        have PT : Hid _ := D4.out.put hva hvc (Nat.le_of_lt hCA) (Nat.le_trans hAY (Nat.le_trans D4.out.le D4.out.hx)) (by rw [hgcd]; exact D4.out.gcd)
        have hlt : C < gk := by omega
        clear TK hFs hbd hA hC hCA hAY hgcd hva hvc hb3 c0 c1 hl0 hl1 hl2 D2 D3 BA FS
        have c0 := D4.out.bx.cell (i := 0) (by omega)
        have c1 := D4.out.hy.cell (i := 0) (by omega)
        have f0 := D4.out.bx.frozen 0
        have f1 := D4.out.hy.frozen 0
        clear D4
        go_wp2_with fail
        go_roundg C
        case measure => exact hlt
        case rel => exact ⟨_, _, A, PT.out⟩
    · have h1' : decide ((1 : Int) < (ny' : Int)) = false := decide_eq_false (by omega)
      have h1'' : decide (1 < ny') = false := decide_eq_false (by omega)
      have c2 := hD.out.br.cell (i := 0) (by omega)
      have f2 := hD.out.br.frozen 0
      by_cases h0 : ny' = 0
      · subst h0
        have hz : gk = 0 := natLen_zero hD.out.ny rfl
        have HG : Hid (Nat.gcd x y = x') := by
          show _ = _
          rw [← hD.out.gcd, hz, Nat.gcd_zero_right]
        clear hz
        go_wp2_with fail
        refine bodyPost_ret (v := .agg #[.slice ax' nx' cx']) (by simp [results, Tryz.results108, go_sem, c2]) rfl ⟨_, rfl, ?_, hD.out.bel.setCell (by simp <;> omega) _⟩
        rw [HG.out]
        exact hD.out.nx.setCell (no_int_slice c2) _
      · obtain rfl : ny' = 1 := by omega
        clear h0 h1 h1' h1''
        obtain ⟨G, ks, k0, k1, kv⟩ := id hD.out.ny.fits
        obtain ⟨F, hs, h0, hh1, hvv⟩ := id hD.out.nx.fits
        have hn : nx' ≤ 4294967296 := fits_len (hvv.symm ▸ FX.out.1.fits) hh1
        obtain ⟨b, o, rfl, hw⟩ := ks.at 0 (by omega)
        have hG0 : G 0 < 18446744073709551616 := ks.2.2.1 0 (by omega)
        have hgk : G 0 = gk := by rw [← kv, V_succ, V_zero, P_zero]; omega
        have hc := hw 0 (by omega)
        rw [Nat.add_zero, hgk] at hc
        rw [hgk] at hG0
        have hg0 : gk ≠ 0 := by
          have := k1 (by omega)
          simpa [hgk] using this
        have mk := make_at (nx' : Int) (nx' : Int) nx' nx' rfl rfl (Nat.le_refl _) (by omega)
        have HF : Hid (Sl wr ax' nx' cx' F ∧ V F nx' = x') := ⟨hs, hvv⟩
        clear ks k0 k1 kv hs h0 hh1 hvv hw hgk
        have hl0 := hD.out.bx.lt
        have hl1 := hD.out.hy.lt
        have hl2 := hD.out.br.lt
        have hlb := World.block_lt_of_cell? _ _ hc
        have HB : Hid (Below wr.heap.size wr (wr.alloc (.cells (zeros nx') 22))) := (Below.refl _ _).alloc (Nat.le_refl _) _
        go_wp2_with (refine (id ?_ : wpList Tryz.prog _ _ (⟨some 51, _, _, _, _, _⟩ :: _) _ _); refine wpList_copy_words rfl (.tmp 48) (.tmp 50) rfl _ _ _ _ _ _ _ rfl rfl nx' (fun _ => 0) F (row_zeros_at _ nx' _ rfl) (HF.out.1.mono HB.out) (by omega) (by omega) ?_)
        intro w1 hR1 hg1
        have A1 : Hid (Below wr.heap.size wr w1) := HB.out.grown hg1 (by simp) (fun k hk => by cases hk; omega)
        have R1 : Hid (Row w1 wr.heap.size nx' (over (fun _ => 0) 0 F nx')) := hR1
        have D1 : Hid _ := hD.out.go A1.out
        have d1 := cell_later A1.out c1
        have d2 := cell_later A1.out c2
        have g2 := (A1.out.frozen (World.block_lt_of_cell? _ _ c2)).trans f2
        have dc := cell_later A1.out hc
        have C0 : Hid (w1.cell? ⟨w.heap.size + 1 + 1, 0, none⟩ = some (.slice none 0 0) ∧ w1.frozen? ⟨w.heap.size + 1 + 1, 0, none⟩ = false) := ⟨d2, g2⟩
        have NE : Hid ((⟨w.heap.size + 1 + 1, 0, none⟩ : Addr) ≠ ⟨b, o, none⟩) := fun e => by
          have := dc
          rw [← e, d2] at this
          cases this
        have hne1 : w.heap.size + 1 ≠ wr.heap.size := by omega
        have hne2 : w.heap.size + 1 + 1 ≠ wr.heap.size := by omega
        have hne3 : b ≠ wr.heap.size := by omega
        obtain ⟨g, hg⟩ : ∃ g, g = wr.heap.size := ⟨_, rfl⟩
        have hgw : w.heap.size ≤ g := by rw [hg]; exact hD.out.bel.size
        rw [← hg] at R1 hne1 hne2 hne3
        clear hR1 hg1 c0 c1 c2 f2 hc mk d2 g2 HB hl0 hl1 hl2 hlb
        go_wp2_with fail
        rw [← hg]
        clear hg A1
        have GX : Hid (x' % gk < 18446744073709551616 ∧ 0 < gk) := ⟨Nat.lt_trans (Nat.mod_lt _ (by omega)) hG0, by omega⟩
        have VX : Hid (V (over (fun _ => 0) 0 F nx') nx' = x') := by
          show _ = _
          rw [V_over0, HF.out.2]
        go_region_held3 (fun w' => w'.cell? ⟨w.heap.size + 1, 0, none⟩ = some (.slice (some ⟨b, o, none⟩) 1 cy') ∧ w'.cell? ⟨b, o, none⟩ = some (.int .u64 (gk : Int))) (first | (simp [go_sem, *]; done) | (refine ⟨?_, (World.cell?_setCell_other (h := NE.out) ..).trans i2⟩; simp [go_sem, *]; done))
          (first
            | (go_at_call 120; refine (dv_word g nx' gk _ w1.drew (w.heap.size + 1) b o (w.heap.size + 1 + 1) w.heap.size _ _ _ R1.out (by omega) GX.out.2 hG0 hne1 hne3 hne2 hgw x' VX.out d1 dc C0.out.1 C0.out.2).mono ?_; rintro e w2 ⟨c, rfl, HC, e1, e2, E3⟩; clear d1 dc)
            | (go_at_call 119; refine (dv_gcd gk c x' _ (w.heap.size + 1) b o _ _ hG0 HC.out.1 GX.out.1 e1 e2).mono ?_; rintro e w3 ⟨rfl, a1, a2, B3⟩; clear e1 e2)
            | (go_at_call 66; refine (of_any (Nat.gcd gk c) _ (Nat.lt_of_le_of_lt (Nat.gcd_le_left _ GX.out.2) hG0)).mono ?_; rintro e w4 ⟨v4, rfl, hv4, hb4⟩; obtain ⟨a4, n4, c4, rfl⟩ := hv4.isAgg; have i1 := cell_later hb4 a1; have i2 := cell_later hb4 a2; have i3 := cell_later hb4 (cell_later B3.out E3.out.1); have j3 := (hb4.frozen (World.block_lt_of_cell? _ _ (cell_later B3.out E3.out.1))).trans ((B3.out.frozen (World.block_lt_of_cell? _ _ E3.out.1)).trans E3.out.2); have V4 : Hid _ := hv4; have B4 : Hid (Below w2.heap.size w2 w4) := bel_go B3.out hb4; clear hv4 hb4 a1 a2))
        go_wp2_with fail
        have B8 : Below w.heap.size w w2 := D1.out.bel.trans (bel_undrew HC.out.2)
        have B9 : Hid (Below w.heap.size w w4) := B8.trans (B4.out.mono B8.size)
        have V5 : IsNat w4 (.agg #[.slice a4 n4 c4]) (Nat.gcd gk c) := V4.out
        have HG : Hid (Nat.gcd x y = Nat.gcd gk c) := by
          show _ = _
          rw [HC.out.1, ← D1.out.gcd, Nat.gcd_comm x' gk, Nat.gcd_rec gk x', Nat.gcd_comm]
        refine bodyPost_ret (v := .agg #[.slice a4 n4 c4]) (by simp [results, Tryz.results108, go_sem, i3]) rfl ⟨_, rfl, ?_, B9.out.setCell (by simp <;> omega) _⟩
        rw [HG.out]
        exact V5.setCell (no_int_slice i3) _
end Go.Proofs.YtdmkneojhnhomaaGreatDoor
namespace Go.Proofs.YtdmkneojhnhomaaGreatDoor
open Go.RowKit
set_option maxRecDepth 100000
set_option linter.unusedVariables false
/-- The table of math/bits lies in its variable. -/
def Tab (w : World) : Prop := TabAt 1 Lib.deBruijn64tab w
theorem Tab.go {w w' : World} (h : Tab w) (hb : Below w.heap.size w w') : Tab w' := fun j hj => cell_later hb (h j hj)
set_option maxHeartbeats 1000000 in
theorem tz64_core (x k idx : Nat) (w : World) (hx0 : ((x : Int) == 0) = false)
    (key : IntKind.u64.wrap (bits BinOp.and IntKind.u64 (x : Int) (IntKind.u64.wrap (-(x : Int))) * 285870213051353865) / 288230376151711744 = (idx : Int))
    (hi : idx < 64) (hk : k < 64) (hcell : w.cell? ⟨1, idx, none⟩ = some (.int .u8 k)) :
    Calls Tryz.prog 115 #[.int .u64 x] w fun e w' => e = .returned (.int .i64 k) ∧ w' = w := by
  go_enter Tryz.func115, Tryz.ntmps115
  go_wp2_with (simp only [key])
  go_ret
  exact ⟨rfl, rfl⟩
theorem tz64_any (x : Nat) (hx : x < 18446744073709551616) (w : World) (hT : Tab w) (hx0 : x ≠ 0) :
    Calls Tryz.prog 115 #[.int .u64 x] w fun e w' => (∃ k : Nat, e = .returned (.int .i64 (k : Int)) ∧ k < 64 ∧ x % 2 ^ k = 0) ∧ w' = w := by
  obtain ⟨hlow, hk⟩ := Lib.lowest_bit 64 x hx0 hx
  obtain ⟨hi, htab⟩ := Lib.deBruijn64_at _ hk
  have hcell := hT _ hi
  rw [htab] at hcell
  refine (tz64_core x _ _ w (by simp; omega) (tz64_key x _ hx hx0 hlow) hi hk hcell).mono ?_
  rintro e w' ⟨rfl, rfl⟩
  refine ⟨⟨_, rfl, hk, ?_⟩, rfl⟩
  obtain ⟨m, hm, _⟩ := Lib.ctzFrom_spec 64 x (by omega) hx
  have e : Lib.ctz 64 x = Lib.ctzFrom 64 x := by simp [Lib.ctz, hx0]
  rw [e]
  exact Nat.mod_eq_zero_of_dvd ⟨_, hm⟩
/-- The longest of the first k lists. -/
def lng (n m : Nat) : Nat → Nat
  | 0 => 0
  | 1 => n
  | _ => max n m
/-- What the first k lists have at a place. -/
def sn (f g : Nat) : Nat → Nat
  | 0 => 0
  | 1 => f
  | _ => f ||| g
set_option maxHeartbeats 2000000 in
theorem sharedTwos_any (g : Nat) (a : Option Addr) (n cap : Nat) (F : Nat → Nat) (a' : Option Addr) (m cap' : Nat) (G : Nat → Nat) (w : World) (hF : Sl w a n cap F) (hG : Sl w a' m cap' G) (hn : n ≤ 4294967296) (hm : m ≤ 4294967296) (hT : Tab w)
    (d0 : w.cell? ⟨g, 0, none⟩ = some (.slice a n cap)) (d1 : w.cell? ⟨g, 1, none⟩ = some (.slice a' m cap')) :
    Calls Tryz.prog 107 #[.slice (some ⟨g, 0, none⟩) 2 2] w fun e w' => (∃ t : Nat, e = .returned (.int .i64 (t : Int)) ∧ t ≤ 281474976710656 ∧ 2 ^ t ∣ V F n ∧ 2 ^ t ∣ V G m) ∧ w' = w := by
  have HH : Hid (Sl w a n cap F ∧ Sl w a' m cap' G ∧ Tab w) := ⟨hF, hG, hT⟩
  clear hF hG hT
  obtain ⟨mx, hmx⟩ : ∃ mx : Nat, mx = max n m := ⟨_, rfl⟩
  have hm3 : mx ≤ 4294967296 := by omega
  have E1 : Hid ((if n < m then (m : Int) else (n : Int)) = (mx : Int)) := by show _ = _; split <;> omega
  have MX : Hid (lng n m 2 = mx) := hmx.symm
  clear hmx
  go_enter Tryz.func107, Tryz.ntmps107
  go_wp2_with fail
  go_loop [3, 12] (fun l t => ∃ k : Nat, k ≤ 2 ∧ t = .int .i64 (k : Int) ∧ l = .int .i64 ((lng n m k : Nat) : Int)) (fun _ t => 2 - (intOf t).toNat)
  case atStart => exact ⟨0, by omega, rfl, rfl⟩
  case round =>
    obtain ⟨k, hk, rfl, rfl⟩ := hrel
    by_cases h0 : k = 0
    · subst h0
      have hz : Hid (lng n m 1 = n) := rfl
      have e0 : lng n m 0 = 0 := rfl
      rw [e0]
      have e1 : (if 0 < n then (n : Int) else 0) = (n : Int) := by split <;> omega
      go_wp2_with fail
      go_round
      case rel => exact ⟨1, by omega, rfl, by first | rfl | rw [e1]; rfl⟩
      case measure => simp [intOf]
    · by_cases h1 : k = 1
      · subst h1
        have e1 := E1.out
        have e0 : lng n m 1 = n := rfl
        rw [e0]
        go_wp2_with fail
        go_round
        case rel => exact ⟨2, by omega, rfl, by rw [MX.out]⟩
        case measure => simp [intOf]
      · obtain rfl : k = 2 := by omega
        rw [MX.out]
        clear h0 h1 hk
        go_wp2_with fail
        go_loop [22] (fun t => ∃ i : Nat, i ≤ mx ∧ t = .int .i64 (i : Int) ∧ Hid (∀ j, j < i → cutU F n 0 j = 0 ∧ cutU G m 0 j = 0)) (fun t => mx - (intOf t).toNat)
        case atStart => exact ⟨0, by omega, rfl, fun j hj => absurd hj (by omega)⟩
        case round =>
          obtain ⟨i, hi, rfl, hz⟩ := hrel
          by_cases him : i < mx
          · have him' : (i : Int) < (mx : Int) := by omega
            go_wp2_with fail
            go_loop [7, 27] (fun q t => ∃ k : Nat, k ≤ 2 ∧ t = .int .i64 (k : Int) ∧ q = .int .u64 ((sn (cutU F n 0 i) (cutU G m 0 i) k : Nat) : Int)) (fun _ t => 2 - (intOf t).toNat)
            case atStart => exact ⟨0, by omega, rfl, rfl⟩
            case round =>
              obtain ⟨k, hk, rfl, rfl⟩ := hrel
              by_cases h0 : k = 0
              · subst h0
                by_cases hin : i < n
                · obtain ⟨b, o, rfl, hw⟩ := HH.out.1.at i hin
                  have hc := hw i hin
                  have hFi : F i < 18446744073709551616 := HH.out.1.2.2.1 i hin
                  have e0 : cutU F n 0 i = F i := by rw [cutU_in (by omega), Nat.zero_add]
                  have hb : bits .or .u64 0 ((F i : Nat) : Int) = ((F i : Nat) : Int) := by
                    have := bits_or_u64_nat 0 (F i) (by omega) hFi
                    rw [Nat.zero_or] at this
                    exact this
                  have SN : Hid (sn (cutU F n 0 i) (cutU G m 0 i) 1 = F i) := e0
                  rw [show sn (cutU F n 0 i) (cutU G m 0 i) 0 = 0 from rfl]
                  clear hw e0 hFi
                  go_wp2_with fail
                  go_round
                  case rel => exact ⟨1, by omega, rfl, by rw [SN.out]⟩
                  case measure => simp [intOf]
                · have SN : Hid (sn (cutU F n 0 i) (cutU G m 0 i) 1 = 0) := cutU_out (by omega)
                  have hd : decide (i < n) = false := decide_eq_false hin
                  rw [show sn (cutU F n 0 i) (cutU G m 0 i) 0 = 0 from rfl]
                  go_wp2_with fail
                  go_round
                  case rel => exact ⟨1, by omega, rfl, by rw [SN.out]⟩
                  case measure => simp [intOf]
              · by_cases h1 : k = 1
                · subst h1
                  by_cases hin : i < m
                  · obtain ⟨b, o, rfl, hw⟩ := HH.out.2.1.at i hin
                    have hc := hw i hin
                    have hGi : G i < 18446744073709551616 := HH.out.2.1.2.2.1 i hin
                    have hFi : cutU F n 0 i < 18446744073709551616 := ok_cut (n := i + 1) HH.out.1.2.2.1 i (by omega)
                    have hb := bits_or_u64_nat (cutU F n 0 i) (G i) hFi hGi
                    have SN : Hid (sn (cutU F n 0 i) (cutU G m 0 i) 2 = cutU F n 0 i ||| G i) := by
                      show _ ||| _ = _
                      rw [cutU_in (F := G) (by omega), Nat.zero_add]
                    rw [show sn (cutU F n 0 i) (cutU G m 0 i) 1 = cutU F n 0 i from rfl]
                    clear hw hFi hGi
                    go_wp2_with fail
                    go_round
                    case rel => exact ⟨2, by omega, rfl, by rw [SN.out]⟩
                    case measure => simp [intOf]
                  · have SN : Hid (sn (cutU F n 0 i) (cutU G m 0 i) 2 = cutU F n 0 i) := by
                      show _ ||| _ = _
                      rw [cutU_out (F := G) (by omega), Nat.or_zero]
                    have hd : decide (i < m) = false := decide_eq_false hin
                    rw [show sn (cutU F n 0 i) (cutU G m 0 i) 1 = cutU F n 0 i from rfl]
                    go_wp2_with fail
                    go_round
                    case rel => exact ⟨2, by omega, rfl, by rw [SN.out]⟩
                    case measure => simp [intOf]
                · obtain rfl : k = 2 := by omega
                  clear h0 h1 hk
                  have hcF : cutU F n 0 i < 18446744073709551616 := ok_cut (n := i + 1) HH.out.1.2.2.1 i (by omega)
                  have hcG : cutU G m 0 i < 18446744073709551616 := ok_cut (n := i + 1) HH.out.2.1.2.2.1 i (by omega)
                  obtain ⟨q, hq⟩ : ∃ q, q = sn (cutU F n 0 i) (cutU G m 0 i) 2 := ⟨_, rfl⟩
                  have hq64 : q < 18446744073709551616 := by rw [hq]; exact Nat.or_lt_two_pow (n := 64) hcF hcG
                  rw [← hq]
                  have HQ : Hid (q = cutU F n 0 i ||| cutU G m 0 i) := hq
                  clear hq hcF hcG
                  by_cases hq0 : q = 0
                  · subst hq0
                    have hn2 := Nat.or_eq_zero_iff.1 HQ.out.symm
                    have HZ : Hid _ := hn2
                    clear hn2
                    go_wp2_with fail
                    go_round
                    case rel =>
                      refine ⟨i + 1, by omega, by go_num, fun j hj => ?_⟩
                      by_cases e : j = i
                      · rw [e]; exact HZ.out
                      · exact hz.out j (by omega)
                    case measure => simp [intOf]; omega
                  · have hqn : ((q : Int) != 0) = true := by simp; omega
                    go_wp2_with fail
                    refine (tz64_any q hq64 _ HH.out.2.2 hq0).mono ?_
                    rintro e w' ⟨⟨kk, rfl, hk64, hmod⟩, hw'⟩
                    rw [hw']
                    clear hw' w'
                    have DV : Hid (2 ^ (64 * i + kk) ∣ V F n ∧ 2 ^ (64 * i + kk) ∣ V G m) := by
                      rw [HQ.out] at hmod
                      have o1 := or_mod hmod
                      exact ⟨V_dvd (fun j hj => (hz.out j hj).1) o1.1 (by omega), V_dvd (fun j hj => (hz.out j hj).2) o1.2 (by omega)⟩
                    clear hmod
                    go_wp2_with fail
                    go_ret
                    exact ⟨⟨64 * i + kk, ret_int (by omega), by omega, DV.out⟩, rfl⟩
          · obtain rfl : i = mx := by omega
            go_wp2_with fail
            go_ret
            exact ⟨⟨0, rfl, by omega, by rw [Nat.pow_zero]; exact Nat.one_dvd _, by rw [Nat.pow_zero]; exact Nat.one_dvd _⟩, rfl⟩
end Go.Proofs.YtdmkneojhnhomaaGreatDoor
namespace Go.Proofs.YtdmkneojhnhomaaGreatDoor
open Go.RowKit
set_option maxRecDepth 100000
set_option linter.unusedVariables false
/-- The greater number in the first box, the lesser one in the second. -/
structure Gd (w wr : World) (g : Nat) (X Y : Value) (p q : Nat) : Prop where
  bx : wr.rowIs w.heap.size 44 1 (fun _ => X)
  hy : wr.rowIs (w.heap.size + 1) 44 1 (fun _ => Y)
  br : wr.rowIs (w.heap.size + 1 + 1) 44 1 (fun _ => .slice none 0 0)
  nx : IsNat wr (.agg #[X]) p
  ny : IsNat wr (.agg #[Y]) q
  le : q ≤ p
  hx : p < P 198
  gcd : Nat.gcd p q = g
  tab : Tab wr
  bel : Below w.heap.size w wr
theorem Gd.go {w wr wr' : World} {g : Nat} {X Y : Value} {p q : Nat} (h : Gd w wr g X Y p q) (hb : Below wr.heap.size wr wr') : Gd w wr' g X Y p q :=
  ⟨h.bx.of_block (hb.block _ h.bx.lt), h.hy.of_block (hb.block _ h.hy.lt), h.br.of_block (hb.block _ h.br.lt), h.nx.mono hb, h.ny.mono hb, h.le, h.hx, h.gcd, h.tab.go hb, bel_go h.bel hb⟩
theorem gd_swap {w wr : World} {x y : Nat} {ax : Option Addr} {nx cx : Nat} {ay : Option Addr} {ny cy : Nat} (b0 : wr.rowIs w.heap.size 44 1 (fun _ => .slice ax nx cx)) (b1 : wr.rowIs (w.heap.size + 1) 44 1 (fun _ => .slice ay ny cy)) (b2 : wr.rowIs (w.heap.size + 1 + 1) 44 1 (fun _ => .slice none 0 0)) (hx : IsNat wr (.agg #[.slice ax nx cx]) x) (hy : IsNat wr (.agg #[.slice ay ny cy]) y) (le : x ≤ y) (hP : y < P 198) (tab : Tab wr) (bel : Below w.heap.size w wr) :
    Gd w ((wr.setCell ⟨w.heap.size, 0, none⟩ (.slice ay ny cy)).setCell ⟨w.heap.size + 1, 0, none⟩ (.slice ax nx cx)) (Nat.gcd x y) (.slice ay ny cy) (.slice ax nx cx) y x := by
  have cx' := b0.cell (i := 0) (by omega)
  have cy' := b1.cell (i := 0) (by omega)
  have n1 : ∀ kk q, (wr.setCell ⟨w.heap.size, 0, none⟩ (.slice ay ny cy)).cell? ⟨w.heap.size + 1, 0, none⟩ ≠ some (.int kk q) := by
    rw [World.cell?_setCell_far _ _ _ _ (by simp)]
    exact no_int_slice cy'
  refine ⟨?_, ?_, ?_, (hy.setCell (no_int_slice cx') _).setCell n1 _, (hx.setCell (no_int_slice cx') _).setCell n1 _, le, hP, Nat.gcd_comm _ _, ?_, (bel.setCell (by simp) _).setCell (by simp) _⟩
  · exact ((b0.set 0 (.slice ay ny cy)).setOther (a := ⟨w.heap.size + 1, 0, none⟩) (by simp) _).congr (fun i hi => by rw [show i = 0 by omega, if_pos rfl])
  · exact (((b1.setOther (a := ⟨w.heap.size, 0, none⟩) (by simp) _)).set 0 (.slice ax nx cx)).congr (fun i hi => by rw [show i = 0 by omega, if_pos rfl])
  · exact (b2.setOther (a := ⟨w.heap.size, 0, none⟩) (by simp <;> omega) _).setOther (a := ⟨w.heap.size + 1, 0, none⟩) (by simp <;> omega) _
  · intro j hj
    have hc := tab j hj
    have e1 : (⟨w.heap.size, 0, none⟩ : Addr) ≠ ⟨1, j, none⟩ := fun e => by rw [← e, cx'] at hc; cases hc
    have e2 : (⟨w.heap.size + 1, 0, none⟩ : Addr) ≠ ⟨1, j, none⟩ := fun e => by rw [← e, cy'] at hc; cases hc
    exact (World.cell?_setCell_other (h := e2) ..).trans ((World.cell?_setCell_other (h := e1) ..).trans hc)
theorem two_small {t q n : Nat} (h : 2 ^ t ∣ q) (h0 : q ≠ 0) (hq : q < P n) : t < 64 * n := by
  have h1 := Nat.le_of_dvd (Nat.pos_of_ne_zero h0) h
  rw [P_two] at hq
  exact (Nat.pow_lt_pow_iff_right (show 1 < 2 by decide)).1 (Nat.lt_of_le_of_lt h1 hq)
theorem small_198 {x : Nat} (hx : x < P 198) : Small x := ⟨Nat.lt_of_lt_of_le hx (P_le (show 198 ≤ lim2 by decide))⟩
set_option maxHeartbeats 4000000 in
theorem gcd_any (v u : Value) (x y : Nat) (w : World) (h : IsNat w v x) (k : IsNat w u y) (hx : x < P 198) (hy : y < P 198) (hT : Tab w) :
    Calls Tryz.prog 95 #[v, u] w (Makes w (Nat.gcd x y)) := by
  obtain ⟨ax, nx, cx, rfl⟩ := h.isAgg
  obtain ⟨ay, ny, cy, rfl⟩ := k.isAgg
  have HH : Hid (IsNat w (.agg #[.slice ax nx cx]) x ∧ IsNat w (.agg #[.slice ay ny cy]) y ∧ x < P 198 ∧ y < P 198 ∧ Tab w) := ⟨h, k, hx, hy, hT⟩
  clear h k hx hy hT
  have HB : Hid (Below w.heap.size w (((w.alloc (.cells #[.slice ax nx cx] 44)).alloc (.cells #[.slice ay ny cy] 44)).alloc (.cells #[.slice none 0 0] 44))) := (bel_alloc2 _ _ _).alloc (by simp <;> omega) _
  have r1 := ((World.rowIs_alloc w #[.slice ax nx cx] 44 (fun _ => .slice ax nx cx) (fun i hi => by rw [show i = 0 by simpa using hi]; rfl)).alloc (.cells #[.slice ay ny cy] 44)).alloc (.cells #[.slice none 0 0] 44)
  have r2 := (World.rowIs_alloc (w.alloc (.cells #[.slice ax nx cx] 44)) #[.slice ay ny cy] 44 (fun _ => .slice ay ny cy) (fun i hi => by rw [show i = 0 by simpa using hi]; rfl)).alloc (.cells #[.slice none 0 0] 44)
  have r3 := World.rowIs_alloc ((w.alloc (.cells #[.slice ax nx cx] 44)).alloc (.cells #[.slice ay ny cy] 44)) #[.slice none 0 0] 44 (fun _ => .slice none 0 0) (fun i hi => by rw [show i = 0 by simpa using hi]; rfl)
  have RR : Hid ((((w.alloc (.cells #[.slice ax nx cx] 44)).alloc (.cells #[.slice ay ny cy] 44)).alloc (.cells #[.slice none 0 0] 44)).rowIs w.heap.size 44 1 (fun _ => .slice ax nx cx) ∧ (((w.alloc (.cells #[.slice ax nx cx] 44)).alloc (.cells #[.slice ay ny cy] 44)).alloc (.cells #[.slice none 0 0] 44)).rowIs (w.heap.size + 1) 44 1 (fun _ => .slice ay ny cy) ∧ (((w.alloc (.cells #[.slice ax nx cx] 44)).alloc (.cells #[.slice ay ny cy] 44)).alloc (.cells #[.slice none 0 0] 44)).rowIs (w.heap.size + 1 + 1) 44 1 (fun _ => .slice none 0 0)) := ⟨r1, by simpa using r2, by simpa using r3⟩
  clear r1 r2 r3
  go_enter Tryz.func95, Tryz.ntmps95
  go_wp2_with fail
  refine (cmp_any _ _ x y _ (HH.out.1.mono HB.out) (HH.out.2.1.mono HB.out) (small_198 HH.out.2.2.1).fits (small_198 HH.out.2.2.2.1).fits).mono ?_
  rintro e w1 ⟨rfl, hb1⟩
  have R1 : Hid (w1.rowIs w.heap.size 44 1 (fun _ => .slice ax nx cx) ∧ w1.rowIs (w.heap.size + 1) 44 1 (fun _ => .slice ay ny cy) ∧ w1.rowIs (w.heap.size + 1 + 1) 44 1 (fun _ => .slice none 0 0)) := ⟨RR.out.1.of_block (hb1.block _ RR.out.1.lt), RR.out.2.1.of_block (hb1.block _ RR.out.2.1.lt), RR.out.2.2.of_block (hb1.block _ RR.out.2.2.lt)⟩
  have B1 : Hid (Below w.heap.size w w1) := bel_go HB.out hb1
  have N1 : Hid (IsNat w1 (.agg #[.slice ax nx cx]) x ∧ IsNat w1 (.agg #[.slice ay ny cy]) y ∧ Tab w1) := ⟨HH.out.1.mono B1.out, HH.out.2.1.mono B1.out, HH.out.2.2.2.2.go B1.out⟩
  clear hb1 HB RR
  go_upto_if 9 with (fail)
  go_cut [9] from 6 (fun s9 wc => ∃ ap np cp aq nq cq p q, Hid (Gd w wc (Nat.gcd x y) (.slice ap np cp) (.slice aq nq cq) p q))
  case first =>
    have c0 := R1.out.1.cell (i := 0) (by omega)
    have c1 := R1.out.2.1.cell (i := 0) (by omega)
    have f0 := R1.out.1.frozen 0
    have f1 := R1.out.2.1.frozen 0
    clear f0 f1
    have f0 := R1.out.1.frozen 0
    have f1 := R1.out.2.1.frozen 0
    go_wp2_with fail
    all_goals first
      | (have hc : cmpI x y < 0 := by assumption
         go_meet
         have hlt : x < y := by
           rcases Nat.lt_or_ge x y with h | h
           · exact h
           · exact absurd hc (by unfold cmpI; split <;> (try split) <;> omega)
         refine ⟨ay, ny, cy, ax, nx, cx, y, x, gd_swap R1.out.1 R1.out.2.1 R1.out.2.2 N1.out.1 N1.out.2.1 (Nat.le_of_lt hlt) HH.out.2.2.2.1 N1.out.2.2 B1.out⟩)
      | (have hc : 0 ≤ cmpI x y := by omega
         go_meet
         have hge : y ≤ x := by
           rcases Nat.lt_or_ge x y with h | h
           · rw [cmpI_lt h] at hc
             omega
           · exact h
         refine ⟨ax, nx, cx, ay, ny, cy, x, y, ⟨R1.out.1, R1.out.2.1, R1.out.2.2, N1.out.1, N1.out.2.1, hge, HH.out.2.2.1, rfl, N1.out.2.2, B1.out⟩⟩)
  case rest =>
    clear R1 B1 N1 HH
    obtain ⟨ap, np, cp, aq, nq, cq, p, q, hG⟩ := hcut
    have c0 := hG.out.bx.cell (i := 0) (by omega)
    have c1 := hG.out.hy.cell (i := 0) (by omega)
    have c2 := hG.out.br.cell (i := 0) (by omega)
    have f2 := hG.out.br.frozen 0
    have SP : Hid (Small p ∧ Small q) := ⟨small_198 hG.out.hx, (small_198 hG.out.hx).le hG.out.le⟩
    obtain ⟨G, ks, k0, k1, kv⟩ := id hG.out.ny.fits
    obtain ⟨F, hs, h0, h1, hvv⟩ := id hG.out.nx.fits
    have hn : np ≤ 4294967296 := fits_len (hvv.symm ▸ SP.out.1.fits) h1
    have hm : nq ≤ 4294967296 := fits_len (kv.symm ▸ SP.out.2.fits) k1
    by_cases hq0 : nq = 0
    · subst hq0
      have hz : q = 0 := natLen_zero hG.out.ny rfl
      have HG : Hid (Nat.gcd x y = p) := by
        show _ = _
        rw [← hG.out.gcd, hz, Nat.gcd_zero_right]
      clear hz ks k0 k1 kv hs h0 h1 hvv
      go_wp2_with fail
      refine bodyPost_ret (v := .agg #[.slice ap np cp]) (by simp [results, Tryz.results95, go_sem, c2]) rfl ⟨_, rfl, ?_, hG.out.bel.setCell (by simp <;> omega) _⟩
      rw [HG.out]
      exact hG.out.nx.setCell (no_int_slice c2) _
    · have hqi : ((nq : Int) == 0) = false := by simp; omega
      have HF : Hid (Sl wc ap np cp F ∧ V F np = p ∧ Sl wc aq nq cq G ∧ V G nq = q) := ⟨hs, hvv, ks, kv⟩
      have hl0 := hG.out.bx.lt
      have hl1 := hG.out.hy.lt
      have hl2 := hG.out.br.lt
      clear ks k0 k1 kv hs h0 h1 hvv
      go_wp2_with fail
      have BA : Hid (Below wc.heap.size wc (wc.alloc (.cells #[.slice ap np cp, .slice aq nq cq] 31))) := (Below.refl _ _).alloc (Nat.le_refl _) _
      have GA : Hid _ := hG.out.go BA.out
      refine (sharedTwos_any wc.heap.size ap np cp F aq nq cq G _ (HF.out.1.mono BA.out) (HF.out.2.2.1.mono BA.out) hn hm GA.out.tab (by simp [go_sem]) (by simp [go_sem])).mono ?_
      rintro e w' ⟨⟨t, rfl, ht, d1, d2⟩, hw'⟩
      rw [hw']
      clear hw' w'
      rw [HF.out.2.1] at d1
      rw [HF.out.2.2.2] at d2
      have DV : Hid (2 ^ t ∣ p ∧ 2 ^ t ∣ q) := ⟨d1, d2⟩
      obtain ⟨wd, hwd⟩ : ∃ wd, wd = wc.alloc (.cells #[.slice ap np cp, .slice aq nq cq] 31) := ⟨_, rfl⟩
      rw [← hwd] at GA ⊢
      clear hwd BA HF d1 d2 c0 c1 c2 f2 hl0 hl1 hl2 hG
      have c0 := GA.out.bx.cell (i := 0) (by omega)
      have c1 := GA.out.hy.cell (i := 0) (by omega)
      have ht2 : t ≤ 12672 := by
        have hq1 : q ≠ 0 := fun e => hq0 ((isNat_zero_iff GA.out.ny).2 e)
        have h2 := two_small DV.out.2 hq1 (Nat.lt_of_le_of_lt GA.out.le GA.out.hx)
        omega
      have BD : Hid (p / 2 ^ t < P 198 ∧ q / 2 ^ t ≤ p / 2 ^ t ∧ Fits (Nat.gcd (p / 2 ^ t) (q / 2 ^ t)) ∧ t ≤ 68719476736) := by
        have h1 : q / 2 ^ t ≤ p / 2 ^ t := Nat.div_le_div_right GA.out.le
        have h2 : p / 2 ^ t < P 198 := Nat.lt_of_le_of_lt (Nat.div_le_self _ _) GA.out.hx
        refine ⟨h2, h1, (small_198 (x := Nat.gcd (p / 2 ^ t) (q / 2 ^ t)) ?_).fits, by omega⟩
        rcases Nat.eq_zero_or_pos (q / 2 ^ t) with e | e
        · rw [e, Nat.gcd_zero_right]
          exact h2
        · exact Nat.lt_of_le_of_lt (Nat.gcd_le_right _ e) (Nat.lt_of_le_of_lt h1 h2)
      clear ht ht2 hq0
      have ht3 : (t : Int) ≤ 68719476736 := by have := BD.out.2.2.2; omega
      go_wp2_with fail
      go_region_held3 (fun w' => w'.cell? ⟨w.heap.size, 0, none⟩ = some (.slice ap np cp) ∧ w'.cell? ⟨w.heap.size + 1, 0, none⟩ = some (.slice aq nq cq)) (simp [go_sem, *])
        (first
          | (go_at_call 109; have zz := c0; clear zz; refine Calls.mono (right_any _ p (t : Int) _ (GA.out.nx.mono (bel_dr (Below.refl _ _))) SP.out.1.fits (by omega) (by omega)) ?_; rintro e w1 ⟨v1, rfl, hv1, hb1⟩; rw [Int.toNat_natCast] at hv1; have G1 : Hid _ := GA.out.go (bel_undrew hb1); have X1 : Hid _ := hv1; clear hv1 c0 c1; have d0 := G1.out.bx.cell (i := 0) (by omega); have d1 := G1.out.hy.cell (i := 0) (by omega); clear hb1)
          | (go_at_call 109; have zz := d0; clear zz; refine Calls.mono (right_any _ q (t : Int) _ G1.out.ny SP.out.2.fits (by omega) (by omega)) ?_; rintro e w2 ⟨v2, rfl, hv2, hb2⟩; rw [Int.toNat_natCast] at hv2; have G2 : Hid _ := G1.out.go hb2; have X2 : Hid _ := hv2; have Y1 : Hid (IsNat w2 v1 (p / 2 ^ t)) := IsNat.mono X1.out hb2; clear hv2 d0 d1; have e0 := G2.out.bx.cell (i := 0) (by omega); have e1 := G2.out.hy.cell (i := 0) (by omega); clear hb2)
          | (go_at_call 108; have zz := e0; clear zz; refine Calls.mono (divisor_any _ _ (p / 2 ^ t) (q / 2 ^ t) _ Y1.out X2.out BD.out.1 BD.out.2.1) ?_; rintro e w3 ⟨v3, rfl, hv3, hb3⟩; have G3 : Hid _ := G2.out.go hb3; have X3 : Hid _ := hv3; clear hv3 e0 e1; have i0 := G3.out.bx.cell (i := 0) (by omega); have i1 := G3.out.hy.cell (i := 0) (by omega); clear hb3)
          | (go_at_call 103; have zz := i0; clear zz; refine Calls.mono (up_any _ (Nat.gcd (p / 2 ^ t) (q / 2 ^ t)) t _ X3.out BD.out.2.2.1 BD.out.2.2.2) ?_; rintro e w4 ⟨v4, rfl, hv4, hb4⟩; obtain ⟨a4, n4, c4, rfl⟩ := hv4.isAgg; have G4 : Hid _ := G3.out.go hb4; have X4 : Hid (IsNat w4 (.agg #[.slice a4 n4 c4]) (Nat.gcd (p / 2 ^ t) (q / 2 ^ t) * 2 ^ t)) := hv4; clear hv4 i0 i1; have j0 := G4.out.bx.cell (i := 0) (by omega); have j1 := G4.out.hy.cell (i := 0) (by omega); have j2 := G4.out.br.cell (i := 0) (by omega); have g2 := G4.out.br.frozen 0; clear hb4))
      go_wp2_with fail
      have HG : Hid (Nat.gcd x y = Nat.gcd (p / 2 ^ t) (q / 2 ^ t) * 2 ^ t) := by
        show _ = _
        rw [gcd_up DV.out.1 DV.out.2, GA.out.gcd]
      refine bodyPost_ret (v := .agg #[.slice a4 n4 c4]) (by simp [results, Tryz.results95, go_sem, j2]) rfl ⟨_, rfl, ?_, G4.out.bel.setCell (by simp <;> omega) _⟩
      rw [HG.out]
      exact X4.out.setCell (no_int_slice j2) _
end Go.Proofs.YtdmkneojhnhomaaGreatDoor
namespace Go.Proofs.YtdmkneojhnhomaaGreatDoor
open Go.RowKit
set_option maxRecDepth 100000
set_option linter.unusedVariables false
theorem cnt_full {M : Nat → Nat} {x : Nat} : ∀ {K : Nat}, (∀ i, i < K → M i ≤ x) → cnt M x K = K
  | 0, _ => rfl
  | K + 1, h => by
    unfold cnt
    rw [cnt_full fun i hi => h i (by omega), if_pos (h K (by omega))]
theorem cnt_pw {x : Nat} : ∀ {K t : Nat}, cnt pw x K = t + 1 → t < K ∧ pw t ≤ x
  | 0, t, h => by
    unfold cnt at h
    omega
  | K + 1, t, h => by
    by_cases hk : pw K ≤ x
    · rw [cnt_full fun i hi => Nat.le_trans (pw_le (show i ≤ K by omega)) hk] at h
      obtain rfl : t = K := by omega
      exact ⟨by omega, hk⟩
    · unfold cnt at h
      rw [if_neg hk, Nat.add_zero] at h
      obtain ⟨h1, h2⟩ := cnt_pw h
      exact ⟨by omega, h2⟩
theorem cnt_one {x : Nat} (h : pw 0 ≤ x) : ∀ {K : Nat}, 0 < K → 0 < cnt pw x K
  | 0, hk => absurd hk (by omega)
  | 1, _ => by
    unfold cnt cnt
    rw [if_pos h]
    omega
  | K + 2, _ => by
    have := cnt_one h (show 0 < K + 1 by omega)
    rw [cnt]
    omega
theorem BRow.noword {w : World} {b N : Nat} {D : Nat → Nat} (h : BRow w b N D) : ∀ i z, w.cell? ⟨b, i, none⟩ ≠ some (.int .u64 z) := rowIs_noword h.1 fun i hi z => by simp
theorem PowsAt.bytes {w w' : World} {base b N K : Nat} {v : Value} {D : Nat → Nat} (h : PowsAt w base v K) (hD : BRow w b N D) (hg : w.grownBy w' (some b)) : PowsAt w' base v K := by
  obtain ⟨G, ⟨g, cap, f, rfl, k1, k2, k3, k4, k5, k6⟩, h2⟩ := h
  refine ⟨G, ⟨g, cap, f, rfl, k1, k2, k3, k4.of_block (hg.block g k4.lt ?_), k5, k6⟩, fun i hi => (h2 i hi).keep hg hD.noword⟩
  intro e
  cases e
  obtain ⟨c1, e1, _⟩ := k4
  obtain ⟨c2, e2, _⟩ := hD.1
  rw [e1] at e2
  simp at e2
/-- The digits of two parts are those of the whole. -/
theorem DecFill.join {D D' D'' : Nat → Nat} {o n cut x m : Nat} (hc : n = cut + m) (h : DecFill D D' o cut 0 (x / 10 ^ m)) (k : DecFill D' D'' (o + cut) m 0 (x % 10 ^ m)) : DecFill D D'' o n 0 x := by
  subst hc
  refine ⟨fun i _ hi => ?_, fun j hj => ?_⟩
  · rcases Nat.lt_or_ge i cut with hh | hh
    · rw [k.2 _ (by omega), h.1 i (by omega) hh, decAt_div]
      congr 1
      omega
    · have := k.1 (i - cut) (by omega) (by omega)
      rw [show o + cut + (i - cut) = o + i by omega] at this
      rw [this, decAt_mod _ _ _ (by omega)]
      congr 1
      omega
  · rw [k.2 _ (by omega), h.2 _ (by omega)]
theorem slice_bh (g o len cap c : Nat) (hc : c ≤ cap) (w : World) :
    (Instr.slice 110 (.slice (some ⟨g, o, none⟩) len cap) none (some (.int .i64 (c : Int))) none).run Tryz.prog w = .ok (.slice (some ⟨g, o, none⟩) c cap) w := by
  rw [run_slice_h (P := Tryz.prog) (kh := .i64) (h := (c : Int)) (ht := by kernel_rfl) (h0 := by omega) (h2 := by omega)]
  have hz : (sizeOf (Tryz.prog.elem 110)).run Tryz.prog w = .ok 1 w := by kernel_rfl
  rw [hz]
  simp [Result.andThen, sliced]
  intro _
  simp [Addr.add]
theorem slice_bl (g o len cap c : Nat) (hc : c < cap) (hl : c ≤ len) (w : World) :
    (Instr.slice 110 (.slice (some ⟨g, o, none⟩) len cap) (some (.int .i64 (c : Int))) none none).run Tryz.prog w = .ok (.slice (some ⟨g, o + c, none⟩) (len - c) (cap - c)) w := by
  rw [run_slice_l (P := Tryz.prog) (kl := .i64) (l := (c : Int)) (ht := by kernel_rfl) (h0 := by omega) (h1 := by omega)]
  have hz : (sizeOf (Tryz.prog.elem 110)).run Tryz.prog w = .ok 1 w := by kernel_rfl
  have hne : ¬ cap = c := by omega
  rw [hz]
  simp only [Result.andThen, sliced, Int.toNat_natCast, Nat.mul_one, if_neg hne, Option.map_some]
  congr 3
  unfold Addr.add
  split <;> simp_all
theorem gb_undrew {w w' : World} {r : Option Nat} (h : w.drew.grownBy w' r) : w.grownBy w' r := ⟨h.os, h.tape, h.output, h.size, h.block⟩
/-- What fill makes. -/
def Fills (w : World) (b N o n x : Nat) (D : Nat → Nat) (e : Ending) (w' : World) : Prop := e = .returned (.tuple #[]) ∧ ∃ D', BRow w' b N D' ∧ DecFill D D' o n 0 x ∧ w.grownBy w' (some b)
end Go.Proofs.YtdmkneojhnhomaaGreatDoor
namespace Go.Proofs.YtdmkneojhnhomaaGreatDoor
open Go.RowKit
set_option maxRecDepth 100000
set_option linter.unusedVariables false
/-- The powers serve for x. -/
def PowsOk (w : World) (u : Value) (x : Nat) : Prop := x < P 40 ∨ ∃ base K, 0 < K ∧ K ≤ 8 ∧ PowsAt w base u K
theorem PowsOk.below {w w' : World} {u : Value} {x : Nat} (h : PowsOk w u x) (hb : Below w.heap.size w w') : PowsOk w' u x := by
  rcases h with h | ⟨base, K, h1, h2, h3⟩
  · exact .inl h
  · exact .inr ⟨base, K, h1, h2, h3.below hb⟩
/-- n bytes as a string. -/
def strOf (D : Nat → Nat) (n : Nat) : ByteArray := strOfNums ((List.range n).map fun i => ((D i : Nat) : Int))
theorem strOf_congr {D E : Nat → Nat} {n : Nat} (h : ∀ i, i < n → D i = E i) : strOf D n = strOf E n := by
  unfold strOf
  congr 1
  refine List.map_congr_left fun i hi => ?_
  rw [h i (by simpa using hi)]
theorem conv_bytes {w : World} {b N : Nat} {D : Nat → Nat} (h : BRow w b N D) (o n cap : Nat) (ho : o + n ≤ N) :
    (convert 110 9 (.slice (some ⟨b, o, none⟩) n cap)).run Tryz.prog w = .ok (.string (strOf (fun i => D (o + i)) n)) w := by
  refine run_convert_bytes_arg (P := Tryz.prog) w 110 5 (by kernel_rfl) (by kernel_rfl) b o n cap _ (by simp) (fun i hi => ?_) 9 (by kernel_rfl)
  rw [h.cell (show o + i < N by omega)]
  simp [List.getD, hi]
/-- x's digits, as a string. -/
def decText (x k : Nat) : ByteArray := strOf (fun i => decAt x (k - 1 - i)) k
def Texts (w : World) (x : Nat) (e : Ending) (w' : World) : Prop := ∃ k, e = .returned (.string (decText x k)) ∧ DecLen x k ∧ Below w.heap.size w w'
theorem bitLen_P {x n : Nat} (h : x < P n) : bitLen x ≤ 64 * n := by
  rw [P_two] at h
  rcases Nat.lt_or_ge (64 * n) (bitLen x) with hh | hh
  · have h1 := (bitLen_spec x).2 (by intro e; subst e; simp [bitLen] at hh)
    have h2 : (2 : Nat) ^ (64 * n) ≤ 2 ^ (bitLen x - 1) := Nat.pow_le_pow_right (by omega) (by omega)
    omega
  · exact hh
end Go.Proofs.YtdmkneojhnhomaaGreatDoor
