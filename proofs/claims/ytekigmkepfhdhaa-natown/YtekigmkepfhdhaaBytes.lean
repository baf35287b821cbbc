/- Bytes: a number's bytes, the highest first. -/
import Derived.Test.YtekigmkepfhdhaaFromB
namespace Go.Proofs.Ytekigmkepfhdhaa
open Go.RowKit
set_option maxRecDepth 100000
set_option linter.unusedVariables false
/-- The byte of x at a place. -/
def byteAt (x p : Nat) : Nat := x / 256 ^ p % 256
/-- How many bytes x has. -/
def byteLen (x : Nat) : Nat := (bitLen x + 7) / 8
theorem byteAt_lt (x p : Nat) : byteAt x p < 256 := Nat.mod_lt _ (by omega)
theorem word_at {F : Nat → Nat} {n q : Nat} (h : Ok F n) (hq : q < n) : V F n / P q % 18446744073709551616 = F q := by
  obtain ⟨t, rfl⟩ : ∃ t, n = q + (1 + t) := ⟨n - (q + 1), by omega⟩
  rw [V_split, Nat.add_mul_div_left _ _ (P_pos q), Nat.div_eq_of_lt (V_lt (h.mono (by omega))), Nat.zero_add, V_split, P_one, V_succ, V_zero, P_zero, Nat.zero_add, Nat.mul_one, Nat.add_zero, Nat.add_mul_mod_self_left]
  exact Nat.mod_eq_of_lt (h q hq)
theorem byte_of_word {F : Nat → Nat} {n q r : Nat} (h : Ok F n) (hq : q < n) (hr : r < 8) : F q / 2 ^ (r * 8) % 256 = byteAt (V F n) (8 * q + r) := by
  rw [← word_at h hq, ← pow256, byteAt, Nat.pow_add, ← P_256, ← Nat.div_div_eq_div_mul]
  generalize V F n / P q = y
  have e : (18446744073709551616 : Nat) = 256 ^ r * 256 ^ (8 - r) := by rw [← Nat.pow_add, show r + (8 - r) = 8 by omega]
  rw [e, Nat.mod_mul_right_div_self]
  exact Nat.mod_mod_of_dvd _ ⟨256 ^ (7 - r), by rw [show 8 - r = (7 - r) + 1 by omega, Nat.pow_succ, Nat.mul_comm]⟩
theorem byte_int {F : Nat → Nat} {n q r : Nat} (h : Ok F n) (hq : q < n) (hr : r < 8) : ((F q : Nat) : Int) / 2 ^ (r * 8) % 256 = ((byteAt (V F n) (8 * q + r) : Nat) : Int) := by
  rw [← byte_of_word h hq hr]
  simp
theorem Try.info5 : (Try.prog.info? 5).map (fun i => (i.zero, i.size, i.bytes)) = some (some (.int .u8 0), 1, 1) := by kernel_rfl
/-- m bytes of 0. -/
def zeroB (m : Nat) : Array Value := madeCells #[.int .u8 0] m
theorem makeB_at (L C : Int) (n m : Nat) (hL : L = n) (hC : C = m) (hnm : n ≤ m) (hm : m ≤ 1099511627776) (w : World) :
    (Instr.makeSlice 23 (.int .i64 L) (.int .i64 C)).run Try.prog w = .ok (.slice (some ⟨w.heap.size, 0, none⟩) n m) (w.alloc (.cells (zeroB m) 5)) := by
  obtain ⟨i, hi, hz, hs, hb⟩ := info_parts Try.info5
  subst hL hC
  rw [run_make w 23 5 i (.int .u8 0) Try.underlying23 hi hz .i64 .i64 n m (by omega) (by omega) (by rw [hb]; omega) (by omega), hs]
  simp [zeroB, Value.cells]
/-- Block b is a row of N bytes that may be written. -/
def BRow (w : World) (b N : Nat) (D : Nat → Nat) : Prop := w.rowIs b 5 N (fun j => .int .u8 ((D j : Nat) : Int)) ∧ ∀ i, i < N → D i < 256
theorem brow_zeros_at (w : World) (m g : Nat) (hg : g = w.heap.size) : BRow (w.alloc (.cells (zeroB m) 5)) g m (fun _ => 0) := by
  subst hg
  exact ⟨World.rowIs_made w (.int .u8 0) m _, fun _ _ => by show (0 : Nat) < 256; omega⟩
theorem BRow.set {w : World} {b N : Nat} {F : Nat → Nat} (h : BRow w b N F) (i : Nat) {v : Nat} (hv : v < 256) : BRow (w.setCell ⟨b, i, none⟩ (.int .u8 (v : Int))) b N (put F i v) := by
  refine ⟨(h.1.set i _).congr fun j hj => ?_, fun j hj => ?_⟩
  · unfold put
    by_cases e : j = i <;> simp [e]
  · unfold put
    split
    · exact hv
    · exact h.2 j hj
theorem BRow.cell {w : World} {b N : Nat} {F : Nat → Nat} (h : BRow w b N F) {i : Nat} (hi : i < N) : w.cell? ⟨b, i, none⟩ = some (.int .u8 (F i : Nat)) := h.1.cell hi
theorem BRow.frozen {w : World} {b N : Nat} {F : Nat → Nat} (h : BRow w b N F) (i : Nat) : w.frozen? ⟨b, i, none⟩ = false := h.1.frozen i
theorem BRow.below {w w' : World} {b N : Nat} {F : Nat → Nat} (h : BRow w b N F) (hb : Below w.heap.size w w') : BRow w' b N F := ⟨h.1.of_block (hb.block b h.1.lt), h.2⟩
theorem BRow.congr {w : World} {b N : Nat} {F G : Nat → Nat} (h : BRow w b N F) (e : ∀ i, i < N → F i = G i) : BRow w b N G :=
  ⟨h.1.congr fun i hi => by rw [e i hi], fun i hi => by rw [← e i hi]; exact h.2 i hi⟩
theorem BRow.bsl {w : World} {b N o n cap : Nat} {F : Nat → Nat} (h : BRow w b N F) (ho : o + n ≤ N) (hc : n ≤ cap) (hm : cap ≤ 9223372036854775807) : BSl w (some ⟨b, o, none⟩) n cap (fro F o) :=
  ⟨hc, hm, fun i hi => h.2 _ (by omega), .inr ⟨b, o, rfl, fun i hi => h.cell (by omega)⟩⟩
set_option maxHeartbeats 1000000 in
theorem bytes_any (v : Value) (x : Nat) (w : World) (h : IsNat w v x) (hx : Fits x) :
    Calls Try.prog 27 #[v] w fun e w' => ∃ g, e = .returned (.slice (some ⟨g, 0, none⟩) (byteLen x) (byteLen x)) ∧ w.heap.size ≤ g ∧ BRow w' g (byteLen x) (fun i => byteAt x (byteLen x - 1 - i)) ∧ Below w.heap.size w w' := by
  obtain ⟨a, n, cap, F, rfl, hs, h0, h1, hv⟩ := id h
  have hn : n ≤ 4294967296 := fits_len (hv.symm ▸ hx) h1
  have hbl : bitLen x ≤ 64 * n := by
    by_cases e0 : n = 0
    · subst e0
      rw [← hv]
      show bitLen 0 ≤ 0
      simp [bitLen]
    · obtain ⟨t, rfl⟩ : ∃ t, n = t + 1 := ⟨n - 1, by omega⟩
      have := bitLen_V hs.2.2.1 (h1 (by omega))
      rw [hv] at this
      have := bitLen_le64 (F t) (hs.2.2.1 t (by omega))
      omega
  have HL : Hid (byteLen x = (bitLen x + 7) / 8) := rfl
  obtain ⟨L, hL⟩ : ∃ L, L = byteLen x := ⟨_, rfl⟩
  have hLn : L ≤ 8 * n := by rw [hL, HL.out]; omega
  have HLL : Hid (L = byteLen x) := hL
  have HH : Hid (Sl w a n cap F ∧ V F n = x ∧ IsNat w (.agg #[.slice a n cap]) x) := ⟨hs, hv, h⟩
  clear hs h0 h1 hv h
  have mk := makeB_at ((((bitLen x : Nat) : Int) + 7) / 8) ((((bitLen x : Nat) : Int) + 7) / 8) L L (by rw [HLL.out, HL.out]; omega) (by rw [HLL.out, HL.out]; omega) (Nat.le_refl _) (by omega)
  rw [← hL]
  clear hL
  go_enter Try.func27, Try.ntmps27
  go_wp2_with fail
  refine (len_any _ x _ (HH.out.2.2.mono ((Below.refl _ _).alloc (Nat.le_refl _) _)) hx).mono ?_
  rintro e w1 ⟨rfl, hb1⟩
  have c1 : w1.cell? ⟨w.heap.size, 0, none⟩ = some (.slice a n cap) := cell_later hb1 (by simp [go_sem])
  have hsz : w.heap.size < w1.heap.size := World.block_lt_of_cell? _ _ c1
  have B1 : Hid (Below w.heap.size w w1) := bel_trans ((Below.refl _ _).alloc (Nat.le_refl _) _) hb1
  clear hb1 hx
  go_wp2_with fail
  go_loopw [13] (fun t wr => ∃ (i : Nat) (E : Nat → Nat), i ≤ L ∧ t = .int .i64 (i : Int) ∧ BRow wr w1.heap.size L E ∧ (∀ j, j < i → E j = byteAt x (L - 1 - j)) ∧ (w1.alloc (.cells (zeroB L) 5)).grownBy wr (some w1.heap.size)) (fun t _ => L - (intOf t).toNat)
  case atStart => exact ⟨0, fun _ => 0, by omega, rfl, brow_zeros_at _ _ _ rfl, fun j hj => absurd hj (by omega), World.grownBy.refl _ _⟩
  case round =>
    obtain ⟨i, E, hi, rfl, hR, hE, hg⟩ := hrel
    by_cases hiL : i < L
    · obtain ⟨b, o, rfl, hw⟩ := HH.out.1.at ((L - 1 - i) / 8) (by omega)
      have hc0 := hw ((L - 1 - i) / 8) (by omega)
      have hb : b < w.heap.size := World.block_lt_of_cell? _ _ hc0
      have hcw : wr.cell? ⟨b, o + (L - 1 - i) / 8, none⟩ = some (.int .u64 (F ((L - 1 - i) / 8) : Nat)) := hg.cell (cell_later ((Below.refl _ _).alloc (Nat.le_refl _) _) (cell_later B1.out hc0)) (by simp only [ne_eq, Option.some.injEq]; omega)
      have hcx : wr.cell? ⟨w.heap.size, 0, none⟩ = some (.slice (some ⟨b, o, none⟩) n cap) := hg.cell (cell_later ((Below.refl _ _).alloc (Nat.le_refl _) _) c1) (by simp only [ne_eq, Option.some.injEq]; omega)
      have hcd : wr.cell? ⟨w1.heap.size, i, none⟩ = some (.int .u8 (E i : Nat)) := hR.cell hiL
      have hfd : wr.frozen? ⟨w1.heap.size, i, none⟩ = false := hR.frozen _
      have hiL' : (i : Int) < L := by omega
      have KK : Hid (BRow wr w1.heap.size L E ∧ (∀ j, j < i → E j = byteAt x (L - 1 - j)) ∧ (w1.alloc (.cells (zeroB L) 5)).grownBy wr (some w1.heap.size)) := ⟨hR, hE, hg⟩
      clear hR hE hg hw hc0
      have BI : Hid (((F ((L - 1 - i) / 8) : Nat) : Int) / 2 ^ ((L - 1 - i) % 8 * 8) % 256 = ((byteAt x (L - 1 - i) : Nat) : Int)) := by
        have := byte_int (r := (L - 1 - i) % 8) HH.out.1.2.2.1 (show (L - 1 - i) / 8 < n by omega) (by omega)
        rw [HH.out.2.1, show 8 * ((L - 1 - i) / 8) + (L - 1 - i) % 8 = L - 1 - i by omega] at this
        exact this
      go_wp2_with fail
      rw [BI.out]
      go_roundw
      case rel =>
        refine ⟨i + 1, _, by omega, by go_num, KK.out.1.set i (byteAt_lt _ _), fun j hj => ?_, grown_set _ KK.out.2.2 _ _⟩
        by_cases e : j = i
        · subst e
          exact put_same _ _ _
        · rw [put_other _ _ e]
          exact KK.out.2.1 j (by omega)
      case measure => simp [intOf]; omega
    · obtain rfl : i = L := by omega
      have KK : Hid (BRow wr w1.heap.size i E ∧ (∀ j, j < i → E j = byteAt x (i - 1 - j)) ∧ (w1.alloc (.cells (zeroB i) 5)).grownBy wr (some w1.heap.size)) := ⟨hR, hE, hg⟩
      clear hR hE hg
      go_wp2_with fail
      go_ret
      exact ⟨_, rfl, by omega, KK.out.1.congr KK.out.2.1, (B1.out.alloc B1.out.size _).grown KK.out.2.2 (by have := B1.out.size; simp; omega) (fun k hk => by cases hk; omega)⟩
end Go.Proofs.Ytekigmkepfhdhaa
