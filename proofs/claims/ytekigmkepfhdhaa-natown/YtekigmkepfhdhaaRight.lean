/- Right: a number divided by a power of 2, rounded down. -/
import Derived.Test.YtekigmkepfhdhaaUp
namespace Go.Proofs.Ytekigmkepfhdhaa
open Go.RowKit
set_option maxRecDepth 100000
set_option linter.unusedVariables false
/-- The words of F from f on, 0 beyond n. -/
def cutU (F : Nat → Nat) (n f i : Nat) : Nat := if f + i < n then F (f + i) else 0
theorem cutU_in {F : Nat → Nat} {n f i : Nat} (h : f + i < n) : cutU F n f i = F (f + i) := by simp [cutU, h]
theorem cutU_out {F : Nat → Nat} {n f i : Nat} (h : ¬ f + i < n) : cutU F n f i = 0 := by simp [cutU, h]
theorem right_val {F : Nat → Nat} {n t : Nat} (hF : Ok F n) (hf : t / 64 ≤ n) : V (downW (cutU F n (t / 64)) (t % 64)) (n - t / 64) = V F n / 2 ^ t := by
  rw [down_val (by omega) (cutU_out (by omega)), V_congr (F := cutU F n (t / 64)) (G := fun i => F (t / 64 + i)) fun i hi => cutU_in (by omega)]
  have e : V F n = V F (t / 64) + P (t / 64) * V (fun i => F (t / 64 + i)) (n - t / 64) := by rw [← V_split, show t / 64 + (n - t / 64) = n by omega]
  rw [e, show 2 ^ t = P (t / 64) * 2 ^ (t % 64) by rw [P_two, ← Nat.pow_add, show 64 * (t / 64) + t % 64 = t by omega], ← Nat.div_div_eq_div_mul, Nat.add_mul_div_left _ _ (P_pos _), Nat.div_eq_of_lt (V_lt (hF.mono hf)), Nat.zero_add]
theorem bitLen_lt (x : Nat) : x < 2 ^ bitLen x := (bitLen_spec x).1
theorem bitLen_words {w : World} {a : Option Addr} {n cap : Nat} {F : Nat → Nat} {x : Nat} (hs : Sl w a n cap F) (h1 : 0 < n → F (n - 1) ≠ 0) (hv : V F n = x) : bitLen x ≤ 64 * n := by
  by_cases e0 : n = 0
  · subst e0
    rw [← hv]
    show bitLen 0 ≤ 0
    simp [bitLen]
  · obtain ⟨t, rfl⟩ : ∃ t, n = t + 1 := ⟨n - 1, by omega⟩
    have h2 := bitLen_V hs.2.2.1 (h1 (by omega))
    rw [hv] at h2
    have := bitLen_le64 (F t) (hs.2.2.1 t (by omega))
    omega
set_option maxHeartbeats 1000000 in
theorem right_any (v : Value) (x : Nat) (s : Int) (w : World) (h : IsNat w v x) (hx : Fits x) (hs0 : -9223372036854775808 ≤ s) (hs1 : s ≤ 9223372036854775807) :
    Calls Try.prog 31 #[v, .int .i64 s] w (Makes w (x / 2 ^ s.toNat)) := by
  obtain ⟨a, n, cap, F, rfl, hs, h0, h1, hv⟩ := id h
  have hn : n ≤ 4294967296 := fits_len (hv.symm ▸ hx) h1
  have HN : Hid (IsNat w (.agg #[.slice a n cap]) x) := h
  have hbl := bitLen_words hs h1 hv
  have HH : Hid (Sl w a n cap F ∧ V F n = x) := ⟨hs, hv⟩
  have HX : Hid (Fits x) := hx
  clear hs h0 h1 hv h hx
  by_cases hz : s ≤ 0
  · have hxx : x / 2 ^ s.toNat = x := by rw [show s.toNat = 0 by omega, Nat.pow_zero, Nat.div_one]
    have FIN : Hid (∀ w' : World, Below w.heap.size w w' → Makes w (x / 2 ^ s.toNat) (.returned (.agg #[.slice a n cap])) w') := fun w' hb => ⟨_, rfl, by rw [hxx]; exact HN.out.mono hb, hb⟩
    clear hxx hbl
    go_enter Try.func31, Try.ntmps31
    go_wp2_with fail
    refine bodyPost_ret (v := .agg #[.slice a n cap]) (by simp [results, Try.results31, go_sem]) rfl (FIN.out _ (bel_alloc2 _ _ _))
  · obtain ⟨t, rfl⟩ := Int.eq_ofNat_of_zero_le (show 0 ≤ s by omega)
    rw [Int.toNat_natCast]
    have htz : decide ((t : Int) ≤ 0) = false := decide_eq_false (by omega)
    go_enter Try.func31, Try.ntmps31
    go_wp2_with fail
    refine (len_any _ x _ (HN.out.mono (bel_alloc2 _ _ _)) HX.out).mono ?_
    rintro e w1 ⟨rfl, hb1⟩
    have c1 : w1.cell? ⟨w.heap.size, 0, none⟩ = some (.slice a n cap) := cell_later hb1 (by simp [go_sem])
    have c2 : w1.cell? ⟨w.heap.size + 1, 0, none⟩ = some (.slice none 0 0) := cell_later hb1 (by simp [go_sem])
    have f2 : w1.frozen? ⟨w.heap.size + 1, 0, none⟩ = false := (hb1.frozen (by simp <;> omega)).trans (by simp [go_sem])
    have hsz : w.heap.size + 1 < w1.heap.size := World.block_lt_of_cell? _ _ c2
    have B1 : Hid (Below w.heap.size w w1) := bel_trans (bel_alloc2 _ _ _) hb1
    clear hb1
    by_cases hbig : bitLen x ≤ t
    · have hbi : ((bitLen x : Nat) : Int) ≤ (t : Int) := by omega
      go_wp2_with fail
      refine bodyPost_ret (v := .agg #[.slice none 0 0]) (by simp [results, Try.results31, go_sem, c2]) rfl ⟨_, rfl, ?_, B1.out.setCell (by simp) _⟩
      rw [Nat.div_eq_of_lt (Nat.lt_of_lt_of_le (bitLen_lt x) (Nat.pow_le_pow_right (by omega) hbig))]
      exact isNat_zero _
    · have hbi : decide (bitLen x ≤ t) = false := decide_eq_false (by omega)
      have hft : t / 64 < n := by omega
      have mk := make_at ((n : Int) - (t : Int) / 64) ((n : Int) - (t : Int) / 64) (n - t / 64) (n - t / 64) (by omega) (by omega) (Nat.le_refl _) (by omega)
      have htb : t ≤ 274877906944 := by omega
      clear hbig
      go_wp2_with fail
      go_loopw [31] (fun q wr => ∃ (i : Nat) (H : Nat → Nat), i ≤ n - t / 64 ∧ q = .int .i64 (i : Int) ∧ Row wr w1.heap.size (n - t / 64) H ∧ (∀ j, j < i → H j = downW (cutU F n (t / 64)) (t % 64) j) ∧ (w1.alloc (.cells (zeros (n - t / 64)) 22)).grownBy wr (some w1.heap.size)) (fun q _ => n - t / 64 - (intOf q).toNat)
      case atStart => exact ⟨0, fun _ => 0, by omega, rfl, row_zeros_at _ _ _ rfl, fun j hj => absurd hj (by omega), World.grownBy.refl _ _⟩
      case round =>
        clear mk
        obtain ⟨i, H, hi, rfl, hR, hU, hg⟩ := hrel
        have HB : Hid (Below w.heap.size w (w1.alloc (.cells (zeros (n - t / 64)) 22))) := B1.out.alloc B1.out.size _
        by_cases hin : i < n - t / 64
        · obtain ⟨b, o, rfl, hw⟩ := HH.out.1.at (t / 64 + i) (by omega)
          have hc0 := hw (t / 64 + i) (by omega)
          have hb : b < w.heap.size := World.block_lt_of_cell? _ _ hc0
          have hcw : wr.cell? ⟨b, o + (t / 64 + i), none⟩ = some (.int .u64 (F (t / 64 + i) : Nat)) := hg.cell (cell_later HB.out hc0) (by simp only [ne_eq, Option.some.injEq]; omega)
          have hcx : wr.cell? ⟨w.heap.size, 0, none⟩ = some (.slice (some ⟨b, o, none⟩) n cap) := hg.cell (cell_later ((Below.refl _ _).alloc (Nat.le_refl _) _) c1) (by simp only [ne_eq, Option.some.injEq]; omega)
          have hc1 : wr.cell? ⟨w1.heap.size, i, none⟩ = some (.int .u64 (H i : Nat)) := hR.cell (by omega)
          have hf1 : wr.frozen? ⟨w1.heap.size, i, none⟩ = false := hR.frozen _
          have hin' : (i : Int) < ((n - t / 64 : Nat) : Int) := by omega
          have hFi : F (t / 64 + i) < 18446744073709551616 := HH.out.1.2.2.1 _ (by omega)
          have hdl : F (t / 64 + i) / 2 ^ (t % 64) < 18446744073709551616 := Nat.lt_of_le_of_lt (Nat.div_le_self _ _) hFi
          by_cases hlast : t / 64 + i + 1 < n
          · have hc3 : wr.cell? ⟨b, o + (t / 64 + i + 1), none⟩ = some (.int .u64 (F (t / 64 + i + 1) : Nat)) := hg.cell (cell_later HB.out (hw (t / 64 + i + 1) hlast)) (by simp only [ne_eq, Option.some.injEq]; omega)
            have hl' : ((t : Int) / 64 + i + 1) < n := by omega
            obtain ⟨o1, o2⟩ := or_high (F (t / 64 + i)) (F (t / 64 + i + 1)) (t % 64) hFi (by omega)
            have ed : downW (cutU F n (t / 64)) (t % 64) i = F (t / 64 + i) / 2 ^ (t % 64) + F (t / 64 + i + 1) * 2 ^ (64 - t % 64) % 18446744073709551616 := by
              unfold downW
              rw [cutU_in (by omega), cutU_in (by omega), Nat.add_assoc]
            rw [← ed] at o1 o2
            have T : Hid _ := And.intro o1 (And.intro ((hR.set i hdl).set i o2) (And.intro hU (grown_set _ (grown_set _ hg i (.int .u64 ((F (t / 64 + i) / 2 ^ (t % 64) : Nat) : Int))) i (.int .u64 ((downW (cutU F n (t / 64)) (t % 64) i : Nat) : Int)))))
            clear o1 o2 ed hR hU hg hw hc0
            go_wp2_with fail
            go_region
            go_wp2_with fail
            rw [div_int, T.out.1]
            go_roundw
            case rel =>
              refine ⟨i + 1, _, by omega, by go_num, T.out.2.1, fun j hj => ?_, grown_drew T.out.2.2.2 1⟩
              by_cases e : j = i
              · subst e
                exact put_same _ _ _
              · rw [put_other _ _ e, put_other _ _ e]
                exact T.out.2.2.1 j (by omega)
            case measure => simp [intOf]; omega
          · have hl' : decide (((t : Int) / 64 + i + 1) < n) = false := decide_eq_false (by omega)
            have ed : downW (cutU F n (t / 64)) (t % 64) i = F (t / 64 + i) / 2 ^ (t % 64) := by
              unfold downW
              rw [cutU_in (by omega), cutU_out (by omega)]
              simp
            have T : Hid _ := And.intro (hR.set i hdl) (And.intro hU (grown_set _ hg i (.int .u64 ((F (t / 64 + i) / 2 ^ (t % 64) : Nat) : Int))))
            have ED : Hid _ := ed
            clear ed hR hU hg hw hc0
            go_wp2_with fail
            rw [div_int]
            go_roundw
            case rel =>
              refine ⟨i + 1, _, by omega, by go_num, T.out.1, fun j hj => ?_, T.out.2.2⟩
              by_cases e : j = i
              · subst e
                rw [put_same, ED.out]
              · rw [put_other _ _ e]
                exact T.out.2.1 j (by omega)
            case measure => simp [intOf]; omega
        · obtain rfl : i = n - t / 64 := by omega
          have hcr : wr.cell? ⟨w.heap.size + 1, 0, none⟩ = some (.slice none 0 0) := hg.cell (cell_later ((Below.refl _ _).alloc (Nat.le_refl _) _) c2) (by simp only [ne_eq, Option.some.injEq]; omega)
          have hfr : wr.frozen? ⟨w.heap.size + 1, 0, none⟩ = false := (World.frozen?_of_block (hg.block _ (by simp <;> omega) (by simp only [ne_eq, Option.some.injEq]; omega))).trans ((((Below.refl _ _).alloc (Nat.le_refl _) _).frozen hsz).trans f2)
          have B2 : Hid (Below w.heap.size w wr) := HB.out.grown hg (by have := B1.out.size; simp; omega) (fun k hk => by cases hk; exact B1.out.size)
          have HF : Hid (V H (n - t / 64) = x / 2 ^ t) := by
            show V H (n - t / 64) = x / 2 ^ t
            rw [V_congr hU, right_val HH.out.1.2.2.1 (by omega), HH.out.2]
          have HR : Hid (Row wr w1.heap.size (n - t / 64) H) := hR
          clear hR hU hg
          go_wp2_with fail
          refine (trimmed_any _ (n - t / 64) (n - t / 64) H wr (by have := HR.out.sl (o := 0) (n := n - t / 64) (cap := n - t / 64) (by omega) (Nat.le_refl _) (by omega); rw [fro_zero] at this; exact this) (by omega)).mono ?_
          rintro e w3 ⟨v3, rfl, hv3, hb3⟩
          have hcr3 : w3.cell? ⟨w.heap.size + 1, 0, none⟩ = some (.slice none 0 0) := cell_later hb3 hcr
          have hfr3 : w3.frozen? ⟨w.heap.size + 1, 0, none⟩ = false := (hb3.frozen (World.block_lt_of_cell? _ _ hcr)).trans hfr
          obtain ⟨a3, n3, cap3, rfl⟩ := hv3.isAgg
          have HV3 : Hid (IsNat w3 (.agg #[.slice a3 n3 cap3]) (V H (n - t / 64))) := hv3
          have B3 : Hid (Below w.heap.size w w3) := B2.out.trans (hb3.mono B2.out.size)
          clear hv3 hb3 hcr hfr B2
          go_wp2_with fail
          refine bodyPost_ret (v := .agg #[.slice a3 n3 cap3]) (by simp [results, Try.results31, go_sem, hcr3]) rfl ⟨_, rfl, ?_, B3.out.setCell (by simp) _⟩
          rw [← HF.out]
          exact HV3.out.setCell (no_int_slice hcr3) _
end Go.Proofs.Ytekigmkepfhdhaa
