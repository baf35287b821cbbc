/- up: a number times a power of 2. -/
import Derived.Test.YtekigmkepfhdhaaShiftM
namespace Go.Proofs.Ytekigmkepfhdhaa
open Go.RowKit
set_option maxRecDepth 100000
set_option linter.unusedVariables false
set_option maxHeartbeats 1000000 in
theorem up_any (v : Value) (x s : Nat) (w : World) (h : IsNat w v x) (hx : Fits x) (hs0 : s ≤ 68719476736) :
    Calls Try.prog 53 #[v, .int .i64 (s : Int)] w (Makes w (x * 2 ^ s)) := by
  obtain ⟨a, n, cap, F, rfl, hs, h0, h1, hv⟩ := id h
  have hn : n ≤ 4294967296 := fits_len (hv.symm ▸ hx) h1
  have HN : Hid (IsNat w (.agg #[.slice a n cap]) x) := h
  by_cases hz : s = 0 ∨ n = 0
  · have hxx : x * 2 ^ s = x := by
      rcases hz with e | e
      · rw [e, Nat.pow_zero, Nat.mul_one]
      · subst e
        have : x = 0 := hv.symm
        rw [this, Nat.zero_mul]
    have fin : ∀ w' : World, Below w.heap.size w w' → Makes w (x * 2 ^ s) (.returned (.agg #[.slice a n cap])) w' := fun w' hb => ⟨_, rfl, by rw [hxx]; exact HN.out.mono hb, hb⟩
    have FIN : Hid _ := fin
    clear fin hxx hs h0 h1 hv hx h
    by_cases e : s = 0
    · have hsb : ((s : Int) == 0) = true := by simp <;> omega
      clear hz e
      go_enter Try.func53, Try.ntmps53
      go_wp2_with fail
      refine bodyPost_ret (v := .agg #[.slice a n cap]) (by simp [results, Try.results53, go_sem]) rfl (FIN.out _ (bel_alloc2 _ _ _))
    · have hsb : ((s : Int) == 0) = false := by simp <;> omega
      have hnb : ((n : Int) == 0) = true := by simp <;> omega
      clear hz e
      go_enter Try.func53, Try.ntmps53
      go_wp2_with fail
      refine bodyPost_ret (v := .agg #[.slice a n cap]) (by simp [results, Try.results53, go_sem]) rfl (FIN.out _ (bel_alloc2 _ _ _))
  · have hsb : ((s : Int) == 0) = false := by simp <;> omega
    have hnb : ((n : Int) == 0) = false := by simp <;> omega
    have mk := make_at ((s : Int) / 64 + n + 1) ((s : Int) / 64 + n + 1) (s / 64 + n + 1) (s / 64 + n + 1) (by omega) (by omega) (Nat.le_refl _) (by omega)
    have HH : Hid (Sl w a n cap F ∧ V F n = x) := ⟨hs, hv⟩
    clear hs h0 h1 hv hx h
    go_enter Try.func53, Try.ntmps53
    go_wp2_with fail
    go_loopw [33] (fun t wr => ∃ (i : Nat) (H : Nat → Nat), i ≤ n ∧ t = .int .i64 (i : Int) ∧ Row wr (w.heap.size + 1 + 1) (s / 64 + n + 1) H ∧ Upped F (s / 64 + n + 1) (s / 64) (s % 64) i H ∧ (((w.alloc (.cells #[.slice a n cap] 27)).alloc (.cells #[.slice none 0 0] 27)).alloc (.cells (zeros (s / 64 + n + 1)) 22)).grownBy wr (some (w.heap.size + 1 + 1))) (fun t _ => n - (intOf t).toNat)
    case atStart => exact ⟨0, fun _ => 0, by omega, rfl, row_zeros_at _ _ _ (by simp), upped_start _ _ _ _, World.grownBy.refl _ _⟩
    case round =>
      clear mk
      obtain ⟨i, H, hi, rfl, hR, hU, hg⟩ := hrel
      have HB : Hid (Below w.heap.size w (((w.alloc (.cells #[.slice a n cap] 27)).alloc (.cells #[.slice none 0 0] 27)).alloc (.cells (zeros (s / 64 + n + 1)) 22))) := (bel_alloc2 _ _ _).alloc (by simp <;> omega) _
      by_cases hin : i < n
      · obtain ⟨b, o, rfl, hw⟩ := HH.out.1.at i hin
        have hc0 := hw i hin
        have hb : b < w.heap.size := World.block_lt_of_cell? _ _ hc0
        have hcw : wr.cell? ⟨b, o + i, none⟩ = some (.int .u64 (F i : Nat)) := hg.cell (cell_later HB.out hc0) (by simp only [ne_eq, Option.some.injEq]; omega)
        have hc1 : wr.cell? ⟨w.heap.size + 1 + 1, s / 64 + i, none⟩ = some (.int .u64 (H (s / 64 + i) : Nat)) := hR.cell (by omega)
        have hf1 : wr.frozen? ⟨w.heap.size + 1 + 1, s / 64 + i, none⟩ = false := hR.frozen _
        have hc2 : wr.cell? ⟨w.heap.size + 1 + 1, s / 64 + i + 1, none⟩ = some (.int .u64 (H (s / 64 + i + 1) : Nat)) := hR.cell (by omega)
        have hf2 : wr.frozen? ⟨w.heap.size + 1 + 1, s / 64 + i + 1, none⟩ = false := hR.frozen _
        have hin' : (i : Int) < n := by omega
        have hFi : F i < 18446744073709551616 := HH.out.1.2.2.1 i hin
        obtain ⟨o1, o2⟩ := or_low (H (s / 64 + i)) (F i) (s % 64) hU.2.1 (by omega)
        have S1 := (hR.set (s / 64 + i) o2).set (s / 64 + i + 1) (v := F i / 2 ^ (64 - s % 64)) (by exact Nat.lt_of_le_of_lt (Nat.div_le_self _ _) hFi)
        have S2 := hU.step (by omega) (by omega) hFi
        have S3 := grown_set _ (grown_set _ hg (s / 64 + i) (.int .u64 ((H (s / 64 + i) + F i * 2 ^ (s % 64) % 18446744073709551616 : Nat) : Int))) (s / 64 + i + 1) (.int .u64 ((F i / 2 ^ (64 - s % 64) : Nat) : Int))
        have T : Hid _ := And.intro o1 (And.intro S1 (And.intro S2 S3))
        clear o1 o2 S1 S2 S3 hR hU hg hw hc0
        go_wp2_with fail
        go_region
        go_wp2_with fail
        rw [T.out.1, div_int]
        go_roundw
        case rel => exact ⟨i + 1, _, by omega, by go_num, T.out.2.1, T.out.2.2.1, grown_drew T.out.2.2.2 1⟩
        case measure => simp [intOf]; omega
      · obtain rfl : i = n := by omega
        have hcr : wr.cell? ⟨w.heap.size + 1, 0, none⟩ = some (.slice none 0 0) := hg.cell (by simp [go_sem]) (by simp)
        have hfr : wr.frozen? ⟨w.heap.size + 1, 0, none⟩ = false := (World.frozen?_of_block (hg.block _ (by simp <;> omega) (by simp))).trans (by simp [go_sem])
        have B1 : Hid (Below w.heap.size w wr) := HB.out.grown hg (by simp <;> omega) (fun k hk => by cases hk; omega)
        have HF : Hid (V H (s / 64 + i + 1) = x * 2 ^ s) := by
          have := hU.1
          rw [HH.out.2, P_two, Nat.mul_assoc, ← Nat.pow_add, show s % 64 + 64 * (s / 64) = s by omega] at this
          exact this
        have HR : Hid (Row wr (w.heap.size + 1 + 1) (s / 64 + i + 1) H) := hR
        clear hR hU hg
        go_wp2_with fail
        refine (trimmed_any _ (s / 64 + i + 1) (s / 64 + i + 1) H wr (by have := HR.out.sl (o := 0) (n := s / 64 + i + 1) (cap := s / 64 + i + 1) (by omega) (Nat.le_refl _) (by omega); rw [fro_zero] at this; exact this) (by omega)).mono ?_
        rintro e w3 ⟨v3, rfl, hv3, hb3⟩
        have hcr3 : w3.cell? ⟨w.heap.size + 1, 0, none⟩ = some (.slice none 0 0) := cell_later hb3 hcr
        have hfr3 : w3.frozen? ⟨w.heap.size + 1, 0, none⟩ = false := (hb3.frozen (World.block_lt_of_cell? _ _ hcr)).trans hfr
        obtain ⟨a3, n3, cap3, rfl⟩ := hv3.isAgg
        have HV3 : Hid (IsNat w3 (.agg #[.slice a3 n3 cap3]) (V H (s / 64 + i + 1))) := hv3
        have B3 : Hid (Below w.heap.size w w3) := B1.out.trans (hb3.mono B1.out.size)
        clear hv3 hb3 hcr hfr B1
        go_wp2_with fail
        refine bodyPost_ret (v := .agg #[.slice a3 n3 cap3]) (by simp [results, Try.results53, go_sem, hcr3]) rfl ⟨_, rfl, ?_, B3.out.setCell (by simp) _⟩
        rw [← HF.out]
        exact HV3.out.setCell (no_int_slice hcr3) _
end Go.Proofs.Ytekigmkepfhdhaa
