/- divide, where a short divisor or quotient lets it go the plain way. -/
import Derived.Test.YtekigmkepfhdhaaPlainQ
namespace Go.Proofs.Ytekigmkepfhdhaa
open Go.RowKit
set_option maxRecDepth 100000
set_option linter.unusedVariables false
set_option maxHeartbeats 1000000 in
theorem divide_short (a : Option Addr) (lx cap : Nat) (b' o' k cap' : Nat) (X Y : Nat → Nat) (w : World) (hX : Sl w a lx cap X) (hY : Sl w (some ⟨b', o', none⟩) (k + 2) cap' Y) (hlx : k + 2 ≤ lx) (hx : lx ≤ 4294967296) (htop : 9223372036854775808 ≤ Y (k + 1)) (hsh : k + 2 < 100 ∨ lx - (k + 2) < 100) :
    Calls Try.prog 52 #[.agg #[.slice a lx cap], .agg #[.slice (some ⟨b', o', none⟩) (k + 2) cap']] w (MakesQR w (V X lx / V Y (k + 2)) (V X lx % V Y (k + 2))) := by
  have HH : Hid (Sl w a lx cap X ∧ Sl w (some ⟨b', o', none⟩) (k + 2) cap' Y) := ⟨hX, hY⟩
  have HB : Hid (Below w.heap.size w ((((w.alloc (.cells #[.slice a lx cap] 27)).alloc (.cells #[.slice (some ⟨b', o', none⟩) (k + 2) cap'] 27)).alloc (.cells #[.slice none 0 0] 27)).alloc (.cells #[.slice none 0 0] 27))) := ((bel_alloc2 _ _ _).alloc (by simp <;> omega) _).alloc (by simp <;> omega) _
  clear hX hY
  by_cases h100 : k + 2 < 100
  · have d1 : (k : Int) + 2 < 100 := by omega
    go_enter Try.func52, Try.ntmps52
    go_wp2_with fail
    refine (plainQ_any a lx cap b' o' k cap' (lx + 1 - (k + 2)) X Y _ (HH.out.1.mono HB.out) (HH.out.2.mono HB.out) (by omega) (by omega) hx htop).mono ?_
    rintro e w4 ⟨v3, v4, rfl, hv3, hv4, hb4⟩
    have d4 : w4.cell? ⟨w.heap.size + 1 + 1, 0, none⟩ = some (.slice none 0 0) := cell_later hb4 (by simp [go_sem])
    have d5 : w4.cell? ⟨w.heap.size + 1 + 1 + 1, 0, none⟩ = some (.slice none 0 0) := cell_later hb4 (by simp [go_sem])
    have g4 : w4.frozen? ⟨w.heap.size + 1 + 1, 0, none⟩ = false := (hb4.frozen (by simp <;> omega)).trans (by simp [go_sem])
    have g5 : w4.frozen? ⟨w.heap.size + 1 + 1 + 1, 0, none⟩ = false := (hb4.frozen (by simp <;> omega)).trans (by simp [go_sem])
    have B4 : Hid (Below w.heap.size w w4) := bel_trans HB.out hb4
    obtain ⟨a3, n3, cap3, rfl⟩ := hv3.isAgg
    obtain ⟨a4, n4, cap4, rfl⟩ := hv4.isAgg
    have HV : Hid _ := And.intro hv3 hv4
    clear hv3 hv4 hb4
    go_wp2_with fail
    have n1 : ∀ kk q, (w4.setCell ⟨w.heap.size + 1 + 1, 0, none⟩ (.slice a3 n3 cap3)).cell? ⟨w.heap.size + 1 + 1 + 1, 0, none⟩ ≠ some (.int kk q) := by
      rw [World.cell?_setCell_far _ _ _ _ (by simp)]
      exact no_int_slice d5
    refine bodyPost_ret (v := .tuple #[.agg #[.slice a3 n3 cap3], .agg #[.slice a4 n4 cap4]]) (by simp [results, Try.results52, go_sem, d4, d5]) rfl ⟨_, _, rfl, ?_, ?_, (B4.out.setCell (by simp <;> omega) _).setCell (by simp <;> omega) _⟩
    · exact (HV.out.1.setCell (no_int_slice d4) _).setCell n1 _
    · exact (HV.out.2.setCell (no_int_slice d4) _).setCell n1 _
  · have d1 : decide ((k : Int) + 2 < 100) = false := decide_eq_false (by omega)
    have d2 : (lx : Int) - ((k : Int) + 2) < 100 := by omega
    go_enter Try.func52, Try.ntmps52
    go_wp2_with fail
    refine (plainQ_any a lx cap b' o' k cap' (lx + 1 - (k + 2)) X Y _ (HH.out.1.mono HB.out) (HH.out.2.mono HB.out) (by omega) (by omega) hx htop).mono ?_
    rintro e w4 ⟨v3, v4, rfl, hv3, hv4, hb4⟩
    have d4 : w4.cell? ⟨w.heap.size + 1 + 1, 0, none⟩ = some (.slice none 0 0) := cell_later hb4 (by simp [go_sem])
    have d5 : w4.cell? ⟨w.heap.size + 1 + 1 + 1, 0, none⟩ = some (.slice none 0 0) := cell_later hb4 (by simp [go_sem])
    have g4 : w4.frozen? ⟨w.heap.size + 1 + 1, 0, none⟩ = false := (hb4.frozen (by simp <;> omega)).trans (by simp [go_sem])
    have g5 : w4.frozen? ⟨w.heap.size + 1 + 1 + 1, 0, none⟩ = false := (hb4.frozen (by simp <;> omega)).trans (by simp [go_sem])
    have B4 : Hid (Below w.heap.size w w4) := bel_trans HB.out hb4
    obtain ⟨a3, n3, cap3, rfl⟩ := hv3.isAgg
    obtain ⟨a4, n4, cap4, rfl⟩ := hv4.isAgg
    have HV : Hid _ := And.intro hv3 hv4
    clear hv3 hv4 hb4
    go_wp2_with fail
    have n1 : ∀ kk q, (w4.setCell ⟨w.heap.size + 1 + 1, 0, none⟩ (.slice a3 n3 cap3)).cell? ⟨w.heap.size + 1 + 1 + 1, 0, none⟩ ≠ some (.int kk q) := by
      rw [World.cell?_setCell_far _ _ _ _ (by simp)]
      exact no_int_slice d5
    refine bodyPost_ret (v := .tuple #[.agg #[.slice a3 n3 cap3], .agg #[.slice a4 n4 cap4]]) (by simp [results, Try.results52, go_sem, d4, d5]) rfl ⟨_, _, rfl, ?_, ?_, (B4.out.setCell (by simp <;> omega) _).setCell (by simp <;> omega) _⟩
    · exact (HV.out.1.setCell (no_int_slice d4) _).setCell n1 _
    · exact (HV.out.2.setCell (no_int_slice d4) _).setCell n1 _
end Go.Proofs.Ytekigmkepfhdhaa
