/- plainProduct: the product of words, as on paper; and Mul of numbers of which one is short. -/
import Derived.Test.YtekigmkepfhdhaaSubP
namespace Go.Proofs.Ytekigmkepfhdhaa
open Go.RowKit
set_option maxRecDepth 100000
set_option linter.unusedVariables false
/-- k words of Y have been multiplied into the row. -/
def Mulled (X Y : Nat → Nat) (n k : Nat) (H : Nat → Nat) : Prop := V H (n + k) = V X n * V Y k ∧ ∀ j, n + k ≤ j → H j = 0
theorem mulled_start (X Y : Nat → Nat) (n : Nat) : Mulled X Y n 0 (fun _ => 0) := ⟨by rw [V_const0, V_zero, Nat.mul_zero], fun _ _ => rfl⟩
theorem Mulled.step {w w' : World} {g N n k c d : Nat} {X Y H H' : Nat → Nat} (h : Mulled X Y n k H) (hp : Prod w w' g N k H (V X n * d) n c H') (hd : Y k = d) : Mulled X Y n (k + 1) (put H' (k + n) c) := by
  obtain ⟨h1, h2⟩ := h
  obtain ⟨p1, p2, p3, p4, p5⟩ := hp
  refine ⟨?_, fun j hj => ?_⟩
  · have e1 : V (put H' (k + n) c) (n + (k + 1)) = V (put H' (k + n) c) (n + k) + c * P (n + k) := by
      rw [← Nat.add_assoc, V_succ, Nat.add_comm n k, put_same]
    have e2 : V (put H' (k + n) c) (n + k) = V H k + P k * V (fro H' k) n := by
      rw [V_congr (G := H') fun i hi => put_other _ _ (by omega), Nat.add_comm n k, V_split, V_congr (F := H') (G := H) fun i hi => p2 i (.inl hi)]
      rfl
    have e3 : V H (n + k) = V H k + P k * V (fro H k) n := by rw [Nat.add_comm n k, V_split]; rfl
    have e4 := congrArg (P k * ·) p4
    simp only [Nat.mul_add] at e4
    rw [e1, e2, V_succ, hd, Nat.mul_add, ← h1, e3, Nat.add_comm n k, P_add]
    have e5 : c * (P k * P n) = P k * (c * P n) := Nat.mul_left_comm ..
    have e6 : V X n * (d * P k) = P k * (V X n * d) := by rw [← Nat.mul_assoc, Nat.mul_comm]
    omega
  · rw [put_other _ _ (by omega), p2 j (.inr (by omega))]
    exact h2 j (by omega)
set_option maxHeartbeats 1000000 in
theorem plain_any (a : Option Addr) (n cap : Nat) (X : Nat → Nat) (a' : Option Addr) (m cap' : Nat) (Y : Nat → Nat) (w : World) (hX : Sl w a n cap X) (hY : Sl w a' m cap' Y) (hX0 : n = 0 → a = none) (hn : n ≤ 4294967296) (hm : m ≤ 4294967296) :
    Calls Try.prog 45 #[.slice a n cap, .slice a' m cap'] w (Makes w (V X n * V Y m)) := by
  have HX : Hid (Sl w a n cap X ∧ Sl w a' m cap' Y ∧ (n = 0 → a = none)) := ⟨hX, hY, hX0⟩
  clear hX hY hX0
  have mk := make_at ((n : Int) + m) ((n : Int) + m) (n + m) (n + m) (by omega) (by omega) (Nat.le_refl _) (by omega)
  go_enter Try.func45, Try.ntmps45
  go_wp2_with fail
  go_loopw [16] (fun t wr => ∃ (k : Nat) (H : Nat → Nat), k ≤ m ∧ t = .int .i64 (k : Int) ∧ Row wr (w.heap.size + 1) (n + m) H ∧ Mulled X Y n k H ∧ ((w.alloc (.cells #[.slice none 0 0] 27)).alloc (.cells (zeros (n + m)) 22)).grownBy wr (some (w.heap.size + 1))) (fun t _ => m - (intOf t).toNat)
  case atStart => exact ⟨0, fun _ => 0, by omega, rfl, row_zeros_at _ _ _ (by simp), mulled_start _ _ _, World.grownBy.refl _ _⟩
  case round =>
    clear mk
    obtain ⟨k, H, hk, rfl, hR, hM, hg⟩ := hrel
    have B0 : Hid (Below w.heap.size w wr) := (bel_alloc2 _ _ _).grown hg (by simp <;> omega) (fun k hk => by cases hk; omega)
    by_cases hkm : k < m
    · obtain ⟨b, o, rfl, hw⟩ := HX.out.2.1.at k hkm
      have hb : b < w.heap.size := World.block_lt_of_cell? _ _ (hw k hkm)
      have hcw : wr.cell? ⟨b, o + k, none⟩ = some (.int .u64 (Y k : Nat)) := cell_later B0.out (hw k hkm)
      have hkm' : (k : Int) < m := by omega
      have hni : ¬ (n + m = k) := by omega
      have hYk : Y k < 18446744073709551616 := HX.out.2.1.2.2.1 k hkm
      have HH : Hid (Row wr (w.heap.size + 1) (n + m) H ∧ Mulled X Y n k H ∧ ((w.alloc (.cells #[.slice none 0 0] 27)).alloc (.cells (zeros (n + m)) 22)).grownBy wr (some (w.heap.size + 1))) := ⟨hR, hM, hg⟩
      clear hR hM hg hw
      go_wp2_with fail
      refine (addProduct_any (w.heap.size + 1) (n + m) k (n + m - k) (n + m - k) H a n cap X (Y k) wr HH.out.1 (HX.out.1.mono B0.out) (by omega) (by omega) (by omega) (Nat.le_refl _) hYk ?_).mono ?_
      · intro b' o' ha
        by_cases e0 : n = 0
        · rw [HX.out.2.2 e0] at ha
          cases ha
        · have := HX.out.1.ne_block (by omega) (g := w.heap.size + 1) (by omega) b' o' ha
          exact this
      rintro e w1 ⟨c, rfl, H', hP⟩
      have hc2 : w1.cell? ⟨w.heap.size + 1, k + n, none⟩ = some (.int .u64 (H' (k + n) : Nat)) := hP.1.cell (by omega)
      have hf2 : w1.frozen? ⟨w.heap.size + 1, k + n, none⟩ = false := hP.1.frozen _
      have S : Hid _ := And.intro (hP.1.set (k + n) hP.2.2.1) (And.intro (HH.out.2.1.step hP rfl) (grown_set _ (grown_trans HH.out.2.2 hP.2.2.2.2) (k + n) (.int .u64 (c : Int))))
      clear hP
      go_wp2_with fail
      go_roundw
      case rel => exact ⟨k + 1, _, by omega, by go_num, S.out.1, S.out.2.1, S.out.2.2⟩
      case measure => simp [intOf]; omega
    · obtain rfl : k = m := by omega
      have hcr : wr.cell? ⟨w.heap.size, 0, none⟩ = some (.slice none 0 0) := hg.cell (by simp [go_sem]) (by simp)
      have hfr : wr.frozen? ⟨w.heap.size, 0, none⟩ = false := (World.frozen?_of_block (hg.block _ (by simp <;> omega) (by simp))).trans (by simp [go_sem])
      have HF : Hid (V H (n + k) = V X n * V Y k) := hM.1
      have HR : Hid (Row wr (w.heap.size + 1) (n + k) H) := hR
      clear hR hM hg
      go_wp2_with fail
      refine (trimmed_any _ (n + k) (n + k) H wr (by have := HR.out.sl (o := 0) (n := n + k) (cap := n + k) (by omega) (Nat.le_refl _) (by omega); rw [fro_zero] at this; exact this) (by omega)).mono ?_
      rintro e w3 ⟨v3, rfl, hv3, hb3⟩
      have hcr3 : w3.cell? ⟨w.heap.size, 0, none⟩ = some (.slice none 0 0) := cell_later hb3 hcr
      have hfr3 : w3.frozen? ⟨w.heap.size, 0, none⟩ = false := (hb3.frozen (World.block_lt_of_cell? _ _ hcr)).trans hfr
      obtain ⟨a3, n3, cap3, rfl⟩ := hv3.isAgg
      have HV3 : Hid (IsNat w3 (.agg #[.slice a3 n3 cap3]) (V H (n + k))) := hv3
      have B3 : Hid (Below w.heap.size w w3) := B0.out.trans (hb3.mono B0.out.size)
      clear hv3 hb3 hcr hfr
      go_wp2_with fail
      refine bodyPost_ret (v := .agg #[.slice a3 n3 cap3]) (by simp [results, Try.results45, go_sem, hcr3]) rfl ⟨_, rfl, ?_, B3.out.setCell (by simp) _⟩
      rw [← HF.out]
      exact HV3.out.setCell (no_int_slice hcr3) _
end Go.Proofs.Ytekigmkepfhdhaa
