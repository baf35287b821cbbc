/- Sub: the difference, or none. -/
import Derived.Test.YtekigmkepfhdhaaLess
namespace Go.Proofs.Ytekigmkepfhdhaa
open Go.RowKit
set_option maxRecDepth 100000
/-- What a call leaves that makes a number and says whether there is one. -/
def Makes2 (w : World) (x : Nat) (ok : Bool) (e : Ending) (w' : World) : Prop := ∃ v, e = .returned (.tuple #[v, .bool ok]) ∧ IsNat w' v x ∧ Below w.heap.size w w'
set_option maxHeartbeats 1000000 in
theorem sub_any (v u : Value) (x y : Nat) (w : World) (h : IsNat w v x) (k : IsNat w u y) (hx : Fits x) (hy : Fits y) :
    Calls Try.prog 21 #[v, u] w (Makes2 w (x - y) (decide (y ≤ x))) := by
  obtain ⟨a, n, cap, rfl⟩ := h.isAgg
  obtain ⟨a', m, cap', rfl⟩ := k.isAgg
  have HX : Hid (IsNat w (.agg #[.slice a n cap]) x) := h
  have HY : Hid (IsNat w (.agg #[.slice a' m cap']) y) := k
  clear h k
  have HB : Hid (Below w.heap.size w (((w.alloc (.cells #[.slice a n cap] 27)).alloc (.cells #[.slice a' m cap'] 27)).alloc (.cells #[.slice none 0 0] 27))) := (bel_alloc2 _ _ _).alloc (by simp <;> omega) _
  go_enter Try.func21, Try.ntmps21
  go_wp2_with fail
  refine (cmp_any _ _ x y _ (HX.out.mono HB.out) (HY.out.mono HB.out) hx hy).mono ?_
  rintro e w1 ⟨rfl, hb1⟩
  have c1 : w1.cell? ⟨w.heap.size, 0, none⟩ = some (.slice a n cap) := cell_later hb1 (by simp [go_sem])
  have c2 : w1.cell? ⟨w.heap.size + 1, 0, none⟩ = some (.slice a' m cap') := cell_later hb1 (by simp [go_sem])
  have c3 : w1.cell? ⟨w.heap.size + 1 + 1, 0, none⟩ = some (.slice none 0 0) := cell_later hb1 (by simp [go_sem])
  have f3 : w1.frozen? ⟨w.heap.size + 1 + 1, 0, none⟩ = false := (hb1.frozen (by simp <;> omega)).trans (by simp [go_sem])
  have B1 : Hid (Below w.heap.size w w1) := HB.out.trans (hb1.mono HB.out.size)
  clear hb1 HB
  by_cases hle : y ≤ x
  · have hc : decide (cmpI x y < 0) = false := decide_eq_false (by unfold cmpI; split <;> (try split) <;> omega)
    have HD : Hid (decide (y ≤ x) = true) := decide_eq_true hle
    go_wp2_with fail
    refine (less_any _ _ x y _ (HX.out.mono B1.out) (HY.out.mono B1.out) hx hle).mono ?_
    rintro e w2 ⟨v2, rfl, hv2, hb2⟩
    have c4 : w2.cell? ⟨w.heap.size + 1 + 1, 0, none⟩ = some (.slice none 0 0) := cell_later hb2 c3
    have f4 : w2.frozen? ⟨w.heap.size + 1 + 1, 0, none⟩ = false := (hb2.frozen (World.block_lt_of_cell? _ _ c3)).trans f3
    obtain ⟨a3, n3, cap3, rfl⟩ := hv2.isAgg
    have V2 : Hid (IsNat w2 (.agg #[.slice a3 n3 cap3]) (x - y)) := hv2
    have B2 : Hid (Below w.heap.size w w2) := B1.out.trans (hb2.mono B1.out.size)
    clear hv2 hb2 c1 c2 c3 f3 B1
    go_wp2_with fail
    refine bodyPost_ret (v := .tuple #[.agg #[.slice a3 n3 cap3], .bool true]) (by simp [results, Try.results21, go_sem, c4]) rfl ⟨.agg #[.slice a3 n3 cap3], by rw [HD.out], V2.out.setCell (no_int_slice c4) _, B2.out.setCell (by simp <;> omega) _⟩
  · have hc : cmpI x y < 0 := by unfold cmpI; rw [if_pos (by omega)]; omega
    have HD : Hid (decide (y ≤ x) = false) := decide_eq_false hle
    go_wp2_with fail
    refine bodyPost_ret (v := .tuple #[.agg #[.slice none 0 0], .bool false]) (by simp [results, Try.results21, go_sem, c3]) rfl ⟨.agg #[.slice none 0 0], by rw [HD.out], by rw [show x - y = 0 by omega]; exact isNat_zero _, B1.out.setCell (by simp <;> omega) _⟩
end Go.Proofs.Ytekigmkepfhdhaa
