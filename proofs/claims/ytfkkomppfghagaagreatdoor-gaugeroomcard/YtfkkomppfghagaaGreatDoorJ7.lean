/- Contracts of the program's functions, part 7: own work, joined in build order. -/
import Derived.Test.YtfkkomppfghagaaGreatDoorJ6
import Derived.Deep.RegionHeld3
import Derived.Deep.AppendLies
import Derived.LoopN
namespace Go.Proofs.YtfkkomppfghagaaGreatDoor
open Go.RowKit
set_option maxRecDepth 100000
set_option linter.unusedVariables false
set_option maxHeartbeats 2000000 in
theorem taken_yes (u0 v0 u1 v1 : Nat) (vx vy : Value) (x y : Nat) (w : World) (hx : IsNat w vx x) (hy : IsNat w vy y) (fx : Fits x) (fy : Fits y) (b0 : u0 < 18446744073709551616) (b1 : v0 < 18446744073709551616) (b2 : u1 < 18446744073709551616) (b3 : v1 < 18446744073709551616) (l1 : y * v0 ≤ x * u0) (l2 : x * u1 ≤ y * v1) :
    Calls Tryz.prog 123 #[.agg #[.int .u64 (u0 : Int), .int .u64 (v0 : Int), .int .u64 (u1 : Int), .int .u64 (v1 : Int), .bool true], vx, vy] w (MakesQR w (x * u0 - y * v0) (y * v1 - x * u1)) := by
  obtain ⟨ax, nx, cx, rfl⟩ := hx.isAgg
  obtain ⟨ay, ny, cy, rfl⟩ := hy.isAgg
  have HB : Hid (Below w.heap.size w (((((w.alloc (.cells #[.int .u64 (u0 : Int), .int .u64 (v0 : Int), .int .u64 (u1 : Int), .int .u64 (v1 : Int), .bool true] 179)).alloc (.cells #[.slice ax nx cx] 45)).alloc (.cells #[.slice ay ny cy] 45)).alloc (.cells #[.slice none 0 0] 45)).alloc (.cells #[.slice none 0 0] 45))) := ((((((Below.refl _ _).alloc (Nat.le_refl _) _).alloc (by simp <;> omega) _).alloc (by simp <;> omega) _).alloc (by simp <;> omega) _).alloc (by simp <;> omega) _)
  have HH : Hid (IsNat w (.agg #[.slice ax nx cx]) x ∧ IsNat w (.agg #[.slice ay ny cy]) y ∧ Fits x ∧ Fits y ∧ (u0 < 18446744073709551616 ∧ v0 < 18446744073709551616 ∧ u1 < 18446744073709551616 ∧ v1 < 18446744073709551616) ∧ y * v0 ≤ x * u0 ∧ x * u1 ≤ y * v1) := ⟨hx, hy, fx, fy, ⟨b0, b1, b2, b3⟩, l1, l2⟩
  clear hx hy fx fy b0 b1 b2 b3 l1 l2
  go_enter Tryz.func123, Tryz.ntmps123
  go_wp2_with fail
  obtain ⟨W0, hW0⟩ : ∃ W0, W0 = (((((w.alloc (.cells #[.int .u64 (u0 : Int), .int .u64 (v0 : Int), .int .u64 (u1 : Int), .int .u64 (v1 : Int), .bool true] 179)).alloc (.cells #[.slice ax nx cx] 45)).alloc (.cells #[.slice ay ny cy] 45)).alloc (.cells #[.slice none 0 0] 45)).alloc (.cells #[.slice none 0 0] 45)) := ⟨_, rfl⟩
  have c0 : W0.cell? ⟨w.heap.size, 0, none⟩ = some (.int .u64 (u0 : Int)) := by rw [hW0]; simp [go_sem]
  have c1 : W0.cell? ⟨w.heap.size, 1, none⟩ = some (.int .u64 (v0 : Int)) := by rw [hW0]; simp [go_sem]
  have c2 : W0.cell? ⟨w.heap.size, 2, none⟩ = some (.int .u64 (u1 : Int)) := by rw [hW0]; simp [go_sem]
  have c3 : W0.cell? ⟨w.heap.size, 3, none⟩ = some (.int .u64 (v1 : Int)) := by rw [hW0]; simp [go_sem]
  have c4 : W0.cell? ⟨w.heap.size + 1, 0, none⟩ = some (.slice ax nx cx) := by rw [hW0]; simp [go_sem]
  have c5 : W0.cell? ⟨w.heap.size + 1 + 1, 0, none⟩ = some (.slice ay ny cy) := by rw [hW0]; simp [go_sem]
  have c6 : W0.cell? ⟨w.heap.size + 1 + 1 + 1, 0, none⟩ = some (.slice none 0 0) := by rw [hW0]; simp [go_sem]
  have c7 : W0.cell? ⟨w.heap.size + 1 + 1 + 1 + 1, 0, none⟩ = some (.slice none 0 0) := by rw [hW0]; simp [go_sem]
  have f6 : W0.frozen? ⟨w.heap.size + 1 + 1 + 1, 0, none⟩ = false := by rw [hW0]; simp [go_sem]
  have f7 : W0.frozen? ⟨w.heap.size + 1 + 1 + 1 + 1, 0, none⟩ = false := by rw [hW0]; simp [go_sem]
  rw [← hW0] at HB ⊢
  clear hW0
  have C6 : Hid (W0.cell? ⟨w.heap.size + 1 + 1 + 1, 0, none⟩ = some (.slice none 0 0) ∧ W0.cell? ⟨w.heap.size + 1 + 1 + 1 + 1, 0, none⟩ = some (.slice none 0 0) ∧ W0.frozen? ⟨w.heap.size + 1 + 1 + 1, 0, none⟩ = false ∧ W0.frozen? ⟨w.heap.size + 1 + 1 + 1 + 1, 0, none⟩ = false) := ⟨c6, c7, f6, f7⟩
  clear c6 c7 f6 f7
  go_region_held3 (fun w' => w'.cell? ⟨w.heap.size, 0, none⟩ = some (.int .u64 (u0 : Int)) ∧ w'.cell? ⟨w.heap.size, 1, none⟩ = some (.int .u64 (v0 : Int)) ∧ w'.cell? ⟨w.heap.size, 2, none⟩ = some (.int .u64 (u1 : Int)) ∧ w'.cell? ⟨w.heap.size, 3, none⟩ = some (.int .u64 (v1 : Int)) ∧ w'.cell? ⟨w.heap.size + 1, 0, none⟩ = some (.slice ax nx cx) ∧ w'.cell? ⟨w.heap.size + 1 + 1, 0, none⟩ = some (.slice ay ny cy)) (simp [go_sem, *])
    (first
      | (go_at_call 136; have zz := c0; clear zz; refine Calls.mono (difference_any (.agg #[.slice ax nx cx]) (.agg #[.slice ay ny cy]) x y u0 v0 _ (HH.out.1.mono (bel_dr HB.out)) (HH.out.2.1.mono (bel_dr HB.out)) HH.out.2.2.1 HH.out.2.2.2.1 HH.out.2.2.2.2.1.1 HH.out.2.2.2.2.1.2.1 HH.out.2.2.2.2.2.1) ?_; rintro e w1 ⟨z1, rfl, hv1, hb1⟩; obtain ⟨a3, n3, cap3, rfl⟩ := hv1.isAgg; have B1 : Hid (Below W0.heap.size W0 w1) := bel_undrew hb1; have X1 : Hid (IsNat w1 (.agg #[.slice a3 n3 cap3]) (x * u0 - y * v0)) := hv1; have d0 := cell_later B1.out c0; have d1 := cell_later B1.out c1; have d2 := cell_later B1.out c2; have d3 := cell_later B1.out c3; have d4 := cell_later B1.out c4; have d5 := cell_later B1.out c5; clear hv1 hb1 c0 c1 c2 c3 c4 c5)
      | (go_at_call 136; have zz := d0; clear zz; refine Calls.mono (difference_any (.agg #[.slice ay ny cy]) (.agg #[.slice ax nx cx]) y x v1 u1 _ (HH.out.2.1.mono (bel_go HB.out B1.out)) (HH.out.1.mono (bel_go HB.out B1.out)) HH.out.2.2.2.1 HH.out.2.2.1 HH.out.2.2.2.2.1.2.2.2 HH.out.2.2.2.2.1.2.2.1 HH.out.2.2.2.2.2.2) ?_; rintro e w2 ⟨z2, rfl, hv2, hb2⟩; obtain ⟨a4, n4, cap4, rfl⟩ := hv2.isAgg; have B2 : Hid (Below w1.heap.size w1 w2) := hb2; have X2 : Hid (IsNat w2 (.agg #[.slice a4 n4 cap4]) (y * v1 - x * u1)) := hv2; have e0 := cell_later B2.out d0; have e1 := cell_later B2.out d1; have e2 := cell_later B2.out d2; have e3 := cell_later B2.out d3; have e4 := cell_later B2.out d4; have e5 := cell_later B2.out d5; have e6 := cell_later B2.out (cell_later B1.out C6.out.1); have e7 := cell_later B2.out (cell_later B1.out C6.out.2.1); have g6 := (B2.out.frozen (World.block_lt_of_cell? _ _ (cell_later B1.out C6.out.1))).trans ((B1.out.frozen (World.block_lt_of_cell? _ _ C6.out.1)).trans C6.out.2.2.1); have g7 := (B2.out.frozen (World.block_lt_of_cell? _ _ (cell_later B1.out C6.out.2.1))).trans ((B1.out.frozen (World.block_lt_of_cell? _ _ C6.out.2.1)).trans C6.out.2.2.2);clear hv2 hb2 d0 d1 d2 d3 d4 d5))
  go_wp2_with fail
  have n1 : ∀ kk q, (w2.setCell ⟨w.heap.size + 1 + 1 + 1, 0, none⟩ (.slice a3 n3 cap3)).cell? ⟨w.heap.size + 1 + 1 + 1 + 1, 0, none⟩ ≠ some (.int kk q) := by
    rw [World.cell?_setCell_far _ _ _ _ (by simp)]
    exact no_int_slice e7
  have B9 : Hid (Below w.heap.size w w2) := bel_go (bel_go HB.out B1.out) B2.out
  refine bodyPost_ret (v := .tuple #[.agg #[.slice a3 n3 cap3], .agg #[.slice a4 n4 cap4]]) (by simp [results, Tryz.results123, go_sem, e6, e7]) rfl ⟨_, _, rfl, ?_, ?_, (B9.out.setCell (by simp <;> omega) _).setCell (by simp <;> omega) _⟩
  · exact ((X1.out.mono B2.out).setCell (no_int_slice e6) _).setCell n1 _
  exact (X2.out.setCell (no_int_slice e6) _).setCell n1 _
set_option maxHeartbeats 2000000 in
theorem taken_no (u0 v0 u1 v1 : Nat) (vx vy : Value) (x y : Nat) (w : World) (hx : IsNat w vx x) (hy : IsNat w vy y) (fx : Fits x) (fy : Fits y) (b0 : u0 < 18446744073709551616) (b1 : v0 < 18446744073709551616) (b2 : u1 < 18446744073709551616) (b3 : v1 < 18446744073709551616) (l1 : x * u0 ≤ y * v0) (l2 : y * v1 ≤ x * u1) :
    Calls Tryz.prog 123 #[.agg #[.int .u64 (u0 : Int), .int .u64 (v0 : Int), .int .u64 (u1 : Int), .int .u64 (v1 : Int), .bool false], vx, vy] w (MakesQR w (y * v0 - x * u0) (x * u1 - y * v1)) := by
  obtain ⟨ax, nx, cx, rfl⟩ := hx.isAgg
  obtain ⟨ay, ny, cy, rfl⟩ := hy.isAgg
  have HB : Hid (Below w.heap.size w (((((w.alloc (.cells #[.int .u64 (u0 : Int), .int .u64 (v0 : Int), .int .u64 (u1 : Int), .int .u64 (v1 : Int), .bool false] 179)).alloc (.cells #[.slice ax nx cx] 45)).alloc (.cells #[.slice ay ny cy] 45)).alloc (.cells #[.slice none 0 0] 45)).alloc (.cells #[.slice none 0 0] 45))) := ((((((Below.refl _ _).alloc (Nat.le_refl _) _).alloc (by simp <;> omega) _).alloc (by simp <;> omega) _).alloc (by simp <;> omega) _).alloc (by simp <;> omega) _)
  have HH : Hid (IsNat w (.agg #[.slice ax nx cx]) x ∧ IsNat w (.agg #[.slice ay ny cy]) y ∧ Fits x ∧ Fits y ∧ (u0 < 18446744073709551616 ∧ v0 < 18446744073709551616 ∧ u1 < 18446744073709551616 ∧ v1 < 18446744073709551616) ∧ x * u0 ≤ y * v0 ∧ y * v1 ≤ x * u1) := ⟨hx, hy, fx, fy, ⟨b0, b1, b2, b3⟩, l1, l2⟩
  clear hx hy fx fy b0 b1 b2 b3 l1 l2
  go_enter Tryz.func123, Tryz.ntmps123
  go_wp2_with fail
  obtain ⟨W0, hW0⟩ : ∃ W0, W0 = (((((w.alloc (.cells #[.int .u64 (u0 : Int), .int .u64 (v0 : Int), .int .u64 (u1 : Int), .int .u64 (v1 : Int), .bool false] 179)).alloc (.cells #[.slice ax nx cx] 45)).alloc (.cells #[.slice ay ny cy] 45)).alloc (.cells #[.slice none 0 0] 45)).alloc (.cells #[.slice none 0 0] 45)) := ⟨_, rfl⟩
  have c0 : W0.cell? ⟨w.heap.size, 0, none⟩ = some (.int .u64 (u0 : Int)) := by rw [hW0]; simp [go_sem]
  have c1 : W0.cell? ⟨w.heap.size, 1, none⟩ = some (.int .u64 (v0 : Int)) := by rw [hW0]; simp [go_sem]
  have c2 : W0.cell? ⟨w.heap.size, 2, none⟩ = some (.int .u64 (u1 : Int)) := by rw [hW0]; simp [go_sem]
  have c3 : W0.cell? ⟨w.heap.size, 3, none⟩ = some (.int .u64 (v1 : Int)) := by rw [hW0]; simp [go_sem]
  have c4 : W0.cell? ⟨w.heap.size + 1, 0, none⟩ = some (.slice ax nx cx) := by rw [hW0]; simp [go_sem]
  have c5 : W0.cell? ⟨w.heap.size + 1 + 1, 0, none⟩ = some (.slice ay ny cy) := by rw [hW0]; simp [go_sem]
  have c6 : W0.cell? ⟨w.heap.size + 1 + 1 + 1, 0, none⟩ = some (.slice none 0 0) := by rw [hW0]; simp [go_sem]
  have c7 : W0.cell? ⟨w.heap.size + 1 + 1 + 1 + 1, 0, none⟩ = some (.slice none 0 0) := by rw [hW0]; simp [go_sem]
  have f6 : W0.frozen? ⟨w.heap.size + 1 + 1 + 1, 0, none⟩ = false := by rw [hW0]; simp [go_sem]
  have f7 : W0.frozen? ⟨w.heap.size + 1 + 1 + 1 + 1, 0, none⟩ = false := by rw [hW0]; simp [go_sem]
  rw [← hW0] at HB ⊢
  clear hW0
  have C6 : Hid (W0.cell? ⟨w.heap.size + 1 + 1 + 1, 0, none⟩ = some (.slice none 0 0) ∧ W0.cell? ⟨w.heap.size + 1 + 1 + 1 + 1, 0, none⟩ = some (.slice none 0 0) ∧ W0.frozen? ⟨w.heap.size + 1 + 1 + 1, 0, none⟩ = false ∧ W0.frozen? ⟨w.heap.size + 1 + 1 + 1 + 1, 0, none⟩ = false) := ⟨c6, c7, f6, f7⟩
  clear c6 c7 f6 f7
  go_region_held3 (fun w' => w'.cell? ⟨w.heap.size, 0, none⟩ = some (.int .u64 (u0 : Int)) ∧ w'.cell? ⟨w.heap.size, 1, none⟩ = some (.int .u64 (v0 : Int)) ∧ w'.cell? ⟨w.heap.size, 2, none⟩ = some (.int .u64 (u1 : Int)) ∧ w'.cell? ⟨w.heap.size, 3, none⟩ = some (.int .u64 (v1 : Int)) ∧ w'.cell? ⟨w.heap.size + 1, 0, none⟩ = some (.slice ax nx cx) ∧ w'.cell? ⟨w.heap.size + 1 + 1, 0, none⟩ = some (.slice ay ny cy)) (simp [go_sem, *])
    (first
      | (go_at_call 136; have zz := c0; clear zz; refine Calls.mono (difference_any (.agg #[.slice ay ny cy]) (.agg #[.slice ax nx cx]) y x v0 u0 _ (HH.out.2.1.mono (bel_dr HB.out)) (HH.out.1.mono (bel_dr HB.out)) HH.out.2.2.2.1 HH.out.2.2.1 HH.out.2.2.2.2.1.2.1 HH.out.2.2.2.2.1.1 HH.out.2.2.2.2.2.1) ?_; rintro e w1 ⟨z1, rfl, hv1, hb1⟩; obtain ⟨a3, n3, cap3, rfl⟩ := hv1.isAgg; have B1 : Hid (Below W0.heap.size W0 w1) := bel_undrew hb1; have X1 : Hid (IsNat w1 (.agg #[.slice a3 n3 cap3]) (y * v0 - x * u0)) := hv1; have d0 := cell_later B1.out c0; have d1 := cell_later B1.out c1; have d2 := cell_later B1.out c2; have d3 := cell_later B1.out c3; have d4 := cell_later B1.out c4; have d5 := cell_later B1.out c5; clear hv1 hb1 c0 c1 c2 c3 c4 c5)
      | (go_at_call 136; have zz := d0; clear zz; refine Calls.mono (difference_any (.agg #[.slice ax nx cx]) (.agg #[.slice ay ny cy]) x y u1 v1 _ (HH.out.1.mono (bel_go HB.out B1.out)) (HH.out.2.1.mono (bel_go HB.out B1.out)) HH.out.2.2.1 HH.out.2.2.2.1 HH.out.2.2.2.2.1.2.2.1 HH.out.2.2.2.2.1.2.2.2 HH.out.2.2.2.2.2.2) ?_; rintro e w2 ⟨z2, rfl, hv2, hb2⟩; obtain ⟨a4, n4, cap4, rfl⟩ := hv2.isAgg; have B2 : Hid (Below w1.heap.size w1 w2) := hb2; have X2 : Hid (IsNat w2 (.agg #[.slice a4 n4 cap4]) (x * u1 - y * v1)) := hv2; have e0 := cell_later B2.out d0; have e1 := cell_later B2.out d1; have e2 := cell_later B2.out d2; have e3 := cell_later B2.out d3; have e4 := cell_later B2.out d4; have e5 := cell_later B2.out d5; have e6 := cell_later B2.out (cell_later B1.out C6.out.1); have e7 := cell_later B2.out (cell_later B1.out C6.out.2.1); have g6 := (B2.out.frozen (World.block_lt_of_cell? _ _ (cell_later B1.out C6.out.1))).trans ((B1.out.frozen (World.block_lt_of_cell? _ _ C6.out.1)).trans C6.out.2.2.1); have g7 := (B2.out.frozen (World.block_lt_of_cell? _ _ (cell_later B1.out C6.out.2.1))).trans ((B1.out.frozen (World.block_lt_of_cell? _ _ C6.out.2.1)).trans C6.out.2.2.2);clear hv2 hb2 d0 d1 d2 d3 d4 d5))
  go_wp2_with fail
  have n1 : ∀ kk q, (w2.setCell ⟨w.heap.size + 1 + 1 + 1, 0, none⟩ (.slice a3 n3 cap3)).cell? ⟨w.heap.size + 1 + 1 + 1 + 1, 0, none⟩ ≠ some (.int kk q) := by
    rw [World.cell?_setCell_far _ _ _ _ (by simp)]
    exact no_int_slice e7
  have B9 : Hid (Below w.heap.size w w2) := bel_go (bel_go HB.out B1.out) B2.out
  refine bodyPost_ret (v := .tuple #[.agg #[.slice a3 n3 cap3], .agg #[.slice a4 n4 cap4]]) (by simp [results, Tryz.results123, go_sem, e6, e7]) rfl ⟨_, _, rfl, ?_, ?_, (B9.out.setCell (by simp <;> omega) _).setCell (by simp <;> omega) _⟩
  · exact ((X1.out.mono B2.out).setCell (no_int_slice e6) _).setCell n1 _
  exact (X2.out.setCell (no_int_slice e6) _).setCell n1 _
def stepCells (u0 v0 u1 v1 : Nat) (s : Bool) : Nat → Value
  | 0 => .int .u64 (u0 : Int)
  | 1 => .int .u64 (v0 : Int)
  | 2 => .int .u64 (u1 : Int)
  | 3 => .int .u64 (v1 : Int)
  | _ => .bool s
structure Stp (w wr : World) (g : Nat) (u0 v0 u1 v1 : Nat) (s : Bool) : Prop where
  row : wr.rowIs g 179 5 (stepCells u0 v0 u1 v1 s)
  res : wr.rowIs w.heap.size 179 5 (stepCells 0 0 0 0 false)
  bel : Below w.heap.size w wr
  eq : g = w.heap.size + 1
theorem Stp.step {w wr : World} {g u0 v0 u1 v1 : Nat} {s : Bool} (h : Stp w wr g u0 v0 u1 v1 s) (u2 v2 : Nat) :
    Stp w (((((wr.setCell ⟨g, 0, none⟩ (.int .u64 (u1 : Int))).setCell ⟨g, 2, none⟩ (.int .u64 (u2 : Int))).setCell ⟨g, 1, none⟩ (.int .u64 (v1 : Int))).setCell ⟨g, 3, none⟩ (.int .u64 (v2 : Int))).setCell ⟨g, 4, none⟩ (.bool (!s))) g u1 v1 u2 v2 (!s) := by
  obtain ⟨h1, h2, h3, h4⟩ := h
  have h1' : wr.rowIs g 179 5 (stepCells u0 v0 u1 v1 s) := h1
  have h2' : wr.rowIs w.heap.size 179 5 (stepCells 0 0 0 0 false) := h2
  have ne : ∀ i, (⟨g, i, none⟩ : Addr).block ≠ w.heap.size := fun i => by show g ≠ _; omega
  refine ⟨(((((h1'.set 0 _).set 2 _).set 1 _).set 3 _).set 4 _).congr (fun i hi => ?_), ?_, ?_, h4⟩
  · rcases i with _ | _ | _ | _ | _ | i
    · simp [stepCells]
    · simp [stepCells]
    · simp [stepCells]
    · simp [stepCells]
    · simp [stepCells]
    omega
  · have e : w.heap.size ≠ g := by omega
    exact ((((h2'.setOther (a := ⟨g, 0, none⟩) e _).setOther (a := ⟨g, 2, none⟩) e _).setOther (a := ⟨g, 1, none⟩) e _).setOther (a := ⟨g, 3, none⟩) e _).setOther (a := ⟨g, 4, none⟩) e _
  have e : w.heap.size ≤ g := by omega
  exact (((((h3).setCell (p := ⟨g, 0, none⟩) e _).setCell (p := ⟨g, 2, none⟩) e _).setCell (p := ⟨g, 1, none⟩) e _).setCell (p := ⟨g, 3, none⟩) e _).setCell (p := ⟨g, 4, none⟩) e _
theorem Stp.drew {w wr : World} {g u0 v0 u1 v1 : Nat} {s : Bool} (h : Stp w wr g u0 v0 u1 v1 s) : Stp w wr.drew g u0 v0 u1 v1 s := ⟨h.row, h.res, bel_dr h.bel, h.eq⟩
theorem Stp.start (w : World) : Stp w ((w.alloc (.cells #[.int .u64 0, .int .u64 0, .int .u64 0, .int .u64 0, .bool false] 179)).alloc (.cells #[.int .u64 0, .int .u64 0, .int .u64 1, .int .u64 0, .bool false] 179)) (w.heap.size + 1) 0 0 1 0 false := by
  have h1 := World.rowIs_alloc (w.alloc (.cells #[.int .u64 0, .int .u64 0, .int .u64 0, .int .u64 0, .bool false] 179)) #[.int .u64 0, .int .u64 0, .int .u64 1, .int .u64 0, .bool false] 179 (stepCells 0 0 1 0 false) (fun i hi => by
    rcases i with _ | _ | _ | _ | _ | i <;> simp [stepCells] at hi ⊢; omega)
  have h2 := World.rowIs_alloc w #[.int .u64 0, .int .u64 0, .int .u64 0, .int .u64 0, .bool false] 179 (stepCells 0 0 0 0 false) (fun i hi => by
    rcases i with _ | _ | _ | _ | _ | i <;> simp [stepCells] at hi ⊢; omega)
  exact ⟨by simpa using h1, (h2.alloc _), bel_alloc2 _ _ _, rfl⟩
theorem wrapU_of (z : Int) (n : Nat) (h : z = (n : Int)) (hn : n < 18446744073709551616) : IntKind.u64.wrap z = (n : Int) := by
  subst h
  rw [IntKind.wrap_u64]
  omega
def Foresees (w : World) (X Y x0 y0 : Nat) (e : Ending) (w' : World) : Prop :=
  ∃ u0 v0 u1 v1 s, e = .returned (.agg #[.int .u64 ((u0 : Nat) : Int), .int .u64 ((v0 : Nat) : Int), .int .u64 ((u1 : Nat) : Int), .int .u64 ((v1 : Nat) : Int), .bool s]) ∧ (∃ p q u2 v2, Fs X Y x0 y0 p q u0 u1 u2 v0 v1 v2 s) ∧ (u0 < 18446744073709551616 ∧ v0 < 18446744073709551616 ∧ u1 < 18446744073709551616 ∧ v1 < 18446744073709551616) ∧ Below w.heap.size w w'
set_option maxHeartbeats 2000000 in
theorem foresee_any (X Y x0 y0 B X' Y' : Nat) (w : World) (hx : x0 < 18446744073709551616) (hyx : y0 ≤ x0) (hX : X = x0 * B + X') (hY : Y = y0 * B + Y') (hX' : X' < B) (hY' : Y' < B) :
    Calls Tryz.prog 121 #[.int .u64 (x0 : Int), .int .u64 (y0 : Int)] w (Foresees w X Y x0 y0) := by
  have HH : Hid (x0 < 18446744073709551616 ∧ y0 ≤ x0 ∧ X = x0 * B + X' ∧ Y = y0 * B + Y' ∧ X' < B ∧ Y' < B) := ⟨hx, hyx, hX, hY, hX', hY'⟩
  clear hx hyx hX hY hX' hY'
  have S0 : Hid _ := Stp.start w
  go_enter Tryz.func121, Tryz.ntmps121
  go_wp2_with fail
  go_loopw [0, 1, 6, 7] (fun px py nx ny wr => ∃ (p q u0 u1 u2 v0 v1 v2 : Nat) (s : Bool), px = .int .u64 (p : Int) ∧ py = .int .u64 (q : Int) ∧ nx = .int .u64 (u2 : Int) ∧ ny = .int .u64 (v2 : Int) ∧ Hid (Fs X Y x0 y0 p q u0 u1 u2 v0 v1 v2 s ∧ Stp w wr (w.heap.size + 1) u0 v0 u1 v1 s ∧ u0 < 18446744073709551616 ∧ v0 < 18446744073709551616 ∧ u1 < 18446744073709551616 ∧ v1 < 18446744073709551616 ∧ p ≤ x0)) (fun _ q _ _ _ => (intOf q).toNat)
  case atStart => exact ⟨x0, y0, 0, 1, 0, 0, 0, 1, false, rfl, rfl, rfl, rfl, ⟨Fs.start HH.out.2.1, S0.out, by omega, by omega, by omega, by omega, Nat.le_refl _⟩⟩
  case round =>
    clear S0
    obtain ⟨p, q, u0, u1, u2, v0, v1, v2, s, rfl, rfl, rfl, rfl, hh⟩ := hrel
    have st := hh.out.2.1
    have c0 := st.row.cell (i := 0) (by omega)
    have c1 := st.row.cell (i := 1) (by omega)
    have c2 := st.row.cell (i := 2) (by omega)
    have c3 := st.row.cell (i := 3) (by omega)
    have c4 := st.row.cell (i := 4) (by omega)
    simp only [stepCells] at c0 c1 c2 c3 c4
    have f0 := st.row.frozen 0
    have f1 := st.row.frozen 1
    have f2 := st.row.frozen 2
    have f3 := st.row.frozen 3
    have f4 := st.row.frozen 4
    have hqp := hh.out.1.qp
    have hp := hh.out.2.2.2.2.2.2
    have hx := HH.out.1
    have hv2 := hh.out.1.pos
    clear st
    by_cases k1 : v2 ≤ q
    · have t1 : decide (v2 ≤ q) = true := decide_eq_true k1
      obtain ⟨n1, n2, n3, n4, n5⟩ := hh.out.1.next_le k1
      have hyx := HH.out.2.1
      have hpq : IntKind.u64.wrap ((p : Int) - (q : Int)) = ((p - q : Nat) : Int) := wrapU_of _ _ (by omega) (by omega)
      have hvv : IntKind.u64.wrap ((v1 : Int) + (v2 : Int)) = ((v1 + v2 : Nat) : Int) := wrapU_of _ _ (by omega) (by omega)
      by_cases k2 : v1 + v2 ≤ p - q
      · have t2 : decide (v1 + v2 ≤ p - q) = true := decide_eq_true k2
        have t3 : decide ((v1 : Int) + (v2 : Int) ≤ ((p - q : Nat) : Int)) = true := decide_eq_true (by omega)
        have N : Hid _ := hh.out.1.step HH.out.2.2.1 HH.out.2.2.2.1 HH.out.2.2.2.2.1 HH.out.2.2.2.2.2 k1 k2
        have ST : Hid _ := hh.out.2.1.step u2 v2
        have hmod : p % q < q := Nat.mod_lt _ (by omega)
        have bu2 : u2 < 18446744073709551616 := by have := hh.out.1.l2; omega
        have bv2 : v2 < 18446744073709551616 := by omega
        have e1 : (p : Int) / (q : Int) = ((p / q : Nat) : Int) := by simp
        have e2 : (p : Int) % (q : Int) = ((p % q : Nat) : Int) := by simp
        obtain ⟨t, ht⟩ : ∃ t, t = p / q := ⟨_, rfl⟩
        obtain ⟨r, hr⟩ : ∃ r, r = p % q := ⟨_, rfl⟩
        rw [← ht] at n1 n2 n4 n5 e1 N
        rw [← hr] at e2 hmod N
        clear ht hr
        have m1 : IntKind.u64.wrap ((t : Int) * (u2 : Int)) = ((t * u2 : Nat) : Int) := wrapU_of _ _ (by simp) (by omega)
        have m2 : IntKind.u64.wrap ((t : Int) * (v2 : Int)) = ((t * v2 : Nat) : Int) := wrapU_of _ _ (by simp) (by omega)
        have m3 : IntKind.u64.wrap ((u1 : Int) + ((t * u2 : Nat) : Int)) = ((u1 + t * u2 : Nat) : Int) := wrapU_of _ _ (by simp) (by omega)
        have m4 : IntKind.u64.wrap ((v1 : Int) + ((t * v2 : Nat) : Int)) = ((v1 + t * v2 : Nat) : Int) := wrapU_of _ _ (by simp) (by omega)
        have hq0 : ((q : Int) == 0) = false := by simp; omega
        have wt : IntKind.u64.wrap (t : Int) = (t : Int) := wrapU_of _ _ rfl (by
          have : t * 1 ≤ t * v2 := Nat.mul_le_mul_left _ hv2
          omega)
        have M3 : Hid (IntKind.u64.wrap ((u1 : Int) + (t : Int) * (u2 : Int)) = ((u1 + t * u2 : Nat) : Int)) := wrapU_of _ _ (by simp) (by omega)
        have M4 : Hid (IntKind.u64.wrap ((v1 : Int) + (t : Int) * (v2 : Int)) = ((v1 + t * v2 : Nat) : Int)) := wrapU_of _ _ (by simp) (by omega)
        have HB : Hid (u2 < 18446744073709551616 ∧ v2 < 18446744073709551616 ∧ q ≤ x0) := ⟨bu2, bv2, by omega⟩
        clear n1 n2 n3 n4 n5 k1 k2 hqp hp hx hv2 bu2 bv2 hyx
        go_wp2_with fail
        go_region
        go_wp2_with fail
        go_roundw
        case rel =>
          refine ⟨q, r, u1, u2, u1 + t * u2, v1, v2, v1 + t * v2, !s, rfl, ?_, ?_, ?_, ⟨N.out, ST.out.drew, hh.out.2.2.2.2.1, hh.out.2.2.2.2.2.1, HB.out.1, HB.out.2.1, HB.out.2.2⟩⟩
          · rw [e2]
          · rw [M3.out]
          rw [M4.out]
        case measure => simp [intOf]; omega
      have t2 : decide (v1 + v2 ≤ p - q) = false := decide_eq_false k2
      have t3 : decide ((v1 : Int) + (v2 : Int) ≤ ((p - q : Nat) : Int)) = false := decide_eq_false (by omega)
      have R0 := hh.out.2.1.res.cell (i := 0) (by omega)
      have r0 := hh.out.2.1.res.frozen 0
      have R1 := hh.out.2.1.res.cell (i := 1) (by omega)
      have r1 := hh.out.2.1.res.frozen 1
      have R2 := hh.out.2.1.res.cell (i := 2) (by omega)
      have r2 := hh.out.2.1.res.frozen 2
      have R3 := hh.out.2.1.res.cell (i := 3) (by omega)
      have r3 := hh.out.2.1.res.frozen 3
      have R4 := hh.out.2.1.res.cell (i := 4) (by omega)
      have r4 := hh.out.2.1.res.frozen 4
      simp only [stepCells] at R0 R1 R2 R3 R4
      clear n1 n2 n3 n4 n5 k1 k2 hqp hp hx hv2 hyx
      go_wp2_with fail
      refine bodyPost_ret (v := .agg #[.int .u64 (u0 : Int), .int .u64 (v0 : Int), .int .u64 (u1 : Int), .int .u64 (v1 : Int), .bool s]) (by simp [results, Tryz.results121, go_sem, R0, R1, R2, R3, R4]) rfl ⟨u0, v0, u1, v1, s, rfl, ⟨p, q, u2, v2, hh.out.1⟩, ⟨hh.out.2.2.1, hh.out.2.2.2.1, hh.out.2.2.2.2.1, hh.out.2.2.2.2.2.1⟩, ?_⟩
      exact ((((hh.out.2.1.bel.setCell (p := ⟨w.heap.size, 0, none⟩) (Nat.le_refl _) _).setCell (p := ⟨w.heap.size, 1, none⟩) (Nat.le_refl _) _).setCell (p := ⟨w.heap.size, 2, none⟩) (Nat.le_refl _) _).setCell (p := ⟨w.heap.size, 3, none⟩) (Nat.le_refl _) _).setCell (p := ⟨w.heap.size, 4, none⟩) (Nat.le_refl _) _
    have t1 : decide (v2 ≤ q) = false := decide_eq_false k1
    have R0 := hh.out.2.1.res.cell (i := 0) (by omega)
    have r0 := hh.out.2.1.res.frozen 0
    have R1 := hh.out.2.1.res.cell (i := 1) (by omega)
    have r1 := hh.out.2.1.res.frozen 1
    have R2 := hh.out.2.1.res.cell (i := 2) (by omega)
    have r2 := hh.out.2.1.res.frozen 2
    have R3 := hh.out.2.1.res.cell (i := 3) (by omega)
    have r3 := hh.out.2.1.res.frozen 3
    have R4 := hh.out.2.1.res.cell (i := 4) (by omega)
    have r4 := hh.out.2.1.res.frozen 4
    simp only [stepCells] at R0 R1 R2 R3 R4
    clear k1 hqp hp hx hv2
    go_wp2_with fail
    refine bodyPost_ret (v := .agg #[.int .u64 (u0 : Int), .int .u64 (v0 : Int), .int .u64 (u1 : Int), .int .u64 (v1 : Int), .bool s]) (by simp [results, Tryz.results121, go_sem, R0, R1, R2, R3, R4]) rfl ⟨u0, v0, u1, v1, s, rfl, ⟨p, q, u2, v2, hh.out.1⟩, ⟨hh.out.2.2.1, hh.out.2.2.2.1, hh.out.2.2.2.2.1, hh.out.2.2.2.2.2.1⟩, ?_⟩
    exact ((((hh.out.2.1.bel.setCell (p := ⟨w.heap.size, 0, none⟩) (Nat.le_refl _) _).setCell (p := ⟨w.heap.size, 1, none⟩) (Nat.le_refl _) _).setCell (p := ⟨w.heap.size, 2, none⟩) (Nat.le_refl _) _).setCell (p := ⟨w.heap.size, 3, none⟩) (Nat.le_refl _) _).setCell (p := ⟨w.heap.size, 4, none⟩) (Nat.le_refl _) _
theorem bitLen_pos' {x : Nat} (h : x ≠ 0) : 0 < bitLen x := by
  rcases Nat.eq_zero_or_pos (bitLen x) with e | e
  · have := bitLen_lt x
    rw [e] at this
    omega
  exact e
set_option maxHeartbeats 1000000 in
theorem window_any (a : Option Addr) (m cap : Nat) (G : Nat → Nat) (n r : Nat) (at' : Int) (w : World) (h : Sl w a m cap G) (hat : at' = (n : Int) + 1) (hn : n ≤ 4294967296) (hm : m ≤ 4294967296) (hr : r ≤ 63) :
    Calls Tryz.prog 135 #[.slice a m cap, .int .i64 at', .int .i64 (r : Int)] w fun e w' => e = .returned (.int .u64 ((winW G m n r : Nat) : Int)) ∧ ∃ k, w' = w.drewN k := by
  subst hat
  have hO : Hid (Ok G m) := h.2.2.1
  have FIN : ∀ f l : Nat, cutU G m 0 (n + 1) = f → cutU G m 0 n = l → Hid (bits .or .u64 (IntKind.u64.wrap ((f : Int) * 2 ^ r)) ((l / 2 ^ (64 - r) : Nat) : Int) = ((winW G m n r : Nat) : Int)) := by
    intro f l h1 h2
    have hl : l < 18446744073709551616 := by rw [← h2]; exact ok_cut (n := n + 1) hO.out n (by omega)
    show _ = _
    rw [or_win f l r hl hr]
    unfold winW
    rw [h1, h2]
  have hr1 : (0 : Int) ≤ r := by omega
  have hr2 : (r : Int) ≤ 63 := by omega
  have hr3 : (0 : Int) ≤ 64 - (r : Int) := by omega
  by_cases h1 : n + 1 < m
  · obtain ⟨b, o, rfl, hw⟩ := h.at n (by omega)
    have hc1 := hw (n + 1) h1
    have hc2 := hw n (by omega)
    have F1 := FIN (G (n + 1)) (G n) (by rw [cutU_in (by omega), Nat.zero_add]) (by rw [cutU_in (by omega), Nat.zero_add])
    clear h hw FIN
    go_enter Tryz.func135, Tryz.ntmps135
    go_wp2_with fail
    go_region
    go_wp2_with fail
    go_ret
    exact ⟨ret_int (by rw [div_int]; exact F1.out), 1, rfl⟩
  by_cases h2 : n < m
  · obtain ⟨b, o, rfl, hw⟩ := h.at n (by omega)
    have hc2 := hw n (by omega)
    have F1 := FIN 0 (G n) (by rw [cutU_out (by omega)]) (by rw [cutU_in (by omega), Nat.zero_add])
    have t1 : decide ((n : Int) + 1 < (m : Int)) = false := decide_eq_false (by omega)
    clear h hw FIN
    go_enter Tryz.func135, Tryz.ntmps135
    go_wp2_with fail
    go_region
    go_wp2_with fail
    go_ret
    exact ⟨ret_int (by rw [div_int]; have := F1.out; rw [show IntKind.u64.wrap (((0 : Nat) : Int) * 2 ^ r) = 0 by simp [IntKind.wrap_u64]] at this; exact this), 1, rfl⟩
  have F1 := FIN 0 0 (by rw [cutU_out (by omega)]) (by rw [cutU_out (by omega)])
  have t1 : decide ((n : Int) + 1 < (m : Int)) = false := decide_eq_false (by omega)
  have t2 : decide (n < m) = false := decide_eq_false (by omega)
  clear h FIN
  go_enter Tryz.func135, Tryz.ntmps135
  go_wp2_with fail
  go_region
  go_wp2_with fail
  go_ret
  exact ⟨ret_int (by have := F1.out; rw [show IntKind.u64.wrap (((0 : Nat) : Int) * 2 ^ r) = 0 by simp [IntKind.wrap_u64], Nat.zero_div] at this; exact this), 1, rfl⟩
def Highest (w : World) (x y : Nat) (e : Ending) (w' : World) : Prop :=
  ∃ k : Nat, e = .returned (.tuple #[.int .u64 ((x / 2 ^ k : Nat) : Int), .int .u64 ((y / 2 ^ k : Nat) : Int)]) ∧ x / 2 ^ k < 18446744073709551616 ∧ Below w.heap.size w w'
set_option maxHeartbeats 2000000 in
theorem highest_any (v u : Value) (x y : Nat) (w : World) (h : IsNat w v x) (k : IsNat w u y) (hx : Fits x) (hyx : y ≤ x) (hy : 18446744073709551616 ≤ y) :
    Calls Tryz.prog 122 #[v, u] w (Highest w x y) := by
  have hfy : Fits y := ⟨Nat.lt_of_le_of_lt hyx hx.lt⟩
  obtain ⟨ax, n0, cap, rfl⟩ := h.isAgg
  obtain ⟨ay, m, cap', rfl⟩ := k.isAgg
  obtain ⟨F, hs, h0, h1, hv⟩ := h.fits
  obtain ⟨G, ks, k0, k1, kv⟩ := k.fits
  have hn : n0 ≤ 4294967296 := fits_len (hv.symm ▸ hx) h1
  have hm : m ≤ 4294967296 := fits_len (kv.symm ▸ hfy) k1
  have hn2 : 2 ≤ n0 := by
    rcases Nat.lt_or_ge n0 2 with hh | hh
    · have h5 := (isNat_fits1 hs h1).2 (by omega)
      omega
    exact hh
  obtain ⟨n, rfl⟩ : ∃ n, n0 = n + 2 := ⟨n0 - 2, by omega⟩
  have hmn : m ≤ n + 2 := by
    refine len_le_of (m := n + 2) (F := G) ?_ k1
    rw [kv]
    exact Nat.lt_of_le_of_lt hyx (hv ▸ V_lt hs.2.2.1)
  obtain ⟨b, o, rfl, hw⟩ := hs.at 0 (by omega)
  have hc := hw (n + 1) (by omega)
  have hF1 : F (n + 1) < 18446744073709551616 := hs.2.2.1 _ (by omega)
  have hb0 : F (n + 1) ≠ 0 := by have := h1 (by omega); simpa using this
  have hbl := bitLen_V (F := F) (n := n + 1) hs.2.2.1 hb0
  rw [hv] at hbl
  have hbp := bitLen_pos' hb0
  have hb64 := bitLen_le64 _ hF1
  obtain ⟨r, hr⟩ : ∃ r, r = 64 - bitLen (F (n + 1)) := ⟨_, rfl⟩
  have hlx : x < 2 ^ (64 * (n + 2) - r) := by
    have := bitLen_lt x
    rw [hbl] at this
    rw [show 64 * (n + 2) - r = 64 * (n + 1) + bitLen (F (n + 1)) by omega]
    exact this
  have W1 := winW_eq (G := F) (m := n + 2) (n := n) (r := r) hs.2.2.1 (Nat.le_refl _) (by omega) (by rw [hv]; exact hlx)
  have W2 := winW_eq (G := G) (m := m) (n := n) (r := r) ks.2.2.1 hmn (by omega) (by rw [kv]; exact Nat.lt_of_le_of_lt hyx hlx)
  rw [hv] at W1
  rw [kv] at W2
  have HH : Hid (Sl w (some ⟨b, o, none⟩) (n + 2) cap F ∧ Sl w ay m cap' G ∧ winW F (n + 2) n r = x / 2 ^ (64 * (n + 1) - r) ∧ winW G m n r = y / 2 ^ (64 * (n + 1) - r) ∧ x / 2 ^ (64 * (n + 1) - r) < 18446744073709551616 ∧ r ≤ 63 ∧ bitLen (F (n + 1)) = 64 - r) := ⟨hs, ks, W1.1, W2.1, W1.2, by omega, by omega⟩
  have hlt : b < w.heap.size := World.block_lt_of_cell? _ _ hc
  have hrr : 64 - bitLen (F (n + 1)) = r := hr.symm
  clear hs h0 h1 hv ks k0 k1 kv hx hfy h k W1 W2 hlx hbl hyx hy hr hbp hb64 hw hb0
  go_enter Tryz.func122, Tryz.ntmps122
  go_wp2_with fail
  refine (lz64_any (F (n + 1)) _ hF1).mono ?_
  rintro e w1 ⟨rfl, hw1⟩
  rw [hw1, hrr]
  clear hw1 w1 hrr
  have HB : Hid (Below w.heap.size w ((w.alloc (.cells #[.slice (some ⟨b, o, none⟩) (n + 2) cap] 45)).alloc (.cells #[.slice ay m cap'] 45))) := bel_alloc2 _ _ _
  go_wp2_with fail
  go_quiet ((go_at_call 135; first | exact Calls.quiet_of (window_any _ _ _ F n r _ _ (HH.out.1.mono (bel_drewN HB.out _)) (by omega) (by omega) (by omega) HH.out.2.2.2.2.2.1) | exact Calls.quiet_of (window_any _ _ _ G n r _ _ (HH.out.2.1.mono (bel_drewN HB.out _)) (by omega) (by omega) (by omega) HH.out.2.2.2.2.2.1)))
  go_wp2_with fail
  rw [HH.out.2.2.1, HH.out.2.2.2.1]
  go_ret2
  exact ⟨64 * (n + 1) - r, rfl, HH.out.2.2.2.2.1, bel_drewN HB.out _⟩
set_option maxHeartbeats 1000000 in
theorem wordDivisor_any (x y : Nat) (w : World) (hx : x < 18446744073709551616) (hy : y < 18446744073709551616) :
    Calls Tryz.prog 124 #[.int .u64 (x : Int), .int .u64 (y : Int)] w fun e w' => e = .returned (.int .u64 ((Nat.gcd x y : Nat) : Int)) ∧ ∃ n, w' = w.drewN n := by
  go_enter Tryz.func124, Tryz.ntmps124
  go_wp2_with fail
  go_loopw [0, 1] (fun p q wr => ∃ (a b nd : Nat), p = .int .u64 (a : Int) ∧ q = .int .u64 (b : Int) ∧ Hid (a < 18446744073709551616 ∧ b < 18446744073709551616 ∧ Nat.gcd a b = Nat.gcd x y) ∧ wr = w.drewN nd) (fun _ q _ => (intOf q).toNat)
  case atStart => exact ⟨x, y, 0, rfl, rfl, ⟨hx, hy, rfl⟩, rfl⟩
  case round =>
    obtain ⟨a, b, nd, rfl, rfl, hh, rfl⟩ := hrel
    by_cases hb : b = 0
    · subst hb
      go_wp2_with fail
      go_ret
      refine ⟨ret_int ?_, nd, rfl⟩
      rw [← hh.out.2.2, Nat.gcd_zero_right]
    have hb1 : ((b : Int) != 0) = true := by simp; omega
    have hb2 : ((b : Int) == 0) = false := by simp; omega
    have hb0 : (0 : Int) < b := by omega
    have hlt : a % b < b := Nat.mod_lt _ (by omega)
    have hbb : b < 18446744073709551616 := hh.out.2.1
    go_wp2_with fail
    go_region
    go_wp2_with fail
    go_roundw
    case rel =>
      refine ⟨b, a % b, nd + 1, rfl, by simp, ⟨hh.out.2.1, by omega, ?_⟩, rfl⟩
      rw [← hh.out.2.2, Nat.gcd_comm a b, Nat.gcd_rec b a, Nat.gcd_comm]
    case measure => simp [intOf]; omega
theorem BRow.kept {w w' : World} {b N : Nat} {D : Nat → Nat} {r : Option Nat} (h : BRow w b N D) (g : w.grownBy w' r) (hne : some b ≠ r) : BRow w' b N D := ⟨h.1.of_block (g.block b h.1.lt hne), h.2⟩
structure Tx (x : Nat) : Prop where
  lt : x < P 225
theorem Tx.le {x y : Nat} (h : Tx x) (hy : y ≤ x) : Tx y := ⟨Nat.lt_of_le_of_lt hy h.lt⟩
theorem Tx.small {x : Nat} (h : Tx x) : Small x := ⟨Nat.lt_trans h.lt (P_lt (show 225 < lim2 by decide))⟩
theorem Tx.fits {x : Nat} (h : Tx x) : Fits x := h.small.fits
def cnt (M : Nat → Nat) (x : Nat) : Nat → Nat
  | 0 => 0
  | k + 1 => cnt M x k + (if M k ≤ x then 1 else 0)
def OR (w : World) (e : TypeId) (base : Nat) (v : Value) (n : Nat) (G : Nat → Value) : Prop :=
  (v = .slice none 0 0 ∧ n = 0) ∨ ∃ g cap f, v = .slice (some ⟨g, 0, none⟩) n cap ∧ base ≤ g ∧ n ≤ cap ∧ cap ≤ maxLen ∧ w.rowIs g e cap f ∧ ∀ i, i < n → f i = G i
theorem OR.owns {w : World} {e : TypeId} {base : Nat} {v : Value} {n : Nat} {G : Nat → Value} (h : OR w e base v n G) : w.ownsRow base e 1 v n ((List.range n).map G) := by
  refine ⟨by simp, ?_⟩
  rcases h with h | ⟨g, cap, f, rfl, hb, hn, hc, ⟨cur, h1, h2, h3⟩, h4⟩
  · exact .inl h
  refine .inr ⟨g, cap, cur, rfl, hb, h1, hn, hc, by omega, ?_⟩
  refine List.ext_getElem? fun i => ?_
  rw [Nat.mul_one]
  rcases Nat.lt_or_ge i n with hi | hi
  · rw [List.getElem?_take_of_lt hi, List.getElem?_map, List.getElem?_range hi, Array.getElem?_toList, h3 i (by omega), h4 i hi]
    rfl
  rw [List.getElem?_eq_none (by simp; omega), List.getElem?_eq_none (by simp; omega)]
theorem OR.of_owns {w : World} {e : TypeId} {base : Nat} {v : Value} {n : Nat} {G : Nat → Value} {xs : List Value} (h : w.ownsRow base e 1 v n xs) (hx : ∀ i, i < n → xs[i]? = some (G i)) : OR w e base v n G := by
  rcases h.2 with h | ⟨g, cap, cur, rfl, hb, hg, hn, hc, hs, ht⟩
  · exact .inl h
  refine .inr ⟨g, cap, fun i => cur.getD i (.int .u64 0), rfl, hb, hn, hc, ⟨cur, hg, by omega, fun i hi => ?_⟩, fun i hi => ?_⟩
  · show _ = some (cur.getD i (.int .u64 0))
    rw [Array.getElem?_eq_getElem (by omega), Array.getD_eq_getD_getElem?, Array.getElem?_eq_getElem (by omega)]
    rfl
  have := hx i hi
  rw [← ht, List.getElem?_take_of_lt (by omega), Array.getElem?_toList] at this
  show cur.getD i (.int .u64 0) = _
  rw [Array.getD_eq_getD_getElem?, this]
  rfl
theorem OR.kept {w w' : World} {e : TypeId} {base : Nat} {v : Value} {n : Nat} {G : Nat → Value} {row : Option Nat} (h : OR w e base v n G) (hg : w.grownBy w' row) (hne : v.ownBlock = none ∨ v.ownBlock ≠ row) : OR w' e base v n G := by
  rcases h with h | ⟨g, cap, f, rfl, hb, hn, hc, h1, h4⟩
  · exact .inl h
  refine .inr ⟨g, cap, f, rfl, hb, hn, hc, h1.of_block (hg.block g h1.lt (by simpa [Value.ownBlock] using hne)), h4⟩
theorem OR.below {w w' : World} {e : TypeId} {base : Nat} {v : Value} {n : Nat} {G : Nat → Value} (h : OR w e base v n G) (hb : Below w.heap.size w w') : OR w' e base v n G := by
  rcases h with h | ⟨g, cap, f, rfl, hb', hn, hc, h1, h4⟩
  · exact .inl h
  exact .inr ⟨g, cap, f, rfl, hb', hn, hc, h1.of_block (hb.block g h1.lt), h4⟩
theorem OR.nil (w : World) (e : TypeId) (base : Nat) (G : Nat → Value) : OR w e base (.slice none 0 0) 0 G := .inl ⟨rfl, rfl⟩
theorem OR.congr {w : World} {e : TypeId} {base : Nat} {v : Value} {n : Nat} {G G' : Nat → Value} (h : OR w e base v n G) (hG : ∀ i, i < n → G i = G' i) : OR w e base v n G' := by
  rcases h with h | ⟨g, cap, f, rfl, hb', hn, hc, h1, h4⟩
  · exact .inl h
  exact .inr ⟨g, cap, f, rfl, hb', hn, hc, h1, fun i hi => (h4 i hi).trans (hG i hi)⟩
theorem wpList_append_one {w : World} {ops : Array Oper} {rest : List Oper} {o : Oper} {ac : Act} {Q : Exit → Act → World → Prop} (hgd : o.guard = none) (s x : Operand) (t : TypeId)
    (ho : o.op = .call { callee := .builtin .append, args := #[s, x], argTypes := #[t, t] }) (e : TypeId) (z : Value) (bytes : Nat) (ht : Tryz.prog.underlying t = some (.slice e))
    (hi : (Tryz.prog.info? e).map (fun i => (i.zero, i.size, i.bytes)) = some (some z, 1, bytes)) (hz : z.cells.size = 1) (hby : bytes ≤ 24) (base : Nat) (v : Value) (n : Nat) (G : Nat → Value) (hs : ac.eval s = v) (hown : OR w e base v n G)
    (b : Nat) (c : Nat) (hx : ac.eval x = .slice (some ⟨b, 0, none⟩) 1 c) (u : Value) (hc : w.cell? ⟨b, 0, none⟩ = some u) (h1 : u.oneCell' = true) (hn : n + 1 ≤ 1099511627776) (hbase : base ≤ w.heap.size)
    (h : ∀ g cap w', OR w' e base (.slice (some ⟨g, 0, none⟩) (n + 1) cap) (n + 1) (fun j => if j = n then u else G j) → w.grownBy w' v.ownBlock → (v.ownBlock = some g ∨ g = w.heap.size) → g < w'.heap.size → wpList Tryz.prog ops Q rest (ac.put o.dst (.slice (some ⟨g, 0, none⟩) (n + 1) cap)) w') : wpList Tryz.prog ops Q (o :: rest) ac w := by
  obtain ⟨i, hi, hzz, hsz, hb⟩ := info_parts hi
  refine wpList_append_lies w hgd s x t ho base e i z 1 bytes ht hi hzz hsz hb hz (by omega) v n _ hs hown.owns ⟨b, 0, none⟩ 1 c [u] hx rfl (fun j u' hj => ?_) (fun u' hu => by simp at hu; subst hu; exact h1) (by omega) (by simp only [maxLen]; omega) ?_ hbase _ rfl (fun g cap w' k1 k2 k3 k4 => h g cap w' (OR.of_owns k1 fun i hi => ?_) k2 k3 k4)
  · match j, hj with
    | 0, hj => simp at hj; subst hj; simpa [Addr.add] using hc
  · have := Nat.mul_le_mul (show n + 1 ≤ 1099511627776 from hn) hby
    omega
  rcases Nat.lt_or_ge i n with hh | hh
  · rw [List.getElem?_append_left (by simpa using hh), List.getElem?_map, List.getElem?_range hh, if_neg (by omega)]
    rfl
  obtain rfl : i = n := by omega
  rw [List.getElem?_append_right (by simp), if_pos rfl]
  simp
def wd (F : Nat → Nat) : Nat → Value := fun j => .int .u64 ((F j : Nat) : Int)
theorem Tryz.info22b : (Tryz.prog.info? 82).map (fun i => (i.zero, i.size, i.bytes)) = some (some (.int .u64 0), 1, 8) := by kernel_rfl
theorem IsNat.keep {w w' : World} {v : Value} {x b : Nat} (h : IsNat w v x) (hg : w.grownBy w' (some b)) (hb : ∀ i z, w.cell? ⟨b, i, none⟩ ≠ some (.int .u64 z)) : IsNat w' v x := by
  obtain ⟨a, n, cap, F, rfl, ⟨s1, s2, s3, s4⟩, h0, h1, hv⟩ := h
  refine ⟨a, n, cap, F, rfl, ⟨s1, s2, s3, ?_⟩, h0, h1, hv⟩
  rcases s4 with e | ⟨b', o, rfl, hw⟩
  · exact .inl e
  rcases Nat.eq_zero_or_pos n with e | hn
  · exact .inl e
  refine .inr ⟨b', o, rfl, fun i hi => hg.cell (hw i hi) ?_⟩
  intro e
  cases e
  exact hb _ _ (hw i hi)
theorem IsNat.cellOf {w : World} {u : Value} {x : Nat} (h : IsNat w (.agg #[u]) x) : ∃ a n c, u = .slice a n c := by
  obtain ⟨a, n, c, e1⟩ := h.isAgg
  exact ⟨a, n, c, by simpa using e1⟩
theorem hold {p : Prop} (h : True → p) : p := h trivial
end Go.Proofs.YtfkkomppfghagaaGreatDoor
