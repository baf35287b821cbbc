/- Contracts of the program's functions, part 15: own work, joined in build order. -/
import Derived.Test.YtmghkkaoblkmpaaJ14
namespace Go.Proofs.Ytmghkkaoblkmpaa
open Go.RowKit
set_option maxRecDepth 100000
set_option linter.unusedVariables false
/-- r is a ring of xs, all of it laid from block n0 on; its places lie at g. -/
structure Own1 (n0 : Nat) (w : World) (r g : Nat) (xs : List Int) : Prop where
  ring : ∃ N f, RI w r g N f xs.length xs
  hr : n0 ≤ r
  hg : n0 ≤ g
theorem Own1.lt {n0 : Nat} {w : World} {r g : Nat} {xs : List Int} (h : Own1 n0 w r g xs) : r < w.heap.size ∧ g < w.heap.size := by
  obtain ⟨N, f, k⟩ := h.ring
  exact ⟨k.rlt, k.glt⟩
theorem Own1.go {n0 : Nat} {w w' : World} {r g : Nat} {xs ys : List Int} (h : Own1 n0 w r g xs) (hn : n0 ≤ w.heap.size) (k : RingsI w r g ys w') : ∃ g', Own1 n0 w' r g' ys ∧ Below n0 w w' ∧ Chg w w' r g ∧ (g' = g ∨ g' = r ∨ w.heap.size ≤ g') := by
  obtain ⟨g', N', f', h1, h2, h3⟩ := k
  refine ⟨g', ⟨⟨N', f', h1⟩, h.hr, ?_⟩, h2.below h.hr h.hg hn, h2, h3⟩
  have := h.hr
  have := h.hg
  rcases h3 with e | e | e <;> omega
theorem Own1.of_blocks {n0 : Nat} {w w' : World} {r g : Nat} {xs : List Int} (h : Own1 n0 w r g xs) (h1 : w'.heap[r]? = w.heap[r]?) (h2 : w'.heap[g]? = w.heap[g]?) : Own1 n0 w' r g xs := by
  obtain ⟨N, f, k⟩ := h.ring
  exact ⟨⟨N, f, k.of_blocks h1 h2⟩, h.hr, h.hg⟩
theorem Own1.mono {n0 : Nat} {w w' : World} {r g : Nat} {xs : List Int} (h : Own1 n0 w r g xs) (hb : Below w.heap.size w w') : Own1 n0 w' r g xs := h.of_blocks (hb.block _ h.lt.1) (hb.block _ h.lt.2)
theorem Own1.chg {n0 : Nat} {w w' : World} {r g r' g' : Nat} {xs : List Int} (h : Own1 n0 w r g xs) (hb : Chg w w' r' g') (h1 : r ≠ r') (h2 : r ≠ g') (h3 : g ≠ r') (h4 : g ≠ g') : Own1 n0 w' r g xs := h.of_blocks (hb.block _ h.lt.1 h1 h2) (hb.block _ h.lt.2 h3 h4)
theorem own_new (w : World) : Calls Try.prog 8 #[] w fun e w' => e = .returned (.pointer (some ⟨w.heap.size, 0, none⟩)) ∧ Hid (Own1 w.heap.size w' w.heap.size w.heap.size [] ∧ Below w.heap.size w w') :=
  (newI_any w).mono fun _ _ ⟨he, h1, h2⟩ => ⟨he, ⟨⟨0, 0, h1⟩, Nat.le_refl _, Nat.le_refl _⟩, h2⟩
/-- One ring of the call's own, and what lay below n0. -/
def One (n0 : Nat) (w0 w : World) (r : Nat) (xs : List Int) : Prop := ∃ g, Own1 n0 w r g xs ∧ Below n0 w0 w ∧ n0 ≤ w0.heap.size
theorem One.go {n0 : Nat} {w0 w w' : World} {r g : Nat} {xs ys : List Int} (h : Own1 n0 w r g xs) (hb : Below n0 w0 w) (hn : n0 ≤ w0.heap.size) (k : RingsI w r g ys w') : One n0 w0 w' r ys := by
  obtain ⟨g', h1, h2, _⟩ := h.go (Nat.le_trans hn hb.size) k
  exact ⟨g', h1, hb.trans h2, hn⟩
theorem One.drew {n0 : Nat} {w0 w : World} {r : Nat} {xs : List Int} (h : One n0 w0 w r xs) (n : Nat) : One n0 w0 (w.drewN n) r xs := by
  obtain ⟨g, h1, h2, h3⟩ := h
  exact ⟨g, h1.of_blocks rfl rfl, ⟨h2.os, h2.tape, h2.output, h2.size, h2.block⟩, h3⟩
section
variable {n0 r : Nat} {w0 w : World} {xs : List Int}
theorem One.pushBack (h : One n0 w0 w r xs) (hx : xs.length ≤ 4294967296) (v : Int) : Calls Try.prog 17 #[.pointer (some ⟨r, 0, none⟩), .int .i64 v] w fun e w' => e = .returned (.tuple #[]) ∧ Hid (One n0 w0 w' r (xs ++ [v])) := by
  obtain ⟨g, h1, h2, h3⟩ := h
  obtain ⟨N, f, k⟩ := h1.ring
  exact (pushBackI_any r g N f xs v w k hx).mono fun _ _ ⟨he, h4⟩ => ⟨he, One.go h1 h2 h3 h4⟩
theorem One.pushFront (h : One n0 w0 w r xs) (hx : xs.length ≤ 4294967296) (v : Int) : Calls Try.prog 19 #[.pointer (some ⟨r, 0, none⟩), .int .i64 v] w fun e w' => e = .returned (.tuple #[]) ∧ Hid (One n0 w0 w' r (v :: xs)) := by
  obtain ⟨g, h1, h2, h3⟩ := h
  obtain ⟨N, f, k⟩ := h1.ring
  exact (pushFrontI_any r g N f xs v w k hx).mono fun _ _ ⟨he, h4⟩ => ⟨he, One.go h1 h2 h3 h4⟩
theorem One.popFront0 (h : One n0 w0 w r []) : Calls Try.prog 21 #[.pointer (some ⟨r, 0, none⟩)] w fun e w' => e = .returned (.tuple #[.int .i64 0, .bool false]) ∧ Hid (One n0 w0 w' r []) := by
  have h' := h
  obtain ⟨g, h1, h2, h3⟩ := h
  obtain ⟨N, f, k⟩ := h1.ring
  exact (popFrontI_no r g N f _ [] w k rfl).mono fun _ _ ⟨he, n, h4⟩ => ⟨he, by rw [h4]; exact h'.drew n⟩
theorem One.popFront {x : Int} (h : One n0 w0 w r (x :: xs)) : Calls Try.prog 21 #[.pointer (some ⟨r, 0, none⟩)] w fun e w' => e = .returned (.tuple #[.int .i64 x, .bool true]) ∧ Hid (One n0 w0 w' r xs) := by
  obtain ⟨g, h1, h2, h3⟩ := h
  obtain ⟨N, f, k⟩ := h1.ring
  exact (popFrontI_yes r g N f x xs w k).mono fun _ _ ⟨he, h4⟩ => ⟨he, One.go h1 h2 h3 h4⟩
theorem One.turn (h : One n0 w0 w r xs) (hx : xs.length ≤ 4294967296) (n : Int) (hn : -9223372036854775808 ≤ n) (hn2 : n ≤ 9223372036854775807) : Calls Try.prog 29 #[.pointer (some ⟨r, 0, none⟩), .int .i64 n] w fun e w' => e = .returned (.tuple #[]) ∧ Hid (One n0 w0 w' r (rt n xs)) := by
  obtain ⟨g, h1, h2, h3⟩ := h
  obtain ⟨N, f, k⟩ := h1.ring
  exact (turnI_any r g N f xs n w k hx hn hn2).mono fun _ _ ⟨he, h4⟩ => ⟨he, One.go h1 h2 h3 h4⟩
theorem One.at (h : One n0 w0 w r xs) (j : Nat) (i : Int) (hi : i = j) (hj : j < xs.length) : Calls Try.prog 31 #[.pointer (some ⟨r, 0, none⟩), .int .i64 i] w fun e w' => e = .returned (.tuple #[.int .i64 (xs.getD j 0), .bool true]) ∧ Hid (One n0 w0 w' r xs) := by
  have h' := h
  obtain ⟨g, h1, h2, h3⟩ := h
  obtain ⟨N, f, k⟩ := h1.ring
  exact (atI_yes r g N f _ xs j i w k hi hj).mono fun _ _ ⟨he, n, h4⟩ => ⟨he, by rw [h4]; exact h'.drew n⟩
theorem One.len (h : One n0 w0 w r xs) : Calls Try.prog 33 #[.pointer (some ⟨r, 0, none⟩)] w fun e w' => e = .returned (.int .i64 (xs.length : Int)) ∧ w' = w := by
  obtain ⟨g, h1, h2, h3⟩ := h
  obtain ⟨N, f, k⟩ := h1.ring
  exact lenI_any r g N f _ xs w k
end
set_option maxHeartbeats 2000000 in
theorem told_any (w : World) : Calls Try.prog 7 #[] w fun e w' => e = .returned (.bool true) ∧ Below w.heap.size w w' := by
  go_enter Try.func7, Try.ntmps7
  go_wp2_with fail
  refine (own_new w).mono ?_
  rintro e w1 ⟨rfl, h1⟩
  have H1 : Hid (One w.heap.size w w1 w.heap.size []) := ⟨_, h1.out.1, h1.out.2, Nat.le_refl _⟩
  clear h1
  go_wp2_with fail
  refine H1.out.popFront0.mono ?_
  rintro e w2 ⟨rfl, H2⟩
  go_wp2_with fail
  refine (H2.out.pushBack (by simp) 1).mono ?_
  rintro e w3 ⟨rfl, H3⟩
  go_wp2_with fail
  refine (H3.out.pushBack (by simp) 2).mono ?_
  rintro e w4 ⟨rfl, H4⟩
  go_wp2_with fail
  refine (H4.out.pushFront (by simp) 0).mono ?_
  rintro e w5 ⟨rfl, H5⟩
  go_wp2_with fail
  refine (H5.out.turn (by simp) 1 (by omega) (by omega)).mono ?_
  rintro e w6 ⟨rfl, H6⟩
  have H7 : Hid (One w.heap.size w w6 w.heap.size [1, 2, 0]) := H6
  clear H6
  go_wp2_with fail
  refine (H7.out.at 2 2 rfl (by simp)).mono ?_
  rintro e w7 ⟨rfl, H8⟩
  go_wp2_with fail
  refine H8.out.len.mono ?_
  rintro e w8 ⟨rfl, e8⟩
  rw [e8]
  go_wp2_with fail
  go_ret
  exact ⟨rfl, by obtain ⟨_, _, h2, _⟩ := H8.out; exact h2⟩
end Go.Proofs.Ytmghkkaoblkmpaa
