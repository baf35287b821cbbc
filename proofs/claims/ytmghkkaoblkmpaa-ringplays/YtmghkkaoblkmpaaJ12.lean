/- Contracts of the program's functions, part 12: own work, joined in build order. -/
import Derived.Test.YtmghkkaoblkmpaaJ11
import Derived.RangeFuncNested
namespace Go.Proofs.Ytmghkkaoblkmpaa
open Go.RowKit
/-- Rows from block B on that are just f stay what they are. -/
structure Kpx (B : Nat) (t : TypeId) (m : Nat) (f : Nat → Value) (W W' : World) : Prop where
  size : W.heap.size ≤ W'.heap.size
  keep : ∀ k, B ≤ k → W.rowIs k t m f → W'.rowIs k t m f
theorem Kpx.trans {B : Nat} {t : TypeId} {m : Nat} {f : Nat → Value} {X Y Z : World} (h : Kpx B t m f X Y) (k : Kpx B t m f Y Z) : Kpx B t m f X Z := ⟨Nat.le_trans h.size k.size, fun i hi hr => k.keep i hi (h.keep i hi hr)⟩
theorem Kpx.refl (B : Nat) (t : TypeId) (m : Nat) (f : Nat → Value) (W : World) : Kpx B t m f W W := ⟨Nat.le_refl _, fun _ _ h => h⟩
theorem Kpx.putObj (B : Nat) (t : TypeId) (m : Nat) (f : Nat → Value) (W : World) (l : Nat) (o o' : Obj) (hl : W.heap[l]? = some o) (ho : o.isCells = false) : Kpx B t m f W (W.putObj l o') := by
  refine ⟨by simp, fun k _ h => h.of_block (World.putObj_heap_other fun e => ?_)⟩
  obtain ⟨c, hc, _⟩ := h
  subst e
  rw [hc] at hl
  cases hl
  cases ho
theorem Kpx.grown {B : Nat} {t : TypeId} {m : Nat} {f : Nat → Value} {W W' : World} {row : Option Nat} (h : W.grownBy W' row) (hr : ∀ k, row = some k → k < B) : Kpx B t m f W W' :=
  ⟨h.size, fun k hk hr' => hr'.of_block (h.block k hr'.lt fun e => by have := hr k e.symm; omega)⟩
theorem Kpx.chg {B : Nat} {t : TypeId} {m : Nat} {f : Nat → Value} {W W' : World} {r g : Nat} (h : Chg W W' r g) (h1 : r < B) (h2 : g < B) : Kpx B t m f W W' :=
  ⟨h.size, fun k hk hr => h.row hr (by omega) (by omega)⟩
end Go.Proofs.Ytmghkkaoblkmpaa
