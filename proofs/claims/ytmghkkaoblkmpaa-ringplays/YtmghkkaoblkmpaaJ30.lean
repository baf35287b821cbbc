/- Contracts of the program's functions, part 30: own work, joined in build order. -/
import Derived.Test.YtmghkkaoblkmpaaJ29
namespace Go.Proofs.Ytmghkkaoblkmpaa
open Go.RowKit Go.Shelf
set_option maxRecDepth 100000
set_option linter.unusedVariables false
/-- i steps having been made in a round that began at W. -/
structure In9 (w W wr : World) (r g : Nat) (v0 : Value) (xs : List Int) (S : Nat → Value) (m : Int) (vl : Value) (i : Nat) : Prop where
  bs : Bs9 w.heap.size wr r S vl v0 m
  rg : RgK w W.heap.size wr r g v0 xs vl true i
  size : W.heap.size ≤ wr.heap.size
  kept : ∀ k, k < W.heap.size → w.heap.size + 9 ≤ k → wr.heap[k]? = W.heap[k]?
theorem In9.start {w W : World} {r g : Nat} {v0 : Value} {xs : List Int} {S : Nat → Value} {m : Int} {vl : Value} (hb : Bs9 w.heap.size W r S vl v0 m) (hg : Rg3 w W r g v0 xs vl false) : vl = v0 ∧ In9 w W W r g v0 xs S m v0 0 := by
  obtain ⟨⟨ys, g', N', f', q1, q2, q3, q4, q5⟩, hC⟩ := hg
  obtain ⟨rfl, rfl, rfl⟩ := q5 rfl
  exact ⟨rfl, hb, ⟨⟨ys, g', N', f', q1, .inl rfl, by omega, .inl ⟨rfl, rfl⟩, fun h => by cases h⟩, hC⟩, Nat.le_refl _, fun _ _ _ => rfl⟩
theorem In9.setN {w W wr : World} {r g : Nat} {v0 : Value} {xs : List Int} {S : Nat → Value} {m : Int} {vl : Value} {i : Nat} (h : In9 w W wr r g v0 xs S m vl i) (hr : r < w.heap.size) (hg : g < w.heap.size) (h9 : w.heap.size + 9 ≤ W.heap.size) (m' : Int) : In9 w W (wr.setCell ⟨w.heap.size + 7, 0, none⟩ (.int .i64 m')) r g v0 xs S m' vl i :=
  ⟨h.bs.setN m', h.rg.set hr hg (by omega) (by omega) h9 _, by simpa using h.size, fun k h1 h2 => (Below.heap_setCell _ _ _ _ (by show k ≠ w.heap.size + 7; omega)).trans (h.kept k h1 h2)⟩
theorem In9.from {w W wr : World} {r g : Nat} {v0 : Value} {xs : List Int} {S : Nat → Value} {m : Int} {vl : Value} {i B : Nat} (h : In9 w W wr r g v0 xs S m vl i) (hB : w.heap.size + 9 ≤ B) : KeepsFrom B W wr :=
  ⟨h.size, fun k o hk ho _ => (h.kept k (Array.getElem?_eq_some_iff.1 ho).1 (by omega)).trans ho⟩
theorem In9.kpx {w W wr : World} {r g : Nat} {v0 : Value} {xs : List Int} {S : Nat → Value} {m : Int} {vl : Value} {i B : Nat} (h : In9 w W wr r g v0 xs S m vl i) (hB : w.heap.size + 9 ≤ B) (t : TypeId) (n : Nat) (f : Nat → Value) : Kpx B t n f W wr :=
  ⟨h.size, fun k hk hr => hr.of_block (h.kept k hr.lt (by omega))⟩
/-- Behind a step, the list not yet stored. -/
def Dd9 (w W : World) (r g : Nat) (v0 : Value) (xs : List Int) (S : Nat → Value) (m : Int) (i : Nat) (v : Value) (w1 : World) : Prop :=
  (∃ u, w1.cell? ⟨w.heap.size + 1, 0, none⟩ = some u) ∧ w1.frozen? ⟨w.heap.size + 1, 0, none⟩ = false ∧ ∃ al nl cl, v = .slice al nl cl ∧ In9 w W (w1.setCell ⟨w.heap.size + 1, 0, none⟩ v) r g v0 xs S m v (i + 1)
theorem In9.step {w W wr : World} {r g N0 f0 : Nat} {a : Option Addr} {c cap : Nat} {xs : List Int} {S : Nat → Value} {m : Int} {al : Option Addr} {nl cl i : Nat} (h : In9 w W wr r g (.slice a c cap) xs S m (.slice al nl cl) i) (hd : Doing w r g N0 f0 a c cap xs) (h9 : w.heap.size + 9 ≤ W.heap.size) (hl : c + i ≤ 1048576) (K N V : Int) (hn : -9223372036854775808 ≤ N) (hn2 : N ≤ 9223372036854775807) :
    Calls Try.prog 14 #[.pointer (some ⟨r, 0, none⟩), .slice al nl cl, .agg #[.int .i64 K, .int .i64 0, .int .i64 N, .int .i64 V]] wr.drew fun e w1 => ∃ v, e = .returned (.tuple #[v, .bool true]) ∧ Dd9 w W r g (.slice a c cap) xs S m i v w1 := by
  have hr0 := hd.ring.rlt
  have hg0 := hd.ring.glt
  have hrg := h.rg.drew
  obtain ⟨ys, g', N', f', hD, q2, q3, q4⟩ := hrg.doing hd h9 hl
  refine (do_any r g' N' f' al nl cl ys K 0 N V wr.drew hD hn hn2).mono ?_
  rintro e w1 ⟨v, rfl, hd1⟩
  have R1 := hrg.did hd q2 q3 q4 h9 h.size hd1
  have C1 : Chg wr w1 r g' := ((Chg.refl wr r g').drew).trans hd1.chg (.inl rfl)
  have hg9 : g' < w.heap.size ∨ w.heap.size + 9 ≤ g' := by rcases q2 with e | e | e <;> omega
  have B1 := h.bs.chg C1 hr0 hg9
  obtain ⟨al', nl', cl', ev⟩ := R1.isSlice
  refine ⟨v, rfl, ⟨_, B1.b1.cell⟩, B1.b1.frozen, al', nl', cl', ev, B1.setL v, R1.set hr0 hg0 (by omega) (by omega) h9 _, by simpa using Nat.le_trans h.size C1.size, fun k h1 h2 => ?_⟩
  refine (Below.heap_setCell _ _ _ _ (by show k ≠ w.heap.size + 1; omega)).trans ((C1.block k (Nat.lt_of_lt_of_le h1 h.size) (by omega) ?_).trans (h.kept k h1 h2))
  rcases q2 with e | e | e <;> omega
/-- j rounds of a range within a round that began at W. -/
structure Tw9 (w W W2 : World) (r g : Nat) (v0 : Value) (xs : List Int) (S : Nat → Value) (m : Int) (j : Nat) : Prop where
  bs : Bs9 w.heap.size W2 r S v0 v0 m
  rg : Rg3 w W2 r g v0 xs v0 false
  box : Boxed W2 W.heap.size 3 (.int .i64 (j : Int))
  kept : ∀ k, k < W.heap.size → w.heap.size + 9 ≤ k → W2.heap[k]? = W.heap[k]?
theorem Tw9.lt {w W W2 : World} {r g : Nat} {v0 : Value} {xs : List Int} {S : Nat → Value} {m : Int} {j : Nat} (h : Tw9 w W W2 r g v0 xs S m j) : W.heap.size < W2.heap.size := h.box.lt
theorem Tw9.start {w W : World} {r g : Nat} {v0 : Value} {xs : List Int} {S : Nat → Value} {m : Int} {vl : Value} (hb : Bs9 w.heap.size W r S vl v0 m) (hg : Rg3 w W r g v0 xs vl false) (h9 : w.heap.size + 9 ≤ W.heap.size) : vl = v0 ∧ Tw9 w W (W.alloc (.cells #[.int .i64 0] 3)) r g v0 xs S m 0 ∧ ∃ N' f', RI (W.alloc (.cells #[.int .i64 0] 3)) r g N' f' xs.length xs := by
  have hr := hg.ring
  obtain ⟨ys, g', N', f', q1, q2, q3, q4, q5⟩ := hr
  obtain ⟨rfl, rfl, rfl⟩ := q5 rfl
  have B1 : Below W.heap.size W (W.alloc (.cells #[.int .i64 0] 3)) := (Below.refl _ _).alloc (Nat.le_refl _) _
  have hG : W.grownBy (W.alloc (.cells #[.int .i64 0] 3)) none := ⟨rfl, rfl, rfl, B1.size, fun k hk _ => B1.block k hk⟩
  have q1' : RI (W.alloc (.cells #[.int .i64 0] 3)) r g' N' f' ys.length ys := q1.mono B1
  exact ⟨rfl, ⟨hb.own (B := 0) hG (fun _ e => by cases e), hg.own (B' := w.heap.size) (Nat.le_refl _) hG (fun _ e => by cases e), World.alloc_heap_new _ _, fun k h1 _ => B1.block k h1⟩, N', f', q1'⟩
theorem Tw9.own {w W W2 W3 : World} {r g : Nat} {v0 : Value} {xs : List Int} {S : Nat → Value} {m : Int} {j : Nat} {row : Option Nat} {B : Nat} (h : Tw9 w W W2 r g v0 xs S m j) (hw : w.heap.size ≤ W.heap.size) (hB : W.heap.size ≤ B) (hg : W2.grownBy W3 row) (hr : ∀ r, row = some r → B ≤ r ∧ ∃ o : Obj, W2.heap[r]? = some o ∧ o.isCells = false) : Tw9 w W W3 r g v0 xs S m j :=
  ⟨h.bs.own hg hr, h.rg.own (B' := B) (by omega) hg hr, boxed_keep h.box hg hr, fun k h1 h2 => (hg.block k (Nat.lt_trans h1 h.lt) fun e => by have := (hr k e.symm).1; omega).trans (h.kept k h1 h2)⟩
theorem Tw9.more {w W W2 : World} {r g : Nat} {v0 : Value} {xs : List Int} {S : Nat → Value} {m : Int} {j : Nat} (h : Tw9 w W W2 r g v0 xs S m j) (hr : r < w.heap.size) (hg : g < w.heap.size) (h9 : w.heap.size + 9 ≤ W.heap.size) (j' : Nat) : Tw9 w W (W2.setCell ⟨W.heap.size, 0, none⟩ (.int .i64 (j' : Int))) r g v0 xs S m j' := by
  obtain ⟨u3, h3⟩ := h.bs.b3
  obtain ⟨u4, h4⟩ := h.bs.b4
  refine ⟨⟨h.bs.b0.other (by omega) _, h.bs.b1.other (by omega) _, h.bs.b2.setOther (by show w.heap.size + 2 ≠ W.heap.size; omega) _, ⟨u3, h3.other (by omega) _⟩, ⟨u4, h4.other (by omega) _⟩, h.bs.b5.other (by omega) _, h.bs.b6.other (by omega) _, h.bs.b7.other (by omega) _, h.bs.b8.other (by omega) _⟩, ?_, h.box.set _, fun k h1 h2 => (Below.heap_setCell _ _ _ _ (by show k ≠ W.heap.size; omega)).trans (h.kept k h1 h2)⟩
  obtain ⟨⟨ys, g', N', f', q1, q2, q3, q4, q5⟩, hC⟩ := h.rg
  obtain ⟨rfl, _, rfl⟩ := q5 rfl
  exact ⟨⟨ys, g', N', f', q1.of_blocks (Below.heap_setCell _ _ _ _ (by show r ≠ W.heap.size; omega)) (Below.heap_setCell _ _ _ _ (by show g' ≠ W.heap.size; omega)), .inl rfl, q3, .inl ⟨rfl, rfl⟩, q5⟩, ⟨hC.os, hC.tape, hC.output, by simpa using hC.size, fun k hk e1 e2 => (Below.heap_setCell _ _ _ _ (by show k ≠ W.heap.size; omega)).trans (hC.block k hk e1 e2)⟩⟩
theorem Tw9.setN {w W W2 : World} {r g : Nat} {v0 : Value} {xs : List Int} {S : Nat → Value} {m : Int} {j : Nat} (h : Tw9 w W W2 r g v0 xs S m j) (hr : r < w.heap.size) (hg : g < w.heap.size) (h9 : w.heap.size + 9 ≤ W.heap.size) (m' : Int) : Tw9 w W (W2.setCell ⟨w.heap.size + 7, 0, none⟩ (.int .i64 m')) r g v0 xs S m' j :=
  ⟨h.bs.setN m', h.rg.set hr hg (by omega) (by omega) (Nat.le_refl _) _, h.box.other (by omega) _, fun k h1 h2 => (Below.heap_setCell _ _ _ _ (by show k ≠ w.heap.size + 7; omega)).trans (h.kept k h1 h2)⟩
theorem Tw9.from {w W W2 : World} {r g : Nat} {v0 : Value} {xs : List Int} {S : Nat → Value} {m : Int} {j B : Nat} (h : Tw9 w W W2 r g v0 xs S m j) (hB : w.heap.size + 9 ≤ B) : KeepsFrom B W W2 :=
  ⟨Nat.le_of_lt h.lt, fun k o hk ho _ => (h.kept k (Array.getElem?_eq_some_iff.1 ho).1 (by omega)).trans ho⟩
theorem Tw9.kpx {w W W2 : World} {r g : Nat} {v0 : Value} {xs : List Int} {S : Nat → Value} {m : Int} {j B : Nat} (h : Tw9 w W W2 r g v0 xs S m j) (hB : w.heap.size + 9 ≤ B) (t : TypeId) (n : Nat) (f : Nat → Value) : Kpx B t n f W W2 :=
  ⟨Nat.le_of_lt h.lt, fun k hk hr => hr.of_block (h.kept k hr.lt (by omega))⟩
end Go.Proofs.Ytmghkkaoblkmpaa
