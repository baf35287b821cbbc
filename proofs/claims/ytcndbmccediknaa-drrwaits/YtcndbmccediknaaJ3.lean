/- Contracts of the program's functions, part 3: own work, joined in build order. -/
import Derived.Test.YtcndbmccediknaaJ2
import Derived.Laws.Closers25
import Derived.Maps.OwnSet
import Derived.Maps.Views
namespace Go.Proofs.Ytcndbmccediknaa
open Go.RowKit
set_option maxRecDepth 100000
set_option linter.unusedVariables false
theorem takeP_front (r g N f : Nat) (x : Pk) (xs : List Pk) (w : World) (h : RP w r g N f (x :: xs).length (x :: xs)) : Calls Try.prog 49 #[.pointer (some ⟨r, 0, none⟩), .int .i64 0] w fun e w' => e = .returned (.tuple #[x.val, .bool true]) ∧ RingsP w r g xs w' := by
  rcases xs with _ | ⟨y, ys⟩
  · exact takeP_last r g N f x [] 0 rfl w h
  exact takeP_first r g N f x (y :: ys) (by simp) w h
theorem lenP_any (r g N f c : Nat) (xs : List Pk) (w : World) (h : RP w r g N f c xs) : Calls Try.prog 28 #[.pointer (some ⟨r, 0, none⟩)] w fun e w' => e = .returned (.int .i64 (c : Int)) ∧ w' = w := by
  have c2 := h.c2
  clear h
  go_enter Try.func28, Try.ntmps28
  go_wp2_with fail
  go_ret
  exact ⟨rfl, rfl⟩
set_option maxHeartbeats 2000000 in
theorem popFrontP_yes (r g N f : Nat) (x : Pk) (xs : List Pk) (w : World) (h : RP w r g N f (x :: xs).length (x :: xs)) : Calls Try.prog 33 #[.pointer (some ⟨r, 0, none⟩)] w fun e w' => e = .returned (.tuple #[x.val, .bool true]) ∧ RingsP w r g xs w' := by
  obtain ⟨a0, a1, a2, a3, a4, a5⟩ := x
  obtain ⟨W, hW⟩ : ∃ W, W = w.alloc (.cells #[.int .i64 0, .int .i64 0, .int .i64 0, .int .i64 0, .int .i64 0, .int .i64 0] 49) := ⟨_, rfl⟩
  obtain ⟨v, ev⟩ : ∃ v, v = w.heap.size := ⟨_, rfl⟩
  have B0 : Below w.heap.size w W := by rw [hW]; exact (Below.refl _ _).alloc (Nat.le_refl _) _
  have hB : W.heap[v]? = some (.cells #[.int .i64 0, .int .i64 0, .int .i64 0, .int .i64 0, .int .i64 0, .int .i64 0] 49) := by rw [hW, ev]; exact (MapKept.heap_alloc _ _).1
  have h' := h.mono B0
  have hl := h'.lim
  have hc := h'.cl
  have HH : Hid (RP W r g N f ((⟨a0, a1, a2, a3, a4, a5⟩ : Pk) :: xs).length ((⟨a0, a1, a2, a3, a4, a5⟩ : Pk) :: xs) ∧ Below w.heap.size w W ∧ v = w.heap.size ∧ v < W.heap.size ∧ W.heap[v]? = some (.cells #[.int .i64 0, .int .i64 0, .int .i64 0, .int .i64 0, .int .i64 0, .int .i64 0] 49) ∧ r < v ∧ g < v) := ⟨h', B0, ev, (Array.getElem?_eq_some_iff.1 hB).1, hB, by rw [ev]; exact h.rlt, by rw [ev]; exact h.glt⟩
  have HE : Hid (w.alloc (.cells #[.int .i64 0, .int .i64 0, .int .i64 0, .int .i64 0, .int .i64 0, .int .i64 0] 49) = W ∧ w.heap.size = v) := ⟨hW.symm, ev.symm⟩
  clear h h' B0 hB hW ev 
  go_enter Try.func33, Try.ntmps33
  go_wp2_with fail
  rw [HE.out.1, HE.out.2]
  refine (takeP_front r g N f (⟨a0, a1, a2, a3, a4, a5⟩ : Pk) xs W HH.out.1).mono ?_
  rintro e w1 ⟨rfl, g', N', f', h4, h5, h6⟩
  have hv : w1.heap[v]? = some (.cells #[.int .i64 0, .int .i64 0, .int .i64 0, .int .i64 0, .int .i64 0, .int .i64 0] 49) := (h5.block v HH.out.2.2.2.1 (by have := HH.out; omega) (by have := HH.out; omega)).trans HH.out.2.2.2.2.1
  have v0 : w1.cell? ⟨v, 0, none⟩ = some (.int .i64 0) := by simp [World.cell?, hv]
  have z0 : w1.frozen? ⟨v, 0, none⟩ = false := by simp [World.frozen?, hv]
  have v1 : w1.cell? ⟨v, 1, none⟩ = some (.int .i64 0) := by simp [World.cell?, hv]
  have z1 : w1.frozen? ⟨v, 1, none⟩ = false := by simp [World.frozen?, hv]
  have v2 : w1.cell? ⟨v, 2, none⟩ = some (.int .i64 0) := by simp [World.cell?, hv]
  have z2 : w1.frozen? ⟨v, 2, none⟩ = false := by simp [World.frozen?, hv]
  have v3 : w1.cell? ⟨v, 3, none⟩ = some (.int .i64 0) := by simp [World.cell?, hv]
  have z3 : w1.frozen? ⟨v, 3, none⟩ = false := by simp [World.frozen?, hv]
  have v4 : w1.cell? ⟨v, 4, none⟩ = some (.int .i64 0) := by simp [World.cell?, hv]
  have z4 : w1.frozen? ⟨v, 4, none⟩ = false := by simp [World.frozen?, hv]
  have v5 : w1.cell? ⟨v, 5, none⟩ = some (.int .i64 0) := by simp [World.cell?, hv]
  have z5 : w1.frozen? ⟨v, 5, none⟩ = false := by simp [World.frozen?, hv]
  have hw : w.heap.size ≤ v := by rw [HE.out.2]; exact Nat.le_refl v
  have HR : Hid (RingsP w r g xs ((((((((((((w1).setCell ⟨v, 0, none⟩ (.int .i64 a0))).setCell ⟨v, 1, none⟩ (.int .i64 a1))).setCell ⟨v, 2, none⟩ (.int .i64 a2))).setCell ⟨v, 3, none⟩ (.int .i64 a3))).setCell ⟨v, 4, none⟩ (.int .i64 a4))).setCell ⟨v, 5, none⟩ (.int .i64 a5))) := by
    have hg' : g' ≠ v := by
      have := HH.out
      rcases h6 with e | e | e <;> omega
    have k0 : Chg w w1 r g := (Chg.of_below HH.out.2.1 r g).trans h5 (.inl rfl)
    refine ⟨g', N', f', h4.of_blocks ?_ ?_, ?_, ?_⟩
    · have hrv : r ≠ v := by have := HH.out; omega
      iterate 6 rw [setV_ne hrv]
    · iterate 6 rw [setV_ne hg']
    · exact ((((((k0.setV hw _ _).setV hw _ _).setV hw _ _).setV hw _ _).setV hw _ _).setV hw _ _)
    rcases h6 with e | e | e
    · exact .inl e
    · exact .inr (.inl e)
    exact .inr (.inr (Nat.le_trans HH.out.2.1.size e))
  clear h4 h5 h6 hv
  rw [show (⟨a0, a1, a2, a3, a4, a5⟩ : Pk).val = .agg #[.int .i64 a0, .int .i64 a1, .int .i64 a2, .int .i64 a3, .int .i64 a4, .int .i64 a5] from rfl]
  go_wp2_with fail
  exact bodyPost_ret (v := .tuple #[.agg #[.int .i64 a0, .int .i64 a1, .int .i64 a2, .int .i64 a3, .int .i64 a4, .int .i64 a5], .bool true]) (by simp [results, Try.results33, go_sem, *]) rfl ⟨rfl, HR.out⟩
set_option maxHeartbeats 2000000 in
theorem popBackP_yes (r g N f : Nat) (x : Pk) (xs : List Pk) (w : World) (h : RP w r g N f (xs ++ [x]).length (xs ++ [x])) : Calls Try.prog 36 #[.pointer (some ⟨r, 0, none⟩)] w fun e w' => e = .returned (.tuple #[x.val, .bool true]) ∧ RingsP w r g xs w' := by
  obtain ⟨a0, a1, a2, a3, a4, a5⟩ := x
  obtain ⟨W, hW⟩ : ∃ W, W = w.alloc (.cells #[.int .i64 0, .int .i64 0, .int .i64 0, .int .i64 0, .int .i64 0, .int .i64 0] 49) := ⟨_, rfl⟩
  obtain ⟨v, ev⟩ : ∃ v, v = w.heap.size := ⟨_, rfl⟩
  have B0 : Below w.heap.size w W := by rw [hW]; exact (Below.refl _ _).alloc (Nat.le_refl _) _
  have hB : W.heap[v]? = some (.cells #[.int .i64 0, .int .i64 0, .int .i64 0, .int .i64 0, .int .i64 0, .int .i64 0] 49) := by rw [hW, ev]; exact (MapKept.heap_alloc _ _).1
  have h' := h.mono B0
  have hl := h'.lim
  have hc := h'.cl
  obtain ⟨n, en⟩ : ∃ n, n = xs.length := ⟨_, rfl⟩
  have HN : Hid (n = xs.length) := en
  have c2 := h'.c2
  rw [show (xs ++ [(⟨a0, a1, a2, a3, a4, a5⟩ : Pk)]).length = n + 1 by simp [en]] at c2 hc
  have cA : (w.alloc (.cells #[.int .i64 0, .int .i64 0, .int .i64 0, .int .i64 0, .int .i64 0, .int .i64 0] 49)).cell? ⟨r, 2, none⟩ = some (.int .i64 ((n + 1 : Nat) : Int)) := by rw [← hW]; exact c2
  have w1' : ((n + 1 : Nat) : Int) - 1 = (n : Int) := by omega
  have w2' : IntKind.i64.wrap (n : Int) = (n : Int) := by rw [IntKind.wrap_i64]; omega
  have HH : Hid (RP W r g N f (xs ++ [(⟨a0, a1, a2, a3, a4, a5⟩ : Pk)]).length (xs ++ [(⟨a0, a1, a2, a3, a4, a5⟩ : Pk)]) ∧ Below w.heap.size w W ∧ v = w.heap.size ∧ v < W.heap.size ∧ W.heap[v]? = some (.cells #[.int .i64 0, .int .i64 0, .int .i64 0, .int .i64 0, .int .i64 0, .int .i64 0] 49) ∧ r < v ∧ g < v) := ⟨h', B0, ev, (Array.getElem?_eq_some_iff.1 hB).1, hB, by rw [ev]; exact h.rlt, by rw [ev]; exact h.glt⟩
  have HE : Hid (w.alloc (.cells #[.int .i64 0, .int .i64 0, .int .i64 0, .int .i64 0, .int .i64 0, .int .i64 0] 49) = W ∧ w.heap.size = v) := ⟨hW.symm, ev.symm⟩
  clear h h' B0 hB hW ev en
  go_enter Try.func36, Try.ntmps36
  go_wp2_with fail
  rw [HE.out.1, HE.out.2]
  refine (takeP_last r g N f (⟨a0, a1, a2, a3, a4, a5⟩ : Pk) xs n HN.out W HH.out.1).mono ?_
  rintro e w1 ⟨rfl, g', N', f', h4, h5, h6⟩
  have hv : w1.heap[v]? = some (.cells #[.int .i64 0, .int .i64 0, .int .i64 0, .int .i64 0, .int .i64 0, .int .i64 0] 49) := (h5.block v HH.out.2.2.2.1 (by have := HH.out; omega) (by have := HH.out; omega)).trans HH.out.2.2.2.2.1
  have v0 : w1.cell? ⟨v, 0, none⟩ = some (.int .i64 0) := by simp [World.cell?, hv]
  have z0 : w1.frozen? ⟨v, 0, none⟩ = false := by simp [World.frozen?, hv]
  have v1 : w1.cell? ⟨v, 1, none⟩ = some (.int .i64 0) := by simp [World.cell?, hv]
  have z1 : w1.frozen? ⟨v, 1, none⟩ = false := by simp [World.frozen?, hv]
  have v2 : w1.cell? ⟨v, 2, none⟩ = some (.int .i64 0) := by simp [World.cell?, hv]
  have z2 : w1.frozen? ⟨v, 2, none⟩ = false := by simp [World.frozen?, hv]
  have v3 : w1.cell? ⟨v, 3, none⟩ = some (.int .i64 0) := by simp [World.cell?, hv]
  have z3 : w1.frozen? ⟨v, 3, none⟩ = false := by simp [World.frozen?, hv]
  have v4 : w1.cell? ⟨v, 4, none⟩ = some (.int .i64 0) := by simp [World.cell?, hv]
  have z4 : w1.frozen? ⟨v, 4, none⟩ = false := by simp [World.frozen?, hv]
  have v5 : w1.cell? ⟨v, 5, none⟩ = some (.int .i64 0) := by simp [World.cell?, hv]
  have z5 : w1.frozen? ⟨v, 5, none⟩ = false := by simp [World.frozen?, hv]
  have hw : w.heap.size ≤ v := by rw [HE.out.2]; exact Nat.le_refl v
  have HR : Hid (RingsP w r g xs ((((((((((((w1).setCell ⟨v, 0, none⟩ (.int .i64 a0))).setCell ⟨v, 1, none⟩ (.int .i64 a1))).setCell ⟨v, 2, none⟩ (.int .i64 a2))).setCell ⟨v, 3, none⟩ (.int .i64 a3))).setCell ⟨v, 4, none⟩ (.int .i64 a4))).setCell ⟨v, 5, none⟩ (.int .i64 a5))) := by
    have hg' : g' ≠ v := by
      have := HH.out
      rcases h6 with e | e | e <;> omega
    have k0 : Chg w w1 r g := (Chg.of_below HH.out.2.1 r g).trans h5 (.inl rfl)
    refine ⟨g', N', f', h4.of_blocks ?_ ?_, ?_, ?_⟩
    · have hrv : r ≠ v := by have := HH.out; omega
      iterate 6 rw [setV_ne hrv]
    · iterate 6 rw [setV_ne hg']
    · exact ((((((k0.setV hw _ _).setV hw _ _).setV hw _ _).setV hw _ _).setV hw _ _).setV hw _ _)
    rcases h6 with e | e | e
    · exact .inl e
    · exact .inr (.inl e)
    exact .inr (.inr (Nat.le_trans HH.out.2.1.size e))
  clear h4 h5 h6 hv
  rw [show (⟨a0, a1, a2, a3, a4, a5⟩ : Pk).val = .agg #[.int .i64 a0, .int .i64 a1, .int .i64 a2, .int .i64 a3, .int .i64 a4, .int .i64 a5] from rfl]
  go_wp2_with fail
  exact bodyPost_ret (v := .tuple #[.agg #[.int .i64 a0, .int .i64 a1, .int .i64 a2, .int .i64 a3, .int .i64 a4, .int .i64 a5], .bool true]) (by simp [results, Try.results36, go_sem, *]) rfl ⟨rfl, HR.out⟩
set_option maxHeartbeats 2000000 in
theorem frontP_yes (r g N f : Nat) (x : Pk) (xs : List Pk) (w : World) (h : RP w r g N f (x :: xs).length (x :: xs)) : Calls Try.prog 59 #[.pointer (some ⟨r, 0, none⟩)] w fun e w' => e = .returned (.tuple #[x.val, .bool true]) ∧ Below w.heap.size w w' := by
  obtain ⟨a0, a1, a2, a3, a4, a5⟩ := x
  obtain ⟨W, hW⟩ : ∃ W, W = w.alloc (.cells #[.int .i64 0, .int .i64 0, .int .i64 0, .int .i64 0, .int .i64 0, .int .i64 0] 49) := ⟨_, rfl⟩
  obtain ⟨v, ev⟩ : ∃ v, v = w.heap.size := ⟨_, rfl⟩
  have B0 : Below w.heap.size w W := by rw [hW]; exact (Below.refl _ _).alloc (Nat.le_refl _) _
  have hB : W.heap[v]? = some (.cells #[.int .i64 0, .int .i64 0, .int .i64 0, .int .i64 0, .int .i64 0, .int .i64 0] 49) := by rw [hW, ev]; exact (MapKept.heap_alloc _ _).1
  have h' := h.mono B0
  have hl := h'.lim
  have hc := h'.cl
  have HH : Hid (RP W r g N f ((⟨a0, a1, a2, a3, a4, a5⟩ : Pk) :: xs).length ((⟨a0, a1, a2, a3, a4, a5⟩ : Pk) :: xs) ∧ Below w.heap.size w W ∧ v = w.heap.size ∧ v < W.heap.size ∧ W.heap[v]? = some (.cells #[.int .i64 0, .int .i64 0, .int .i64 0, .int .i64 0, .int .i64 0, .int .i64 0] 49) ∧ r < v ∧ g < v) := ⟨h', B0, ev, (Array.getElem?_eq_some_iff.1 hB).1, hB, by rw [ev]; exact h.rlt, by rw [ev]; exact h.glt⟩
  have HE : Hid (w.alloc (.cells #[.int .i64 0, .int .i64 0, .int .i64 0, .int .i64 0, .int .i64 0, .int .i64 0] 49) = W ∧ w.heap.size = v) := ⟨hW.symm, ev.symm⟩
  clear h h' B0 hB hW ev 
  go_enter Try.func59, Try.ntmps59
  go_wp2_with fail
  rw [HE.out.1, HE.out.2]
  refine (atP_yes r g N f _ ((⟨a0, a1, a2, a3, a4, a5⟩ : Pk) :: xs) 0 0 W HH.out.1 rfl (by simp)).mono ?_
  rintro e w1 ⟨rfl, hb⟩
  have hv : w1.heap[v]? = some (.cells #[.int .i64 0, .int .i64 0, .int .i64 0, .int .i64 0, .int .i64 0, .int .i64 0] 49) := (hb.block v HH.out.2.2.2.1).trans HH.out.2.2.2.2.1
  have v0 : w1.cell? ⟨v, 0, none⟩ = some (.int .i64 0) := by simp [World.cell?, hv]
  have z0 : w1.frozen? ⟨v, 0, none⟩ = false := by simp [World.frozen?, hv]
  have v1 : w1.cell? ⟨v, 1, none⟩ = some (.int .i64 0) := by simp [World.cell?, hv]
  have z1 : w1.frozen? ⟨v, 1, none⟩ = false := by simp [World.frozen?, hv]
  have v2 : w1.cell? ⟨v, 2, none⟩ = some (.int .i64 0) := by simp [World.cell?, hv]
  have z2 : w1.frozen? ⟨v, 2, none⟩ = false := by simp [World.frozen?, hv]
  have v3 : w1.cell? ⟨v, 3, none⟩ = some (.int .i64 0) := by simp [World.cell?, hv]
  have z3 : w1.frozen? ⟨v, 3, none⟩ = false := by simp [World.frozen?, hv]
  have v4 : w1.cell? ⟨v, 4, none⟩ = some (.int .i64 0) := by simp [World.cell?, hv]
  have z4 : w1.frozen? ⟨v, 4, none⟩ = false := by simp [World.frozen?, hv]
  have v5 : w1.cell? ⟨v, 5, none⟩ = some (.int .i64 0) := by simp [World.cell?, hv]
  have z5 : w1.frozen? ⟨v, 5, none⟩ = false := by simp [World.frozen?, hv]
  have hw : w.heap.size ≤ v := by rw [HE.out.2]; exact Nat.le_refl v
  have HR : Hid (Below w.heap.size w ((((((((((((w1).setCell ⟨v, 0, none⟩ (.int .i64 a0))).setCell ⟨v, 1, none⟩ (.int .i64 a1))).setCell ⟨v, 2, none⟩ (.int .i64 a2))).setCell ⟨v, 3, none⟩ (.int .i64 a3))).setCell ⟨v, 4, none⟩ (.int .i64 a4))).setCell ⟨v, 5, none⟩ (.int .i64 a5))) :=
    ((((((HH.out.2.1.trans (hb.mono (by have := HH.out.2.1.size; omega))).setCell hw _).setCell hw _).setCell hw _).setCell hw _).setCell hw _).setCell hw _
  clear hb hv
  have hgv : ((⟨a0, a1, a2, a3, a4, a5⟩ : Pk) :: xs).getD 0 Pk.zero = (⟨a0, a1, a2, a3, a4, a5⟩ : Pk) := by rfl
  rw [hgv, show (⟨a0, a1, a2, a3, a4, a5⟩ : Pk).val = .agg #[.int .i64 a0, .int .i64 a1, .int .i64 a2, .int .i64 a3, .int .i64 a4, .int .i64 a5] from rfl]
  go_wp2_with fail
  exact bodyPost_ret (v := .tuple #[.agg #[.int .i64 a0, .int .i64 a1, .int .i64 a2, .int .i64 a3, .int .i64 a4, .int .i64 a5], .bool true]) (by simp [results, Try.results59, go_sem, *]) rfl ⟨rfl, HR.out⟩
set_option maxHeartbeats 2000000 in
theorem backP_yes (r g N f : Nat) (x : Pk) (xs : List Pk) (w : World) (h : RP w r g N f (xs ++ [x]).length (xs ++ [x])) : Calls Try.prog 35 #[.pointer (some ⟨r, 0, none⟩)] w fun e w' => e = .returned (.tuple #[x.val, .bool true]) ∧ Below w.heap.size w w' := by
  obtain ⟨a0, a1, a2, a3, a4, a5⟩ := x
  obtain ⟨W, hW⟩ : ∃ W, W = w.alloc (.cells #[.int .i64 0, .int .i64 0, .int .i64 0, .int .i64 0, .int .i64 0, .int .i64 0] 49) := ⟨_, rfl⟩
  obtain ⟨v, ev⟩ : ∃ v, v = w.heap.size := ⟨_, rfl⟩
  have B0 : Below w.heap.size w W := by rw [hW]; exact (Below.refl _ _).alloc (Nat.le_refl _) _
  have hB : W.heap[v]? = some (.cells #[.int .i64 0, .int .i64 0, .int .i64 0, .int .i64 0, .int .i64 0, .int .i64 0] 49) := by rw [hW, ev]; exact (MapKept.heap_alloc _ _).1
  have h' := h.mono B0
  have hl := h'.lim
  have hc := h'.cl
  obtain ⟨n, en⟩ : ∃ n, n = xs.length := ⟨_, rfl⟩
  have HN : Hid (n = xs.length) := en
  have c2 := h'.c2
  rw [show (xs ++ [(⟨a0, a1, a2, a3, a4, a5⟩ : Pk)]).length = n + 1 by simp [en]] at c2 hc
  have cA : (w.alloc (.cells #[.int .i64 0, .int .i64 0, .int .i64 0, .int .i64 0, .int .i64 0, .int .i64 0] 49)).cell? ⟨r, 2, none⟩ = some (.int .i64 ((n + 1 : Nat) : Int)) := by rw [← hW]; exact c2
  have w1' : ((n + 1 : Nat) : Int) - 1 = (n : Int) := by omega
  have w2' : IntKind.i64.wrap (n : Int) = (n : Int) := by rw [IntKind.wrap_i64]; omega
  have HH : Hid (RP W r g N f (xs ++ [(⟨a0, a1, a2, a3, a4, a5⟩ : Pk)]).length (xs ++ [(⟨a0, a1, a2, a3, a4, a5⟩ : Pk)]) ∧ Below w.heap.size w W ∧ v = w.heap.size ∧ v < W.heap.size ∧ W.heap[v]? = some (.cells #[.int .i64 0, .int .i64 0, .int .i64 0, .int .i64 0, .int .i64 0, .int .i64 0] 49) ∧ r < v ∧ g < v) := ⟨h', B0, ev, (Array.getElem?_eq_some_iff.1 hB).1, hB, by rw [ev]; exact h.rlt, by rw [ev]; exact h.glt⟩
  have HE : Hid (w.alloc (.cells #[.int .i64 0, .int .i64 0, .int .i64 0, .int .i64 0, .int .i64 0, .int .i64 0] 49) = W ∧ w.heap.size = v) := ⟨hW.symm, ev.symm⟩
  clear h h' B0 hB hW ev en
  go_enter Try.func35, Try.ntmps35
  go_wp2_with fail
  rw [HE.out.1, HE.out.2]
  refine (atP_yes r g N f _ (xs ++ [(⟨a0, a1, a2, a3, a4, a5⟩ : Pk)]) n n W HH.out.1 rfl (by rw [HN.out]; simp)).mono ?_
  rintro e w1 ⟨rfl, hb⟩
  have hv : w1.heap[v]? = some (.cells #[.int .i64 0, .int .i64 0, .int .i64 0, .int .i64 0, .int .i64 0, .int .i64 0] 49) := (hb.block v HH.out.2.2.2.1).trans HH.out.2.2.2.2.1
  have v0 : w1.cell? ⟨v, 0, none⟩ = some (.int .i64 0) := by simp [World.cell?, hv]
  have z0 : w1.frozen? ⟨v, 0, none⟩ = false := by simp [World.frozen?, hv]
  have v1 : w1.cell? ⟨v, 1, none⟩ = some (.int .i64 0) := by simp [World.cell?, hv]
  have z1 : w1.frozen? ⟨v, 1, none⟩ = false := by simp [World.frozen?, hv]
  have v2 : w1.cell? ⟨v, 2, none⟩ = some (.int .i64 0) := by simp [World.cell?, hv]
  have z2 : w1.frozen? ⟨v, 2, none⟩ = false := by simp [World.frozen?, hv]
  have v3 : w1.cell? ⟨v, 3, none⟩ = some (.int .i64 0) := by simp [World.cell?, hv]
  have z3 : w1.frozen? ⟨v, 3, none⟩ = false := by simp [World.frozen?, hv]
  have v4 : w1.cell? ⟨v, 4, none⟩ = some (.int .i64 0) := by simp [World.cell?, hv]
  have z4 : w1.frozen? ⟨v, 4, none⟩ = false := by simp [World.frozen?, hv]
  have v5 : w1.cell? ⟨v, 5, none⟩ = some (.int .i64 0) := by simp [World.cell?, hv]
  have z5 : w1.frozen? ⟨v, 5, none⟩ = false := by simp [World.frozen?, hv]
  have hw : w.heap.size ≤ v := by rw [HE.out.2]; exact Nat.le_refl v
  have HR : Hid (Below w.heap.size w ((((((((((((w1).setCell ⟨v, 0, none⟩ (.int .i64 a0))).setCell ⟨v, 1, none⟩ (.int .i64 a1))).setCell ⟨v, 2, none⟩ (.int .i64 a2))).setCell ⟨v, 3, none⟩ (.int .i64 a3))).setCell ⟨v, 4, none⟩ (.int .i64 a4))).setCell ⟨v, 5, none⟩ (.int .i64 a5))) :=
    ((((((HH.out.2.1.trans (hb.mono (by have := HH.out.2.1.size; omega))).setCell hw _).setCell hw _).setCell hw _).setCell hw _).setCell hw _).setCell hw _
  clear hb hv
  have hgv : (xs ++ [(⟨a0, a1, a2, a3, a4, a5⟩ : Pk)]).getD n Pk.zero = (⟨a0, a1, a2, a3, a4, a5⟩ : Pk) := by rw [HN.out]; simp
  rw [hgv, show (⟨a0, a1, a2, a3, a4, a5⟩ : Pk).val = .agg #[.int .i64 a0, .int .i64 a1, .int .i64 a2, .int .i64 a3, .int .i64 a4, .int .i64 a5] from rfl]
  go_wp2_with fail
  exact bodyPost_ret (v := .tuple #[.agg #[.int .i64 a0, .int .i64 a1, .int .i64 a2, .int .i64 a3, .int .i64 a4, .int .i64 a5], .bool true]) (by simp [results, Try.results35, go_sem, *]) rfl ⟨rfl, HR.out⟩
structure Fw where
  slot : Int
  gen : Int
  weight : Int
  quantum : Int
  queue : Nat
  bytes : Int
  kept : Int
def Fw.cell (x : Fw) : Nat → Value
  | 0 => .int .i64 x.slot
  | 1 => .int .i64 x.gen
  | 2 => .int .i64 x.weight
  | 3 => .int .i64 x.quantum
  | 4 => .pointer (some ⟨x.queue, 0, none⟩)
  | 5 => .int .i64 x.bytes
  | _ => .int .i64 x.kept
def Fl (w : World) (b : Nat) (x : Fw) : Prop := w.rowIs b 74 7 x.cell
set_option maxHeartbeats 2000000 in
theorem vain_any (b : Nat) (y : Fw) (g N f : Nat) (x : Pk) (xs : List Pk) (w : World) (hF : Fl w b y) (h : RP w y.queue g N f (x :: xs).length (x :: xs)) (hq : 0 < y.quantum) (hs0 : -2147483648 ≤ x.size) (hs1 : x.size ≤ 2147483648) (hk0 : -2147483648 ≤ y.kept) (hk1 : y.kept ≤ 2147483648) :
    Calls Try.prog 48 #[.pointer (some ⟨b, 0, none⟩)] w fun e w' => e = .returned (.int .i64 (Int.tdiv (x.size - y.kept - 1) y.quantum)) ∧ Below w.heap.size w w' := by
  obtain ⟨a0, a1, a2, a3, a4, a5⟩ := x
  obtain ⟨s, gn, wt, q, qr, by', kp⟩ := y
  have c3 : w.cell? ⟨b, 3, none⟩ = some (.int .i64 q) := World.rowIs.cell hF (i := 3) (by omega)
  have c4 : w.cell? ⟨b, 4, none⟩ = some (.pointer (some ⟨qr, 0, none⟩)) := World.rowIs.cell hF (i := 4) (by omega)
  have c6 : w.cell? ⟨b, 6, none⟩ = some (.int .i64 kp) := World.rowIs.cell hF (i := 6) (by omega)
  have hbl : b < w.heap.size := World.rowIs.lt hF
  have HH : Hid (RP w qr g N f ((⟨a0, a1, a2, a3, a4, a5⟩ : Pk) :: xs).length ((⟨a0, a1, a2, a3, a4, a5⟩ : Pk) :: xs)) := h
  have e1 : IntKind.i64.wrap (a3 - kp) = a3 - kp := by rw [IntKind.wrap_i64]; simp only at hs0 hs1 hk0 hk1; omega
  have e2 : IntKind.i64.wrap (a3 - kp - 1) = a3 - kp - 1 := by rw [IntKind.wrap_i64]; simp only at hs0 hs1 hk0 hk1; omega
  have e3 : IntKind.i64.wrap ((a3 - kp - 1).tdiv q) = (a3 - kp - 1).tdiv q := wrap_i64_tdiv _ _ (by simp only at hs0 hs1 hk0 hk1; omega) (by simp only at hs0 hs1 hk0 hk1; omega) (by simp only at hq; omega)
  have hq0 : ¬ q = 0 := by simp only at hq; omega
  clear hF h hs0 hs1 hk0 hk1
  go_enter Try.func48, Try.ntmps48
  go_wp2_with fail
  refine (frontP_yes qr g N f ⟨a0, a1, a2, a3, a4, a5⟩ xs w HH.out).mono ?_
  rintro e w1 ⟨rfl, hb⟩
  have d3 := cell_later hb c3
  have d4 := cell_later hb c4
  have d6 := cell_later hb c6
  rw [show (⟨a0, a1, a2, a3, a4, a5⟩ : Pk).val = .agg #[.int .i64 a0, .int .i64 a1, .int .i64 a2, .int .i64 a3, .int .i64 a4, .int .i64 a5] from rfl]
  have HB : Hid (Below w.heap.size w w1) := hb
  have hbl2 : b < w1.heap.size := Nat.lt_of_lt_of_le hbl hb.size
  clear hb c3 c4 c6
  obtain ⟨v, ev⟩ : ∃ v, v = w1.heap.size := ⟨_, rfl⟩
  have HV : Hid (w1.heap.size = v) := ev.symm
  obtain ⟨W, hW⟩ : ∃ W, W = (w1.alloc (.cells #[.int .i64 a0, .int .i64 a1, .int .i64 a2, .int .i64 a3, .int .i64 a4, .int .i64 a5] 49)) := ⟨_, rfl⟩
  have HW : Hid ((w1.alloc (.cells #[.int .i64 a0, .int .i64 a1, .int .i64 a2, .int .i64 a3, .int .i64 a4, .int .i64 a5] 49)) = W) := hW.symm
  have k0 : Below w1.heap.size w1 W := by rw [hW]; exact (Below.refl _ _).alloc (Nat.le_refl _) _
  have hB : W.heap[v]? = some (.cells #[.int .i64 a0, .int .i64 a1, .int .i64 a2, .int .i64 a3, .int .i64 a4, .int .i64 a5] 49) := by rw [hW, ev]; exact (MapKept.heap_alloc _ _).1
  have v3 : W.cell? ⟨v, 3, none⟩ = some (.int .i64 a3) := by simp [World.cell?, hB]
  have f3 := cell_later k0 d3
  have f6 := cell_later k0 d6
  have HK : Hid (Below w.heap.size w W) := HB.out.trans (k0.mono HB.out.size)
  clear d3 d4 d6 k0 hB hW ev
  go_wp2_with fail
  rw [HW.out, HV.out]
  go_quiet (fail)
  go_wp2_with fail
  go_ret
  exact ⟨rfl, bel_drewN HK.out _⟩
def Rp (v : Value) : Option (DataW Unit × List MemPlace) := match v with
  | .pointer none => some (.lit (.bool false), [])
  | .pointer (some ⟨b, 0, none⟩) => some (.lit (.int .i64 (b : Int)), [])
  | _ => none
def pV : Option Nat → Value
  | none => .pointer none
  | some b => .pointer (some ⟨b, 0, none⟩)
def pD : Option Nat → DataW Unit
  | none => .lit (.bool false)
  | some b => .lit (.int .i64 (b : Int))
theorem Rp_mk (o : Option Nat) : Rp (pV o) = some (pD o, []) := by cases o <;> rfl
theorem Rp_inv {v : Value} {o : Option Nat} {ps : List MemPlace} (h : Rp v = some (pD o, ps)) : v = pV o := by
  unfold Rp at h
  split at h
  · cases o with
    | none => rfl
    | some b => simp [pD] at h
  · cases o with
    | none => simp [pD] at h
    | some b =>
      simp [pD] at h
      simp [pV]
  cases h
def updI {α : Type} (g : Int → α) (i : Int) (x : α) : Int → α := fun j => if j = i then x else g j
def Mp (W : World) (mb nn : Nat) (g : Int → Option Nat) : Prop :=
  ∃ D : DataW Unit, W.ownsMap Try.prog 3 Rp mb nn D ∧ ∀ i : Int, D.atKey (.int .i64 i) (.lit (.bool false)) = pD (g i)
theorem wf64 {i : Int} (h : -9223372036854775808 ≤ i) (h2 : i ≤ 9223372036854775807) : (Lit.int .i64 i).wf = true := by
  have hmin : IntKind.i64.min = -9223372036854775808 := rfl
  have hmax : IntKind.i64.max = 9223372036854775807 := rfl
  have : IntKind.i64.min ≤ i ∧ i ≤ IntKind.i64.max := by rw [hmin, hmax]; exact ⟨h, h2⟩
  simpa [Lit.wf] using this
theorem Mp.kept {W W' : World} {mb nn : Nat} {g : Int → Option Nat} (h : Mp W mb nn g) (hk : W'.heap[mb]? = W.heap[mb]?) : Mp W' mb nn g := by
  obtain ⟨D, ⟨es, clock, hb, r⟩, hD⟩ := h
  exact ⟨D, ⟨es, clock, hk.trans hb, r⟩, hD⟩
theorem Mp.block {W : World} {mb nn : Nat} {g : Int → Option Nat} (h : Mp W mb nn g) : ∃ es clock, W.heap[mb]? = some (.map es clock) := by
  obtain ⟨D, ⟨es, clock, hb, r⟩, hD⟩ := h
  exact ⟨_, _, hb⟩
theorem Mp.mono {W : World} {mb nn n' : Nat} {g : Int → Option Nat} (h : Mp W mb nn g) (hn : nn ≤ n') : Mp W mb n' g := by
  obtain ⟨D, hD, r⟩ := h
  exact ⟨D, hD.mono hn, r⟩
theorem Mp.made (W : World) : Mp (W.alloc (.map #[] 0)) W.heap.size 0 (fun _ => none) := ⟨.map [], World.ownsMap_made _ _ _ _, fun _ => rfl⟩
theorem Mp.look {W : World} {mb nn : Nat} {g : Int → Option Nat} (h : Mp W mb nn g) {t e : TypeId} (ht : Try.prog.underlying t = some (.map 3 e)) (hz : (zeroValue e).run Try.prog W = .ok (.pointer none) W) {i : Int} (h1 : -9223372036854775808 ≤ i) (h2 : i ≤ 9223372036854775807) :
    (Instr.lookup t (.map (some mb)) (.int .i64 i) false).run Try.prog W = .ok (pV (g i)) W := by
  obtain ⟨D, hD, r⟩ := h
  obtain ⟨v, ps, hr, hv⟩ := hD.lookup (Maps.int_keyed Try.underlying3) ht hz (zd := .lit (.bool false)) (zp := []) rfl (Maps.keyOf_int_mk Try.underlying3 (wf64 h1 h2))
  rw [r i] at hv
  rw [hr, Rp_inv hv]
theorem Mp.store {W : World} {mb nn : Nat} {g : Int → Option Nat} (h : Mp W mb nn g) (hn : nn < 1099511627776) {t e : TypeId} (ht : Try.prog.underlying t = some (.map 3 e)) {i : Int} (h1 : -9223372036854775808 ≤ i) (h2 : i ≤ 9223372036854775807) (b : Nat) :
    ∃ W', (Instr.mapUpdate t (.map (some mb)) (.int .i64 i) (.pointer (some ⟨b, 0, none⟩))).run Try.prog W = .ok () W' ∧ Mp W' mb (nn + 1) (updI g i (some b)) ∧ W.grownBy W' (some mb) := by
  obtain ⟨D, hD, r⟩ := h
  obtain ⟨W', hr, h3, h4⟩ := hD.store (Maps.int_keyed Try.underlying3) ht (by simp only [maxLen]; omega) (Maps.keyOf_int_mk Try.underlying3 (wf64 h1 h2)) (Rp_mk (some b))
  refine ⟨W', hr, ⟨_, h3, fun j => ?_⟩, h4.grown⟩
  unfold updI
  split <;> rename_i c
  · rw [c]
    exact Maps.atKey_put_same hD.isMap (by simp [WideAt.IsKeyLit]) _ _
  rw [Maps.atKey_put_other (by intro e; injection e with _ e; exact c e)]
  exact r j
theorem Mp.drop {W : World} {mb nn : Nat} {g : Int → Option Nat} (h : Mp W mb nn g) {t e : TypeId} (ht : Try.prog.underlying t = some (.map 3 e)) {i : Int} (h1 : -9223372036854775808 ≤ i) (h2 : i ≤ 9223372036854775807) (ty : TypeId) :
    ∃ W', (Builtin.delete_ #[t, 3] ty #[.map (some mb), .int .i64 i]).run Try.prog W = .ok (.tuple #[]) W' ∧ Mp W' mb nn (updI g i none) ∧ W.grownBy W' (some mb) := by
  obtain ⟨D, hD, r⟩ := h
  obtain ⟨W', hr, h3, h4⟩ := hD.drop (Maps.int_keyed Try.underlying3) ht (Maps.keyOf_int_mk Try.underlying3 (wf64 h1 h2)) ty
  refine ⟨W', hr, ⟨_, h3, fun j => ?_⟩, h4.grown⟩
  unfold updI
  split <;> rename_i c
  · rw [c]
    exact Maps.atKey_del_same _
  rw [Maps.atKey_del_other (by intro e; injection e with _ e; exact c e)]
  exact r j
abbrev RF (w : World) (r g N f c : Nat) (xs : List (Option Addr)) : Prop := Rw Value.pointer (none : Option Addr) 92 71 w r g N f c xs
set_option maxHeartbeats 1000000 in
theorem indexF_any (r g N f c : Nat) (xs : List (Option Addr)) (i : Int) (k : Nat) (w : World) (h : RF w r g N f c xs) (hN : 0 < N) (hi : -1 ≤ i) (hi2 : i ≤ N) (hk : k < N) (e : ((k : Nat) : Int) = ((f : Int) + i) % (N : Int)) :
    Calls Try.prog 43 #[.pointer (some ⟨r, 0, none⟩), .int .i64 i] w fun e w' => e = .returned (.int .i64 (k : Int)) ∧ ∃ n, w' = w.drewN n := by
  have c0 := h.c0 hN
  have c1 := h.c1
  have hf := h.fl hN
  have hl := h.lim
  obtain ⟨p, hp⟩ := h.pow hN
  have hp40 : p + 2 ≤ 40 := by
    rcases Nat.lt_or_ge 40 (p + 2) with h' | h'
    · have : 2 ^ 41 ≤ 2 ^ (p + 2) := Nat.pow_le_pow_right (by decide) h'
      omega
    exact h'
  have hm := i64_mask ((f : Int) + i) (p + 2) hp40 ((N : Int) - 1) (by rw [hp])
  rw [← hp, ← e] at hm
  have HH : Hid (RF w r g N f c xs) := h
  clear h hp hp40 e
  go_enter Try.func43, Try.ntmps43
  go_wp2_with fail
  go_quiet (fail)
  go_wp2_with fail
  go_ret
  exact ⟨rfl, nq, rfl⟩
set_option maxHeartbeats 1000000 in
theorem emptyF_any (r g N f c : Nat) (xs : List (Option Addr)) (i : Nat) (w : World) (h : RF w r g N f c xs) (hi : i < N) :
    Calls Try.prog 70 #[.pointer (some ⟨r, 0, none⟩), .int .i64 (i : Int)] w fun e w' => e = .returned (.tuple #[]) ∧ RF w' r g N f c (xs.set i (none : Option Addr)) ∧ Chg w w' r g := by
  have hN : 0 < N := by omega
  have c0 := h.c0 hN
  have hf := h.fl hN
  have hl := h.lim
  have hne := h.ne hN
  obtain ⟨k, ek⟩ : ∃ k, k = (f + i) % N := ⟨_, rfl⟩
  have hk : k < N := by rw [ek]; exact Nat.mod_lt _ hN
  have ck := h.at hi
  have fk := h.fg hN k
  rw [← ek] at ck
  have IX := fun w' nd (e : w' = w.drewN nd) => indexF_any r g N f c xs (i : Int) k w' (by rw [e]; exact h.of_blocks rfl rfl) hN (by omega) (by omega) hk (by rw [ek]; simp)
  have FI : ∀ nd, RF ((w.drewN nd).setCell ⟨g, k, none⟩ (.pointer none)) r g N f c (xs.set i (none : Option Addr)) ∧ Chg w ((w.drewN nd).setCell ⟨g, k, none⟩ (.pointer none)) r g := fun nd => by
    refine ⟨?_, ((Chg.refl w r g).drewN nd).setG k _⟩
    have := (show RF (w.drewN nd) r g N f c xs from h.of_blocks rfl rfl).set hi (none : Option Addr) (ys := xs.set i (none : Option Addr)) (by simpa using h.len) (fun j hj => by
      rcases Nat.lt_or_ge i xs.length with e | e
      · exact getD_set _ _ _ _ e j
      rw [List.set_eq_of_length_le e]
      split
      · rename_i e2
        subst e2
        simp [e]
      rfl)
    rw [← ek] at this
    exact this
  have FH : Hid _ := FI
  have IH : Hid _ := IX
  clear h ek FI IX
  go_enter Try.func70, Try.ntmps70
  go_wp2_with fail
  go_region_held3 (fun w' => w'.cell? ⟨r, 0, none⟩ = some (.slice (some ⟨g, 0, none⟩) N N)) (first | (simp [go_sem, *]; done) | (trace_state; fail))
    (first
      | (go_at_call 43; refine Calls.mono (IH.out _ _ rfl) ?_; rintro e w1 ⟨rfl, n, rfl⟩))
  go_wp2_with fail
  refine bodyPost_end (v := .tuple #[]) (by simp [results, Try.results70, go_sem]) rfl ⟨rfl, FH.out _⟩
theorem emptyF_at (r g N f c : Nat) (xs : List (Option Addr)) (j : Nat) (i : Int) (w : World) (h : RF w r g N f c xs) (hi : i = j) (hj : j < N) :
    Calls Try.prog 70 #[.pointer (some ⟨r, 0, none⟩), .int .i64 i] w fun e w' => e = .returned (.tuple #[]) ∧ RF w' r g N f c (xs.set j (none : Option Addr)) ∧ Chg w w' r g := by
  subst hi
  exact emptyF_any r g N f c xs j w h hj
theorem Try.infoF : (Try.prog.info? 71).map (fun i => (i.zero, i.size, i.bytes)) = some (some (.pointer none), 1, 8) := by kernel_rfl
theorem makeF_at (L C : Int) (n m : Nat) (hL : L = n) (hC : C = m) (hnm : n ≤ m) (hm : m ≤ 1099511627776) (w : World) :
    (Instr.makeSlice 89 (.int .i64 L) (.int .i64 C)).run Try.prog w = .ok (.slice (some ⟨w.heap.size, 0, none⟩) n m) (w.alloc (.cells (madeCells #[(.pointer none)] m) 71)) := by
  obtain ⟨i, hi, hz, hs, hb⟩ := info_parts Try.infoF
  subst hL hC
  rw [run_make w 89 71 i (.pointer none) Try.underlying89 hi hz .i64 .i64 n m (by omega) (by omega) (by rw [hb]; omega) (by omega), hs]
  simp [Value.cells]
theorem cutF (p : Option Addr) (len cap l n : Nat) (h2 : l + n ≤ cap) : ∃ q : Option Addr, (∀ b, p = some ⟨b, 0, none⟩ → l < cap → q = some ⟨b, l, none⟩) ∧
    ∀ (L H : Int) (w : World), L = l → H = (l : Int) + n → (Instr.slice 89 (.slice p len cap) (some (.int .i64 L)) (some (.int .i64 H)) none).run Try.prog w = .ok (.slice q n (cap - l)) w := by
  refine ⟨if cap = l then p else p.map (·.add l), fun b e h3 => ?_, fun L H w eL eH => ?_⟩
  · subst e
    rw [if_neg (by omega)]
    simp only [Option.map_some, Option.some.injEq]
    unfold Addr.add
    split <;> simp_all
  subst eL eH
  rw [run_slice_lh (P := Try.prog) (kl := .i64) (kh := .i64) (l := (l : Int)) (h := (l : Int) + n) (ht := by kernel_rfl) (h0 := by omega) (h1 := by omega) (h2 := by omega)]
  have hz : (sizeOf (Try.prog.elem 89)).run Try.prog w = .ok 1 w := by kernel_rfl
  rw [hz]
  rw [show ((l : Int) + (n : Int)).toNat = l + n by omega]
  simp only [Result.andThen, sliced, Int.toNat_natCast, Nat.mul_one, Nat.add_sub_cancel_left]
theorem fromF (p : Option Addr) (len cap l : Nat) (h1 : l ≤ len) : ∃ q : Option Addr, (∀ b, p = some ⟨b, 0, none⟩ → l < cap → q = some ⟨b, l, none⟩) ∧
    ∀ (L : Int) (w : World), L = l → (Instr.slice 89 (.slice p len cap) (some (.int .i64 L)) none none).run Try.prog w = .ok (.slice q (len - l) (cap - l)) w := by
  refine ⟨if cap = l then p else p.map (·.add l), fun b e h3 => ?_, fun L w eL => ?_⟩
  · subst e
    rw [if_neg (by omega)]
    simp only [Option.map_some, Option.some.injEq]
    unfold Addr.add
    split <;> simp_all
  subst eL
  rw [run_slice_l (P := Try.prog) (kl := .i64) (l := (l : Int)) (ht := by kernel_rfl) (h0 := by omega) (h1 := by omega)]
  have hz : (sizeOf (Try.prog.elem 89)).run Try.prog w = .ok 1 w := by kernel_rfl
  rw [hz]
  simp only [Result.andThen, sliced, Int.toNat_natCast, Nat.mul_one]
theorem uptoF (p : Option Addr) (len cap h : Nat) (h2 : h ≤ cap) : ∃ q : Option Addr, (∀ b, p = some ⟨b, 0, none⟩ → 0 < cap → q = some ⟨b, 0, none⟩) ∧
    ∀ (H : Int) (w : World), H = h → (Instr.slice 89 (.slice p len cap) none (some (.int .i64 H)) none).run Try.prog w = .ok (.slice q h cap) w := by
  refine ⟨if cap = 0 then p else p.map (·.add 0), fun b e h3 => ?_, fun H w eH => ?_⟩
  · subst e
    rw [if_neg (by omega)]
    simp only [Option.map_some, Option.some.injEq]
    unfold Addr.add
    split <;> simp_all
  subst eH
  rw [run_slice_h (P := Try.prog) (kh := .i64) (h := (h : Int)) (ht := by kernel_rfl) (h0 := by omega) (h2 := by omega)]
  have hz : (sizeOf (Try.prog.elem 89)).run Try.prog w = .ok 1 w := by kernel_rfl
  rw [hz]
  simp only [Result.andThen, sliced, Int.toNat_natCast, Nat.zero_mul, Nat.sub_zero]
theorem sizeF : (Try.prog.info? 71).map (·.size) = some 1 := by kernel_rfl
set_option maxHeartbeats 2000000 in
theorem rowF_any (r g N f c m : Nat) (xs : List (Option Addr)) (w : World) (h : RF w r g N f c xs) (hc : xs.length = c) (hm : c ≤ m) (hm2 : m ≤ 1099511627776) :
    Calls Try.prog 40 #[.pointer (some ⟨r, 0, none⟩), .int .i64 (m : Int)] w fun e w' => e = .returned (.slice (some ⟨w.heap.size, 0, none⟩) m m) ∧ w'.rowIs w.heap.size 71 m (fun j => Value.pointer (xs.getD j (none : Option Addr))) ∧ Below w.heap.size w w' := by
  obtain ⟨p, ep⟩ : ∃ p, p = pt g N := ⟨_, rfl⟩
  have c0 : w.cell? ⟨r, 0, none⟩ = some (.slice p N N) := by rw [ep]; exact h.hd.cell (i := 0) (by omega)
  have c1 := h.c1
  have c2 := h.c2
  have hf := h.fl'
  have hl := h.lim
  have hcN := h.cl
  obtain ⟨fr, hfr⟩ : ∃ fr, fr = min c (N - f) := ⟨_, rfl⟩
  have hfr1 : fr ≤ c := by omega
  have hfr2 : f + fr ≤ N := by omega
  have hfr3 : fr < c → N = f + fr := by omega
  have mn : (if (N : Int) - (f : Int) < (c : Int) then (N : Int) - (f : Int) else (c : Int)) = (fr : Int) := by split <;> omega
  have wr1 : IntKind.i64.wrap ((f : Int) + (fr : Int)) = (f : Int) + (fr : Int) := by rw [IntKind.wrap_i64]; omega
  have wr2 : IntKind.i64.wrap ((c : Int) - (fr : Int)) = (c : Int) - (fr : Int) := by rw [IntKind.wrap_i64]; omega
  obtain ⟨q1, hq1, s1⟩ := cutF p N N f fr hfr2
  obtain ⟨q2, hq2, s2⟩ := fromF (some ⟨w.heap.size, 0, none⟩) m m fr (by omega)
  obtain ⟨q3, hq3, s3⟩ := uptoF p N N (c - fr) (by omega)
  have S1 := fun w' => s1 (f : Int) ((f : Int) + (fr : Int)) w' rfl rfl
  have S2 := fun w' => s2 (fr : Int) w' rfl
  have S3 := fun w' => s3 ((c : Int) - (fr : Int)) w' (by omega)
  have mk := makeF_at (m : Int) (m : Int) m m rfl rfl (Nat.le_refl _) hm2
  have C1 : 0 < fr → q1 = some ⟨g, f, none⟩ ∧ ∀ j, j < fr → w.cell? ((⟨g, f, none⟩ : Addr).add j) = some (Value.pointer (xs.getD j (none : Option Addr))) := fun h0 => by
    have hN : 0 < N := by omega
    refine ⟨hq1 g (by rw [ep, pt_pos hN]) (by omega), fun j hj => ?_⟩
    have := h.at (i := j) (by omega)
    rw [Nat.mod_eq_of_lt (by omega)] at this
    rw [addr_add]
    exact this
  have C2 : 0 < c - fr → q3 = some ⟨g, 0, none⟩ ∧ ∀ j, j < c - fr → w.cell? ((⟨g, 0, none⟩ : Addr).add j) = some (Value.pointer (xs.getD (fr + j) (none : Option Addr))) := fun h0 => by
    have hN : 0 < N := by omega
    have hf := h.fl hN
    have hN2 : N = f + fr := hfr3 (by omega)
    refine ⟨hq3 g (by rw [ep, pt_pos hN]) hN, fun j hj => ?_⟩
    have := h.at (i := fr + j) (by omega)
    rw [show f + (fr + j) = j + N by omega, Nat.add_mod_right, Nat.mod_eq_of_lt (show j < N by omega)] at this
    rw [addr_add, Nat.zero_add]
    exact this
  have D2 : 0 < c - fr → q2 = some ⟨w.heap.size, fr, none⟩ := fun h0 => hq2 _ rfl (by omega)
  have B0 : Below w.heap.size w (w.alloc (.cells (madeCells #[(.pointer none)] m) 71)) := (Below.refl _ _).alloc (Nat.le_refl _) _
  have R0 := World.rowIs_made w (.pointer none) m 71
  have e0 : (w.alloc (.cells (madeCells #[(.pointer none)] m) 71)).cell? ⟨r, 0, none⟩ = some (.slice p N N) := cell_later B0 c0
  have e1 := cell_later B0 c1
  have e2 := cell_later B0 c2
  have hrl := h.rlt
  have HH : Hid (RF w r g N f c xs ∧ xs.length = c) := ⟨h, hc⟩
  have K1 : Hid _ := C1
  have K2 : Hid _ := C2
  have K3 : Hid _ := D2
  have K4 : Hid (Below w.heap.size w (w.alloc (.cells (madeCells #[(.pointer none)] m) 71))) := B0
  have K5 : Hid ((w.alloc (.cells (madeCells #[(.pointer none)] m) 71)).rowIs w.heap.size 71 m (fun _ => (.pointer none))) := R0
  clear h hc ep hfr hfr3 hq1 hq2 hq3 s1 s2 s3 C1 C2 D2 B0 R0
  go_enter Try.func40, Try.ntmps40
  go_wp2_with fail
  go_quiet (fail)
  go_wp2_with fail
  go_region_held3 (fun w' => w'.cell? ⟨r, 0, none⟩ = some (.slice p N N) ∧ w'.cell? ⟨r, 1, none⟩ = some (.int .i64 (f : Int)) ∧ w'.cell? ⟨r, 2, none⟩ = some (.int .i64 (c : Int))) (first | (simp [go_sem, *]; done) | (trace_state; fail))
    (first
      | (refine step_copy rfl (.tmp 24) (.tmp 39) 89 89 rfl 71 Try.underlying89 sizeF _ _ _ _ _ _ rfl rfl w.heap.size 0 m (fun _ => (.pointer none)) (fun j => Value.pointer (xs.getD j (none : Option Addr))) 71 K5.out (by omega) (fun h0 => ⟨rfl, _, (K1.out h0).1, fun j hj => cell_later (bel_drew (bel_drewN K4.out _)) ((K1.out h0).2 j hj)⟩) (by omega) (fun _ => rfl) w.heap.size w (bel_drew (bel_drewN K4.out _)) (Nat.le_refl _) ?_; intro w4 H4; have x0 := cell_later H4.out.2 c0; have x1 := cell_later H4.out.2 c1; have x2 := cell_later H4.out.2 c2))
  clear e0 e1 e2 S1
  go_wp2_with fail
  go_region_held3 (fun w' => w'.cell? ⟨r, 0, none⟩ = some (.slice p N N) ∧ w'.cell? ⟨r, 1, none⟩ = some (.int .i64 (f : Int)) ∧ w'.cell? ⟨r, 2, none⟩ = some (.int .i64 (c : Int))) (first | (simp [go_sem, *]; done) | (trace_state; fail))
    (first
      | (refine step_copy rfl (.tmp 43) (.tmp 54) 89 89 rfl 71 Try.underlying89 sizeF _ _ _ _ _ _ rfl rfl w.heap.size fr m (laid (fun _ => (.pointer none)) 0 (fun j => Value.pointer (xs.getD j (none : Option Addr))) fr) (fun j => Value.pointer (xs.getD (fr + j) (none : Option Addr))) 71 H4.out.1 (by omega) (fun h0 => ⟨K3.out h0, _, (K2.out h0).1, fun j hj => cell_later (bel_drew H4.out.2) ((K2.out h0).2 j hj)⟩) (by omega) (fun _ => rfl) w.heap.size w (bel_drew H4.out.2) (Nat.le_refl _) ?_; intro w5 H5; have y0 := cell_later H5.out.2 c0; have y1 := cell_later H5.out.2 c1; have y2 := cell_later H5.out.2 c2))
  go_wp2_with fail
  go_ret
  refine ⟨rfl, H5.out.1.congr fun j hj => ?_, H5.out.2⟩
  have hlen := HH.out.2
  unfold laid
  by_cases h1 : j < fr
  · rw [if_neg (by omega), if_pos (by omega), Nat.sub_zero]
  by_cases h2 : j < c
  · rw [if_pos (by omega)]
    show Value.pointer (xs.getD (fr + (j - fr)) (none : Option Addr)) = _
    rw [show fr + (j - fr) = j by omega]
  rw [if_neg (by omega), if_neg (by omega)]
  simp [show xs.length ≤ j by omega]
set_option maxHeartbeats 1000000 in
theorem moveF_any (r g N f c m : Nat) (xs : List (Option Addr)) (w : World) (h : RF w r g N f c xs) (hc : xs.length = c) (hm : c ≤ m) (hp : ∃ k, m = 2 ^ (k + 2)) (hm2 : m ≤ 1099511627776) :
    Calls Try.prog 54 #[.pointer (some ⟨r, 0, none⟩), .int .i64 (m : Int)] w fun e w' => e = .returned (.tuple #[]) ∧ RF w' r w.heap.size m 0 c xs ∧ Chg w w' r r := by
  have HH : Hid (RF w r g N f c xs ∧ xs.length = c ∧ c ≤ m ∧ (∃ k, m = 2 ^ (k + 2)) ∧ m ≤ 1099511627776) := ⟨h, hc, hm, hp, hm2⟩
  clear h hc hm hp hm2
  go_enter Try.func54, Try.ntmps54
  go_wp2_with fail
  refine (rowF_any r g N f c m xs _ HH.out.1 HH.out.2.1 HH.out.2.2.1 HH.out.2.2.2.2).mono ?_
  rintro e w1 ⟨rfl, h1, h2⟩
  obtain ⟨h, hc, hm, hp, hm2⟩ := HH.out
  have x := h.mono h2
  have c0 := x.hd.cell (i := 0) (by omega)
  have c1 := x.c1
  have f0 := x.fz 0
  have f1 := x.fz 1
  have FF : Hid _ := h.moved h2 (Nat.le_refl _) h1 (by omega) (by omega) hp hm2
  clear h1 h2 x h hc hm hp hm2
  go_wp2_with fail
  exact bodyPost_end (v := .tuple #[]) (by simp [results, Try.results54, go_sem]) rfl ⟨rfl, FF.out⟩
def RingsF (w : World) (r g : Nat) (xs : List (Option Addr)) (w' : World) : Prop := ∃ g' N' f', RF w' r g' N' f' xs.length xs ∧ Chg w w' r g ∧ (g' = g ∨ g' = r ∨ w.heap.size ≤ g')
theorem RingsF.intro {w w' : World} {r g : Nat} {xs : List (Option Addr)} {g' N' f' : Nat} (h : RF w' r g' N' f' xs.length xs) (k : Chg w w' r g) (e : g' = g ∨ g' = r ∨ w.heap.size ≤ g') : RingsF w r g xs w' := ⟨g', N', f', h, k, e⟩
set_option maxHeartbeats 1000000 in
theorem widenF_any (r g N f : Nat) (xs : List (Option Addr)) (w : World) (h : RF w r g N f xs.length xs) (hx : xs.length ≤ 4294967296) :
    Calls Try.prog 42 #[.pointer (some ⟨r, 0, none⟩)] w fun e w' => e = .returned (.tuple #[]) ∧ ∃ g' N' f', RF w' r g' N' f' xs.length xs ∧ Chg w w' r g ∧ (g' = g ∨ g' = r ∨ w.heap.size ≤ g') ∧ xs.length < N' := by
  obtain ⟨p, ep⟩ : ∃ p, p = pt g N := ⟨_, rfl⟩
  have c0 : w.cell? ⟨r, 0, none⟩ = some (.slice p N N) := by rw [ep]; exact h.hd.cell (i := 0) (by omega)
  have c2 := h.c2
  have hl := h.lim
  have hcN := h.cl
  obtain ⟨n, en⟩ : ∃ n, n = xs.length := ⟨_, rfl⟩
  rw [← en] at c2 hcN hx
  have HH : Hid (RF w r g N f xs.length xs ∧ n = xs.length) := ⟨h, en⟩
  by_cases e : n = N
  · have hd : ((n : Int) == (N : Int)) = true := by simp <;> omega
    obtain ⟨m, em⟩ : ∃ m, m = max 4 (2 * n) := ⟨_, rfl⟩
    have mx : (if (4 : Int) < 2 * (n : Int) then 2 * (n : Int) else 4) = (m : Int) := by split <;> omega
    have HM : Hid ((∃ k, m = 2 ^ (k + 2)) ∧ n ≤ m ∧ n < m ∧ m ≤ 1099511627776) := by
      refine ⟨?_, by omega, by omega, by omega⟩
      rcases Nat.eq_zero_or_pos N with e0 | e0
      · exact ⟨0, by omega⟩
      obtain ⟨k, hk⟩ := h.pow e0
      have := h.four e0
      have hk2 : 2 ^ (k + 1 + 2) = 2 ^ (k + 2) * 2 := Nat.pow_succ ..
      exact ⟨k + 1, by rw [hk2, ← hk]; omega⟩
    subst e
    clear h ep em en
    go_enter Try.func42, Try.ntmps42
    go_wp2_with fail
    go_quiet (fail)
    go_wp2_with fail
    refine (moveF_any r g _ f _ m xs (w.drewN nq) (HH.out.1.of_blocks rfl rfl) rfl (by have := HH.out.2; have := HM.out.2.1; omega) HM.out.1 HM.out.2.2.2).mono ?_
    rintro e w1 ⟨rfl, h1, h2⟩
    go_wp2_with fail
    refine bodyPost_end (v := .tuple #[]) (by simp [results, Try.results42, go_sem]) rfl ⟨rfl, _, _, _, h1, ?_, .inr (.inr (Nat.le_refl _)), by have := HH.out.2; have := HM.out.2.2.1; omega⟩
    exact ((Chg.refl w r g).drewN nq).trans h2 (.inr (.inl rfl))
  have hd : ((n : Int) == (N : Int)) = false := by simp <;> omega
  have HL : Hid (n < N) := by show n < N; omega
  clear h ep en e
  go_enter Try.func42, Try.ntmps42
  go_wp2_with fail
  go_quiet (fail)
  go_wp2_with fail
  exact bodyPost_end (v := .tuple #[]) (by simp [results, Try.results42, go_sem]) rfl ⟨rfl, _, _, _, HH.out.1.of_blocks rfl rfl, (Chg.refl w r g).drewN nq, .inl rfl, by have := HH.out.2; have := HL.out; omega⟩
set_option maxHeartbeats 1000000 in
theorem narrowF_any (r g N f : Nat) (xs : List (Option Addr)) (w : World) (h : RF w r g N f xs.length xs) :
    Calls Try.prog 66 #[.pointer (some ⟨r, 0, none⟩)] w fun e w' => e = .returned (.tuple #[]) ∧ RingsF w r g xs w' := by
  obtain ⟨p, ep⟩ : ∃ p, p = pt g N := ⟨_, rfl⟩
  have c0 : w.cell? ⟨r, 0, none⟩ = some (.slice p N N) := by rw [ep]; exact h.hd.cell (i := 0) (by omega)
  have c2 := h.c2
  have hl := h.lim
  have hcN := h.cl
  obtain ⟨n, en⟩ : ∃ n, n = xs.length := ⟨_, rfl⟩
  rw [← en] at c2 hcN
  have HH : Hid (RF w r g N f xs.length xs ∧ n = xs.length) := ⟨h, en⟩
  by_cases e4 : 4 < N
  · have hd : decide ((4 : Int) < (N : Int)) = true := decide_eq_true (by omega)
    have hd' : decide (4 < N) = true := decide_eq_true (by omega)
    by_cases e5 : n ≤ N / 4
    · have hd5 : decide ((n : Int) ≤ (N : Int) / 4) = true := decide_eq_true (by omega)
      have hd6 : decide (n ≤ N / 4) = true := decide_eq_true (by omega)
      obtain ⟨m, em⟩ : ∃ m, m = N / 2 := ⟨_, rfl⟩
      have hm : (N : Int) / 2 = (m : Int) := by omega
      have HM : Hid ((∃ k, m = 2 ^ (k + 2)) ∧ n ≤ m ∧ m ≤ 1099511627776) := by
        refine ⟨?_, by omega, by omega⟩
        obtain ⟨k, hk⟩ := h.pow (by omega)
        rcases k with _ | k
        · rw [hk] at e4; omega
        have hk2 : 2 ^ (k + 1 + 2) = 2 ^ (k + 2) * 2 := Nat.pow_succ ..
        exact ⟨k, by rw [hk2] at hk; omega⟩
      clear h ep em en e4 e5
      go_enter Try.func66, Try.ntmps66
      go_wp2_with fail
      go_quiet (fail)
      go_wp2_with fail
      refine (moveF_any r g _ f _ m xs (w.drewN nq) (HH.out.1.of_blocks rfl rfl) rfl (by have := HH.out.2; have := HM.out.2.1; omega) HM.out.1 HM.out.2.2).mono ?_
      rintro e w1 ⟨rfl, h1, h2⟩
      go_wp2_with fail
      exact bodyPost_end (v := .tuple #[]) (by simp [results, Try.results66, go_sem]) rfl ⟨rfl, RingsF.intro h1 (((Chg.refl w r g).drewN nq).trans h2 (.inr (.inl rfl))) (.inr (.inr (Nat.le_refl _)))⟩
    have hd5 : decide ((n : Int) ≤ (N : Int) / 4) = false := decide_eq_false (by omega)
    have hd6 : decide (n ≤ N / 4) = false := decide_eq_false (by omega)
    clear h ep en e4 e5
    go_enter Try.func66, Try.ntmps66
    go_wp2_with fail
    go_quiet (fail)
    go_wp2_with fail
    exact bodyPost_end (v := .tuple #[]) (by simp [results, Try.results66, go_sem]) rfl ⟨rfl, RingsF.intro (HH.out.1.of_blocks rfl rfl) ((Chg.refl w r g).drewN nq) (.inl rfl)⟩
  have hd : decide ((4 : Int) < (N : Int)) = false := decide_eq_false (by omega)
  have hd' : decide (4 < N) = false := decide_eq_false (by omega)
  clear h ep en e4
  go_enter Try.func66, Try.ntmps66
  go_wp2_with fail
  go_quiet (fail)
  go_wp2_with fail
  exact bodyPost_end (v := .tuple #[]) (by simp [results, Try.results66, go_sem]) rfl ⟨rfl, RingsF.intro (HH.out.1.of_blocks rfl rfl) ((Chg.refl w r g).drewN nq) (.inl rfl)⟩
theorem newF_any (w : World) : Calls Try.prog 25 #[] w fun e w' => e = .returned (.pointer (some ⟨w.heap.size, 0, none⟩)) ∧ RF w' w.heap.size w.heap.size 0 0 0 [] ∧ Below w.heap.size w w' := by
  have F : Hid (RF (w.alloc (.cells #[.slice none 0 0, .int .i64 0, .int .i64 0] 92)) w.heap.size w.heap.size 0 0 0 [] ∧ Below w.heap.size w (w.alloc (.cells #[.slice none 0 0, .int .i64 0, .int .i64 0] 92))) := by
    refine ⟨⟨?_, fun h => by omega, fun h => by omega, fun _ => ⟨rfl, rfl⟩, fun h => by omega, Nat.le_refl _, Nat.le_refl _, fun h => by omega, by omega⟩, (Below.refl _ _).alloc (Nat.le_refl _) _⟩
    refine World.rowIs_alloc w #[.slice none 0 0, .int .i64 0, .int .i64 0] 92 _ fun i hi => ?_
    rcases i with _ | _ | _ | i
    · rfl
    · rfl
    · rfl
    simp at hi
    omega
  go_enter Try.func25, Try.ntmps25
  go_wp2_with fail
  go_ret
  exact ⟨rfl, F.out⟩
theorem lenF_any (r g N f c : Nat) (xs : List (Option Addr)) (w : World) (h : RF w r g N f c xs) : Calls Try.prog 46 #[.pointer (some ⟨r, 0, none⟩)] w fun e w' => e = .returned (.int .i64 (c : Int)) ∧ w' = w := by
  have c2 := h.c2
  clear h
  go_enter Try.func46, Try.ntmps46
  go_wp2_with fail
  go_ret
  exact ⟨rfl, rfl⟩
theorem hasF_yes (r g N f c : Nat) (xs : List (Option Addr)) (i : Int) (w : World) (h : RF w r g N f c xs) (h0 : 0 ≤ i) (h1 : i < c) : Calls Try.prog 53 #[.pointer (some ⟨r, 0, none⟩), .int .i64 i] w fun e w' => e = .returned (.bool true) ∧ w' = w := by
  have c2 := h.c2
  have d0 : decide (0 ≤ i) = true := decide_eq_true h0
  have d1 : decide (i < (c : Int)) = true := decide_eq_true h1
  clear h h0 h1
  go_enter Try.func53, Try.ntmps53
  go_wp2_with fail
  go_ret
  exact ⟨rfl, rfl⟩
set_option maxHeartbeats 1000000 in
theorem atF_yes (r g N f c : Nat) (xs : List (Option Addr)) (j : Nat) (i : Int) (w : World) (h : RF w r g N f c xs) (hi : i = j) (h1 : j < c) : Calls Try.prog 41 #[.pointer (some ⟨r, 0, none⟩), .int .i64 i] w fun e w' => e = .returned (.tuple #[Value.pointer (xs.getD j (none : Option Addr)), .bool true]) ∧ ∃ n, w' = w.drewN n := by
  subst hi
  have hcN := h.cl
  have hN : 0 < N := by omega
  have hl := h.lim
  have HH : Hid (RF w r g N f c xs) := h
  obtain ⟨k, ek⟩ : ∃ k, k = (f + j) % N := ⟨_, rfl⟩
  have hk : k < N := by rw [ek]; exact Nat.mod_lt _ hN
  have ck := h.at (i := j) (by omega)
  rw [← ek] at ck
  have c0 := h.c0 hN
  have IX : Hid (∀ nd, Calls Try.prog 43 #[.pointer (some ⟨r, 0, none⟩), .int .i64 (j : Int)] (w.drewN nd) fun e w' => e = .returned (.int .i64 (k : Int)) ∧ ∃ n, w' = (w.drewN nd).drewN n) := fun nd => indexF_any r g N f c xs (j : Int) k (w.drewN nd) (h.of_blocks rfl rfl) hN (by omega) (by omega) hk (by rw [ek]; simp)
  clear h ek
  go_enter Try.func41, Try.ntmps41
  go_wp2_with fail
  refine (hasF_yes r g N f c xs (j : Int) w HH.out (by omega) (by omega)).mono ?_
  rintro e w1 ⟨rfl, e1⟩
  rw [e1]
  clear e1
  go_wp2_with fail
  go_quiet ((go_at_call 43; exact Calls.quiet_of (IX.out _)))
  go_wp2_with fail
  exact bodyPost_ret (v := .tuple #[Value.pointer (xs.getD j (none : Option Addr)), .bool true]) (by simp [results, Try.results41, go_sem]) rfl ⟨rfl, _, rfl⟩
set_option maxHeartbeats 1000000 in
theorem pushBackF_any (r g N f : Nat) (xs : List (Option Addr)) (v : (Option Addr)) (w : World) (h : RF w r g N f xs.length xs) (hx : xs.length ≤ 4294967296) :
    Calls Try.prog 29 #[.pointer (some ⟨r, 0, none⟩), Value.pointer v] w fun e w' => e = .returned (.tuple #[]) ∧ RingsF w r g (xs ++ [v]) w' := by
  have HW : Hid (RF w r g N f xs.length xs) := h
  clear h
  go_enter Try.func29, Try.ntmps29
  go_wp2_with fail
  refine (widenF_any r g N f xs w HW.out hx).mono ?_
  rintro e w1 ⟨rfl, g1, N1, f1, h1, hg1, hg2, hlt⟩
  clear HW
  have hN : 0 < N1 := by omega
  have hl := h1.lim
  have hne := h1.ne hN
  have c0 := h1.c0 hN
  have c2 := h1.c2
  have f2 := h1.fz 2
  obtain ⟨k, ek⟩ : ∃ k, k = (f1 + xs.length) % N1 := ⟨_, rfl⟩
  have hk : k < N1 := by rw [ek]; exact Nat.mod_lt _ hN
  have ck := h1.at (i := xs.length) hlt
  have fk := h1.fg hN k
  rw [← ek] at ck
  obtain ⟨n, en⟩ : ∃ n, n = xs.length := ⟨_, rfl⟩
  have IX : Hid (∀ nd, Calls Try.prog 43 #[.pointer (some ⟨r, 0, none⟩), .int .i64 (n : Int)] (w1.drewN nd) fun e w' => e = .returned (.int .i64 (k : Int)) ∧ ∃ n, w' = (w1.drewN nd).drewN n) := fun nd => indexF_any r g1 N1 f1 _ xs (n : Int) k (w1.drewN nd) (h1.of_blocks rfl rfl) hN (by omega) (by omega) hk (by rw [ek, en]; simp)
  have FH : Hid (∀ nd, RingsF w r g (xs ++ [v]) (((w1.drewN nd).setCell ⟨g1, k, none⟩ (Value.pointer v)).setCell ⟨r, 2, none⟩ (.int .i64 ((n : Int) + 1)))) := fun nd => by
    have h2 := (show RF (w1.drewN nd) r g1 N1 f1 xs.length xs from h1.of_blocks rfl rfl).snoc hlt v
    rw [← ek, ← en] at h2
    exact RingsF.intro h2 (hg1.trans ((((Chg.refl w1 r g1).drewN nd).setG k _).setR 2 _) hg2) hg2
  rw [← en] at c2 hx
  clear h1 hg1 hg2 ek hlt en
  go_wp2_with fail
  go_region_held3 (fun w' => w'.cell? ⟨r, 0, none⟩ = some (.slice (some ⟨g1, 0, none⟩) N1 N1) ∧ w'.cell? ⟨r, 2, none⟩ = some (.int .i64 (n : Int))) (first | (simp [go_sem, *]; done) | (trace_state; fail))
    (first
      | (go_at_call 43; refine Calls.mono (IX.out 1) ?_; rintro e w1 ⟨rfl, n, rfl⟩))
  go_wp2_with fail
  exact bodyPost_end (v := .tuple #[]) (by simp [results, Try.results29, go_sem]) rfl ⟨rfl, FH.out _⟩
end Go.Proofs.Ytcndbmccediknaa
