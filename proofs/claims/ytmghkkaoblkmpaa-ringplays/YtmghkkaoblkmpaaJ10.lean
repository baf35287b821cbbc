/- Contracts of the program's functions, part 10: own work, joined in build order. -/
import Derived.Test.YtmghkkaoblkmpaaJ9
namespace Go.Proofs.Ytmghkkaoblkmpaa
open Go.RowKit
set_option maxRecDepth 100000
set_option linter.unusedVariables false
theorem popFrontI_no (r g N f c : Nat) (xs : List Int) (w : World) (h : RI w r g N f c xs) (h0 : c = 0) : Calls Try.prog 21 #[.pointer (some ⟨r, 0, none⟩)] w fun e w' => e = .returned (.tuple #[(.int .i64 0), .bool false]) ∧ ∃ n, w' = w.drewN n := by
  have HH : Hid (RI w r g N f c xs ∧ c = 0) := ⟨h, h0⟩
  clear h h0
  go_enter Try.func21, Try.ntmps21
  go_wp2_with fail
  refine (takeI_no r g N f c xs 0 w HH.out.1 (.inr (by have := HH.out.2; omega))).mono ?_
  rintro e w1 ⟨rfl, nd, rfl⟩
  go_wp2_with fail
  exact bodyPost_ret (v := .tuple #[(.int .i64 0), .bool false]) (by simp [results, Try.results21, go_sem]) rfl ⟨rfl, nd, rfl⟩
theorem popFrontI_yes (r g N f : Nat) (x : Int) (xs : List Int) (w : World) (h : RI w r g N f (x :: xs).length (x :: xs)) : Calls Try.prog 21 #[.pointer (some ⟨r, 0, none⟩)] w fun e w' => e = .returned (.tuple #[Value.int .i64 x, .bool true]) ∧ RingsI w r g xs w' := by
  have HH : Hid (RI w r g N f (x :: xs).length (x :: xs)) := h
  clear h
  go_enter Try.func21, Try.ntmps21
  go_wp2_with fail
  refine (takeI_yes r g N f (x :: xs) 0 0 w HH.out rfl (by simp)).mono ?_
  rintro e w1 ⟨rfl, h1⟩
  have H1 : Hid (RingsI w r g xs w1) := h1
  clear h1
  go_wp2_with fail
  exact bodyPost_ret (v := .tuple #[Value.int .i64 x, .bool true]) (by simp [results, Try.results21, go_sem]) rfl ⟨rfl, H1.out⟩
theorem popBackI_no (r g N f c : Nat) (xs : List Int) (w : World) (h : RI w r g N f c xs) (h0 : c = 0) : Calls Try.prog 23 #[.pointer (some ⟨r, 0, none⟩)] w fun e w' => e = .returned (.tuple #[(.int .i64 0), .bool false]) ∧ ∃ n, w' = w.drewN n := by
  have HH : Hid (RI w r g N f c xs ∧ c = 0) := ⟨h, h0⟩
  have c2 := h.c2
  have hl := h.lim
  have hc := h.cl
  clear h h0
  go_enter Try.func23, Try.ntmps23
  go_wp2_with fail
  refine (takeI_no r g N f c xs ((c : Int) - 1) w HH.out.1 (.inl (by have := HH.out.2; omega))).mono ?_
  rintro e w1 ⟨rfl, nd, rfl⟩
  go_wp2_with fail
  exact bodyPost_ret (v := .tuple #[(.int .i64 0), .bool false]) (by simp [results, Try.results23, go_sem]) rfl ⟨rfl, nd, rfl⟩
theorem popBackI_yes (r g N f : Nat) (x : Int) (xs : List Int) (w : World) (h : RI w r g N f (xs ++ [x]).length (xs ++ [x])) : Calls Try.prog 23 #[.pointer (some ⟨r, 0, none⟩)] w fun e w' => e = .returned (.tuple #[Value.int .i64 x, .bool true]) ∧ RingsI w r g xs w' := by
  have HH : Hid (RI w r g N f (xs ++ [x]).length (xs ++ [x])) := h
  have c2 := h.c2
  have hl := h.lim
  have hc := h.cl
  obtain ⟨n, en⟩ : ∃ n, n = (xs ++ [x]).length := ⟨_, rfl⟩
  rw [← en] at c2 hc
  have HE : Hid (n = xs.length + 1) := by show n = _; rw [en]; simp
  clear h en
  go_enter Try.func23, Try.ntmps23
  go_wp2_with fail
  refine (takeI_yes r g N f (xs ++ [x]) xs.length ((n : Int) - 1) w HH.out (by have := HE.out; omega) (by simp)).mono ?_
  rintro e w1 ⟨rfl, h1⟩
  have e1 : (xs ++ [x]).eraseIdx xs.length = xs := by rw [List.eraseIdx_append_of_length_le (Nat.le_refl _)]; simp
  have e2 : (xs ++ [x]).getD xs.length (0 : Int) = x := by simp
  rw [e1] at h1
  have H1 : Hid (RingsI w r g xs w1) := h1
  rw [e2]
  clear h1 e1 e2
  go_wp2_with fail
  exact bodyPost_ret (v := .tuple #[Value.int .i64 x, .bool true]) (by simp [results, Try.results23, go_sem]) rfl ⟨rfl, H1.out⟩
theorem RingsI.trans {w w1 w2 : World} {r g g' : Nat} {zs : List Int} (hC : Chg w w1 r g) (hg : g' = g ∨ g' = r ∨ w.heap.size ≤ g') (h2 : RingsI w1 r g' zs w2) : RingsI w r g zs w2 := by
  obtain ⟨g2, N2, f2, h3, h4, h5⟩ := h2
  refine ⟨g2, N2, f2, h3, hC.trans h4 hg, ?_⟩
  rcases h5 with e | e | e
  · rcases hg with e2 | e2 | e2
    · exact .inl (by omega)
    · exact .inr (.inl (by omega))
    · exact .inr (.inr (by omega))
  · exact .inr (.inl e)
  · exact .inr (.inr (Nat.le_trans hC.size e))
end Go.Proofs.Ytmghkkaoblkmpaa
