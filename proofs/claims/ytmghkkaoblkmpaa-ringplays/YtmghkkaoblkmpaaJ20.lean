/- Contracts of the program's functions, part 20: own work, joined in build order. -/
import Derived.Test.YtmghkkaoblkmpaaJ19
namespace Go.Proofs.Ytmghkkaoblkmpaa
open Go.RowKit
set_option maxRecDepth 100000
set_option linter.unusedVariables false
theorem RingsI.same {w w' : World} {r g N f : Nat} {xs : List Int} (h : RI w r g N f xs.length xs) {n : Nat} (e : w' = w.drewN n) : RingsI w r g xs w' := by
  subst e
  exact RingsI.intro (h.of_blocks rfl rfl) ((Chg.refl w r g).drewN n) (.inl rfl)
theorem atI_u (r g N f : Nat) (xs : List Int) (i : Int) (w : World) (h : RI w r g N f xs.length xs) : Calls Try.prog 31 #[.pointer (some ⟨r, 0, none⟩), .int .i64 i] w fun e w' => e = .returned (.tuple #[Value.int .i64 (getI i xs (0 : Int)), .bool (inR i xs.length)]) ∧ RingsI w r g xs w' := by
  rcases Bool.eq_false_or_eq_true (inR i xs.length) with e | e
  · have h2 := inR_yes e
    unfold getI
    rw [e, if_pos rfl]
    exact (atI_yes r g N f _ xs i.toNat i w h (by omega) (by omega)).mono fun _ _ ⟨he, n, hn⟩ => ⟨he, RingsI.same h hn⟩
  · rw [getI_no _ _ _ e, e]
    exact (atI_no r g N f _ xs i w h (inR_no e)).mono fun _ _ ⟨he, n, hn⟩ => ⟨he, RingsI.same h hn⟩
theorem takeI_u (r g N f : Nat) (xs : List Int) (i : Int) (w : World) (h : RI w r g N f xs.length xs) : Calls Try.prog 27 #[.pointer (some ⟨r, 0, none⟩), .int .i64 i] w fun e w' => e = .returned (.tuple #[Value.int .i64 (getI i xs (0 : Int)), .bool (inR i xs.length)]) ∧ RingsI w r g (delI i xs) w' := by
  rcases Bool.eq_false_or_eq_true (inR i xs.length) with e | e
  · have h2 := inR_yes e
    unfold getI delI
    rw [e, if_pos rfl, if_pos rfl]
    exact takeI_yes r g N f xs i.toNat i w h (by omega) (by omega)
  · unfold delI
    rw [getI_no _ _ _ e, e]
    exact (takeI_no r g N f _ xs i w h (inR_no e)).mono fun _ _ ⟨he, n, hn⟩ => ⟨he, RingsI.same h hn⟩
theorem setI_u (r g N f : Nat) (xs : List Int) (i : Int) (v : Int) (w : World) (h : RI w r g N f xs.length xs) : Calls Try.prog 25 #[.pointer (some ⟨r, 0, none⟩), .int .i64 i, Value.int .i64 v] w fun e w' => e = .returned (.bool (inR i xs.length)) ∧ RingsI w r g (setI i v xs) w' := by
  rcases Bool.eq_false_or_eq_true (inR i xs.length) with e | e
  · have h2 := inR_yes e
    unfold setI
    rw [e, if_pos rfl]
    exact (setI_yes r g N f _ xs i.toNat i v w h rfl (by omega) (by omega)).mono fun _ _ ⟨he, h3, h4⟩ => ⟨he, RingsI.intro (by rw [List.length_set]; exact h3) h4 (.inl rfl)⟩
  · unfold setI
    rw [e]
    exact (setI_no r g N f _ xs i v w h (inR_no e)).mono fun _ _ ⟨he, n, hn⟩ => ⟨he, RingsI.same h hn⟩
theorem popFrontI_u (r g N f : Nat) (xs : List Int) (w : World) (h : RI w r g N f xs.length xs) : Calls Try.prog 21 #[.pointer (some ⟨r, 0, none⟩)] w fun e w' => e = .returned (.tuple #[Value.int .i64 (getI 0 xs (0 : Int)), .bool (inR 0 xs.length)]) ∧ RingsI w r g (delI 0 xs) w' := by
  rcases xs with _ | ⟨x, xs⟩
  · exact (popFrontI_no r g N f _ [] w h rfl).mono fun _ _ ⟨he, n, hn⟩ => ⟨he, RingsI.same h hn⟩
  · have e : inR 0 (x :: xs).length = true := decide_eq_true (by simp <;> omega)
    unfold getI delI
    rw [e, if_pos rfl, if_pos rfl]
    exact popFrontI_yes r g N f x xs w h
theorem popBackI_u (r g N f : Nat) (xs : List Int) (w : World) (h : RI w r g N f xs.length xs) : Calls Try.prog 23 #[.pointer (some ⟨r, 0, none⟩)] w fun e w' => e = .returned (.tuple #[Value.int .i64 (getI ((xs.length : Int) - 1) xs (0 : Int)), .bool (inR ((xs.length : Int) - 1) xs.length)]) ∧ RingsI w r g (delI ((xs.length : Int) - 1) xs) w' := by
  rcases List.eq_nil_or_concat xs with e | ⟨ys, x, e⟩
  · subst e
    exact (popBackI_no r g N f _ [] w h rfl).mono fun _ _ ⟨he, n, hn⟩ => ⟨he, RingsI.same h hn⟩
  · rw [List.concat_eq_append] at e
    subst e
    have hl : (((ys ++ [x]).length : Nat) : Int) - 1 = (ys.length : Int) := by simp
    have e2 : inR (ys.length : Int) (ys ++ [x]).length = true := decide_eq_true (by simp <;> omega)
    have e1 : (ys ++ [x]).eraseIdx ys.length = ys := by rw [List.eraseIdx_append_of_length_le (Nat.le_refl _)]; simp
    rw [hl]
    unfold getI delI
    rw [e2, if_pos rfl, if_pos rfl, Int.toNat_natCast, e1]
    have e3 : (ys ++ [x]).getD ys.length (0 : Int) = x := by simp
    rw [e3]
    exact popBackI_yes r g N f x ys w h
end Go.Proofs.Ytmghkkaoblkmpaa
