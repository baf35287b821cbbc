/- Contracts of the program's functions, part 22: own work, joined in build order. -/
import Derived.Test.YtacgpipccpmloaaJ21
namespace Go.Proofs.Ytacgpipccpmloaa
open Go.RowKit
set_option maxRecDepth 100000
set_option linter.unusedVariables false
theorem RingsS.same {w w' : World} {r g N f : Nat} {xs : List ByteArray} (h : RS w r g N f xs.length xs) {n : Nat} (e : w' = w.drewN n) : RingsS w r g xs w' := by
  subst e
  exact RingsS.intro (h.of_blocks rfl rfl) ((Chg.refl w r g).drewN n) (.inl rfl)
theorem atS_u (r g N f : Nat) (xs : List ByteArray) (i : Int) (w : World) (h : RS w r g N f xs.length xs) : Calls Try.prog 32 #[.pointer (some ⟨r, 0, none⟩), .int .i64 i] w fun e w' => e = .returned (.tuple #[Value.string (getI i xs (⟨#[]⟩ : ByteArray)), .bool (inR i xs.length)]) ∧ RingsS w r g xs w' := by
  rcases Bool.eq_false_or_eq_true (inR i xs.length) with e | e
  · have h2 := inR_yes e
    unfold getI
    rw [e, if_pos rfl]
    exact (atS_yes r g N f _ xs i.toNat i w h (by omega) (by omega)).mono fun _ _ ⟨he, n, hn⟩ => ⟨he, RingsS.same h hn⟩
  · rw [getI_no _ _ _ e, e]
    exact (atS_no r g N f _ xs i w h (inR_no e)).mono fun _ _ ⟨he, n, hn⟩ => ⟨he, RingsS.same h hn⟩
theorem takeS_u (r g N f : Nat) (xs : List ByteArray) (i : Int) (w : World) (h : RS w r g N f xs.length xs) : Calls Try.prog 28 #[.pointer (some ⟨r, 0, none⟩), .int .i64 i] w fun e w' => e = .returned (.tuple #[Value.string (getI i xs (⟨#[]⟩ : ByteArray)), .bool (inR i xs.length)]) ∧ RingsS w r g (delI i xs) w' := by
  rcases Bool.eq_false_or_eq_true (inR i xs.length) with e | e
  · have h2 := inR_yes e
    unfold getI delI
    rw [e, if_pos rfl, if_pos rfl]
    exact takeS_yes r g N f xs i.toNat i w h (by omega) (by omega)
  · unfold delI
    rw [getI_no _ _ _ e, e]
    exact (takeS_no r g N f _ xs i w h (inR_no e)).mono fun _ _ ⟨he, n, hn⟩ => ⟨he, RingsS.same h hn⟩
theorem setS_u (r g N f : Nat) (xs : List ByteArray) (i : Int) (v : ByteArray) (w : World) (h : RS w r g N f xs.length xs) : Calls Try.prog 26 #[.pointer (some ⟨r, 0, none⟩), .int .i64 i, Value.string v] w fun e w' => e = .returned (.bool (inR i xs.length)) ∧ RingsS w r g (setI i v xs) w' := by
  rcases Bool.eq_false_or_eq_true (inR i xs.length) with e | e
  · have h2 := inR_yes e
    unfold setI
    rw [e, if_pos rfl]
    exact (setS_yes r g N f _ xs i.toNat i v w h rfl (by omega) (by omega)).mono fun _ _ ⟨he, h3, h4⟩ => ⟨he, RingsS.intro (by rw [List.length_set]; exact h3) h4 (.inl rfl)⟩
  · unfold setI
    rw [e]
    exact (setS_no r g N f _ xs i v w h (inR_no e)).mono fun _ _ ⟨he, n, hn⟩ => ⟨he, RingsS.same h hn⟩
theorem popFrontS_u (r g N f : Nat) (xs : List ByteArray) (w : World) (h : RS w r g N f xs.length xs) : Calls Try.prog 22 #[.pointer (some ⟨r, 0, none⟩)] w fun e w' => e = .returned (.tuple #[Value.string (getI 0 xs (⟨#[]⟩ : ByteArray)), .bool (inR 0 xs.length)]) ∧ RingsS w r g (delI 0 xs) w' := by
  rcases xs with _ | ⟨x, xs⟩
  · exact (popFrontS_no r g N f _ [] w h rfl).mono fun _ _ ⟨he, n, hn⟩ => ⟨he, RingsS.same h hn⟩
  · have e : inR 0 (x :: xs).length = true := decide_eq_true (by simp <;> omega)
    unfold getI delI
    rw [e, if_pos rfl, if_pos rfl]
    exact popFrontS_yes r g N f x xs w h
theorem popBackS_u (r g N f : Nat) (xs : List ByteArray) (w : World) (h : RS w r g N f xs.length xs) : Calls Try.prog 24 #[.pointer (some ⟨r, 0, none⟩)] w fun e w' => e = .returned (.tuple #[Value.string (getI ((xs.length : Int) - 1) xs (⟨#[]⟩ : ByteArray)), .bool (inR ((xs.length : Int) - 1) xs.length)]) ∧ RingsS w r g (delI ((xs.length : Int) - 1) xs) w' := by
  rcases List.eq_nil_or_concat xs with e | ⟨ys, x, e⟩
  · subst e
    exact (popBackS_no r g N f _ [] w h rfl).mono fun _ _ ⟨he, n, hn⟩ => ⟨he, RingsS.same h hn⟩
  · rw [List.concat_eq_append] at e
    subst e
    have hl : (((ys ++ [x]).length : Nat) : Int) - 1 = (ys.length : Int) := by simp
    have e2 : inR (ys.length : Int) (ys ++ [x]).length = true := decide_eq_true (by simp <;> omega)
    have e1 : (ys ++ [x]).eraseIdx ys.length = ys := by rw [List.eraseIdx_append_of_length_le (Nat.le_refl _)]; simp
    rw [hl]
    unfold getI delI
    rw [e2, if_pos rfl, if_pos rfl, Int.toNat_natCast, e1]
    have e3 : (ys ++ [x]).getD ys.length (⟨#[]⟩ : ByteArray) = x := by simp
    rw [e3]
    exact popBackS_yes r g N f x ys w h
end Go.Proofs.Ytacgpipccpmloaa
