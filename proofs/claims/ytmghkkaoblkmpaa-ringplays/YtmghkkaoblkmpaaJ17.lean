/- Contracts of the program's functions, part 17: own work, joined in build order. -/
import Derived.Test.YtmghkkaoblkmpaaJ16
namespace Go.Proofs.Ytmghkkaoblkmpaa
open Go.RowKit
set_option linter.unusedVariables false
/-- Is there a place i? -/
def inR (i : Int) (n : Nat) : Bool := decide (0 ≤ i ∧ i < (n : Int))
def getI {α : Type} (i : Int) (xs : List α) (z : α) : α := if inR i xs.length = true then xs.getD i.toNat z else z
def delI {α : Type} (i : Int) (xs : List α) : List α := if inR i xs.length = true then xs.eraseIdx i.toNat else xs
def setI {α : Type} (i : Int) (v : α) (xs : List α) : List α := if inR i xs.length = true then xs.set i.toNat v else xs
theorem inR_yes {i : Int} {n : Nat} (h : inR i n = true) : 0 ≤ i ∧ i < (n : Int) := of_decide_eq_true h
theorem inR_no {i : Int} {n : Nat} (h : inR i n = false) : i < 0 ∨ (n : Int) ≤ i := by
  have := of_decide_eq_false h
  omega
section
variable {α β : Type}
theorem getI_map (f : α → β) (i : Int) (xs : List α) (z : α) (y : β) (h : inR i xs.length = true) : getI i (xs.map f) y = f (getI i xs z) := by
  unfold getI
  rw [List.length_map, if_pos h, if_pos h]
  have h2 := inR_yes h
  have h3 : i.toNat < xs.length := by omega
  simp [List.getD_eq_getElem?_getD, h3]
theorem getI_no (i : Int) (xs : List α) (z : α) (h : inR i xs.length = false) : getI i xs z = z := by unfold getI; rw [h]; rfl
theorem getI_mem (i : Int) (xs : List α) (z : α) (h : inR i xs.length = true) : getI i xs z ∈ xs := by
  unfold getI
  rw [if_pos h]
  have h2 := inR_yes h
  have h3 : i.toNat < xs.length := by omega
  rw [List.getD_eq_getElem?_getD, List.getElem?_eq_getElem h3]
  exact List.getElem_mem h3
theorem delI_map (f : α → β) (i : Int) (xs : List α) : delI i (xs.map f) = (delI i xs).map f := by
  unfold delI
  rw [List.length_map]
  split
  · refine List.ext_getElem? fun j => ?_
    rw [List.getElem?_eraseIdx, List.getElem?_map, List.getElem?_map, List.getElem?_map, List.getElem?_eraseIdx]
    split <;> rfl
  · rfl
theorem delI_sub (i : Int) (xs : List α) (x : α) (h : x ∈ delI i xs) : x ∈ xs := by
  unfold delI at h
  split at h
  · exact List.mem_of_mem_eraseIdx h
  · exact h
theorem delI_len (i : Int) (xs : List α) : (delI i xs).length ≤ xs.length := by
  unfold delI
  split
  · rw [List.length_eraseIdx]; split <;> omega
  · exact Nat.le_refl _
theorem setI_map (f : α → β) (i : Int) (v : α) (xs : List α) : setI i (f v) (xs.map f) = (setI i v xs).map f := by
  unfold setI
  rw [List.length_map]
  split
  · rw [List.map_set]
  · rfl
theorem setI_sub (i : Int) (v : α) (xs : List α) (x : α) (h : x ∈ setI i v xs) : x ∈ xs ∨ x = v := by
  unfold setI at h
  split at h
  · exact List.mem_or_eq_of_mem_set h
  · exact .inl h
theorem setI_len (i : Int) (v : α) (xs : List α) : (setI i v xs).length = xs.length := by
  unfold setI
  split
  · simp
  · rfl
theorem rt_map (f : α → β) (n : Int) (xs : List α) : rt n (xs.map f) = (rt n xs).map f := by
  unfold rt rl
  simp
theorem rt_mem (n : Int) (xs : List α) (x : α) (h : x ∈ rt n xs) : x ∈ xs := by
  unfold rt rl at h
  rcases List.mem_append.1 h with h | h
  · exact List.mem_of_mem_drop h
  · exact List.mem_of_mem_take h
end
end Go.Proofs.Ytmghkkaoblkmpaa
