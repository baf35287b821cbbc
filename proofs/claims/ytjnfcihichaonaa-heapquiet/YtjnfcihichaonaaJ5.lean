/- Contracts of the program's functions, part 5: own work, joined in build order. -/
import Derived.Test.YtjnfcihichaonaaJ4
namespace Go.Proofs.Ytjnfcihichaonaa
open Go.RowKit
set_option maxRecDepth 100000
set_option linter.unusedVariables false
/-- What over tells. -/
def OvP (le : Nat → Nat → Prop) (x y p : Nat) (t : Bool) : Prop := if p % 2 = 0 then (t = true → le x y) ∧ (t = false → le y x) else (t = true → le y x) ∧ (t = false → le x y)
theorem ne_of_type {W : World} {a b : Nat} {cs cs' : Array Value} {t t' : TypeId} (h : W.heap[a]? = some (.cells cs t)) (k : W.heap[b]? = some (.cells cs' t')) (hn : t ≠ t') : a ≠ b := by
  rintro rfl
  rw [h] at k
  injection k with k
  injection k with _ e
  exact hn e
def Img (n : Nat) (f : Nat → Nat) (p b : Nat) : Prop := ∃ i, i < n ∧ i ≠ p ∧ f i = b
theorem img_put {n : Nat} {f : Nat → Nat} {frm to : Nat} (hf : frm < n) (ht : to < n) (hn : frm ≠ to) (b : Nat) : Img n (setF f to (f frm)) frm b ↔ Img n f to b := by
  constructor
  · rintro ⟨i, hi, hne, e⟩
    by_cases c : i = to
    · subst c
      rw [setF_eq] at e
      exact ⟨frm, hf, hn, e⟩
    · rw [setF_ne c] at e
      exact ⟨i, hi, c, e⟩
  · rintro ⟨i, hi, hne, e⟩
    by_cases c : i = frm
    · subst c
      exact ⟨to, ht, Ne.symm hn, by rw [setF_eq]; exact e⟩
    · exact ⟨i, hi, c, by rw [setF_ne hne]; exact e⟩
theorem pow_lt_many {d x n : Nat} (h : 2 ^ d * (x + 1) ≤ n) (hn : n < 1099511627777) : d ≤ 40 := by
  rcases Nat.lt_or_ge 40 d with h1 | h1
  · have h2 : 2 ^ 41 ≤ 2 ^ d := Nat.pow_le_pow_right (by decide) h1
    have h3 : 2 ^ d * 1 ≤ 2 ^ d * (x + 1) := Nat.mul_le_mul_left _ (by omega)
    have h4 : (2 : Nat) ^ 41 = 2199023255552 := by decide
    omega
  · exact h1
theorem img_lay {n : Nat} {f : Nat → Nat} {p x : Nat} (hp : p < n) (b : Nat) : Img n (setF f p x) n b ↔ Img n f p b ∨ b = x := by
  constructor
  · rintro ⟨i, hi, hne, e⟩
    by_cases c : i = p
    · subst c
      rw [setF_eq] at e
      exact .inr e.symm
    · rw [setF_ne c] at e
      exact .inl ⟨i, hi, c, e⟩
  · rintro (⟨i, hi, hne, e⟩ | rfl)
    · exact ⟨i, hi, by omega, by rw [setF_ne hne]; exact e⟩
    · exact ⟨p, hp, by omega, setF_eq⟩
theorem own_row {W : World} {base gp n cap : Nat} {t : TypeId} {f : Nat → Nat} {cs : Array Value} (h0 : base ≤ gp) (h1 : W.heap[gp]? = some (.cells cs t)) (h2 : cs.size = cap) (h3 : ∀ i, i < n → cs[i]? = some (.pointer (some ⟨f i, 0, none⟩))) (h4 : n ≤ cap) (h5 : cap ≤ maxLen) : W.ownsRow base t 1 (.slice (some ⟨gp, 0, none⟩) n cap) n ((List.range n).map fun i => .pointer (some ⟨f i, 0, none⟩)) := by
  refine ⟨by simp, .inr ⟨gp, cap, cs, rfl, h0, h1, by omega, h5, by omega, ?_⟩⟩
  refine List.ext_getElem? fun i => ?_
  rw [List.getElem?_take]
  split
  · rename_i hi
    have hi2 : i < n := by omega
    rw [Array.getElem?_toList, h3 i hi2]
    simp [hi2]
  · rename_i hi
    rw [List.getElem?_eq_none (by simp; omega)]
/-- The first one's block, or none. -/
def fst? (n : Nat) (f : Nat → Nat) : Option Nat := if n = 0 then none else some (f 0)
def lst? (n : Nat) (f : Nat → Nat) : Option Nat := if n = 0 then none else if n = 1 then some (f 0) else some (f 1)
theorem fst_in {n : Nat} {f : Nat → Nat} : ∀ b, fst? n f = some b → Img n f n b := fun b e => by
  unfold fst? at e
  split at e
  · cases e
  · cases e
    exact ⟨0, by omega, by omega, rfl⟩
theorem lst_in {n : Nat} {f : Nat → Nat} : ∀ b, lst? n f = some b → Img n f n b := fun b e => by
  unfold lst? at e
  split at e
  · cases e
  · split at e
    · cases e
      exact ⟨0, by omega, by omega, rfl⟩
    · cases e
      exact ⟨1, by omega, by omega, rfl⟩
def upN {α : Type} (f : Nat → α) (x : Nat) (v : α) : Nat → α := fun j => if j = x then v else f j
theorem upN_eq {α : Type} {f : Nat → α} {x : Nat} {v : α} : upN f x v x = v := by simp [upN]
theorem upN_ne {α : Type} {f : Nat → α} {x j : Nat} {v : α} (h : j ≠ x) : upN f x v j = f j := by simp [upN, h]
theorem leB_up {mod : Int} {tur : Bool} {it ke : Nat → Int} {x : Nat} {i k : Int} {y z : Nat} (hy : y ≠ x) (hz : z ≠ x) : leB mod tur (upN it x i) (upN ke x k) y z ↔ leB mod tur it ke y z := by
  unfold leB
  rw [upN_ne hy, upN_ne hz, upN_ne hy, upN_ne hz]
theorem info_parts {P : Program} {t : TypeId} {z : Option Value} {a b : Nat} (h : (P.info? t).map (fun i => (i.zero, i.size, i.bytes)) = some (z, a, b)) : ∃ i, P.info? t = some i ∧ i.zero = z ∧ i.size = a ∧ i.bytes = b := by
  cases e : P.info? t with
  | none => rw [e] at h; cases h
  | some i =>
    rw [e] at h
    simp at h
    exact ⟨i, rfl, h.1, h.2.1, h.2.2⟩
theorem map_ne {W : World} {a b : Nat} {es : Array MapEntry} {c : Nat} {cs : Array Value} {t : TypeId} (h : W.heap[a]? = some (.map es c)) (k : W.heap[b]? = some (.cells cs t)) : a ≠ b := by
  rintro rfl
  rw [h] at k
  cases k
theorem own_kept {W W' : World} {b : Nat} {t : TypeId} {s n : Nat} {v : Value} {xs : List Value} (h : W.ownsRow b t s v n xs) (hk : ∀ k, v.ownBlock = some k → W'.heap[k]? = W.heap[k]?) : W'.ownsRow b t s v n xs := by
  refine ⟨h.1, h.2.imp id ?_⟩
  rintro ⟨g, cap, cur, e, hb, hg, rest⟩
  exact ⟨g, cap, cur, e, hb, (hk g (by rw [e]; rfl)).trans hg, rest⟩
theorem step_append_run {P : Program} {ops : Array Oper} {o : Oper} {a : Act} {w : World} {K : Act → World → Prop} {Q : Exit → Act → World → Prop} {E : Prop} (hg : o.guard = none) (s x : Operand) (t : TypeId) (hop : o.op = Op.call { callee := Callee.builtin Builtin.append, args := #[s, x], argTypes := #[t, t] }) (sv xv : Value) (hs : a.eval s = sv) (hx : a.eval x = xv) (v' : Value) (w' : World)
    (hrun : (Builtin.append_ #[t, t] o.type #[sv, xv]).run P w = .ok v' w') (hK : K (a.put o.dst v') w') : if Region.wanted o (yielded ops a.tmps) = true then Oper.wp P o a w K Q else E := by
  have hw : Region.wanted o (yielded ops a.tmps) = true := by simp [Region.wanted, hg]
  rw [if_pos hw]
  unfold Oper.wp
  simp [execOp, hop, resolve, invoke, builtin, hs, hx, hrun, Result.andThen]
  exact hK

end Go.Proofs.Ytjnfcihichaonaa
