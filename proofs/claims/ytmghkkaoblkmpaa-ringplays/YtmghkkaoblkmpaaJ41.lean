/- Contracts of the program's functions, part 41: own work, joined in build order. -/
import Derived.Test.YtmghkkaoblkmpaaJ40
import Derived.Deep.Slices
import Derived.SliceStrings
namespace Go.Proofs.Ytmghkkaoblkmpaa
open Go.RowKit
set_option linter.unusedVariables false
theorem add_more (a : Addr) (m j : Nat) : (a.add m).add j = a.add (m + j) := by
  unfold Addr.add
  rcases Nat.eq_zero_or_pos m with e | e
  · subst e; simp
  · rcases Nat.eq_zero_or_pos j with e2 | e2
    · subst e2; simp
    · rw [if_neg (by omega), if_neg (by omega), if_neg (by omega)]
      simp [Nat.add_assoc]
theorem steps_of {H : Type} {enc : TypeId × Value → H} {P : Program} {w : World} {base : Nat} {spare : Nat → Bool} {held : Bool} {t e : TypeId} {fuel : Nat} {cs : List Value} {x : DataW H × List MemPlace} {fs : Array Field}
    (ht : P.underlying t = some (.slice e)) (he : P.underlying e = some (.struct fs)) (ce : P.cellsOf e = 4) (hsz : fs.size = 4)
    (hf : ∀ j, j < 4 → ∃ f, fs[j]? = some f ∧ f.offset = j ∧ P.cellsOf f.type = 1 ∧ P.underlying f.type = some (.int .i64)) (h : DataW.trod enc P w base spare held fuel t cs = some x) :
    cs = [.slice none 0 0] ∨ ∃ (a : Addr) (len cap : Nat), cs = [.slice (some a) len cap] ∧ len ≤ cap ∧ cap ≤ maxLen ∧ ∀ i j, i < len → j < 4 → ∃ v, w.cell? (a.add (i * 4 + j)) = some (.int .i64 v) ∧ (Lit.int .i64 v).wf = true := by
  rcases Deep.open_slice ht h with ⟨h0, _⟩ | ⟨a, len, cap, m, n, D, Pl, rfl, hb, hl, hm, hmm, _, hx⟩
  · exact .inl h0
  · refine .inr ⟨a, len, cap, rfl, hl, hm, fun i j hi hj => ?_⟩
    have hlm : len ≤ m := by rw [hmm]; split <;> omega
    obtain ⟨cs', h1, h2⟩ := hx i (by omega)
    rw [ce] at h1
    obtain ⟨_, hlen, hcell⟩ := World.cells?_some h1
    obtain ⟨xs, k, _, _, _, hxl, hff⟩ := DataW.trod_struct he h2
    obtain ⟨f, f1, f2, f3, f4⟩ := hf j hj
    have g := hff j f f1
    rw [f2, f3] at g
    have hxj : ∃ y, xs[j]? = some y := ⟨_, List.getElem?_eq_getElem (by omega)⟩
    obtain ⟨y, hy⟩ := hxj
    rw [hy] at g
    obtain ⟨v, hv, _, hw⟩ := DataW.trod_int f4 g
    refine ⟨v, ?_, hw⟩
    have e1 := hcell j hj
    rw [add_more] at e1
    rw [e1]
    have e2 := congrArg (fun l => l[0]?) hv
    simpa using e2
theorem stsl_of {w : World} {a : Addr} {len cap : Nat} (hl : len ≤ cap) (hm : cap ≤ maxLen) (h : ∀ i j, i < len → j < 4 → ∃ v, w.cell? (a.add (i * 4 + j)) = some (.int .i64 v) ∧ (Lit.int .i64 v).wf = true) :
    ∃ F, StSl w (some a) len cap F := by
  refine ⟨fun i j => intOf ((w.cell? (a.add (i * 4 + j))).getD undef), hl, by simp only [maxLen] at hm; omega, fun i j hi hj => ?_, ?_⟩
  · obtain ⟨v, hv, hw⟩ := h i j hi hj
    show -9223372036854775808 ≤ intOf ((w.cell? (a.add (i * 4 + j))).getD undef) ∧ _
    rw [hv]
    exact wf_i64 hw
  · rcases Nat.eq_zero_or_pos len with e | e
    · exact .inl e
    · obtain ⟨b, off, spot⟩ := a
      obtain ⟨v, hc, _⟩ := h 0 0 e (by omega)
      have hspot : spot = none := by simpa [Addr.add] using World.cell?_spot hc
      subst hspot
      refine .inr ⟨b, off, rfl, fun i j hi hj => ?_⟩
      obtain ⟨v, hv, _⟩ := h i j hi hj
      rw [addr_add] at hv
      have e3 : off + i * 4 + j = off + (i * 4 + j) := by omega
      rw [e3, hv, addr_add, hv]
      rfl
theorem ssl_of {w : World} {a : Addr} {len cap : Nat} {ss : List ByteArray} (hl : len ≤ cap) (hm : cap ≤ maxLen) (hs : len ≤ ss.length) (h : ∀ i, i < ss.length → w.cell? (a.add i) = some (.string (ss.getD i ByteArray.empty))) :
    SSl w (some a) len cap (ss.take len) := by
  refine ⟨hl, by simp only [maxLen] at hm; omega, by rw [List.length_take]; omega, ?_⟩
  rcases Nat.eq_zero_or_pos len with e | e
  · exact .inl e
  · obtain ⟨b, off, spot⟩ := a
    have hc := h 0 (by omega)
    have hspot : spot = none := by simpa [Addr.add] using World.cell?_spot hc
    subst hspot
    refine .inr ⟨b, off, rfl, fun i hi => ?_⟩
    have h1 := h i (by omega)
    rw [addr_add] at h1
    rw [h1]
    have e4 : ByteArray.empty = (⟨#[]⟩ : ByteArray) := rfl
    rw [e4]
    simp [List.getD_eq_getElem?_getD, hi]
end Go.Proofs.Ytmghkkaoblkmpaa
