/- A slice of numbers of the call's own that grows by append. -/
import Derived.Test.YtekigmkepfhdhaaTextM
import Derived.Test.YtekigmkepfhdhaaReached
import Derived.Test.YtekigmkepfhdhaaTenT
namespace Go.Proofs.Ytekigmkepfhdhaa
open Go.RowKit
set_option linter.unusedVariables false
theorem Try.info27 : (Try.prog.info? 27).map (fun i => (i.zero, i.size, i.bytes)) = some (some (.agg #[.slice none 0 0]), 1, 24) := by kernel_rfl
/-- A number stays where a block is written that holds no word. -/
theorem IsNat.keep {w w' : World} {v : Value} {x b : Nat} (h : IsNat w v x) (hg : w.grownBy w' (some b)) (hb : ∀ i z, w.cell? ⟨b, i, none⟩ ≠ some (.int .u64 z)) : IsNat w' v x := by
  obtain ⟨a, n, cap, F, rfl, ⟨s1, s2, s3, s4⟩, h0, h1, hv⟩ := h
  refine ⟨a, n, cap, F, rfl, ⟨s1, s2, s3, ?_⟩, h0, h1, hv⟩
  rcases s4 with e | ⟨b', o, rfl, hw⟩
  · exact .inl e
  · rcases Nat.eq_zero_or_pos n with e | hn
    · exact .inl e
    · refine .inr ⟨b', o, rfl, fun i hi => hg.cell (hw i hi) ?_⟩
      intro e
      cases e
      exact hb _ _ (hw i hi)
/-- v is a slice of the call's own of n numbers' cells; what is spare is nought. -/
def OZ (w : World) (base : Nat) (v : Value) (n : Nat) (G : Nat → Value) : Prop :=
  ∃ g cap f, v = .slice (some ⟨g, 0, none⟩) n cap ∧ base ≤ g ∧ n ≤ cap ∧ cap ≤ maxLen ∧ w.rowIs g 27 cap f ∧ (∀ i, i < n → f i = G i) ∧ ∀ i, n ≤ i → i < cap → f i = .slice none 0 0
theorem rowIs_noword {w : World} {g cap : Nat} {t : TypeId} {f : Nat → Value} (h : w.rowIs g t cap f) (hf : ∀ i, i < cap → ∀ z, f i ≠ .int .u64 z) : ∀ i z, w.cell? ⟨g, i, none⟩ ≠ some (.int .u64 z) := by
  intro i z e
  rcases Nat.lt_or_ge i cap with hi | hi
  · rw [h.cell hi] at e
    exact hf i hi z (by simpa using e)
  · obtain ⟨c, h1, h2, h3⟩ := h
    rw [World.cell?] at e
    simp [h1] at e
    rw [Array.getElem?_eq_none (by omega)] at e
    cases e
theorem zeroCells_nat (k : Nat) {j : Nat} (h : j < k) : (Builtin.zeroCells (Value.agg #[.slice none 0 0]).cells k)[j]? = some (.slice none 0 0) := by
  have e : (Value.agg #[.slice none 0 0]).cells = #[.slice none 0 0] := rfl
  rw [e]
  unfold Builtin.zeroCells
  rw [Array.getElem?_map, Array.getElem?_range, if_pos (by simpa using h)]
  simp [Nat.mod_one]
theorem append_oz (w : World) (base : Nat) (v : Value) (n : Nat) (G : Nat → Value) (h : OZ w base v n G) (ty : TypeId) (b c : Nat) (u : Value) (hc : w.cell? ⟨b, 0, none⟩ = some u) (h1 : u.oneCell' = true) (hn : n + 1 ≤ 1099511627776) (hbase : base ≤ w.heap.size) :
    ∃ v' w', (Builtin.append_ #[77, 77] ty #[v, .slice (some ⟨b, 0, none⟩) 1 c]).run Try.prog w = .ok v' w' ∧ OZ w' base v' (n + 1) (fun j => if j = n then u else G j) ∧ w.grownBy w' v.ownBlock := by
  obtain ⟨g, cap, f, rfl, hb, hnc, hcm, hr, hf, hz⟩ := h
  obtain ⟨i, hi, hzz, hsz, hby⟩ := info_parts Try.info27
  obtain ⟨cur, hg, hcs, hcur⟩ := id hr
  have hnews : ∀ j u', [u][j]? = some u' → w.cell? ((⟨b, 0, none⟩ : Addr).add j) = some u' := by
    intro j u' hj
    match j, hj with
    | 0, hj => simp at hj; subst hj; simpa [Addr.add] using hc
  by_cases hroom : n + 1 ≤ cap
  · have e := run_append_room (P := Try.prog) w 77 ty 27 i Try.underlying77 hi g n cap cur hg ⟨b, 0, none⟩ 1 c [u] (by rw [hsz]; rfl) hnews (by intro u' hu; simp at hu; subst hu; exact h1) hroom (by rw [hsz]; simp; omega)
    refine ⟨_, _, e, ⟨g, cap, fun j => if j = n then u else f j, rfl, hb, hroom, hcm, ⟨_, setRow_heap w g _ _ _ _ hg, ?_, fun j hj => ?_⟩, fun j hj => ?_, fun j hj1 hj2 => ?_⟩, ⟨rfl, rfl, rfl, by simp [World.setRow], fun k _ hne => setRow_other w g k _ (fun e => hne (by rw [e]; rfl))⟩⟩
    · simp [hsz]; omega
    · show _ = some (if j = n then u else f j)
      rw [List.getElem?_toArray, hsz, Nat.mul_one, List.append_assoc]
      have e1 : (cur.toList.take n).length = n := by simp; omega
      by_cases h1 : j < n
      · rw [if_neg (by omega), List.getElem?_append_left (by omega), List.getElem?_take_of_lt h1]
        simpa using hcur j hj
      · by_cases h2 : j = n
        · subst h2
          rw [if_pos rfl, List.getElem?_append_right (by omega), e1]
          simp
        · rw [if_neg h2, List.getElem?_append_right (by omega), e1, List.getElem?_append_right (by simp; omega), List.getElem?_drop]
          simp only [List.length_cons, List.length_nil]
          rw [show n + (0 + 1) + (j - n - (0 + 1)) = j by omega]
          simpa using hcur j hj
    · show (if j = n then u else f j) = if j = n then u else G j
      split
      · rfl
      · exact hf j (by omega)
    · show (if j = n then u else f j) = _
      rw [if_neg (by omega)]
      exact hz j (by omega) hj2
  · obtain rfl : n = cap := by omega
    have e := run_append_grow (P := Try.prog) w 77 ty 27 i _ Try.underlying77 hi hzz ⟨g, 0, none⟩ n n cur.toList (by rw [hsz]; simp; omega) (by
      intro j u' hj
      have hj2 : cur[j]? = some u' := by simpa using hj
      rw [Addr.add_lit]
      simp [World.cell?, hg, hj2]) ⟨b, 0, none⟩ 1 c [u] (by rw [hsz]; rfl) hnews (by omega) (by omega) (growslice_fits (by omega) (by rw [hby]; omega))
    have hge := grownCap_ge w (n + 1) n 27
    have hcm2 := grownCap_le_maxLen w (n + 1) n 27 (by simp only [maxLen]; omega)
    generalize grownCap w (n + 1) n 27 = gc at e hge hcm2
    refine ⟨_, _, e, ⟨w.heap.size, gc, fun j => if j = n then u else if j < n then f j else .slice none 0 0, rfl, hbase, hge, hcm2, ⟨_, heap_alloc_new w.drew _, ?_, fun j hj => ?_⟩, fun j hj => ?_, fun j hj1 hj2 => ?_⟩, ⟨rfl, rfl, rfl, by simp, fun k hk _ => heap_alloc_old w.drew _ hk⟩⟩
    · rw [Array.size_append, Array.size_append, size_zeroCells]
      show cur.toList.toArray.size + 1 + (gc - (n + 1)) * 1 = gc
      simp
      omega
    · show _ = some (if j = n then u else if j < n then f j else .slice none 0 0)
      rcases Nat.lt_trichotomy j n with h2 | h2 | h2
      · rw [if_neg (by omega), if_pos h2, Array.append_assoc, Array.getElem?_append_left (by simp; omega)]
        simpa using hcur j h2
      · subst h2
        rw [if_pos rfl, Array.append_assoc, Array.getElem?_append_right (by simp; omega), Array.getElem?_append_left (by simp; omega)]
        simp [hcs]
      · rw [if_neg (by omega), if_neg (by omega), Array.getElem?_append_right (by simp; omega)]
        have e3 : j - (cur.toList.toArray ++ [u].toArray).size = j - (n + 1) := by simp [hcs]
        rw [e3, zeroCells_nat _ (by omega)]
    · show (if j = n then u else if j < n then f j else _) = if j = n then u else G j
      split
      · rfl
      · rw [if_pos (by omega)]
        exact hf j (by omega)
    · show (if j = n then u else if j < n then f j else _) = _
      rw [if_neg (by omega), if_neg (by omega)]
end Go.Proofs.Ytekigmkepfhdhaa
