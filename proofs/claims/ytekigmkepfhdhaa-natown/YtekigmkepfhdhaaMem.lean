/- New rows of words, and copies into them. -/
import Derived.Test.YtekigmkepfhdhaaSubW
import Derived.Laws.CopyOwn
namespace Go.Proofs.Ytekigmkepfhdhaa
open Go.RowKit
set_option maxRecDepth 100000
/-- m cells of 0. -/
def zeros (m : Nat) : Array Value := madeCells #[.int .u64 0] m
theorem make_at (L C : Int) (n m : Nat) (hL : L = n) (hC : C = m) (hnm : n ≤ m) (hm : m ≤ 1099511627776) (w : World) :
    (Instr.makeSlice 25 (.int .i64 L) (.int .i64 C)).run Try.prog w = .ok (.slice (some ⟨w.heap.size, 0, none⟩) n m) (w.alloc (.cells (zeros m) 22)) := by
  obtain ⟨i, hi, hz, hs, hb⟩ := info_parts Try.info22
  subst hL hC
  rw [run_make w 25 22 i (.int .u64 0) Try.underlying25 hi hz .i64 .i64 n m (by omega) (by omega) (by rw [hb]; omega) (by omega), hs]
  simp [zeros, Value.cells]
theorem row_zeros (w : World) (m : Nat) : Row (w.alloc (.cells (zeros m) 22)) w.heap.size m (fun _ => 0) :=
  ⟨World.rowIs_made w (.int .u64 0) m _, fun _ _ => by show (0 : Nat) < 18446744073709551616; omega⟩
theorem row_zeros_at (w : World) (m g : Nat) (hg : g = w.heap.size) : Row (w.alloc (.cells (zeros m) 22)) g m (fun _ => 0) := by
  subst hg
  exact row_zeros w m
/-- F with G's first n words laid over it from o on. -/
def over (F : Nat → Nat) (o : Nat) (G : Nat → Nat) (n : Nat) : Nat → Nat := fun j => if o ≤ j ∧ j < o + n then G (j - o) else F j
theorem over_in (F : Nat → Nat) (o : Nat) (G : Nat → Nat) (n : Nat) {i : Nat} (hi : i < n) : over F o G n (o + i) = G i := by
  unfold over
  rw [if_pos (by omega), Nat.add_sub_cancel_left]
theorem over_out (F : Nat → Nat) (o : Nat) (G : Nat → Nat) (n : Nat) {j : Nat} (hj : j < o ∨ o + n ≤ j) : over F o G n j = F j := by
  unfold over
  rw [if_neg (by omega)]
theorem size22 : (Try.prog.info? 22).map (·.size) = some 1 := by kernel_rfl
theorem words_add {w : World} {b o n : Nat} {G : Nat → Nat} (h : Words w b o n G) : ∀ j v, ((List.range n).map fun i => Value.int .u64 ((G i : Nat) : Int))[j]? = some v → w.cell? ((⟨b, o, none⟩ : Addr).add j) = some v := by
  intro j v hj
  have hjn : j < n := by
    rcases Nat.lt_or_ge j n with h' | h'
    · exact h'
    · rw [List.getElem?_eq_none (by simpa using h')] at hj
      cases hj
  have e : (⟨b, o, none⟩ : Addr).add j = ⟨b, o + j, none⟩ := by unfold Addr.add; split <;> simp_all
  rw [e, h j hjn]
  simpa [hjn] using hj
theorem wpList_copy_words {w : World} {ops : Array Oper} {rest : List Oper} {op : Oper} {ac : Act} {Q : Exit → Act → World → Prop} (hgd : op.guard = none) (d s : Operand)
    (ho : op.op = .call { callee := .builtin .copy, args := #[d, s], argTypes := #[25, 25] })
    (g o dLen dCap : Nat) (sp : Option Addr) (sLen sCap : Nat) (hd : ac.eval d = .slice (some ⟨g, o, none⟩) dLen dCap) (hs : ac.eval s = .slice sp sLen sCap)
    (N : Nat) (F G : Nat → Nat) (hF : Row w g N F) (hG : Sl w sp sLen sCap G) (hle : sLen ≤ dLen) (hfit : o + sLen ≤ N)
    (h : ∀ w', Row w' g N (over F o G sLen) → w.grownBy w' (some g) → wpList Try.prog ops Q rest (ac.put op.dst (goInt sLen)) w') : wpList Try.prog ops Q (op :: rest) ac w := by
  by_cases h0 : sLen = 0
  · subst h0
    refine wpList_copy_nothing hgd d s _ _ ho 22 Try.underlying25 size22 _ _ _ _ _ _ hd hs (Nat.zero_min _) ?_
    refine h w ⟨hF.1.congr fun j _ => ?_, fun j hj => ?_⟩ (World.grownBy.refl _ _)
    · rw [over_out _ _ _ _ (by omega)]
    · rw [over_out _ _ _ _ (by omega)]; exact hF.2 j hj
  · obtain ⟨b, so, rfl, hw⟩ := hG.at 0 (by omega)
    obtain ⟨cur, hg, hsz, hcur⟩ := hF.1
    have hcl : ((List.range sLen).map fun i => Value.int .u64 ((G i : Nat) : Int)).length = sLen := by simp
    refine wpList_copy_own hgd d s _ _ ho 22 Try.underlying25 size22 g o dLen dCap ⟨b, so, none⟩ sLen sCap hd hs cur 22 hg ((List.range sLen).map fun i => Value.int .u64 ((G i : Nat) : Int)) (by rw [hcl]; exact (Nat.min_eq_left hle).symm)
      (words_add hw) (by rw [hcl]; omega) (by intro v hv; obtain ⟨i, _, rfl⟩ := List.mem_map.1 hv; rfl) ?_
    rw [hcl]
    refine h _ ⟨⟨_, setRow_heap w g _ _ _ _ hg, ?_, fun j hj => ?_⟩, fun j hj => ?_⟩ ⟨rfl, rfl, rfl, by simp [World.setRow], fun k _ hne => setRow_other w g k _ (fun e => hne (by rw [e]))⟩
    · simp; omega
    · rw [List.getElem?_toArray]
      show _ = some (Value.int .u64 ((over F o G sLen j : Nat) : Int))
      by_cases h1 : j < o
      · rw [over_out _ _ _ _ (.inl h1), List.getElem?_append_left (by simp; omega), List.getElem?_take_of_lt h1]
        simpa using hcur j hj
      · obtain ⟨i, rfl⟩ : ∃ i, j = o + i := ⟨j - o, by omega⟩
        have e1 : (cur.toList.take o).length = o := by simp; omega
        rw [List.getElem?_append_right (by omega), e1, Nat.add_sub_cancel_left]
        by_cases h2 : i < sLen
        · rw [over_in _ _ _ _ h2, List.getElem?_append_left (by simpa using h2)]
          simp [h2]
        · rw [over_out _ _ _ _ (.inr (by omega)), List.getElem?_append_right (by simp; omega), hcl, List.getElem?_drop, show o + sLen + (i - sLen) = o + i by omega]
          simpa using hcur (o + i) hj
    · unfold over
      split
      · exact hG.2.2.1 _ (by omega)
      · exact hF.2 j hj
end Go.Proofs.Ytekigmkepfhdhaa
