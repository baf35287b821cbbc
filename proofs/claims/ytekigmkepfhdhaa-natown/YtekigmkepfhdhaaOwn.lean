/- Slices of the call's own that grow by append, their content by the index. -/
import Derived.Test.YtekigmkepfhdhaaProdM
import Derived.Deep.AppendLies
namespace Go.Proofs.Ytekigmkepfhdhaa
open Go.RowKit
set_option linter.unusedVariables false
/-- v is a slice of the call's own, of n things. -/
def OR (w : World) (e : TypeId) (base : Nat) (v : Value) (n : Nat) (G : Nat → Value) : Prop :=
  (v = .slice none 0 0 ∧ n = 0) ∨ ∃ g cap f, v = .slice (some ⟨g, 0, none⟩) n cap ∧ base ≤ g ∧ n ≤ cap ∧ cap ≤ maxLen ∧ w.rowIs g e cap f ∧ ∀ i, i < n → f i = G i
theorem OR.owns {w : World} {e : TypeId} {base : Nat} {v : Value} {n : Nat} {G : Nat → Value} (h : OR w e base v n G) : w.ownsRow base e 1 v n ((List.range n).map G) := by
  refine ⟨by simp, ?_⟩
  rcases h with h | ⟨g, cap, f, rfl, hb, hn, hc, ⟨cur, h1, h2, h3⟩, h4⟩
  · exact .inl h
  · refine .inr ⟨g, cap, cur, rfl, hb, h1, hn, hc, by omega, ?_⟩
    refine List.ext_getElem? fun i => ?_
    rw [Nat.mul_one]
    rcases Nat.lt_or_ge i n with hi | hi
    · rw [List.getElem?_take_of_lt hi, List.getElem?_map, List.getElem?_range hi, Array.getElem?_toList, h3 i (by omega), h4 i hi]
      rfl
    · rw [List.getElem?_eq_none (by simp; omega), List.getElem?_eq_none (by simp; omega)]
theorem OR.of_owns {w : World} {e : TypeId} {base : Nat} {v : Value} {n : Nat} {G : Nat → Value} {xs : List Value} (h : w.ownsRow base e 1 v n xs) (hx : ∀ i, i < n → xs[i]? = some (G i)) : OR w e base v n G := by
  rcases h.2 with h | ⟨g, cap, cur, rfl, hb, hg, hn, hc, hs, ht⟩
  · exact .inl h
  · refine .inr ⟨g, cap, fun i => cur.getD i (.int .u64 0), rfl, hb, hn, hc, ⟨cur, hg, by omega, fun i hi => ?_⟩, fun i hi => ?_⟩
    · show _ = some (cur.getD i (.int .u64 0))
      rw [Array.getElem?_eq_getElem (by omega), Array.getD_eq_getD_getElem?, Array.getElem?_eq_getElem (by omega)]
      rfl
    · have := hx i hi
      rw [← ht, List.getElem?_take_of_lt (by omega), Array.getElem?_toList] at this
      show cur.getD i (.int .u64 0) = _
      rw [Array.getD_eq_getD_getElem?, this]
      rfl
theorem OR.kept {w w' : World} {e : TypeId} {base : Nat} {v : Value} {n : Nat} {G : Nat → Value} {row : Option Nat} (h : OR w e base v n G) (hg : w.grownBy w' row) (hne : v.ownBlock = none ∨ v.ownBlock ≠ row) : OR w' e base v n G := by
  rcases h with h | ⟨g, cap, f, rfl, hb, hn, hc, h1, h4⟩
  · exact .inl h
  · refine .inr ⟨g, cap, f, rfl, hb, hn, hc, h1.of_block (hg.block g h1.lt (by simpa [Value.ownBlock] using hne)), h4⟩
theorem OR.below {w w' : World} {e : TypeId} {base : Nat} {v : Value} {n : Nat} {G : Nat → Value} (h : OR w e base v n G) (hb : Below w.heap.size w w') : OR w' e base v n G := by
  rcases h with h | ⟨g, cap, f, rfl, hb', hn, hc, h1, h4⟩
  · exact .inl h
  · exact .inr ⟨g, cap, f, rfl, hb', hn, hc, h1.of_block (hb.block g h1.lt), h4⟩
theorem OR.nil (w : World) (e : TypeId) (base : Nat) (G : Nat → Value) : OR w e base (.slice none 0 0) 0 G := .inl ⟨rfl, rfl⟩
theorem OR.congr {w : World} {e : TypeId} {base : Nat} {v : Value} {n : Nat} {G G' : Nat → Value} (h : OR w e base v n G) (hG : ∀ i, i < n → G i = G' i) : OR w e base v n G' := by
  rcases h with h | ⟨g, cap, f, rfl, hb', hn, hc, h1, h4⟩
  · exact .inl h
  · exact .inr ⟨g, cap, f, rfl, hb', hn, hc, h1, fun i hi => (h4 i hi).trans (hG i hi)⟩
/-- One thing more, by append. -/
theorem wpList_append_one {w : World} {ops : Array Oper} {rest : List Oper} {o : Oper} {ac : Act} {Q : Exit → Act → World → Prop} (hgd : o.guard = none) (s x : Operand) (t : TypeId)
    (ho : o.op = .call { callee := .builtin .append, args := #[s, x], argTypes := #[t, t] }) (e : TypeId) (z : Value) (bytes : Nat) (ht : Try.prog.underlying t = some (.slice e))
    (hi : (Try.prog.info? e).map (fun i => (i.zero, i.size, i.bytes)) = some (some z, 1, bytes)) (hz : z.cells.size = 1) (hby : bytes ≤ 24) (base : Nat) (v : Value) (n : Nat) (G : Nat → Value) (hs : ac.eval s = v) (hown : OR w e base v n G)
    (b : Nat) (c : Nat) (hx : ac.eval x = .slice (some ⟨b, 0, none⟩) 1 c) (u : Value) (hc : w.cell? ⟨b, 0, none⟩ = some u) (h1 : u.oneCell' = true) (hn : n + 1 ≤ 1099511627776) (hbase : base ≤ w.heap.size)
    (h : ∀ g cap w', OR w' e base (.slice (some ⟨g, 0, none⟩) (n + 1) cap) (n + 1) (fun j => if j = n then u else G j) → w.grownBy w' v.ownBlock → (v.ownBlock = some g ∨ g = w.heap.size) → g < w'.heap.size → wpList Try.prog ops Q rest (ac.put o.dst (.slice (some ⟨g, 0, none⟩) (n + 1) cap)) w') : wpList Try.prog ops Q (o :: rest) ac w := by
  obtain ⟨i, hi, hzz, hsz, hb⟩ := info_parts hi
  refine wpList_append_lies w hgd s x t ho base e i z 1 bytes ht hi hzz hsz hb hz (by omega) v n _ hs hown.owns ⟨b, 0, none⟩ 1 c [u] hx rfl (fun j u' hj => ?_) (fun u' hu => by simp at hu; subst hu; exact h1) (by omega) (by simp only [maxLen]; omega) ?_ hbase _ rfl (fun g cap w' k1 k2 k3 k4 => h g cap w' (OR.of_owns k1 fun i hi => ?_) k2 k3 k4)
  · match j, hj with
    | 0, hj => simp at hj; subst hj; simpa [Addr.add] using hc
  · have := Nat.mul_le_mul (show n + 1 ≤ 1099511627776 from hn) hby
    omega
  · rcases Nat.lt_or_ge i n with hh | hh
    · rw [List.getElem?_append_left (by simpa using hh), List.getElem?_map, List.getElem?_range hh, if_neg (by omega)]
      rfl
    · obtain rfl : i = n := by omega
      rw [List.getElem?_append_right (by simp), if_pos rfl]
      simp
end Go.Proofs.Ytekigmkepfhdhaa
