/- Contracts of the program's functions, part 44: own work, joined in build order. -/
import Derived.Test.YtjnfcihichaonaaJ43
import Derived.Laws.AppendOwnNone
import Derived.Laws.MakeOwn
import Derived.Shelf.SlSortCmp.InsertionK
namespace Go.Proofs.Ytjnfcihichaonaa
open Go.RowKit
set_option maxRecDepth 100000
set_option linter.unusedVariables false
abbrev Th := Int × Int × Int
def thc (x : Th) : List Value := [.int .i64 x.1, .int .i64 x.2.1, .int .i64 x.2.2]
def thcs (L : List Th) : List Value := L.flatMap thc
theorem thcs_len (L : List Th) : (thcs L).length = L.length * 3 := by
  induction L with
  | nil => rfl
  | cons x L ih => simp only [thcs, List.flatMap_cons, List.length_append, List.length_cons] at ih ⊢; simp only [thc, List.length_cons, List.length_nil]; omega
theorem thcs_app (L M : List Th) : thcs (L ++ M) = thcs L ++ thcs M := by simp [thcs]
def th0 : Th := (0, 0, 0)
theorem thcs_at (L : List Th) (i : Nat) (hi : i < L.length) : (thcs L)[i * 3]? = some (.int .i64 (L.getD i th0).1) ∧ (thcs L)[i * 3 + 1]? = some (.int .i64 (L.getD i th0).2.1) ∧ (thcs L)[i * 3 + 2]? = some (.int .i64 (L.getD i th0).2.2) := by
  induction L generalizing i with
  | nil => simp at hi
  | cons x L ih =>
    have e : thcs (x :: L) = [.int .i64 x.1, .int .i64 x.2.1, .int .i64 x.2.2] ++ thcs L := rfl
    rw [e]
    rcases i with _ | i
    · simp
    · have h := ih i (by simpa using hi)
      have r : ∀ j, ([Value.int .i64 x.1, Value.int .i64 x.2.1, Value.int .i64 x.2.2] ++ thcs L)[(i + 1) * 3 + j]? = (thcs L)[i * 3 + j]? := fun j => by
        rw [List.getElem?_append_right (by simp; omega)]
        congr 1
        simp
        omega
      have r0 := r 0
      simp only [Nat.add_zero] at r0
      rw [r0, r 1, r 2]
      simpa using h
/-- A row of things of one's own. -/
def Tr (base : Nat) (W : World) (v : Value) (L : List Th) : Prop := W.ownsRow base 49 3 v L.length (thcs L)
theorem Tr.nil (base : Nat) (W : World) : Tr base W (.slice none 0 0) [] := ⟨rfl, .inl ⟨rfl, rfl⟩⟩
theorem Tr.own {base : Nat} {W : World} {v : Value} {L : List Th} (h : Tr base W v L) {k : Nat} (hk : v.ownBlock = some k) : base ≤ k ∧ ∃ cs, W.heap[k]? = some (.cells cs 49) := by
  rcases h.2 with ⟨e, _⟩ | ⟨g, cap', cur, e, hb', hg, _⟩
  · rw [e] at hk
    cases hk
  · rw [e] at hk
    cases hk
    exact ⟨hb', cur, hg⟩
theorem Tr.kept {base : Nat} {W W' : World} {v : Value} {L : List Th} (h : Tr base W v L) (hk : ∀ k, v.ownBlock = some k → W'.heap[k]? = W.heap[k]?) : Tr base W' v L := own_kept h hk
theorem Tr.below {base : Nat} {W W' : World} {v : Value} {L : List Th} (h : Tr base W v L) (hB : Below W.heap.size W W') : Tr base W' v L := h.kept fun k hk => by
  obtain ⟨_, cs, e⟩ := h.own hk
  exact hB.block _ (Array.getElem?_eq_some_iff.1 e).1
theorem Tr.weak {base b2 : Nat} {W : World} {v : Value} {L : List Th} (h : Tr base W v L) (hb : b2 ≤ base) : Tr b2 W v L := by
  refine ⟨h.1, h.2.imp id ?_⟩
  rintro ⟨g, cap, cur, e, hb2, rest⟩
  exact ⟨g, cap, cur, e, Nat.le_trans hb hb2, rest⟩
theorem Tr.sl {base : Nat} {W : World} {v : Value} {L : List Th} (h : Tr base W v L) : ∃ a cap, v = .slice a L.length cap ∧ (0 < L.length → ∃ g, a = some ⟨g, 0, none⟩ ∧ base ≤ g ∧ g < W.heap.size ∧ ∀ i, i < L.length → W.cell? ⟨g, i * 3, none⟩ = some (.int .i64 (L.getD i th0).1) ∧ W.cell? ⟨g, i * 3 + 1, none⟩ = some (.int .i64 (L.getD i th0).2.1) ∧ W.cell? ⟨g, i * 3 + 2, none⟩ = some (.int .i64 (L.getD i th0).2.2)) ∧ (a = none → cap = 0) := by
  rcases h.2 with ⟨e, e0⟩ | ⟨g, cap, cur, e, hb', hg, h1, h2, h3, h4⟩
  · exact ⟨none, 0, by rw [e]; congr 1; omega, fun h => by omega, fun _ => rfl⟩
  · refine ⟨_, cap, e, fun _ => ⟨g, rfl, hb', (Array.getElem?_eq_some_iff.1 hg).1, fun i hi => ?_⟩, fun e => by cases e⟩
    have key : ∀ j v, j < L.length * 3 → (thcs L)[j]? = some v → W.cell? ⟨g, j, none⟩ = some v := fun j v hj hv => by
      have q4 := congrArg (fun l => l[j]?) h4
      rw [List.getElem?_take_of_lt hj, Array.getElem?_toList, hv] at q4
      simp [World.cell?, hg, q4]
    obtain ⟨t0, t1, t2⟩ := thcs_at L i hi
    exact ⟨key _ _ (by omega) t0, key _ _ (by omega) t1, key _ _ (by omega) t2⟩
theorem Try.infoT : (Try.prog.info? 49).map (fun i => (i.zero, i.size, i.bytes)) = some (some (.agg #[.int .i64 0, .int .i64 0, .int .i64 0]), 3, 24) := by kernel_rfl
/-- append of a row to a row of one's own. -/
theorem wp_appT {w : World} {ops : Array Oper} {rest : List Oper} {o : Oper} {a : Act} {Q : Exit → Act → World → Prop} (hgd : o.guard = none) (s x : Operand)
    (ho : o.op = .call { callee := .builtin .append, args := #[s, x], argTypes := #[53, 53] }) (base : Nat) (v : Value) (xs : List Th) (hs : a.eval s = v) (hown : Tr base w v xs)
    (b2 : Nat) (u : Value) (ys : List Th) (hx : a.eval x = u) (hS : Tr b2 w u ys) (hlim : xs.length + ys.length ≤ 1000000) (hb : base ≤ w.heap.size)
    (h : ∀ v' w', Hid (Tr base w' v' (xs ++ ys) ∧ Below base w w') → wpList Try.prog ops Q rest (a.put o.dst v') w') : wpList Try.prog ops Q (o :: rest) a w := by
  obtain ⟨i, hi, hz, hsz, hby⟩ := info_parts Try.infoT
  rcases hS.2 with ⟨e, e0⟩ | ⟨g, cap, cur, e, hb', hg, h1, h2, h3, h4⟩
  · have ey : ys = [] := List.eq_nil_of_length_eq_zero e0
    subst ey
    rw [e] at hx
    refine wpList_append_own_none hgd s x 53 ho base 49 i 3 Try.underlying53 hi v _ _ hs hown hx ?_
    exact h v w ⟨by rw [List.append_nil]; exact hown, Below.refl _ _⟩
  · rw [e] at hx
    refine wpList_append_own_at w hgd s x 53 ho base 49 i _ 3 24 Try.underlying53 hi hz hsz hby rfl (by omega) v _ _ hs hown ⟨g, 0, none⟩ ys.length cap (thcs ys) hx (thcs_len ys) (fun j u' hj => ?_) (fun u' hu' => ?_) (by simp only [maxLen]; omega) (by omega) hb ?_
    · have hjl : j < ys.length * 3 := by
        have := (List.getElem?_eq_some_iff.1 hj).1
        rw [thcs_len] at this
        exact this
      have q4 := congrArg (fun l => l[j]?) h4
      rw [List.getElem?_take_of_lt hjl, Array.getElem?_toList, hj] at q4
      rw [addr_add]
      simp [World.cell?, hg, q4]
    · simp only [thcs, List.mem_flatMap, thc] at hu'
      obtain ⟨y, _, hy⟩ := hu'
      simp at hy
      rcases hy with rfl | rfl | rfl <;> rfl
    · intro v' w' q1 q2 _ _
      refine h v' w' ⟨?_, ?_⟩
      · show w'.ownsRow _ _ _ _ _ _
        rw [List.length_append, thcs_app]
        exact q1
      · refine (Below.refl base w).grown q2 hb fun k hk => ?_
        exact (hown.own hk).1
theorem tr_one (w : World) (x : Th) : Tr w.heap.size (w.alloc (.cells #[.int .i64 x.1, .int .i64 x.2.1, .int .i64 x.2.2] 49)) (.slice (some ⟨w.heap.size, 0, none⟩) 1 1) [x] :=
  ⟨rfl, .inr ⟨w.heap.size, 1, _, rfl, Nat.le_refl _, (MapKept.heap_alloc _ _).1, Nat.le_refl _, by simp only [maxLen]; omega, rfl, rfl⟩⟩
end Go.Proofs.Ytjnfcihichaonaa
namespace Go.Proofs.Ytjnfcihichaonaa
open Go.RowKit Go.Shelf Go.Sort
set_option maxRecDepth 100000
set_option linter.unusedVariables false
/-- A mark's two cells. -/
def encMk (x : Int × Int) : List Value := [.int .i64 x.1, .int .i64 x.2]
def mkc (L : List (Int × Int)) : List Value := L.flatMap encMk
theorem mkc_len (L : List (Int × Int)) : (mkc L).length = L.length * 2 := by
  induction L with
  | nil => rfl
  | cons x L ih => simp only [mkc, List.flatMap_cons, List.length_append, List.length_cons] at ih ⊢; simp only [encMk, List.length_cons, List.length_nil]; omega
/-- A row of marks of one's own. -/
def Mr (base : Nat) (W : World) (v : Value) (L : List (Int × Int)) : Prop := W.ownsRow base 79 2 v L.length (mkc L)
theorem Mr.own {base : Nat} {W : World} {v : Value} {L : List (Int × Int)} (h : Mr base W v L) {k : Nat} (hk : v.ownBlock = some k) : base ≤ k ∧ ∃ cs, W.heap[k]? = some (.cells cs 79) := by
  rcases h.2 with ⟨e, _⟩ | ⟨g, cap', cur, e, hb', hg, _⟩
  · rw [e] at hk
    cases hk
  · rw [e] at hk
    cases hk
    exact ⟨hb', cur, hg⟩
theorem Try.infoMk : (Try.prog.info? 79).map (fun i => (i.zero, i.size, i.bytes)) = some (some (.agg #[.int .i64 0, .int .i64 0]), 2, 16) := by kernel_rfl
/-- append of one mark. -/
theorem wp_appMk {w : World} {ops : Array Oper} {rest : List Oper} {o : Oper} {a : Act} {Q : Exit → Act → World → Prop} (hgd : o.guard = none) (s x : Operand)
    (ho : o.op = .call { callee := .builtin .append, args := #[s, x], argTypes := #[83, 83] }) (base : Nat) (v : Value) (xs : List (Int × Int)) (hs : a.eval s = v) (hown : Mr base w v xs)
    (b : Nat) (y : Int × Int) (hx : a.eval x = .slice (some ⟨b, 0, none⟩) 1 1) (h0 : w.cell? ⟨b, 0, none⟩ = some (.int .i64 y.1)) (h1 : w.cell? ⟨b, 1, none⟩ = some (.int .i64 y.2)) (hlim : xs.length ≤ 1000000000) (hb : base ≤ w.heap.size)
    (h : ∀ v' w', Hid (Mr base w' v' (xs ++ [y]) ∧ Below base w w' ∧ v' ≠ .slice none 0 0) → wpList Try.prog ops Q rest (a.put o.dst v') w') : wpList Try.prog ops Q (o :: rest) a w := by
  obtain ⟨i, hi, hz, hsz, hby⟩ := info_parts Try.infoMk
  refine wpList_append_own_at w hgd s x 83 ho base 79 i _ 2 16 Try.underlying83 hi hz hsz hby rfl (by omega) v _ _ hs hown ⟨b, 0, none⟩ 1 1 (encMk y) hx rfl (fun j u' hj => ?_) (fun u' hu' => ?_) (by simp only [maxLen]; omega) (by omega) hb ?_
  · rw [addr_add]
    rcases j with _ | _ | j
    · simp [encMk] at hj
      subst hj
      exact h0
    · simp [encMk] at hj
      subst hj
      exact h1
    · simp [encMk] at hj
  · simp [encMk] at hu'
    rcases hu' with rfl | rfl <;> rfl
  · intro v' w' q1 q2 q3 _
    refine h v' w' ⟨?_, (Below.refl base w).grown q2 hb fun k hk => (hown.own hk).1, fun e => ?_⟩
    · unfold Mr
      rw [List.length_append, List.length_singleton, show mkc (xs ++ [y]) = mkc xs ++ encMk y by simp [mkc]]
      exact q1
    · have := (q3.1 e).2
      omega
end Go.Proofs.Ytjnfcihichaonaa
