/- Contracts of the program's functions, part 29: own work, joined in build order. -/
import Derived.Test.YtjnfcihichaonaaJ28
namespace Go.Proofs.Ytjnfcihichaonaa
open Go.RowKit
set_option maxRecDepth 100000
set_option linter.unusedVariables false
/-- A pair, in a block. -/
def Pr (W : World) (xb hb ob : Nat) : Prop := W.heap[xb]? = some (.cells #[.pointer (some ⟨hb, 0, none⟩), .pointer (some ⟨ob, 0, none⟩)] 26)
theorem Pr.cells {W : World} {xb hb ob : Nat} (h : Pr W xb hb ob) : W.cell? ⟨xb, 0, none⟩ = some (.pointer (some ⟨hb, 0, none⟩)) ∧ W.cell? ⟨xb, 1, none⟩ = some (.pointer (some ⟨ob, 0, none⟩)) := by
  unfold Pr at h
  simp [World.cell?, h]
theorem Pr.fr {h9 o9 base : Nat} {W W' : World} {xb hb ob : Nat} (h : Pr W xb hb ob) (hF : Fr h9 o9 base W W') : Pr W' xb hb ob := hF.oth _ _ h (oth_pair _)
theorem Pr.below {W W' : World} {xb hb ob : Nat} (h : Pr W xb hb ob) (hB : Below W.heap.size W W') : Pr W' xb hb ob := (hB.block _ (Array.getElem?_eq_some_iff.1 h).1).trans h
theorem oth_th (cs : Array Value) : Oth (.cells cs 49) := ⟨cs, _, _, rfl, by decide, by decide, by decide, by decide⟩
theorem oth_op (cs : Array Value) : Oth (.cells cs 32) := ⟨cs, _, _, rfl, by decide, by decide, by decide, by decide⟩
/-- The heap and the document's list. -/
structure Lz (W0 W : World) (hb ob : Nat) (md : Int) (tur : Bool) (lies : Int) (N n : Nat) (pu : Int) (T : Int → Option (Int × Int)) (nx : Int) (lv : Value) (L : List Th) : Prop where
  hp : Hp W0.heap.size W hb ob lv nx md tur lies N n pu T
  tr : Tr W0.heap.size W lv L
  bel : Below W0.heap.size W0 W
  ge : W0.heap.size ≤ ob
/-- They hold the same. -/
structure Syn (T : Int → Option (Int × Int)) (L : List Th) (n : Nat) : Prop where
  len : L.length = n
  iff : ∀ i k v, T i = some (k, v) ↔ (i, k, v) ∈ L
  uq : ∀ p q, p < L.length → q < L.length → (L.getD p th0).1 = (L.getD q th0).1 → p = q
theorem getD_mem {L : List Th} {p : Nat} (h : p < L.length) : L.getD p th0 ∈ L := by
  rw [List.getD_eq_getElem?_getD, List.getElem?_eq_getElem h]
  exact List.getElem_mem _
theorem mem_getD {L : List Th} {x : Th} (h : x ∈ L) : ∃ p, p < L.length ∧ L.getD p th0 = x := by
  obtain ⟨p, hp, e⟩ := List.mem_iff_getElem.1 h
  exact ⟨p, hp, by rw [List.getD_eq_getElem?_getD, List.getElem?_eq_getElem hp, ← e]; rfl⟩
theorem Syn.found {T : Int → Option (Int × Int)} {L : List Th} {n : Nat} (h : Syn T L n) {i k v : Int} (e : T i = some (k, v)) : ∃ p, p < L.length ∧ L.getD p th0 = (i, k, v) ∧ ∀ q, q < L.length → (L.getD q th0).1 = i → q = p := by
  obtain ⟨p, hp, e2⟩ := mem_getD ((h.iff _ _ _).1 e)
  exact ⟨p, hp, e2, fun q hq e3 => h.uq q p hq hp (by rw [e3, e2])⟩
theorem Syn.none {T : Int → Option (Int × Int)} {L : List Th} {n : Nat} (h : Syn T L n) {i : Int} (e : T i = none) : ∀ p, p < L.length → (L.getD p th0).1 ≠ i := fun p hp e2 => by
  have := (h.iff (L.getD p th0).1 (L.getD p th0).2.1 (L.getD p th0).2.2).2 (getD_mem hp)
  rw [e2, e] at this
  cases this
theorem Syn.out {T : Int → Option (Int × Int)} {L : List Th} {n p : Nat} (h : Syn T L (n + 1)) (hp : p < L.length) : Syn (updT T (L.getD p th0).1 Option.none) (L.eraseIdx p) n := by
  have hl := h.len
  have g : ∀ q, (L.eraseIdx p).getD q th0 = if q < p then L.getD q th0 else L.getD (q + 1) th0 := fun q => by
    simp only [List.getD_eq_getElem?_getD, List.getElem?_eraseIdx]
    split <;> rfl
  have hl2 : (L.eraseIdx p).length = n := by rw [List.length_eraseIdx, if_pos hp]; omega
  refine ⟨hl2, fun i k v => ?_, fun a b ha hb e => ?_⟩
  · unfold updT
    split
    · rename_i e
      subst e
      refine ⟨fun e => (by cases e), fun hm => ?_⟩
      obtain ⟨q, hq, e2⟩ := mem_getD hm
      rw [g] at e2
      have h0 : ∀ r, r < L.length → (L.getD r th0).1 = (L.getD p th0).1 → r = p := fun r hr e => h.uq r p hr hp e
      split at e2
      · have := h0 q (by omega) (by rw [e2])
        omega
      · have := h0 (q + 1) (by omega) (by rw [e2])
        omega
    · rename_i hne
      rw [h.iff]
      refine ⟨fun hm => ?_, fun hm => List.mem_of_mem_eraseIdx hm⟩
      obtain ⟨q, hq, e2⟩ := mem_getD hm
      have hqp : q ≠ p := by
        rintro rfl
        exact hne (by rw [e2])
      rcases Nat.lt_or_ge q p with h1 | h1
      · have := getD_mem (L := L.eraseIdx p) (p := q) (by omega)
        rw [g, if_pos h1, e2] at this
        exact this
      · have := getD_mem (L := L.eraseIdx p) (p := q - 1) (by omega)
        rw [g, if_neg (by omega), show q - 1 + 1 = q by omega, e2] at this
        exact this
  · rw [g, g] at e
    split at e <;> split at e
    · exact h.uq a b (by omega) (by omega) e
    · have := h.uq a (b + 1) (by omega) (by omega) e
      omega
    · have := h.uq (a + 1) b (by omega) (by omega) e
      omega
    · have := h.uq (a + 1) (b + 1) (by omega) (by omega) e
      omega
theorem getD_app (L : List Th) (x : Th) (i : Nat) : (L ++ [x]).getD i th0 = if i = L.length then x else L.getD i th0 := by
  simp only [List.getD_eq_getElem?_getD]
  rcases Nat.lt_trichotomy i L.length with h | h | h
  · rw [List.getElem?_append_left h, if_neg (by omega)]
  · subst h
    simp
  · rw [if_neg (by omega), List.getElem?_eq_none (by simp; omega), List.getElem?_eq_none (by omega)]
theorem Syn.push {T : Int → Option (Int × Int)} {L : List Th} {n : Nat} (h : Syn T L n) {i : Int} (k v : Int) (e : T i = Option.none) : Syn (updT T i (some (k, v))) (L ++ [(i, k, v)]) (n + 1) := by
  refine ⟨by rw [List.length_append, h.len]; rfl, fun j l u => ?_, fun a b ha hb e2 => ?_⟩
  · unfold updT
    rw [List.mem_append, List.mem_singleton]
    split
    · rename_i e2
      subst e2
      constructor
      · intro e3
        cases e3
        exact .inr rfl
      · rintro (h1 | h1)
        · rw [← h.iff, e] at h1
          cases h1
        · cases h1
          rfl
    · rename_i hne
      rw [h.iff]
      refine ⟨.inl, ?_⟩
      rintro (h1 | h1)
      · exact h1
      · cases h1
        exact absurd rfl hne
  · rw [List.length_append, List.length_singleton] at ha hb
    rw [getD_app, getD_app] at e2
    split at e2 <;> split at e2
    · omega
    · exact absurd e2.symm (h.none e b (by omega))
    · exact absurd e2 (h.none e a (by omega))
    · exact h.uq a b (by omega) (by omega) e2
theorem Syn.upd {T : Int → Option (Int × Int)} {L : List Th} {n p : Nat} (h : Syn T L n) (hp : p < L.length) {i k v : Int} (e : L.getD p th0 = (i, k, v)) (l : Int) : Syn (updT T i (some (l, v))) (L.set p (i, l, v)) n := by
  have g : ∀ q, q < L.length → (L.set p (i, l, v)).getD q th0 = if q = p then (i, l, v) else L.getD q th0 := fun q hq => by
    simp only [List.getD_eq_getElem?_getD, List.getElem?_set]
    by_cases h1 : p = q
    · subst h1
      simp [hp]
    · rw [if_neg h1, if_neg (fun e => h1 e.symm)]
  have g1 : ∀ q, q < L.length → ((L.set p (i, l, v)).getD q th0).1 = (L.getD q th0).1 := fun q hq => by
    rw [g q hq]
    split
    · rename_i e2
      rw [e2, e]
    · rfl
  refine ⟨by rw [List.length_set]; exact h.len, fun j l' u => ?_, fun a b ha hb e2 => ?_⟩
  · unfold updT
    split
    · rename_i e2
      subst e2
      constructor
      · intro e3
        cases e3
        have := getD_mem (L := L.set p (j, l, v)) (p := p) (by rw [List.length_set]; exact hp)
        rw [g p hp, if_pos rfl] at this
        exact this
      · intro hm
        obtain ⟨q, hq, e3⟩ := mem_getD hm
        rw [List.length_set] at hq
        have e4 := g1 q hq
        rw [e3] at e4
        have e5 := h.uq q p hq hp (by rw [← e4, e])
        subst e5
        rw [g q hq, if_pos rfl] at e3
        cases e3
        rfl
    · rename_i hne
      rw [h.iff]
      constructor
      · intro hm
        obtain ⟨q, hq, e3⟩ := mem_getD hm
        have := getD_mem (L := L.set p (i, l, v)) (p := q) (by rw [List.length_set]; exact hq)
        rw [g q hq, if_neg (by rintro rfl; rw [e] at e3; cases e3; exact hne rfl), e3] at this
        exact this
      · intro hm
        obtain ⟨q, hq, e3⟩ := mem_getD hm
        rw [List.length_set] at hq
        rw [g q hq] at e3
        split at e3
        · cases e3
          exact absurd rfl hne
        · rw [← e3]
          exact getD_mem hq
  · rw [List.length_set] at ha hb
    rw [g1 a ha, g1 b hb] at e2
    exact h.uq a b ha hb e2
section
variable {W0 W : World} {hb ob : Nat} {md : Int} {tur : Bool} {lies : Int} {N n : Nat} {pu : Int} {T : Int → Option (Int × Int)} {nx : Int} {lv : Value} {L : List Th}
theorem Lz.mono {W' : World} (h : Lz W0 W hb ob md tur lies N n pu T nx lv L) (hB : Below W.heap.size W W') : Lz W0 W' hb ob md tur lies N n pu T nx lv L := ⟨h.hp.keep hB, h.tr.below hB, h.bel.trans (hB.mono h.bel.size), h.ge⟩
/-- Behind a call of the heap's. -/
theorem Lz.step {W' : World} {N' n' : Nat} {pu' : Int} {T' : Int → Option (Int × Int)} (h : Lz W0 W hb ob md tur lies N n pu T nx lv L) (hF : Fr hb ob W0.heap.size W W') (hH : Hp W0.heap.size W' hb ob lv nx md tur lies N' n' pu' T') : Lz W0 W' hb ob md tur lies N' n' pu' T' nx lv L := by
  refine ⟨hH, h.tr.kept fun k hk => ?_, h.bel.trans hF.bel, h.ge⟩
  obtain ⟨_, cs, e⟩ := h.tr.own hk
  exact (hF.oth _ _ e (oth_th _)).trans e.symm
/-- The document's list is stored anew. -/
theorem Lz.store {lv' : Value} {nx' : Int} {L' : List Th} {W' : World} (h : Lz W0 W hb ob md tur lies N n pu T nx lv L) (hs : ∃ a n c, lv' = .slice a n c) (ht : Tr W0.heap.size W lv' L') (hW' : W' = (((W.setCell ⟨ob, 0, none⟩ lv').setCell ⟨ob, 1, none⟩ (.int .i64 nx')).setCell ⟨ob, 2, none⟩ (.int .i64 md)).setCell ⟨ob, 3, none⟩ (.bool tur)) : Lz W0 W' hb ob md tur lies N n pu T nx' lv' L' ∧ Fr hb ob W0.heap.size W W' := by
  have kept : ∀ k, k ≠ ob → W'.heap[k]? = W.heap[k]? := fun k hk => by
    rw [hW']
    exact ((((Below.heap_setCell _ _ _ k hk)).trans (Below.heap_setCell _ _ _ k hk)).trans (Below.heap_setCell _ _ _ k hk)).trans (Below.heap_setCell _ _ _ k hk)
  have hB : Below W0.heap.size W W' := by
    rw [hW']
    exact (((((Below.refl _ _).setCell h.ge _).setCell h.ge _).setCell h.ge _).setCell h.ge _)
  have ho : Ordr W' ob lv' nx' md tur lies N := by
    have e1 := heap_setCell_same W ob 0 _ _ lv' h.hp.od.at'
    have e2 := heap_setCell_same _ ob 1 _ _ (.int .i64 nx') e1
    have e3 := heap_setCell_same _ ob 2 _ _ (.int .i64 md) e2
    have e4 := heap_setCell_same _ ob 3 _ _ (.bool tur) e3
    rw [← hW'] at e4
    exact ⟨e4, hs, h.hp.od.mod0, h.hp.od.mod1, h.hp.od.lies0, h.hp.od.lies1⟩
  have nt : ∀ k cs, W.heap[k]? = some (.cells cs 49) → k ≠ ob := fun k cs e e2 => by
    rw [e2, h.hp.od.at'] at e
    cases e
  refine ⟨⟨h.hp.turn (Nat.le_trans h.hp.le hB.size) (fun k hk _ => kept k hk) ho, ht.kept fun k hk => ?_, h.bel.trans hB, h.ge⟩, hB, fun k o e ht => ?_, fun k _ hn => kept k fun e => hn (.inr (.inl e)), fun k hk => .inl ((h.hp.bk_keep (fun k o e n1 _ => kept k fun e2 => ?_) k).1 hk)⟩
  rotate_right
  · rw [e2, h.hp.od.at'] at e
    cases e
    exact n1 _ rfl
  · obtain ⟨_, cs, e⟩ := ht.own hk
    exact kept k (nt k cs e)
  · refine (kept k fun e2 => ?_).trans e
    rw [e2, h.hp.od.at'] at e
    cases e
    obtain ⟨cs, t, z, e, _, t2, _⟩ := ht
    cases e
    exact t2 rfl
theorem Lz.order (h : Lz W0 W hb ob md tur lies N n pu T nx lv L) : W.cell? ⟨ob, 0, none⟩ = some lv ∧ W.cell? ⟨ob, 1, none⟩ = some (.int .i64 nx) ∧ W.cell? ⟨ob, 2, none⟩ = some (.int .i64 md) ∧ W.cell? ⟨ob, 3, none⟩ = some (.bool tur) ∧ W.cell? ⟨ob, 5, none⟩ = some (.int .i64 (N : Int)) ∧ ob < W.heap.size ∧ (∀ i, W.frozen? ⟨ob, i, none⟩ = false) := by
  obtain ⟨c0, c1, c2, c3, _, c5⟩ := h.hp.od.cells
  exact ⟨c0, c1, c2, c3, c5, h.hp.od.lt, fun i => by simp [World.frozen?, h.hp.od.at']⟩
end
end Go.Proofs.Ytjnfcihichaonaa
