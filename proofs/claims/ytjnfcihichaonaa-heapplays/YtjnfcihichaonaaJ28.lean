/- Contracts of the program's functions, part 28: own work, joined in build order. -/
import Derived.Test.YtjnfcihichaonaaJ27
namespace Go.Proofs.Ytjnfcihichaonaa
open Go.RowKit
set_option maxRecDepth 100000
set_option linter.unusedVariables false
theorem erase_step (L : List Th) (p i : Nat) (hi : i < L.length) : (L.take (i + 1)).eraseIdx p = if i = p then (L.take i).eraseIdx p else (L.take i).eraseIdx p ++ [L.getD i th0] := by
  have e1 : L.take (i + 1) = L.take i ++ [L.getD i th0] := by
    rw [List.take_add_one, List.getD_eq_getElem?_getD, List.getElem?_eq_getElem hi]
    rfl
  have hl : (L.take i).length = i := by simp; omega
  rw [e1]
  split
  · rename_i e
    subst e
    rw [List.eraseIdx_append_of_length_le (by omega), hl, Nat.sub_self, List.eraseIdx_of_length_le (l := L.take i) (by omega)]
    simp
  · rename_i hne
    rcases Nat.lt_or_ge p i with h | h
    · rw [List.eraseIdx_append_of_lt_length (by omega)]
    · rw [List.eraseIdx_of_length_le (by simp; omega), List.eraseIdx_of_length_le (by omega)]
theorem erase_short (L : List Th) (p i : Nat) : ((L.take i).eraseIdx p).length ≤ L.length := by
  have := List.length_eraseIdx_le (L.take i) p
  have h2 : (L.take i).length ≤ L.length := by simp; omega
  omega
/-- What Out keeps. -/
structure Ou (w W : World) (base s : Nat) (lv : Value) (nx md : Int) (tur : Bool) (L : List Th) (l : Value) (M : List Th) : Prop where
  r3 : W.rowIs s 55 4 (hvF lv nx md tur)
  r4 : W.rowIs (s + 1) 55 4 (hvF (.slice none 0 0) 0 0 false)
  src : Tr base W lv L
  row : Tr (s + 2) W l M
  le : s + 2 ≤ W.heap.size
  bel : Below s w W
  src' : ∀ k, lv.ownBlock = some k → k < s
theorem Ou.later {w W W' : World} {base s : Nat} {lv : Value} {nx md : Int} {tur : Bool} {L : List Th} {l l' : Value} {M M' : List Th} (h : Ou w W base s lv nx md tur L l M) (hB : Below (s + 2) W W') (hr : Tr (s + 2) W' l' M') : Ou w W' base s lv nx md tur L l' M' :=
  ⟨h.r3.of_block (hB.block _ (by omega)), h.r4.of_block (hB.block _ (by omega)), h.src.kept fun k hk => hB.block k (by have := h.src' k hk; omega), hr, Nat.le_trans h.le hB.size, h.bel.trans (hB.mono (by omega)), h.src'⟩
/-- .. the end: the row is stored, the answer laid. -/
theorem Ou.done {w W : World} {base s : Nat} {lv : Value} {nx md : Int} {tur : Bool} {L : List Th} {l : Value} {M : List Th} (h : Ou w W base s lv nx md tur L l M) (W6 : World) (hW6 : W6 = ((((W.setCell ⟨s, 0, none⟩ l).setCell ⟨s + 1, 0, none⟩ l).setCell ⟨s + 1, 1, none⟩ (.int .i64 nx)).setCell ⟨s + 1, 2, none⟩ (.int .i64 md)).setCell ⟨s + 1, 3, none⟩ (.bool tur)) :
    W6.cell? ⟨s + 1, 0, none⟩ = some l ∧ W6.cell? ⟨s + 1, 1, none⟩ = some (.int .i64 nx) ∧ W6.cell? ⟨s + 1, 2, none⟩ = some (.int .i64 md) ∧ W6.cell? ⟨s + 1, 3, none⟩ = some (.bool tur) ∧ Tr s W6 l M ∧ Below s w W6 := by
  have hb : s ≤ s + 1 := by omega
  have R5 := h.r4.setOther (a := ⟨s, 0, none⟩) (by simp) l
  have R6 : W6.rowIs (s + 1) 55 4 (hvF l nx md tur) := by
    rw [hW6]
    refine ((((R5.set 0 _).set 1 _).set 2 _).set 3 _).congr fun i hi => ?_
    match i, hi with
    | 0, _ => rfl
    | 1, _ => rfl
    | 2, _ => rfl
    | 3, _ => rfl
  refine ⟨R6.cell (i := 0) (by omega), R6.cell (i := 1) (by omega), R6.cell (i := 2) (by omega), R6.cell (i := 3) (by omega), (h.row.kept fun k hk => ?_).weak (by omega), ?_⟩
  · have hk2 := (h.row.own hk).1
    rw [hW6]
    have n1 : k ≠ s + 1 := by omega
    have n2 : k ≠ s := by omega
    exact ((((Below.heap_setCell _ _ _ k n1).trans (Below.heap_setCell _ _ _ k n1)).trans (Below.heap_setCell _ _ _ k n1)).trans (Below.heap_setCell _ _ _ k n1)).trans (Below.heap_setCell _ _ _ k n2)
  · rw [hW6]
    exact ((((h.bel.setCell (Nat.le_refl _) _).setCell hb _).setCell hb _).setCell hb _).setCell hb _
/-- The cells that are read. -/
theorem Ou.cells {w W : World} {base s : Nat} {lv : Value} {nx md : Int} {tur : Bool} {L : List Th} {l : Value} {M : List Th} (h : Ou w W base s lv nx md tur L l M) : (W.cell? ⟨s, 0, none⟩ = some lv ∧ W.cell? ⟨s, 1, none⟩ = some (.int .i64 nx) ∧ W.cell? ⟨s, 2, none⟩ = some (.int .i64 md) ∧ W.cell? ⟨s, 3, none⟩ = some (.bool tur) ∧ W.frozen? ⟨s, 0, none⟩ = false) ∧ W.cell? ⟨s + 1, 0, none⟩ = some (.slice none 0 0) ∧ W.cell? ⟨s + 1, 1, none⟩ = some (.int .i64 0) ∧ W.cell? ⟨s + 1, 2, none⟩ = some (.int .i64 0) ∧ W.cell? ⟨s + 1, 3, none⟩ = some (.bool false) ∧ W.frozen? ⟨s + 1, 0, none⟩ = false ∧ W.frozen? ⟨s + 1, 1, none⟩ = false ∧ W.frozen? ⟨s + 1, 2, none⟩ = false ∧ W.frozen? ⟨s + 1, 3, none⟩ = false :=
  ⟨⟨h.r3.cell (i := 0) (by omega), h.r3.cell (i := 1) (by omega), h.r3.cell (i := 2) (by omega), h.r3.cell (i := 3) (by omega), h.r3.frozen 0⟩, h.r4.cell (i := 0) (by omega), h.r4.cell (i := 1) (by omega), h.r4.cell (i := 2) (by omega), h.r4.cell (i := 3) (by omega), h.r4.frozen 0, h.r4.frozen 1, h.r4.frozen 2, h.r4.frozen 3⟩
theorem ou_start {base : Nat} {w : World} {lv : Value} {L : List Th} (nx md : Int) (tur : Bool) (h : Tr base w lv L) : Ou w ((w.alloc (.cells #[lv, .int .i64 nx, .int .i64 md, .bool tur] 55)).alloc (.cells #[.slice none 0 0, .int .i64 0, .int .i64 0, .bool false] 55)) base w.heap.size lv nx md tur L (.slice none 0 0) [] := by
  have B1 : Below w.heap.size w ((w.alloc (.cells #[lv, .int .i64 nx, .int .i64 md, .bool tur] 55)).alloc (.cells #[.slice none 0 0, .int .i64 0, .int .i64 0, .bool false] 55)) := ((Below.refl _ _).alloc (Nat.le_refl _) _).alloc (by simp) _
  have R := hv_box (w.alloc (.cells #[lv, .int .i64 nx, .int .i64 md, .bool tur] 55)) (.slice none 0 0) 0 0 false
  refine ⟨(hv_box w _ _ _ _).alloc _, by simpa using R, h.below B1, Tr.nil _ _, by simp, B1, fun k hk => ?_⟩
  obtain ⟨_, cs, e⟩ := h.own hk
  exact (Array.getElem?_eq_some_iff.1 e).1
set_option maxHeartbeats 2000000 in
theorem refOut_any {base : Nat} {lv : Value} {L : List Th} (nx md : Int) (tur : Bool) (p : Nat) (w : World) (h : Tr base w lv L) (hl : L.length ≤ 100000) (hp : p < L.length) :
    Calls Try.prog 49 #[.agg #[lv, .int .i64 nx, .int .i64 md, .bool tur], .int .i64 (p : Int)] w fun e w' => ∃ lv', e = .returned (.agg #[lv', .int .i64 nx, .int .i64 md, .bool tur]) ∧ Tr w.heap.size w' lv' (L.eraseIdx p) ∧ Below w.heap.size w w' := by
  obtain ⟨a, cap, e9, hat, _⟩ := h.sl
  obtain ⟨n, en⟩ : ∃ n, n = L.length := ⟨_, rfl⟩
  rw [← en] at e9
  subst e9
  obtain ⟨g, rfl, hg1, hg2, hc⟩ := hat (by omega)
  have H0 := ou_start nx md tur h
  obtain ⟨W1, hW1⟩ : ∃ W1, W1 = ((w.alloc (.cells #[.slice (some ⟨g, 0, none⟩) n cap, .int .i64 nx, .int .i64 md, .bool tur] 55)).alloc (.cells #[.slice none 0 0, .int .i64 0, .int .i64 0, .bool false] 55)) := ⟨_, rfl⟩
  obtain ⟨s, es⟩ : ∃ s, s = w.heap.size := ⟨_, rfl⟩
  have HW : Hid (((w.alloc (.cells #[.slice (some ⟨g, 0, none⟩) n cap, .int .i64 nx, .int .i64 md, .bool tur] 55)).alloc (.cells #[.slice none 0 0, .int .i64 0, .int .i64 0, .bool false] 55)) = W1 ∧ w.heap.size = s) := ⟨hW1.symm, es.symm⟩
  have HL : Hid (L.length = n) := en.symm
  have M0 : Hid (Ou w W1 base s (.slice (some ⟨g, 0, none⟩) n cap) nx md tur L (.slice none 0 0) ((L.take 0).eraseIdx p)) := by rw [hW1, es]; exact H0
  have hl' : n ≤ 100000 := by omega
  have hp' : p < n := by omega
  clear H0 hW1 es h hat hc hg1 hg2 en hl hp
  go_enter Try.func49, Try.ntmps49
  go_wp2_with fail
  rw [HW.out.1, HW.out.2]
  go_loopw [5, 6] (fun tl t wr => ∃ (i m c : Nat) (a' : Option Addr), i ≤ n ∧ t = .int .i64 (i : Int) ∧ tl = .slice a' m c ∧ Hid (Ou w wr base s (.slice (some ⟨g, 0, none⟩) n cap) nx md tur L (.slice a' m c) ((L.take i).eraseIdx p) ∧ ((L.take i).eraseIdx p).length = m)) (fun _ t _ => n - (intOf t).toNat)
  case atStart => exact ⟨0, 0, 0, none, by omega, rfl, rfl, M0.out, by simp⟩
  case round =>
    clear M0
    obtain ⟨i, m, c, a', hin, rfl, rfl, hS⟩ := hrel
    obtain ⟨⟨x0, x1, x2, x3, f0⟩, q0, q1, q2, q3, g0, g1, g2, g3⟩ := hS.out.1.cells
    by_cases hi : i < n
    · have hi' : (i : Int) < (n : Int) := by omega
      have w5 : IntKind.i64.wrap ((i : Int) + 1) = (i : Int) + 1 := by rw [IntKind.wrap_i64]; omega
      have hst := erase_step L p i (by have := HL.out; omega)
      by_cases hip : i = p
      · rw [if_pos hip] at hst
        have hS' : Hid (Ou w wr base s (.slice (some ⟨g, 0, none⟩) n cap) nx md tur L (.slice a' m c) ((L.take (i + 1)).eraseIdx p) ∧ ((L.take (i + 1)).eraseIdx p).length = m) := by rw [hst]; exact hS
        subst hip
        clear hst hS q0 q1 q2 q3 g0 g1 g2 g3
        go_wp2_with fail
        go_roundw
        case rel => exact ⟨i + 1, m, c, a', by omega, by go_num, rfl, hS'⟩
        case measure => simp [intOf]; omega
      · rw [if_neg hip] at hst
        obtain ⟨a9, c9, e9, hat, _⟩ := hS.out.1.src.sl
        injection e9 with e91 e92 e93
        subst e91
        obtain ⟨g9, eg9, _, _, hc⟩ := hat (by have := HL.out; omega)
        cases eg9
        obtain ⟨k0, k1, k2⟩ := hc i (by have := HL.out; omega)
        obtain ⟨X, eX⟩ : ∃ X : Th, X = L.getD i th0 := ⟨_, rfl⟩
        rw [← eX] at k0 k1 k2 hst
        have hne : ((i : Int) == (p : Int)) = false := by simp; omega
        have hne2 : ((i : Int) != (p : Int)) = true := by simp; omega
        have HT : Hid ((L.take (i + 1)).eraseIdx p = (L.take i).eraseIdx p ++ [X]) := hst
        have hm : m ≤ n := by
          have h1 := hS.out.2
          have h2 := erase_short L p i
          have := HL.out
          omega
        clear hst hat hc eX e92 e93 q0 q1 q2 q3 g0 g1 g2 g3
        go_wp2_with (refine (id ?_ : wpList Try.prog _ _ (⟨some 24, _, _, _, _, _⟩ :: _) _ _); refine wp_appT rfl (.tmp 17) (.tmp 23) rfl (s + 2) (.slice a' m c) ((L.take i).eraseIdx p) rfl (hS.out.1.row.below ((Below.refl _ _).alloc (Nat.le_refl _) _)) wr.heap.size _ [X] rfl (tr_one wr X) (by have := hS.out.2; simp; omega) (by have := hS.out.1.le; simp; omega) ?_)
        intro v7 w7 H7
        obtain ⟨a7, c7, e7, _⟩ := H7.out.1.sl
        rw [List.length_append, hS.out.2, List.length_singleton] at e7
        subst e7
        have HN : Hid (Ou w w7 base s (.slice (some ⟨g, 0, none⟩) n cap) nx md tur L (.slice a7 (m + 1) c7) ((L.take (i + 1)).eraseIdx p) ∧ ((L.take (i + 1)).eraseIdx p).length = m + 1) := by
          rw [HT.out]
          refine ⟨hS.out.1.later ((((Below.refl _ _).alloc (Nat.le_refl _) _).mono hS.out.1.le).trans H7.out.2) H7.out.1, by rw [List.length_append, hS.out.2]; rfl⟩
        clear hS H7 x0 x1 x2 x3 f0 k0 k1 k2
        go_wp2_with fail
        go_roundw
        case rel => exact ⟨i + 1, m + 1, c7, a7, by omega, by go_num, rfl, HN⟩
        case measure => simp [intOf]; omega
    · obtain rfl : i = n := by omega
      have hS' : Hid (Ou w wr base s (.slice (some ⟨g, 0, none⟩) i cap) nx md tur L (.slice a' m c) (L.eraseIdx p)) := by
        have h9 := hS.out.1
        have e9 : L.take i = L := by rw [← HL.out]; exact List.take_length
        rw [e9] at h9
        exact h9
      obtain ⟨W6, hW6⟩ : ∃ W6, W6 = ((((wr.setCell ⟨s, 0, none⟩ (.slice a' m c)).setCell ⟨s + 1, 0, none⟩ (.slice a' m c)).setCell ⟨s + 1, 1, none⟩ (.int .i64 nx)).setCell ⟨s + 1, 2, none⟩ (.int .i64 md)).setCell ⟨s + 1, 3, none⟩ (.bool tur) := ⟨_, rfl⟩
      obtain ⟨t0, t1, t2, t3, tT, tB⟩ := hS'.out.done W6 hW6
      have HF : Hid (Tr w.heap.size W6 (.slice a' m c) (L.eraseIdx p) ∧ Below w.heap.size w W6) := by rw [HW.out.2]; exact ⟨tT, tB⟩
      have HW6 : Hid (((((wr.setCell ⟨s, 0, none⟩ (.slice a' m c)).setCell ⟨s + 1, 0, none⟩ (.slice a' m c)).setCell ⟨s + 1, 1, none⟩ (.int .i64 nx)).setCell ⟨s + 1, 2, none⟩ (.int .i64 md)).setCell ⟨s + 1, 3, none⟩ (.bool tur) = W6) := hW6.symm
      clear hS hS' tT tB hW6 HW
      go_wp2_with fail
      rw [HW6.out]
      refine bodyPost_ret (v := .agg #[.slice a' m c, .int .i64 nx, .int .i64 md, .bool tur]) (by simp [results, Try.results49, go_sem, t0, t1, t2, t3]) rfl ?_
      exact ⟨_, rfl, HF.out⟩
/-- A key in a row is written. -/
theorem thcs_set (L : List Th) (i : Nat) (k : Int) (hi : i < L.length) : (thcs L).set (i * 3 + 1) (.int .i64 k) = thcs (L.set i ((L.getD i th0).1, k, (L.getD i th0).2.2)) := by
  induction L generalizing i with
  | nil => simp at hi
  | cons x L ih =>
    have e : ∀ y : Th, ∀ M, thcs (y :: M) = .int .i64 y.1 :: .int .i64 y.2.1 :: .int .i64 y.2.2 :: thcs M := fun _ _ => rfl
    rcases i with _ | i
    · simp [e]
    · have h := ih i (by simpa using hi)
      rw [show (i + 1) * 3 + 1 = i * 3 + 1 + 1 + 1 + 1 by omega, e x L]
      show Value.int .i64 x.1 :: .int .i64 x.2.1 :: .int .i64 x.2.2 :: (thcs L).set (i * 3 + 1) (.int .i64 k) = _
      rw [h]
      rfl
theorem Tr.setK {base : Nat} {W : World} {g n c : Nat} {L : List Th} (h : Tr base W (.slice (some ⟨g, 0, none⟩) n c) L) (i : Nat) (k : Int) (hi : i < L.length) : Tr base (W.setCell ⟨g, i * 3 + 1, none⟩ (.int .i64 k)) (.slice (some ⟨g, 0, none⟩) n c) (L.set i ((L.getD i th0).1, k, (L.getD i th0).2.2)) := by
  rcases h.2 with ⟨e, e0⟩ | ⟨g', cap, cur, e, hb', hg, h1, h2, h3, h4⟩
  · cases e
  · cases e
    have hx := heap_setCell_same W g (i * 3 + 1) _ _ (.int .i64 k) hg
    refine ⟨by rw [thcs_len], .inr ⟨g, c, _, by rw [List.length_set], hb', hx, by rw [List.length_set]; exact h1, h2, by simpa using h3, ?_⟩⟩
    rw [List.length_set, ← thcs_set L i k hi, ← h4]
    simp [List.take_set]
theorem Ou.setK {w W : World} {base s : Nat} {lv : Value} {nx md : Int} {tur : Bool} {L : List Th} {g n c : Nat} {M : List Th} (h : Ou w W base s lv nx md tur L (.slice (some ⟨g, 0, none⟩) n c) M) (i : Nat) (k : Int) (hi : i < M.length) : Ou w (W.setCell ⟨g, i * 3 + 1, none⟩ (.int .i64 k)) base s lv nx md tur L (.slice (some ⟨g, 0, none⟩) n c) (M.set i ((M.getD i th0).1, k, (M.getD i th0).2.2)) := by
  have hg := (h.row.own (k := g) rfl).1
  exact h.later ((Below.refl _ _).setCell hg _) (h.row.setK i k hi)
set_option maxHeartbeats 2000000 in
theorem refUpdate_none {base : Nat} {lv : Value} {L : List Th} (nx md : Int) (tur : Bool) (item k : Int) (w : World) (h : Tr base w lv L) (hl : L.length ≤ 100000) (hp : ∀ p, p < L.length → (L.getD p th0).1 ≠ item) :
    Calls Try.prog 50 #[.agg #[lv, .int .i64 nx, .int .i64 md, .bool tur], .int .i64 item, .int .i64 k] w fun e w' => e = .returned (.tuple #[.agg #[lv, .int .i64 nx, .int .i64 md, .bool tur], .int .i64 50]) ∧ Below w.heap.size w w' := by
  obtain ⟨a, cap, e9, _, _⟩ := h.sl
  subst e9
  obtain ⟨W1, hW1⟩ : ∃ W1, W1 = ((w.alloc (.cells #[.slice a L.length cap, .int .i64 nx, .int .i64 md, .bool tur] 55)).alloc (.cells #[.slice none 0 0, .int .i64 0, .int .i64 0, .bool false] 55)) := ⟨_, rfl⟩
  obtain ⟨s, es⟩ : ∃ s, s = w.heap.size := ⟨_, rfl⟩
  have M0 : Ou w W1 base s (.slice a L.length cap) nx md tur L (.slice none 0 0) [] := by rw [hW1, es]; exact ou_start nx md tur h
  have HW : Hid (((w.alloc (.cells #[.slice a L.length cap, .int .i64 nx, .int .i64 md, .bool tur] 55)).alloc (.cells #[.slice none 0 0, .int .i64 0, .int .i64 0, .bool false] 55)) = W1 ∧ w.heap.size = s) := ⟨hW1.symm, es.symm⟩
  have FI : Hid (Calls Try.prog 48 #[.agg #[.slice a L.length cap, .int .i64 nx, .int .i64 md, .bool tur], .int .i64 item] W1 fun e w' => e = .returned (.int .i64 (-1)) ∧ Ou w w' base s (.slice a L.length cap) nx md tur L (.slice none 0 0) []) := by
    refine (find_any nx md tur item W1 M0.src (by omega)).mono ?_
    rintro e w' ⟨h1 | h1, hB⟩
    · obtain ⟨p, q1, _, q3⟩ := h1
      exact absurd q3 (hp p q1)
    · exact ⟨h1.1, M0.later (hB.mono M0.le) (Tr.nil _ _)⟩
  generalize L.length = n at *
  clear h M0 hW1 es hp
  go_enter Try.func50, Try.ntmps50
  go_wp2_with fail
  rw [HW.out.1, HW.out.2]
  refine Calls.mono FI.out ?_
  rintro e W2 ⟨rfl, hS⟩
  obtain ⟨⟨x0, x1, x2, x3, f0⟩, q0, q1, q2, q3, g0, g1, g2, g3⟩ := hS.cells
  obtain ⟨W6, hW6⟩ : ∃ W6, W6 = (((W2.setCell ⟨s + 1, 0, none⟩ (.slice a n cap)).setCell ⟨s + 1, 1, none⟩ (.int .i64 nx)).setCell ⟨s + 1, 2, none⟩ (.int .i64 md)).setCell ⟨s + 1, 3, none⟩ (.bool tur) := ⟨_, rfl⟩
  have R6 : W6.rowIs (s + 1) 55 4 (hvF (.slice a n cap) nx md tur) := by
    rw [hW6]
    refine ((((hS.r4.set 0 _).set 1 _).set 2 _).set 3 _).congr fun i hi => ?_
    match i, hi with
    | 0, _ => rfl
    | 1, _ => rfl
    | 2, _ => rfl
    | 3, _ => rfl
  have t0 := R6.cell (i := 0) (by omega)
  have t1 := R6.cell (i := 1) (by omega)
  have t2 := R6.cell (i := 2) (by omega)
  have t3 := R6.cell (i := 3) (by omega)
  simp only [hvF] at t0 t1 t2 t3
  simp at t0 t1 t2 t3
  have HB : Hid (Below w.heap.size w W6) := by
    have hb : s ≤ s + 1 := by omega
    rw [HW.out.2, hW6]
    exact (((hS.bel.setCell hb _).setCell hb _).setCell hb _).setCell hb _
  have HW6 : Hid ((((W2.setCell ⟨s + 1, 0, none⟩ (.slice a n cap)).setCell ⟨s + 1, 1, none⟩ (.int .i64 nx)).setCell ⟨s + 1, 2, none⟩ (.int .i64 md)).setCell ⟨s + 1, 3, none⟩ (.bool tur) = W6) := hW6.symm
  clear hS R6 hW6 HW FI
  go_wp2_with fail
  rw [HW6.out]
  refine bodyPost_ret (v := .tuple #[.agg #[.slice a n cap, .int .i64 nx, .int .i64 md, .bool tur], .int .i64 50]) (by simp [results, Try.results50, go_sem, t0, t1, t2, t3]) rfl ?_
  exact ⟨rfl, HB.out⟩
set_option maxHeartbeats 2000000 in
theorem refUpdate_some {base : Nat} {lv : Value} {L : List Th} (nx md : Int) (tur : Bool) (item k : Int) (p : Nat) (w : World) (h : Tr base w lv L) (hl : L.length ≤ 100000) (hp : p < L.length) (hpi : (L.getD p th0).1 = item) (huq : ∀ q, q < L.length → (L.getD q th0).1 = item → q = p) :
    Calls Try.prog 50 #[.agg #[lv, .int .i64 nx, .int .i64 md, .bool tur], .int .i64 item, .int .i64 k] w fun e w' => ∃ lv', e = .returned (.tuple #[.agg #[lv', .int .i64 nx, .int .i64 md, .bool tur], .int .i64 0]) ∧ Tr w.heap.size w' lv' (L.set p (item, k, (L.getD p th0).2.2)) ∧ Below w.heap.size w w' := by
  obtain ⟨a, cap, e9, _, _⟩ := h.sl
  obtain ⟨n, en⟩ : ∃ n, n = L.length := ⟨_, rfl⟩
  rw [← en] at e9
  subst e9
  obtain ⟨W1, hW1⟩ : ∃ W1, W1 = ((w.alloc (.cells #[.slice a n cap, .int .i64 nx, .int .i64 md, .bool tur] 55)).alloc (.cells #[.slice none 0 0, .int .i64 0, .int .i64 0, .bool false] 55)) := ⟨_, rfl⟩
  obtain ⟨s, es⟩ : ∃ s, s = w.heap.size := ⟨_, rfl⟩
  have M0 : Ou w W1 base s (.slice a n cap) nx md tur L (.slice none 0 0) [] := by rw [hW1, es]; exact ou_start nx md tur h
  have HW : Hid (((w.alloc (.cells #[.slice a n cap, .int .i64 nx, .int .i64 md, .bool tur] 55)).alloc (.cells #[.slice none 0 0, .int .i64 0, .int .i64 0, .bool false] 55)) = W1 ∧ w.heap.size = s) := ⟨hW1.symm, es.symm⟩
  have FI : Hid (Calls Try.prog 48 #[.agg #[.slice a n cap, .int .i64 nx, .int .i64 md, .bool tur], .int .i64 item] W1 fun e w' => e = .returned (.int .i64 (p : Int)) ∧ Ou w w' base s (.slice a n cap) nx md tur L (.slice none 0 0) []) := by
    refine (find_any nx md tur item W1 M0.src (by omega)).mono ?_
    rintro e w' ⟨h1 | h1, hB⟩
    · obtain ⟨q, q1, q2, q3⟩ := h1
      have := huq q q1 q3
      subst this
      exact ⟨q2, M0.later (hB.mono M0.le) (Tr.nil _ _)⟩
    · exact absurd hpi (h1.2 p hp)
  have HL : Hid (L.length = n ∧ (L.getD p th0).1 = item) := ⟨en.symm, hpi⟩
  have hl' : n ≤ 100000 := by omega
  have hp' : p < n := by omega
  clear h M0 hW1 es hp hpi huq en hl
  go_enter Try.func50, Try.ntmps50
  go_wp2_with fail
  rw [HW.out.1, HW.out.2]
  refine Calls.mono FI.out ?_
  rintro e W2 ⟨rfl, hS⟩
  obtain ⟨⟨x0, x1, x2, x3, f0⟩, _⟩ := hS.cells
  have HS : Hid (Ou w W2 base s (.slice a n cap) nx md tur L (.slice none 0 0) []) := hS
  clear hS FI x1 x2 x3
  go_wp2_with (refine (id ?_ : wpList Try.prog _ _ (⟨some 19, _, _, _, _, _⟩ :: _) _ _); refine wp_appT rfl (.tmp 16) (.tmp 18) rfl (s + 2) (.slice none 0 0) [] rfl (Tr.nil _ _) base (.slice a n cap) L rfl HS.out.src (by have := HL.out.1; simp; omega) HS.out.le ?_)
  intro v3 W3 H3
  obtain ⟨a3, c3, e3, hat, _⟩ := H3.out.1.sl
  have hS3 : Ou w W3 base s (.slice a n cap) nx md tur L v3 L := HS.out.later H3.out.2 (by first | exact H3.out.1 | (have := H3.out.1; rw [List.nil_append] at this; exact this))
  obtain ⟨g, rfl, hg1, hg2, hc⟩ := hat (by have := HL.out.1; omega)
  rw [HL.out.1] at e3
  subst e3
  obtain ⟨_, k1, _⟩ := hc p (by have := HL.out.1; omega)
  obtain ⟨old, eold⟩ : ∃ old, old = (L.getD p th0).2.1 := ⟨_, rfl⟩
  rw [← eold] at k1
  have f1 : W3.frozen? ⟨g, p * 3 + 1, none⟩ = false := by
    obtain ⟨_, cs, e⟩ := hS3.row.own (k := g) rfl
    simp [World.frozen?, e]
  obtain ⟨W4, hW4⟩ : ∃ W4, W4 = W3.setCell ⟨g, p * 3 + 1, none⟩ (.int .i64 k) := ⟨_, rfl⟩
  have hS4 : Ou w W4 base s (.slice a n cap) nx md tur L (.slice (some ⟨g, 0, none⟩) n c3) (L.set p (item, k, (L.getD p th0).2.2)) := by
    have := hS3.setK p k (by have := HL.out.1; omega)
    rw [HL.out.2] at this
    rw [hW4]
    exact this
  obtain ⟨⟨x0', x1, x2, x3, f0'⟩, q0, q1, q2, q3, g0, g1, g2, g3⟩ := hS3.cells
  have n1 : g ≠ s := by omega
  have n2 : g ≠ s + 1 := by omega
  have n3 : ¬ s = g := by omega
  have n4 : ¬ s + 1 = g := by omega
  obtain ⟨W6, hW6⟩ : ∃ W6, W6 = ((((W4.setCell ⟨s, 0, none⟩ (.slice (some ⟨g, 0, none⟩) n c3)).setCell ⟨s + 1, 0, none⟩ (.slice (some ⟨g, 0, none⟩) n c3)).setCell ⟨s + 1, 1, none⟩ (.int .i64 nx)).setCell ⟨s + 1, 2, none⟩ (.int .i64 md)).setCell ⟨s + 1, 3, none⟩ (.bool tur) := ⟨_, rfl⟩
  obtain ⟨t0, t1, t2, t3, tT, tB⟩ := hS4.done W6 hW6
  have HF : Hid (Tr w.heap.size W6 (.slice (some ⟨g, 0, none⟩) n c3) (L.set p (item, k, (L.getD p th0).2.2)) ∧ Below w.heap.size w W6) := by rw [HW.out.2]; exact ⟨tT, tB⟩
  have HW6 : Hid ((((((W3.setCell ⟨g, p * 3 + 1, none⟩ (.int .i64 k)).setCell ⟨s, 0, none⟩ (.slice (some ⟨g, 0, none⟩) n c3)).setCell ⟨s + 1, 0, none⟩ (.slice (some ⟨g, 0, none⟩) n c3)).setCell ⟨s + 1, 1, none⟩ (.int .i64 nx)).setCell ⟨s + 1, 2, none⟩ (.int .i64 md)).setCell ⟨s + 1, 3, none⟩ (.bool tur) = W6) := by rw [hW6, hW4]; exact rfl
  have hp2 : (p : Int) < (n : Int) := by omega
  clear hS3 hS4 tT tB hW6 hW4 HW HS H3 hat hc hg1 hg2 eold x0 f0
  go_wp2_with fail
  rw [HW6.out]
  refine bodyPost_ret (v := .tuple #[.agg #[.slice (some ⟨g, 0, none⟩) n c3, .int .i64 nx, .int .i64 md, .bool tur], .int .i64 0]) (by simp [results, Try.results50, go_sem, t0, t1, t2, t3]) rfl ?_
  exact ⟨_, rfl, HF.out⟩
end Go.Proofs.Ytjnfcihichaonaa
