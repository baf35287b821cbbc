/- Contracts of the program's functions, part 27: own work, joined in build order. -/
import Derived.Test.YtjnfcihichaonaaJ26
import Derived.Laws.AppendOwnNone
namespace Go.Proofs.Ytjnfcihichaonaa
open Go.RowKit
set_option maxRecDepth 100000
set_option linter.unusedVariables false
abbrev Th := Int × Int × Int
def thc (x : Th) : List Value := [.int .i64 x.1, .int .i64 x.2.1, .int .i64 x.2.2]
def thcs (L : List Th) : List Value := L.flatMap thc
theorem thcs_len (L : List Th) : (thcs L).length = L.length * 3 := by
  induction L with
  | nil => rfl
  | cons x L ih => simp only [thcs, List.flatMap_cons, List.length_append, List.length_cons] at ih ⊢; simp only [thc, List.length_cons, List.length_nil]; omega
theorem thcs_app (L M : List Th) : thcs (L ++ M) = thcs L ++ thcs M := by simp [thcs]
def th0 : Th := (0, 0, 0)
theorem thcs_at (L : List Th) (i : Nat) (hi : i < L.length) : (thcs L)[i * 3]? = some (.int .i64 (L.getD i th0).1) ∧ (thcs L)[i * 3 + 1]? = some (.int .i64 (L.getD i th0).2.1) ∧ (thcs L)[i * 3 + 2]? = some (.int .i64 (L.getD i th0).2.2) := by
  induction L generalizing i with
  | nil => simp at hi
  | cons x L ih =>
    have e : thcs (x :: L) = [.int .i64 x.1, .int .i64 x.2.1, .int .i64 x.2.2] ++ thcs L := rfl
    rw [e]
    rcases i with _ | i
    · simp
    · have h := ih i (by simpa using hi)
      have r : ∀ j, ([Value.int .i64 x.1, Value.int .i64 x.2.1, Value.int .i64 x.2.2] ++ thcs L)[(i + 1) * 3 + j]? = (thcs L)[i * 3 + j]? := fun j => by
        rw [List.getElem?_append_right (by simp; omega)]
        congr 1
        simp
        omega
      have r0 := r 0
      simp only [Nat.add_zero] at r0
      rw [r0, r 1, r 2]
      simpa using h
/-- A row of things of one's own. -/
def Tr (base : Nat) (W : World) (v : Value) (L : List Th) : Prop := W.ownsRow base 49 3 v L.length (thcs L)
theorem Tr.nil (base : Nat) (W : World) : Tr base W (.slice none 0 0) [] := ⟨rfl, .inl ⟨rfl, rfl⟩⟩
theorem Tr.own {base : Nat} {W : World} {v : Value} {L : List Th} (h : Tr base W v L) {k : Nat} (hk : v.ownBlock = some k) : base ≤ k ∧ ∃ cs, W.heap[k]? = some (.cells cs 49) := by
  rcases h.2 with ⟨e, _⟩ | ⟨g, cap', cur, e, hb', hg, _⟩
  · rw [e] at hk
    cases hk
  · rw [e] at hk
    cases hk
    exact ⟨hb', cur, hg⟩
theorem Tr.kept {base : Nat} {W W' : World} {v : Value} {L : List Th} (h : Tr base W v L) (hk : ∀ k, v.ownBlock = some k → W'.heap[k]? = W.heap[k]?) : Tr base W' v L := own_kept h hk
theorem Tr.below {base : Nat} {W W' : World} {v : Value} {L : List Th} (h : Tr base W v L) (hB : Below W.heap.size W W') : Tr base W' v L := h.kept fun k hk => by
  obtain ⟨_, cs, e⟩ := h.own hk
  exact hB.block _ (Array.getElem?_eq_some_iff.1 e).1
theorem Tr.weak {base b2 : Nat} {W : World} {v : Value} {L : List Th} (h : Tr base W v L) (hb : b2 ≤ base) : Tr b2 W v L := by
  refine ⟨h.1, h.2.imp id ?_⟩
  rintro ⟨g, cap, cur, e, hb2, rest⟩
  exact ⟨g, cap, cur, e, Nat.le_trans hb hb2, rest⟩
theorem Tr.sl {base : Nat} {W : World} {v : Value} {L : List Th} (h : Tr base W v L) : ∃ a cap, v = .slice a L.length cap ∧ (0 < L.length → ∃ g, a = some ⟨g, 0, none⟩ ∧ base ≤ g ∧ g < W.heap.size ∧ ∀ i, i < L.length → W.cell? ⟨g, i * 3, none⟩ = some (.int .i64 (L.getD i th0).1) ∧ W.cell? ⟨g, i * 3 + 1, none⟩ = some (.int .i64 (L.getD i th0).2.1) ∧ W.cell? ⟨g, i * 3 + 2, none⟩ = some (.int .i64 (L.getD i th0).2.2)) ∧ (a = none → cap = 0) := by
  rcases h.2 with ⟨e, e0⟩ | ⟨g, cap, cur, e, hb', hg, h1, h2, h3, h4⟩
  · exact ⟨none, 0, by rw [e]; congr 1; omega, fun h => by omega, fun _ => rfl⟩
  · refine ⟨_, cap, e, fun _ => ⟨g, rfl, hb', (Array.getElem?_eq_some_iff.1 hg).1, fun i hi => ?_⟩, fun e => by cases e⟩
    have key : ∀ j v, j < L.length * 3 → (thcs L)[j]? = some v → W.cell? ⟨g, j, none⟩ = some v := fun j v hj hv => by
      have q4 := congrArg (fun l => l[j]?) h4
      rw [List.getElem?_take_of_lt hj, Array.getElem?_toList, hv] at q4
      simp [World.cell?, hg, q4]
    obtain ⟨t0, t1, t2⟩ := thcs_at L i hi
    exact ⟨key _ _ (by omega) t0, key _ _ (by omega) t1, key _ _ (by omega) t2⟩
theorem Try.infoT : (Try.prog.info? 49).map (fun i => (i.zero, i.size, i.bytes)) = some (some (.agg #[.int .i64 0, .int .i64 0, .int .i64 0]), 3, 24) := by kernel_rfl
/-- append of a row to a row of one's own. -/
theorem wp_appT {w : World} {ops : Array Oper} {rest : List Oper} {o : Oper} {a : Act} {Q : Exit → Act → World → Prop} (hgd : o.guard = none) (s x : Operand)
    (ho : o.op = .call { callee := .builtin .append, args := #[s, x], argTypes := #[53, 53] }) (base : Nat) (v : Value) (xs : List Th) (hs : a.eval s = v) (hown : Tr base w v xs)
    (b2 : Nat) (u : Value) (ys : List Th) (hx : a.eval x = u) (hS : Tr b2 w u ys) (hlim : xs.length + ys.length ≤ 1000000) (hb : base ≤ w.heap.size)
    (h : ∀ v' w', Hid (Tr base w' v' (xs ++ ys) ∧ Below base w w') → wpList Try.prog ops Q rest (a.put o.dst v') w') : wpList Try.prog ops Q (o :: rest) a w := by
  obtain ⟨i, hi, hz, hsz, hby⟩ := info_parts Try.infoT
  rcases hS.2 with ⟨e, e0⟩ | ⟨g, cap, cur, e, hb', hg, h1, h2, h3, h4⟩
  · have ey : ys = [] := List.eq_nil_of_length_eq_zero e0
    subst ey
    rw [e] at hx
    refine wpList_append_own_none hgd s x 53 ho base 49 i 3 Try.underlying53 hi v _ _ hs hown hx ?_
    exact h v w ⟨by rw [List.append_nil]; exact hown, Below.refl _ _⟩
  · rw [e] at hx
    refine wpList_append_own_at w hgd s x 53 ho base 49 i _ 3 24 Try.underlying53 hi hz hsz hby rfl (by omega) v _ _ hs hown ⟨g, 0, none⟩ ys.length cap (thcs ys) hx (thcs_len ys) (fun j u' hj => ?_) (fun u' hu' => ?_) (by simp only [maxLen]; omega) (by omega) hb ?_
    · have hjl : j < ys.length * 3 := by
        have := (List.getElem?_eq_some_iff.1 hj).1
        rw [thcs_len] at this
        exact this
      have q4 := congrArg (fun l => l[j]?) h4
      rw [List.getElem?_take_of_lt hjl, Array.getElem?_toList, hj] at q4
      rw [addr_add]
      simp [World.cell?, hg, q4]
    · simp only [thcs, List.mem_flatMap, thc] at hu'
      obtain ⟨y, _, hy⟩ := hu'
      simp at hy
      rcases hy with rfl | rfl | rfl <;> rfl
    · intro v' w' q1 q2 _ _
      refine h v' w' ⟨?_, ?_⟩
      · show w'.ownsRow _ _ _ _ _ _
        rw [List.length_append, thcs_app]
        exact q1
      · refine (Below.refl base w).grown q2 hb fun k hk => ?_
        exact (hown.own hk).1
theorem tr_one (w : World) (x : Th) : Tr w.heap.size (w.alloc (.cells #[.int .i64 x.1, .int .i64 x.2.1, .int .i64 x.2.2] 49)) (.slice (some ⟨w.heap.size, 0, none⟩) 1 1) [x] :=
  ⟨rfl, .inr ⟨w.heap.size, 1, _, rfl, Nat.le_refl _, (MapKept.heap_alloc _ _).1, Nat.le_refl _, by simp only [maxLen]; omega, rfl, rfl⟩⟩
end Go.Proofs.Ytjnfcihichaonaa
namespace Go.Proofs.Ytjnfcihichaonaa
open Go.RowKit
set_option maxRecDepth 100000
set_option linter.unusedVariables false
set_option maxHeartbeats 1000000 in
theorem find_any {base : Nat} {lv : Value} {L : List Th} (nx md : Int) (tur : Bool) (item : Int) (w : World) (h : Tr base w lv L) (hl : L.length ≤ 1000000) :
    Calls Try.prog 48 #[.agg #[lv, .int .i64 nx, .int .i64 md, .bool tur], .int .i64 item] w fun e w' => ((∃ p : Nat, p < L.length ∧ e = .returned (.int .i64 (p : Int)) ∧ (L.getD p th0).1 = item) ∨ (e = .returned (.int .i64 (-1)) ∧ ∀ p, p < L.length → (L.getD p th0).1 ≠ item)) ∧ Below w.heap.size w w' := by
  obtain ⟨a, cap, rfl, hat, _⟩ := h.sl
  obtain ⟨n, en⟩ : ∃ n, n = L.length := ⟨_, rfl⟩
  rw [← en] at hl hat ⊢
  obtain ⟨W1, hW1⟩ : ∃ W1, W1 = w.alloc (.cells #[.slice a n cap, .int .i64 nx, .int .i64 md, .bool tur] 55) := ⟨_, rfl⟩
  obtain ⟨s, es⟩ : ∃ s, s = w.heap.size := ⟨_, rfl⟩
  have B1 : Below w.heap.size w W1 := by rw [hW1]; exact (Below.refl _ _).alloc (Nat.le_refl _) _
  have c0 : W1.cell? ⟨s, 0, none⟩ = some (.slice a n cap) := by rw [hW1, es]; simp [go_sem]
  have HA : Hid (0 < n → ∃ g, a = some ⟨g, 0, none⟩ ∧ ∀ i, i < n → W1.cell? ⟨g, i * 3, none⟩ = some (.int .i64 (L.getD i th0).1)) := fun hn => by
    obtain ⟨g, e, _, _, hc⟩ := hat hn
    exact ⟨g, e, fun i hi => cell_later B1 (hc i hi).1⟩
  have HW : Hid (w.alloc (.cells #[.slice a n cap, .int .i64 nx, .int .i64 md, .bool tur] 55) = W1 ∧ w.heap.size = s) := ⟨hW1.symm, es.symm⟩
  have HB : Hid (Below w.heap.size w W1) := B1
  clear h hat hW1 B1 es en
  go_enter Try.func48, Try.ntmps48
  go_wp2_with fail
  rw [HW.out.1, HW.out.2]
  go_loopw [5] (fun t wr => ∃ (m : Nat), m ≤ n ∧ t = .int .i64 (m : Int) ∧ wr = W1 ∧ Hid (∀ p, p < m → (L.getD p th0).1 ≠ item)) (fun t _ => n - (intOf t).toNat)
  case atStart => exact ⟨0, by omega, rfl, rfl, fun p hp => by omega⟩
  case round =>
    obtain ⟨m, hm, rfl, rfl, hne⟩ := hrel
    by_cases hmn : m < n
    · obtain ⟨g, rfl, hc⟩ := HA.out (by omega)
      have k0 := hc m hmn
      have w5 : IntKind.i64.wrap ((m : Int) + 1) = (m : Int) + 1 := by rw [IntKind.wrap_i64]; omega
      have hm' : (m : Int) < (n : Int) := by omega
      obtain ⟨x, ex⟩ : ∃ x, x = (L.getD m th0).1 := ⟨_, rfl⟩
      rw [← ex] at k0
      have HE : Hid (x = (L.getD m th0).1) := ex
      clear hc ex
      by_cases hx : x = item
      · subst hx
        go_wp2_with fail
        go_ret
        exact ⟨.inl ⟨m, hmn, rfl, HE.out.symm⟩, HB.out⟩
      · have hx' : (x == item) = false := by simpa using hx
        go_wp2_with fail
        go_roundw
        case rel =>
          refine ⟨m + 1, by omega, by go_num, trivial, fun p hp => ?_⟩
          rcases Nat.lt_or_ge p m with h1 | h1
          · exact hne.out p h1
          · obtain rfl : p = m := by omega
            rw [← HE.out]
            exact hx
        case measure => simp [intOf]; omega
    · obtain rfl : m = n := by omega
      go_wp2_with fail
      go_ret
      exact ⟨.inr ⟨rfl, hne.out⟩, HB.out⟩
/-- The document's heap, boxed. -/
def hvF (lv : Value) (nx md : Int) (tur : Bool) (j : Nat) : Value := if j = 0 then lv else if j = 1 then .int .i64 nx else if j = 2 then .int .i64 md else .bool tur
theorem hv_box (w : World) (lv : Value) (nx md : Int) (tur : Bool) : (w.alloc (.cells #[lv, .int .i64 nx, .int .i64 md, .bool tur] 55)).rowIs w.heap.size 55 4 (hvF lv nx md tur) :=
  World.rowIs_alloc w #[lv, .int .i64 nx, .int .i64 md, .bool tur] _ _ fun i hi => by
    have hi' : i < 4 := hi
    match i, hi' with
    | 0, _ => rfl
    | 1, _ => rfl
    | 2, _ => rfl
    | 3, _ => rfl
set_option maxHeartbeats 2000000 in
theorem refPush_any {base : Nat} {lv : Value} {L : List Th} (nx md : Int) (tur : Bool) (k v : Int) (w : World) (h : Tr base w lv L) (hl : L.length ≤ 100000) (hn0 : 0 ≤ nx) (hn1 : nx ≤ 100000) :
    Calls Try.prog 23 #[.agg #[lv, .int .i64 nx, .int .i64 md, .bool tur], .int .i64 k, .int .i64 v] w fun e w' => ∃ lv', e = .returned (.agg #[lv', .int .i64 (nx + 1), .int .i64 md, .bool tur]) ∧ Tr w.heap.size w' lv' (L ++ [(nx + 1, k, v)]) ∧ Below w.heap.size w w' := by
  obtain ⟨a, cap, e9, _⟩ := h.sl
  obtain ⟨n, en⟩ : ∃ n, n = L.length := ⟨_, rfl⟩
  rw [← en] at e9
  subst e9
  have H1 : Hid (((w.alloc (.cells #[.slice a n cap, .int .i64 (nx + 1), .int .i64 md, .bool tur] 55)).alloc (.cells #[.slice none 0 0, .int .i64 0, .int .i64 0, .bool false] 55)).heap.size = w.heap.size + 2 ∧ Below w.heap.size w ((w.alloc (.cells #[.slice a n cap, .int .i64 (nx + 1), .int .i64 md, .bool tur] 55)).alloc (.cells #[.slice none 0 0, .int .i64 0, .int .i64 0, .bool false] 55)) ∧ ((w.alloc (.cells #[.slice a n cap, .int .i64 (nx + 1), .int .i64 md, .bool tur] 55)).alloc (.cells #[.slice none 0 0, .int .i64 0, .int .i64 0, .bool false] 55)).rowIs w.heap.size 55 4 (hvF (.slice a n cap) (nx + 1) md tur) ∧ ((w.alloc (.cells #[.slice a n cap, .int .i64 (nx + 1), .int .i64 md, .bool tur] 55)).alloc (.cells #[.slice none 0 0, .int .i64 0, .int .i64 0, .bool false] 55)).rowIs (w.heap.size + 1) 55 4 (hvF (.slice none 0 0) 0 0 false) ∧ Tr base ((w.alloc (.cells #[.slice a n cap, .int .i64 (nx + 1), .int .i64 md, .bool tur] 55)).alloc (.cells #[.slice none 0 0, .int .i64 0, .int .i64 0, .bool false] 55)) (.slice a n cap) L ∧ L.length = n) := by
    have B1 : Below w.heap.size w ((w.alloc (.cells #[.slice a n cap, .int .i64 (nx + 1), .int .i64 md, .bool tur] 55)).alloc (.cells #[.slice none 0 0, .int .i64 0, .int .i64 0, .bool false] 55)) := ((Below.refl _ _).alloc (Nat.le_refl _) _).alloc (by simp) _
    refine ⟨by simp, B1, (hv_box w _ _ _ _).alloc _, ?_, h.below B1, en.symm⟩
    have := hv_box (w.alloc (.cells #[.slice a n cap, .int .i64 (nx + 1), .int .i64 md, .bool tur] 55)) (.slice none 0 0) 0 0 false
    simpa using this
  have w5 : IntKind.i64.wrap (nx + 1) = nx + 1 := by rw [IntKind.wrap_i64]; omega
  rw [← en] at hl
  clear h en
  obtain ⟨s, es⟩ : ∃ s, s = w.heap.size := ⟨_, rfl⟩
  go_enter Try.func23, Try.ntmps23
  go_wp2_with (refine (id ?_ : wpList Try.prog _ _ (⟨some 15, _, _, _, _, _⟩ :: _) _ _); refine wp_appT rfl (.tmp 12) (.tmp 14) rfl (w.heap.size + 2) (.slice none 0 0) [] rfl (Tr.nil _ _) base (.slice a n cap) L rfl H1.out.2.2.2.2.1 (by have := H1.out.2.2.2.2.2; simp; omega) (by rw [H1.out.1]; exact Nat.le_refl _) ?_)
  intro v2 W2 H2
  rw [← es] at H1 H2
  rw [← es]
  have HW : Hid (w.heap.size = s) := es.symm
  clear es
  obtain ⟨a2, c2, e2, _⟩ := H2.out.1.sl
  rw [H1.out.2.2.2.2.2] at e2
  subst e2
  have R32 : W2.rowIs s 55 4 (hvF (.slice a n cap) (nx + 1) md tur) := H1.out.2.2.1.of_block (H2.out.2.block _ (by omega))
  have R42 : W2.rowIs (s + 1) 55 4 (hvF (.slice none 0 0) 0 0 false) := H1.out.2.2.2.1.of_block (H2.out.2.block _ (by omega))
  have y1' := R32.cell (i := 1) (by omega)
  simp only [hvF] at y1'
  simp at y1'
  have H3 : Hid (W2.rowIs s 55 4 (hvF (.slice a n cap) (nx + 1) md tur) ∧ W2.rowIs (s + 1) 55 4 (hvF (.slice none 0 0) 0 0 false) ∧ Below w.heap.size w W2 ∧ s + 2 ≤ W2.heap.size ∧ Tr (s + 2) W2 (.slice a2 n c2) L) := by
    have hs := H2.out.2.size
    rw [H1.out.1] at hs
    refine ⟨R32, R42, by rw [HW.out]; exact H1.out.2.1.trans (H2.out.2.mono (by omega)), hs, ?_⟩
    exact H2.out.1
  clear R32 R42
  go_wp2_with (refine (id ?_ : wpList Try.prog _ _ (⟨some 23, _, _, _, _, _⟩ :: _) _ _); refine wp_appT rfl (.tmp 16) (.tmp 22) rfl (s + 2) (.slice a2 n c2) L rfl (H3.out.2.2.2.2.below ((Below.refl _ _).alloc (Nat.le_refl _) _)) W2.heap.size _ [(nx + 1, k, v)] rfl (tr_one W2 (nx + 1, k, v)) (by have := H1.out.2.2.2.2.2; simp; omega) (by have := H3.out.2.2.2.1; simp; omega) ?_)
  intro v4 W4 H4
  obtain ⟨a4, c4, e4, _⟩ := H4.out.1.sl
  rw [List.length_append, H1.out.2.2.2.2.2, List.length_singleton] at e4
  subst e4
  have B24 : Below (s + 2) W2 W4 := (((Below.refl _ _).alloc (Nat.le_refl _) _).mono H3.out.2.2.2.1).trans H4.out.2
  have R34 : W4.rowIs s 55 4 (hvF (.slice a n cap) (nx + 1) md tur) := H3.out.1.of_block (B24.block _ (by omega))
  have R44 : W4.rowIs (s + 1) 55 4 (hvF (.slice none 0 0) 0 0 false) := H3.out.2.1.of_block (B24.block _ (by omega))
  obtain ⟨W5, hW5⟩ : ∃ W5, W5 = W4.setCell ⟨s, 0, none⟩ (.slice a4 (n + 1) c4) := ⟨_, rfl⟩
  have R35 : W5.rowIs s 55 4 (hvF (.slice a4 (n + 1) c4) (nx + 1) md tur) := by
    rw [hW5]
    refine (R34.set 0 _).congr fun i hi => ?_
    match i, hi with
    | 0, _ => rfl
    | 1, _ => rfl
    | 2, _ => rfl
    | 3, _ => rfl
  have R45 : W5.rowIs (s + 1) 55 4 (hvF (.slice none 0 0) 0 0 false) := by rw [hW5]; exact R44.setOther (by simp) _
  have x0 := R34.cell (i := 0) (by omega)
  have x1 := R34.cell (i := 1) (by omega)
  have x2 := R34.cell (i := 2) (by omega)
  have x3 := R34.cell (i := 3) (by omega)
  have f0 := R34.frozen 0
  have q0 := R44.cell (i := 0) (by omega)
  have g0 := R44.frozen 0
  have q1 := R44.cell (i := 1) (by omega)
  have g1 := R44.frozen 1
  have q2 := R44.cell (i := 2) (by omega)
  have g2 := R44.frozen 2
  have q3 := R44.cell (i := 3) (by omega)
  have g3 := R44.frozen 3
  simp only [hvF] at x0 x1 x2 x3 q0 q1 q2 q3
  simp at x0 x1 x2 x3 q0 q1 q2 q3
  obtain ⟨W6, hW6⟩ : ∃ W6, W6 = (((W5.setCell ⟨s + 1, 0, none⟩ (.slice a4 (n + 1) c4)).setCell ⟨s + 1, 1, none⟩ (.int .i64 (nx + 1))).setCell ⟨s + 1, 2, none⟩ (.int .i64 md)).setCell ⟨s + 1, 3, none⟩ (.bool tur) := ⟨_, rfl⟩
  have R46 : W6.rowIs (s + 1) 55 4 (hvF (.slice a4 (n + 1) c4) (nx + 1) md tur) := by
    rw [hW6]
    refine ((((R45.set 0 _).set 1 _).set 2 _).set 3 _).congr fun i hi => ?_
    match i, hi with
    | 0, _ => rfl
    | 1, _ => rfl
    | 2, _ => rfl
    | 3, _ => rfl
  have t0 := R46.cell (i := 0) (by omega)
  have t1 := R46.cell (i := 1) (by omega)
  have t2 := R46.cell (i := 2) (by omega)
  have t3 := R46.cell (i := 3) (by omega)
  simp only [hvF] at t0 t1 t2 t3
  simp at t0 t1 t2 t3
  have HF : Hid (∃ lv', Ending.returned (.agg #[.slice a4 (n + 1) c4, .int .i64 (nx + 1), .int .i64 md, .bool tur]) = .returned (.agg #[lv', .int .i64 (nx + 1), .int .i64 md, .bool tur]) ∧ Tr w.heap.size W6 lv' (L ++ [(nx + 1, k, v)]) ∧ Below w.heap.size w W6) := by
    have es := HW.out
    have hb : s ≤ s + 1 := by omega
    refine ⟨_, rfl, (H4.out.1.kept fun k hk => ?_).weak (by omega), ?_⟩
    · have hk2 := (H4.out.1.own hk).1
      rw [hW6, hW5]
      have n1 : k ≠ s + 1 := by omega
      have n2 : k ≠ s := by omega
      exact ((((Below.heap_setCell _ _ _ k n1).trans (Below.heap_setCell _ _ _ k n1)).trans (Below.heap_setCell _ _ _ k n1)).trans (Below.heap_setCell _ _ _ k n1)).trans (Below.heap_setCell _ _ _ k n2)
    · rw [hW6, hW5, es]
      have b4 : Below s w W4 := by
        have := H3.out.2.2.1.trans (B24.mono (by omega))
        rwa [es] at this
      exact ((((b4.setCell (Nat.le_refl _) _).setCell hb _).setCell hb _).setCell hb _).setCell hb _
  have HW5 : Hid ((((((W4.setCell ⟨s, 0, none⟩ (.slice a4 (n + 1) c4)).setCell ⟨s + 1, 0, none⟩ (.slice a4 (n + 1) c4)).setCell ⟨s + 1, 1, none⟩ (.int .i64 (nx + 1))).setCell ⟨s + 1, 2, none⟩ (.int .i64 md)).setCell ⟨s + 1, 3, none⟩ (.bool tur)) = W6) := by rw [hW6, hW5]; exact rfl
  clear R34 R44 R35 R45 R46 hW5 hW6 B24 H4 H3 H2 H1 HW y1'
  go_wp2_with fail
  rw [HW5.out]
  refine bodyPost_ret (v := .agg #[.slice a4 (n + 1) c4, .int .i64 (nx + 1), .int .i64 md, .bool tur]) (by simp [results, Try.results23, go_sem, t0, t1, t2, t3]) rfl ?_
  exact HF.out
end Go.Proofs.Ytjnfcihichaonaa
