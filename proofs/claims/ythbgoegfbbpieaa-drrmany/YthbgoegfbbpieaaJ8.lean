/- Contracts of the program's functions, part 8: own work, joined in build order. -/
import Derived.Test.YthbgoegfbbpieaaJ7
namespace Go.Proofs.Ythbgoegfbbpieaa
open Go.RowKit
set_option maxRecDepth 100000
set_option linter.unusedVariables false
abbrev hdl (s g : Int) : Value := .agg #[.int .i64 s, .int .i64 g]
abbrev prm (q : Int) : Value := .agg #[.int .i64 0, .int .i64 q, .int .i64 0, .int .i64 0, .int .i64 0, .float .f64 0, .int .i64 0, .int .i64 0]
theorem qOf_in {q : Int} (h1 : 1 ≤ q) (h2 : q ≤ 1073741824) : qOf q = q := by
  unfold qOf
  omega
variable {d : Nat} {s0 s : Sd} {W w : World} {ba bb : Nat} {qa qb n m : Int}
theorem join_a (D : DF d s0 s W w) (h : New0 s) (t : Int) (h1 : 1 ≤ qa) (h2 : qa ≤ 1073741824) : Calls Try.prog 15 #[.pointer (some ⟨d, 0, none⟩), hdl 0 1, prm qa, .int .i64 t] w fun e w' => e = .returned (.int .i64 0) ∧ ∃ s' ba, DF d s0 s' W w' ∧ J1 s' ba qa := by
  refine (joinD_any d s 0 1 0 qa 0 0 0 0 0 t 0 w D.1 (by omega) (by omega) (by rw [h.F]) (by rw [h.nn]; omega) (by rw [h.wt]; omega) (by rw [h.wt]; omega)).mono ?_
  rintro e w1 ⟨rfl, b, q, hb, hq, X⟩
  rw [qOf_in h1 h2] at X
  exact ⟨rfl, _, b, D.trans X, J1.of h b q qa⟩
theorem join_b (D : DF d s0 s W w) (h : J1 s ba qa) (t : Int) (h1 : 1 ≤ qb) (h2 : qb ≤ 1073741824) : Calls Try.prog 15 #[.pointer (some ⟨d, 0, none⟩), hdl 1 1, prm qb, .int .i64 t] w fun e w' => e = .returned (.int .i64 0) ∧ ∃ s' bb, DF d s0 s' W w' ∧ J2 s' ba bb qa qb := by
  refine (joinD_any d s 1 1 0 qb 0 0 0 0 0 t 0 w D.1 (by omega) (by omega) h.fb (by rw [h.nn]; omega) (by rw [h.wt]; omega) (by rw [h.wt]; omega)).mono ?_
  rintro e w1 ⟨rfl, b, q, hb, hq, X⟩
  rw [qOf_in h1 h2] at X
  exact ⟨rfl, _, b, D.trans X, J2.of h b q qb (by have := D.1.bl h.fa; omega)⟩
theorem admit_a (D : DF d s0 s W w) (h : J2 s ba bb qa qb) (n1 : 1 ≤ n) (n2 : n ≤ 65536) : Calls Try.prog 16 #[.pointer (some ⟨d, 0, none⟩), .agg #[.int .i64 0, .int .i64 1, .int .i64 0, .int .i64 n, .int .i64 1, .int .i64 0]] w fun e w' => e = .returned (.int .i64 0) ∧ ∃ s', DF d s0 s' W w' ∧ A1 s' ba bb qa qb n := by
  obtain ⟨q, w0, ea⟩ := h.ya
  refine (admitD_first d s ⟨0, 1, 0, n, 1, 0⟩ ba w D.1 (by show (-9223372036854775808 : Int) ≤ 0; omega) (by show (0 : Int) ≤ 9223372036854775807; omega) h.fa (by rw [ea]) n1 n2 (by rw [h.sq]; show (0 : Int) < 1; omega) (by rw [h.cm]; exact Int.le_refl _) (by show (0 : Int) ≤ 4611686018427387904; omega) (by rw [ea]; exact Int.le_refl _) (by rw [ea]; show (0 : Int) ≤ 4611686018427387904; omega) (by rw [h.ct]; omega) (by rw [h.ct]; omega) (by rw [h.Qa]; simp) (by rw [h.R]; simp) h.Qa).mono ?_
  rintro e w1 ⟨rfl, g1, g2, X⟩
  exact ⟨rfl, _, D.trans X, A1.of h n g1 g2⟩
theorem admit_b (D : DF d s0 s W w) (h : A1 s ba bb qa qb n) (n1 : 1 ≤ m) (n2 : m ≤ 65536) : Calls Try.prog 16 #[.pointer (some ⟨d, 0, none⟩), .agg #[.int .i64 1, .int .i64 1, .int .i64 0, .int .i64 m, .int .i64 2, .int .i64 0]] w fun e w' => e = .returned (.int .i64 0) ∧ ∃ s', DF d s0 s' W w' ∧ Two s' ba bb qa qb n m := by
  obtain ⟨q, w0, ea⟩ := h.yb
  refine (admitD_first d s ⟨1, 1, 0, m, 2, 0⟩ bb w D.1 (by show (-9223372036854775808 : Int) ≤ 1; omega) (by show (1 : Int) ≤ 9223372036854775807; omega) h.fb (by rw [ea]) n1 n2 (by rw [h.sq]; show (1 : Int) < 2; omega) (by rw [h.cm]; exact Int.le_refl _) (by show (0 : Int) ≤ 4611686018427387904; omega) (by rw [ea]; exact Int.le_refl _) (by rw [ea]; show (0 : Int) ≤ 4611686018427387904; omega) (by rw [h.ct]; omega) (by rw [h.ct]; omega) (by rw [h.Qb]; simp) (by rw [h.R]; simp) h.Qb).mono ?_
  rintro e w1 ⟨rfl, g1, g2, X⟩
  exact ⟨rfl, _, D.trans X, Two.of h m g1 g2⟩
structure One (s : Sd) (ba bb c o : Nat) (K q n sz : Int) (p : Pk) : Prop where
  R : s.R = [o]
  fa : s.F 0 = some ba
  fb : s.F 1 = some bb
  Qo : s.Q o = [p]
  kc : (s.Y c).kept = 0
  ko : (s.Y o).kept = K
  ga : (s.Y ba).gen = 1
  gb : (s.Y bb).gen = 1
  qo : (s.Y o).quantum = q
  qq : 1 ≤ (s.Y ba).quantum ∧ (s.Y ba).quantum ≤ 1073741824 ∧ 1 ≤ (s.Y bb).quantum ∧ (s.Y bb).quantum ≤ 1073741824
  bo : (s.Y o).bytes = n
  tn : s.x.turn = false
  ct : s.x.count = 1
  sz : p.size = sz
theorem next_two (D : DF d s0 s W w) (h : Two s ba bb qa qb n m) (t : Int) (a1 : 1 ≤ qa) (a2 : qa ≤ 1073741824) (b1 : 1 ≤ qb) (b2 : qb ≤ 1073741824) (n1 : 1 ≤ n) (n2 : n ≤ 65536) (m1 : 1 ≤ m) (m2 : m ≤ 65536) :
    Calls Try.prog 17 #[.pointer (some ⟨d, 0, none⟩), .int .i64 t] w fun e w' => ∃ s', DF d s0 s' W w' ∧ (((n - 1).tdiv qa ≤ (m - 1).tdiv qb ∧ e = .returned (.tuple #[.agg #[.int .i64 0, .int .i64 1, .int .i64 0, .int .i64 n, .int .i64 1, .int .i64 0], .bool true]) ∧ One s' ba bb ba bb ((n - 1).tdiv qa * qb) qb m m ⟨1, 1, 0, m, 2, 0⟩) ∨ ((m - 1).tdiv qb < (n - 1).tdiv qa ∧ e = .returned (.tuple #[.agg #[.int .i64 1, .int .i64 1, .int .i64 0, .int .i64 m, .int .i64 2, .int .i64 0], .bool true]) ∧ One s' ba bb bb ba (((m - 1).tdiv qb + 1) * qa) qa n n ⟨0, 1, 0, n, 1, 0⟩)) := by
  obtain ⟨q, w0, ea⟩ := h.ya
  obtain ⟨q', w0', eb⟩ := h.yb
  refine (nextD_any d s t w D.1 (h.good a1 a2 b1 b2 n1 n2 m1 m2) (by rw [h.R]; simp) (by rw [h.R]; simp) (by rw [h.R]; simp [h.ne]) (by rw [h.ct]; omega) (by rw [h.ct]; omega) (fun b hb => by
    rw [h.R] at hb
    simp at hb
    rcases hb with rfl | rfl
    · rw [ea]; exact ⟨by show -4611686018427387904 ≤ n; omega, by show n ≤ 4611686018427387904; omega⟩
    rw [eb]; exact ⟨by show -4611686018427387904 ≤ m; omega, by show m ≤ 4611686018427387904; omega⟩)).mono ?_
  rintro e w1 ⟨r, k, x, xs, Y1, s', rfl, hx⟩
  refine ⟨s', D.trans hx.df, ?_⟩
  rcases h.next a1 b1 n1 m1 hx with ⟨e1, e2, L⟩ | ⟨e1, e2, L⟩
  · left
    refine ⟨e1, by rw [e2]; rfl, L.R, by rw [L.F]; exact h.fa, by rw [L.F]; exact h.fb, by rw [L.Qo]; exact h.Qb, L.kc, L.ko, by rw [L.gc, ea], by rw [L.go, eb], by rw [L.qo, eb], ?_, by rw [L.bo, eb], L.tn, L.ct, rfl⟩
    rw [L.qc, L.qo, ea, eb]
    exact ⟨a1, a2, b1, b2⟩
  right
  refine ⟨e1, by rw [e2]; rfl, L.R, by rw [L.F]; exact h.fa, by rw [L.F]; exact h.fb, by rw [L.Qo]; exact h.Qa, L.kc, L.ko, by rw [L.go, ea], by rw [L.gc, eb], by rw [L.qo, ea], ?_, by rw [L.bo, ea], L.tn, L.ct, rfl⟩
  rw [L.qc, L.qo, ea, eb]
  exact ⟨a1, a2, b1, b2⟩
theorem one_deficit {c o : Nat} {K q sz : Int} {p : Pk} {i : Int} {b : Nat} (D : DF d s0 s W w) (h : One s ba bb c o K q n sz p) (hK : 0 ≤ K) (hK2 : K ≤ 4611686018427387904) (hco : (c = ba ∧ o = bb) ∨ (c = bb ∧ o = ba)) (hi : (i = 0 ∧ b = ba) ∨ (i = 1 ∧ b = bb)) :
    Calls Try.prog 13 #[.pointer (some ⟨d, 0, none⟩), hdl i 1] w fun e w' => e = .returned (.tuple #[.int .i64 (s.Y b).kept, .int .i64 0]) ∧ DF d s0 s W w' := by
  have hF : s.F i = some b := by
    rcases hi with ⟨rfl, rfl⟩ | ⟨rfl, rfl⟩
    · exact h.fa
    exact h.fb
  have hg : (s.Y b).gen = 1 := by
    rcases hi with ⟨rfl, rfl⟩ | ⟨rfl, rfl⟩
    · exact h.ga
    exact h.gb
  have hk : (s.Y b).kept = 0 ∨ (s.Y b).kept = K := by
    have h1 := h.kc
    have h2 := h.ko
    rcases hi with ⟨_, rfl⟩ | ⟨_, rfl⟩ <;> rcases hco with ⟨rfl, rfl⟩ | ⟨rfl, rfl⟩ <;> first | exact .inl h1 | exact .inr h2
  have hq : 1 ≤ (s.Y b).quantum ∧ (s.Y b).quantum ≤ 1073741824 := by
    have := h.qq
    rcases hi with ⟨_, rfl⟩ | ⟨_, rfl⟩ <;> omega
  have := deficitD_any d s i 1 b w D.1 (by rcases hi with ⟨rfl, _⟩ | ⟨rfl, _⟩ <;> omega) (by rcases hi with ⟨rfl, _⟩ | ⟨rfl, _⟩ <;> omega) hF hg (by rw [h.tn]; intro e; cases e) (by omega) (by omega) (by omega) (by omega)
  refine this.mono ?_
  rintro e w1 ⟨rfl, hb⟩
  refine ⟨?_, D.below hb⟩
  unfold Sd.deficit
  rw [if_neg (by rw [h.tn]; simp)]
theorem next_one {c o : Nat} {K q sz : Int} {p : Pk} (D : DF d s0 s W w) (h : One s ba bb c o K q n sz p) (t : Int) (hK : 0 ≤ K) (hK2 : K ≤ 1073741824) (q1 : 1 ≤ q) (q2 : q ≤ 1073741824) (z1 : 0 ≤ sz) (z2 : sz ≤ 65536) (n1 : 0 ≤ n) (n2 : n ≤ 65536) :
    Calls Try.prog 17 #[.pointer (some ⟨d, 0, none⟩), .int .i64 t] w fun e w' => e = .returned (.tuple #[p.val, .bool true]) ∧ ∃ s', DF d s0 s' W w' ∧ s'.x.count = 0 := by
  refine (nextD_any d s t w D.1 (fun b hb => by
    rw [h.R] at hb
    simp at hb
    subst hb
    unfold hdP
    rw [h.Qo, h.qo, h.ko]
    exact ⟨by simp, q1, q2, by show 0 ≤ p.size; rw [h.sz]; omega, by show p.size ≤ 65536; rw [h.sz]; omega, by omega, by omega⟩) (by rw [h.R]; simp) (by rw [h.R]; simp) (by rw [h.R]; simp) (by rw [h.ct]; omega) (by rw [h.ct]; omega) (fun b hb => by
    rw [h.R] at hb
    simp at hb
    subst hb
    rw [h.bo]
    omega)).mono ?_
  rintro e w1 ⟨r, k, x, xs, Y1, s', rfl, hx⟩
  have hk := hx.pas.kn
  rw [h.R] at hk
  simp at hk
  subst hk
  have hq := hx.que
  rw [show s.nth 0 = o by simp [Sd.nth, h.R], h.Qo] at hq
  injection hq with h1 h2
  refine ⟨by rw [h1], s', D.trans hx.df, ?_⟩
  obtain ⟨g1, g2, hs⟩ := hx.st
  rcases hs with ⟨_, hs⟩ | ⟨_, g3, hs⟩
  · subst hs
    simp [Sd.lessOf, Sd.mid, h.ct]
  subst hs
  simp [Sd.outOf, Sd.lessOf, Sd.mid, h.ct]
structure Hx (w W : World) (d : Nat) (s0 : Sd) (x : Nat) : Prop where
  ds : DS W d s0
  cells : ∀ s9 w9, DF d s0 s9 W w9 → w9.cell? ⟨x, 0, none⟩ = some (.int .i64 0) ∧ w9.cell? ⟨x, 1, none⟩ = some (.int .i64 1) ∧ w9.cell? ⟨x + 1, 0, none⟩ = some (.int .i64 1) ∧ w9.cell? ⟨x + 1, 1, none⟩ = some (.int .i64 1)
  bel : ∀ s9 w9, DF d s0 s9 W w9 → Below w.heap.size w w9
theorem Hx.of {w w1 : World} {d : Nat} {s0 : Sd} (hD : DS w1 d s0) (hb : Below w.heap.size w w1) (hm : ∀ k, Mine d s0 k → w.heap.size ≤ k) : Hx w ((w1.alloc (.cells #[.int .i64 0, .int .i64 1] 41)).alloc (.cells #[.int .i64 1, .int .i64 1] 41)) d s0 w1.heap.size := by
  obtain ⟨W, hW⟩ : ∃ W, W = (w1.alloc (.cells #[.int .i64 0, .int .i64 1] 41)).alloc (.cells #[.int .i64 1, .int .i64 1] 41) := ⟨_, rfl⟩
  have B1 : Below w1.heap.size w1 (w1.alloc (.cells #[.int .i64 0, .int .i64 1] 41)) := (Below.refl _ _).alloc (Nat.le_refl _) _
  have B0 : Below w1.heap.size w1 W := by rw [hW]; exact B1.alloc B1.size _
  have h2 : W.heap[w1.heap.size + 1]? = some (.cells #[.int .i64 1, .int .i64 1] 41) := by
    rw [hW]
    have := (MapKept.heap_alloc (w1.alloc (.cells #[.int .i64 0, .int .i64 1] 41)) (.cells #[.int .i64 1, .int .i64 1] 41)).1
    simpa using this
  have h1 : W.heap[w1.heap.size]? = some (.cells #[.int .i64 0, .int .i64 1] 41) := by
    rw [hW]
    exact (Below.heap_alloc _ _ _ (by simp)).trans (MapKept.heap_alloc _ _).1
  rw [← hW]
  have f1 : ¬ Mine d s0 w1.heap.size := hD.fresh (Nat.le_refl _)
  have f2 : ¬ Mine d s0 (w1.heap.size + 1) := hD.fresh (by omega)
  refine ⟨(hD.df.below B0).1, fun s9 w9 h => ?_, fun s9 w9 h => ?_⟩
  · have e1 := (h.2.block _ (Array.getElem?_eq_some_iff.1 h1).1 f1).trans h1
    have e2 := (h.2.block _ (Array.getElem?_eq_some_iff.1 h2).1 f2).trans h2
    refine ⟨?_, ?_, ?_, ?_⟩ <;> simp [World.cell?, e1, e2]
  have b2 : Below w.heap.size w W := hb.trans (B0.mono hb.size)
  exact ⟨h.2.os.trans b2.os, h.2.tape.trans b2.tape, h.2.output.trans b2.output, Nat.le_trans b2.size h.2.size, fun k hk => (h.2.block k (Nat.lt_of_lt_of_le hk b2.size) (fun e => by have := hm k e; omega)).trans (b2.block k hk)⟩
set_option maxHeartbeats 8000000 in
theorem told15_any (w : World) : Calls Try.prog 8 #[] w fun e w' => e = .returned (.bool true) ∧ Below w.heap.size w w' := by
  go_enter Try.func8, Try.ntmps8
  go_wp2_with fail
  refine (newD_ds w).mono ?_
  rintro e w1 ⟨d, s0, rfl, hD, hN, hb, hm⟩
  have hx := Hx.of hD hb hm
  obtain ⟨x, ex⟩ : ∃ x, x = w1.heap.size := ⟨_, rfl⟩
  rw [← ex] at hx
  have HX : Hid (w1.heap.size = x) := ex.symm
  obtain ⟨W, hW⟩ : ∃ W, W = (w1.alloc (.cells #[.int .i64 0, .int .i64 1] 41)).alloc (.cells #[.int .i64 1, .int .i64 1] 41) := ⟨_, rfl⟩
  rw [← hW] at hx
  have HW : Hid ((w1.alloc (.cells #[.int .i64 0, .int .i64 1] 41)).alloc (.cells #[.int .i64 1, .int .i64 1] 41) = W) := hW.symm
  have HH : Hid (Hx w W d s0 x ∧ New0 s0) := ⟨hx, hN⟩
  clear hD hN hb hm hx hW ex
  go_wp2_with fail
  rw [HW.out, HX.out]
  refine (join_a (s0 := s0) HH.out.1.ds.df HH.out.2 0 (qa := 10) (by omega) (by omega)).mono ?_
  rintro e w2 ⟨rfl, s1, ba, D1, j1⟩
  obtain ⟨c0, c1, c2, c3⟩ := HH.out.1.cells _ _ D1
  have HD : Hid (DF d s0 s1 W w2 ∧ J1 s1 ba 10) := ⟨D1, j1⟩
  clear D1 j1
  go_wp2_with fail
  refine (join_b (s0 := s0) HD.out.1 HD.out.2 0 (qb := 5) (by omega) (by omega)).mono ?_
  rintro e w3 ⟨rfl, s2, bb, D2, j2⟩
  clear c0 c1 c2 c3 HD
  obtain ⟨c0, c1, c2, c3⟩ := HH.out.1.cells _ _ D2
  have HD2 : Hid (DF d s0 s2 W w3 ∧ J2 s2 ba bb 10 5) := ⟨D2, j2⟩
  clear D2 j2
  go_wp2_with fail
  refine (admit_a (s0 := s0) HD2.out.1 HD2.out.2 (n := 12) (by omega) (by omega)).mono ?_
  rintro e w4 ⟨rfl, s3, D3, a3⟩
  clear c0 c1 c2 c3 HD2
  obtain ⟨c0, c1, c2, c3⟩ := HH.out.1.cells _ _ D3
  have HD3 : Hid (DF d s0 s3 W w4 ∧ A1 s3 ba bb 10 5 12) := ⟨D3, a3⟩
  clear D3 a3
  go_wp2_with fail
  refine (admit_b (s0 := s0) HD3.out.1 HD3.out.2 (m := 5) (by omega) (by omega)).mono ?_
  rintro e w5 ⟨rfl, s4, D4, t4⟩
  clear c0 c1 c2 c3 HD3
  obtain ⟨c0, c1, c2, c3⟩ := HH.out.1.cells _ _ D4
  have HD4 : Hid (DF d s0 s4 W w5 ∧ Two s4 ba bb 10 5 12 5) := ⟨D4, t4⟩
  clear D4 t4
  go_wp2_with fail
  refine (next_two (s0 := s0) HD4.out.1 HD4.out.2 0 (by omega) (by omega) (by omega) (by omega) (by omega) (by omega) (by omega) (by omega)).mono ?_
  rintro e w6 ⟨s5, D5, ⟨hbad, _⟩ | ⟨_, rfl, o5⟩⟩
  · exact absurd hbad (by decide)
  have o5 : One s5 ba bb bb ba 10 10 12 12 ⟨0, 1, 0, 12, 1, 0⟩ := o5
  clear c0 c1 c2 c3 HD4
  obtain ⟨W6, hW6⟩ : ∃ W6, W6 = w6.alloc (.cells #[.int .i64 1, .int .i64 1, .int .i64 0, .int .i64 5, .int .i64 2, .int .i64 0] 49) := ⟨_, rfl⟩
  obtain ⟨u, eu⟩ : ∃ u, u = w6.heap.size := ⟨_, rfl⟩
  have D6 : DF d s0 s5 W W6 := by rw [hW6]; exact D5.alloc _
  have hu6 : W6.heap[u]? = some (.cells #[.int .i64 1, .int .i64 1, .int .i64 0, .int .i64 5, .int .i64 2, .int .i64 0] 49) := by rw [hW6, eu]; exact (MapKept.heap_alloc _ _).1
  have fu : ¬ Mine d s5 u := D5.1.fresh (by omega)
  obtain ⟨c0, c1, _, _⟩ := HH.out.1.cells _ _ D6
  rw [hW6] at c0 c1
  have HW6 : Hid (w6.alloc (.cells #[.int .i64 1, .int .i64 1, .int .i64 0, .int .i64 5, .int .i64 2, .int .i64 0] 49) = W6 ∧ w6.heap.size = u) := ⟨hW6.symm, eu.symm⟩
  have HD6 : Hid (DF d s0 s5 W W6 ∧ W6.heap[u]? = some (.cells #[.int .i64 1, .int .i64 1, .int .i64 0, .int .i64 5, .int .i64 2, .int .i64 0] 49) ∧ ¬ Mine d s5 u ∧ One s5 ba bb bb ba 10 10 12 12 ⟨0, 1, 0, 12, 1, 0⟩) := ⟨D6, hu6, fu, o5⟩
  clear D5 D6 hu6 fu o5 hW6 eu
  go_wp2_with fail
  rw [HW6.out.1, HW6.out.2]
  clear c0 c1
  have DEF : Hid (Calls Try.prog 13 #[.pointer (some ⟨d, 0, none⟩), hdl 0 1] W6 fun e w' => e = .returned (.tuple #[.int .i64 10, .int .i64 0]) ∧ DF d s5 s5 W6 w') := by
    have := one_deficit (s0 := s5) (W := W6) (w := W6) (i := 0) (b := ba) HD6.out.1.1.df HD6.out.2.2.2 (by omega) (by omega) (.inr ⟨rfl, rfl⟩) (.inl ⟨rfl, rfl⟩)
    rw [HD6.out.2.2.2.ko] at this
    exact this
  refine DEF.out.mono ?_
  rintro e w7 ⟨rfl, D7⟩
  clear DEF
  have HD7 : Hid (DF d s5 s5 W6 w7) := D7
  clear D7
  go_wp2_with fail
  refine (next_one (s0 := s5) (W := W6) HD7.out HD6.out.2.2.2 0 (by omega) (by omega) (by omega) (by omega) (by omega) (by omega) (by omega) (by omega)).mono ?_
  rintro e w8 ⟨rfl, s8, D8, hc8⟩
  rw [show Pk.val ⟨0, 1, 0, 12, 1, 0⟩ = .agg #[.int .i64 0, .int .i64 1, .int .i64 0, .int .i64 12, .int .i64 1, .int .i64 0] from rfl]
  obtain ⟨W8, hW8⟩ : ∃ W8, W8 = w8.alloc (.cells #[.int .i64 0, .int .i64 1, .int .i64 0, .int .i64 12, .int .i64 1, .int .i64 0] 49) := ⟨_, rfl⟩
  obtain ⟨y, ey⟩ : ∃ y, y = w8.heap.size := ⟨_, rfl⟩
  have D9 : DF d s5 s8 W6 W8 := by rw [hW8]; exact D8.alloc _
  have hu8 : W8.heap[u]? = some (.cells #[.int .i64 1, .int .i64 1, .int .i64 0, .int .i64 5, .int .i64 2, .int .i64 0] 49) := (D9.2.block u (Array.getElem?_eq_some_iff.1 HD6.out.2.1).1 HD6.out.2.2.1).trans HD6.out.2.1
  have hy8 : W8.heap[y]? = some (.cells #[.int .i64 0, .int .i64 1, .int .i64 0, .int .i64 12, .int .i64 1, .int .i64 0] 49) := by rw [hW8, ey]; exact (MapKept.heap_alloc _ _).1
  have q2 : W8.cell? ⟨u, 4, none⟩ = some (.int .i64 2) := by simp [World.cell?, hu8]
  have q1 : W8.cell? ⟨y, 4, none⟩ = some (.int .i64 1) := by simp [World.cell?, hy8]
  rw [hW8] at q2 q1
  rw [ey] at q1
  have HW8 : Hid (w8.alloc (.cells #[.int .i64 0, .int .i64 1, .int .i64 0, .int .i64 12, .int .i64 1, .int .i64 0] 49) = W8 ∧ w8.heap.size = y) := ⟨hW8.symm, ey.symm⟩
  have HL : Hid (Calls Try.prog 18 #[.pointer (some ⟨d, 0, none⟩)] W8 fun e w' => e = .returned (.int .i64 0) ∧ w' = W8) := by
    have := lenD_any d s8.x W8 D9.1.dr
    rw [hc8] at this
    exact this
  have HB : Hid (Below w.heap.size w W8) := HH.out.1.bel _ _ (HD6.out.1.trans D9)
  clear D8 D9 hu8 hy8 hc8 hW8 ey
  go_wp2_with fail
  rw [HW8.out.1]
  refine HL.out.mono ?_
  rintro e w9 ⟨rfl, e9⟩
  rw [e9]
  clear HL q1 q2 e9 w9
  go_wp2_with fail
  exact bodyPost_ret (v := .bool true) (by simp [results, Try.results8, go_sem]) rfl ⟨rfl, HB.out⟩
theorem i64_and65535 (n : Int) : bits .and .i64 n 65535 = n % 65536 := by
  have h127 : (BitVec.ofInt 64 65535).toNat = 2 ^ 16 - 1 := by decide
  have key : (BitVec.ofInt 64 n &&& BitVec.ofInt 64 65535).toNat = (n % ((2 ^ 64 : Nat) : Int)).toNat % 2 ^ 16 := by
    rw [BitVec.toNat_and, BitVec.toNat_ofInt, h127, Nat.and_two_pow_sub_one_eq_mod]
  show IntKind.i64.wrap ((BitVec.ofInt 64 n &&& BitVec.ofInt 64 65535).toNat : Nat) = n % 65536
  rw [key, IntKind.wrap_i64]
  omega
theorem i64_and255 (n : Int) : bits .and .i64 n 255 = n % 256 := by
  have h127 : (BitVec.ofInt 64 255).toNat = 2 ^ 8 - 1 := by decide
  have key : (BitVec.ofInt 64 n &&& BitVec.ofInt 64 255).toNat = (n % ((2 ^ 64 : Nat) : Int)).toNat % 2 ^ 8 := by
    rw [BitVec.toNat_and, BitVec.toNat_ofInt, h127, Nat.and_two_pow_sub_one_eq_mod]
  show IntKind.i64.wrap ((BitVec.ofInt 64 n &&& BitVec.ofInt 64 255).toNat : Nat) = n % 256
  rw [key, IntKind.wrap_i64]
  omega
set_option maxHeartbeats 8000000 in
theorem many_any (n0 m0 a0 : Int) (w : World) : Calls Try.prog 6 #[.int .i64 n0, .int .i64 m0, .int .i64 a0] w fun e w' => e = .returned (.bool true) ∧ Below w.heap.size w w' := by
  obtain ⟨n, en⟩ : ∃ n, n = n0 % 65536 := ⟨_, rfl⟩
  obtain ⟨m, em⟩ : ∃ m, m = m0 % 65536 := ⟨_, rfl⟩
  obtain ⟨a, ea⟩ : ∃ a, a = a0 % 256 := ⟨_, rfl⟩
  have b1 : bits .and .i64 n0 65535 = n := by rw [en]; exact i64_and65535 _
  have b2 : bits .and .i64 m0 65535 = m := by rw [em]; exact i64_and65535 _
  have b3 : bits .and .i64 a0 255 = a := by rw [ea]; exact i64_and255 _
  have r1 : 0 ≤ n ∧ n < 65536 := by omega
  have r2 : 0 ≤ m ∧ m < 65536 := by omega
  have r3 : 0 ≤ a ∧ a < 256 := by omega
  clear en em ea
  have w1 : IntKind.i64.wrap (n + 1) = n + 1 := by rw [IntKind.wrap_i64]; omega
  have w2 : IntKind.i64.wrap (m + 1) = m + 1 := by rw [IntKind.wrap_i64]; omega
  have w3 : IntKind.i64.wrap (a + 1) = a + 1 := by rw [IntKind.wrap_i64]; omega
  go_enter Try.func6, Try.ntmps6
  go_wp2_with fail
  generalize en : n + 1 = N at *
  generalize em : m + 1 = M at *
  generalize ea : a + 1 = A at *
  have q1 : 1 ≤ N ∧ N ≤ 65536 := by omega
  have q2 : 1 ≤ M ∧ M ≤ 65536 := by omega
  have q3 : 1 ≤ A ∧ A ≤ 256 := by omega
  clear en em ea r1 r2 r3 w1 w2 w3
  refine (newD_ds w).mono ?_
  rintro e w1 ⟨d, s0, rfl, hD0, hN, hb0, hm⟩
  have HD0 : Hid (DS w1 d s0 ∧ New0 s0 ∧ Below w.heap.size w w1 ∧ ∀ k, Mine d s0 k → w.heap.size ≤ k) := ⟨hD0, hN, hb0, hm⟩
  clear hD0 hN hb0 hm b1 b2 b3
  go_wp2_with fail
  refine (told15_any w1).mono ?_
  rintro e w2 ⟨rfl, hb2⟩
  have hx := Hx.of (HD0.out.1.df.below hb2).1 (HD0.out.2.2.1.trans (hb2.mono HD0.out.2.2.1.size)) HD0.out.2.2.2
  obtain ⟨x, ex⟩ : ∃ x, x = w2.heap.size := ⟨_, rfl⟩
  rw [← ex] at hx
  have HX : Hid (w2.heap.size = x) := ex.symm
  obtain ⟨W, hW⟩ : ∃ W, W = (w2.alloc (.cells #[.int .i64 0, .int .i64 1] 41)).alloc (.cells #[.int .i64 1, .int .i64 1] 41) := ⟨_, rfl⟩
  rw [← hW] at hx
  have HW : Hid ((w2.alloc (.cells #[.int .i64 0, .int .i64 1] 41)).alloc (.cells #[.int .i64 1, .int .i64 1] 41) = W) := hW.symm
  have HH : Hid (Hx w W d s0 x ∧ New0 s0) := ⟨hx, HD0.out.2.1⟩
  clear hx hW ex hb2 HD0
  go_wp2_with fail
  rw [HW.out, HX.out]
  refine (join_a (s0 := s0) HH.out.1.ds.df HH.out.2 0 (qa := 1) (by omega) (by omega)).mono ?_
  rintro e w2 ⟨rfl, s1, ba, D1, j1⟩
  obtain ⟨c0, c1, c2, c3⟩ := HH.out.1.cells _ _ D1
  have HD : Hid (DF d s0 s1 W w2 ∧ J1 s1 ba 1) := ⟨D1, j1⟩
  clear D1 j1
  go_wp2_with fail
  refine (join_b (s0 := s0) HD.out.1 HD.out.2 0 (qb := A) (by omega) (by omega)).mono ?_
  rintro e w3 ⟨rfl, s2, bb, D2, j2⟩
  clear c0 c1 c2 c3 HD
  obtain ⟨c0, c1, c2, c3⟩ := HH.out.1.cells _ _ D2
  have HD2 : Hid (DF d s0 s2 W w3 ∧ J2 s2 ba bb 1 A) := ⟨D2, j2⟩
  clear D2 j2
  go_wp2_with fail
  refine (admit_a (s0 := s0) HD2.out.1 HD2.out.2 (n := N) (by omega) (by omega)).mono ?_
  rintro e w4 ⟨rfl, s3, D3, a3⟩
  clear c0 c1 c2 c3 HD2
  obtain ⟨c0, c1, c2, c3⟩ := HH.out.1.cells _ _ D3
  have HD3 : Hid (DF d s0 s3 W w4 ∧ A1 s3 ba bb 1 A N) := ⟨D3, a3⟩
  clear D3 a3
  go_wp2_with fail
  refine (admit_b (s0 := s0) HD3.out.1 HD3.out.2 (m := M) (by omega) (by omega)).mono ?_
  rintro e w5 ⟨rfl, s4, D4, t4⟩
  clear c0 c1 c2 c3 HD3
  obtain ⟨c0, c1, c2, c3⟩ := HH.out.1.cells _ _ D4
  have HD4 : Hid (DF d s0 s4 W w5 ∧ Two s4 ba bb 1 A N M) := ⟨D4, t4⟩
  clear D4 t4
  obtain ⟨V, eV⟩ : ∃ V, V = (M - 1).tdiv A := ⟨_, rfl⟩
  have hV0 : 0 ≤ V := by rw [eV]; exact Int.tdiv_nonneg (by omega) (by omega)
  have hV1 : V ≤ 65535 := by
    have := Int.tdiv_le_self (a := M - 1) A (by omega)
    omega
  obtain ⟨T, eT⟩ : ∃ T, T = V + 1 := ⟨_, rfl⟩
  have x1 : IntKind.i64.wrap (M + A) = M + A := by rw [IntKind.wrap_i64]; omega
  have x2 : IntKind.i64.wrap (M + A - 1) = M + A - 1 := by rw [IntKind.wrap_i64]; omega
  have x3 : IntKind.i64.wrap ((M + A - 1).tdiv A) = T := by
    have h1 : (M + A - 1).tdiv A = V + 1 := by
      rw [eV, Int.tdiv_eq_ediv_of_nonneg (by omega), Int.tdiv_eq_ediv_of_nonneg (by omega), show M + A - 1 = M - 1 + 1 * A by omega, Int.add_mul_ediv_right _ _ (by omega)]
    rw [h1, ← eT, IntKind.wrap_i64]
    omega
  have x4 : IntKind.i64.wrap (N - 1) = N - 1 := by rw [IntKind.wrap_i64]; omega
  have m0 : 0 ≤ (N - 1) * A := Int.mul_nonneg (by omega) (by omega)
  have m1 : (N - 1) * A ≤ 65535 * 256 := Int.mul_le_mul (by omega) (by omega) (by omega) (by omega)
  have x5 : IntKind.i64.wrap ((N - 1) * A) = (N - 1) * A := by rw [IntKind.wrap_i64]; omega
  have a0 : ¬ A = 0 := by omega
  go_wp2_with fail
  refine (next_two (s0 := s0) HD4.out.1 HD4.out.2 0 (by omega) (by omega) (by omega) (by omega) (by omega) (by omega) (by omega) (by omega)).mono ?_
  rw [show (N - 1).tdiv 1 = N - 1 from Int.tdiv_one _, ← eV]
  rintro e w6 ⟨s5, D5, ⟨hAB, rfl, o5⟩ | ⟨hAB, rfl, o5⟩⟩
  · have o5 : One s5 ba bb ba bb ((N - 1) * A) A M M ⟨1, 1, 0, M, 2, 0⟩ := o5
    clear c0 c1 c2 c3 HD4
    have hle : N ≤ T := by omega
    obtain ⟨W6, hW6⟩ : ∃ W6, W6 = w6.alloc (.cells #[.int .i64 0, .int .i64 1, .int .i64 0, .int .i64 N, .int .i64 1, .int .i64 0] 49) := ⟨_, rfl⟩
    obtain ⟨u, eu⟩ : ∃ u, u = w6.heap.size := ⟨_, rfl⟩
    have D6 : DF d s0 s5 W W6 := by rw [hW6]; exact D5.alloc _
    have hu6 : W6.heap[u]? = some (.cells #[.int .i64 0, .int .i64 1, .int .i64 0, .int .i64 N, .int .i64 1, .int .i64 0] 49) := by rw [hW6, eu]; exact (MapKept.heap_alloc _ _).1
    have u4 : W6.cell? ⟨u, 4, none⟩ = some (.int .i64 1) := by simp [World.cell?, hu6]
    obtain ⟨c0, c1, c2, c3⟩ := HH.out.1.cells _ _ D6
    rw [hW6] at c0 c1 c2 c3 u4
    rw [eu] at u4
    have HW6 : Hid (w6.alloc (.cells #[.int .i64 0, .int .i64 1, .int .i64 0, .int .i64 N, .int .i64 1, .int .i64 0] 49) = W6 ∧ w6.heap.size = u) := ⟨hW6.symm, eu.symm⟩
    have HD6 : Hid (DF d s0 s5 W W6 ∧ One s5 ba bb ba bb ((N - 1) * A) A M M ⟨1, 1, 0, M, 2, 0⟩) := ⟨D6, o5⟩
    have hy1 : (s5.Y ba).kept = 0 := by exact o5.kc
    have hy2 : (s5.Y bb).kept = ((N - 1) * A) := by exact o5.ko
    have HK : Hid (0 ≤ ((N - 1) * A) ∧ ((N - 1) * A) ≤ 4611686018427387904) := ⟨by omega, by omega⟩
    have DX : Hid (∀ w9, DF d s0 s5 W w9 → Calls Try.prog 13 #[.pointer (some ⟨d, 0, none⟩), hdl 0 1] w9 fun e w' => e = .returned (.tuple #[.int .i64 0, .int .i64 0]) ∧ DF d s0 s5 W w') := fun w9 h9 => by
      have := one_deficit (s0 := s0) (W := W) (i := 0) (b := ba) h9 o5 HK.out.1 HK.out.2 (.inl ⟨rfl, rfl⟩) (.inl ⟨rfl, rfl⟩)
      rw [hy1] at this
      exact this
    have DY : Hid (∀ w9, DF d s0 s5 W w9 → Calls Try.prog 13 #[.pointer (some ⟨d, 0, none⟩), hdl 1 1] w9 fun e w' => e = .returned (.tuple #[.int .i64 ((N - 1) * A), .int .i64 0]) ∧ DF d s0 s5 W w') := fun w9 h9 => by
      have := one_deficit (s0 := s0) (W := W) (i := 1) (b := bb) h9 o5 HK.out.1 HK.out.2 (.inl ⟨rfl, rfl⟩) (.inr ⟨rfl, rfl⟩)
      rw [hy2] at this
      exact this
    clear D5 D6 hu6 o5 hW6 eu hy1 hy2 m0 m1 hV0 hV1 q1 q2 q3 eT eV
    go_wp2_with fail
    rw [HW6.out.1]
    refine (DX.out W6 HD6.out.1).mono ?_
    rintro e w7 ⟨rfl, D7⟩
    clear DX c0 c1 c2 c3 u4
    obtain ⟨c0, c1, c2, c3⟩ := HH.out.1.cells _ _ D7
    have HD7 : Hid (DF d s0 s5 W w7) := D7
    clear D7
    go_wp2_with fail
    refine (DY.out w7 HD7.out).mono ?_
    rintro e w8 ⟨rfl, D8⟩
    have HB : Hid (Below w.heap.size w w8) := HH.out.1.bel _ _ D8
    clear DY c0 c1 c2 c3 D8 HD7
    go_wp2_with fail
    exact bodyPost_ret (v := .bool true) (by simp [results, Try.results6, go_sem]) rfl ⟨rfl, HB.out⟩
  have o5 : One s5 ba bb bb ba ((V + 1) * 1) 1 N N ⟨0, 1, 0, N, 1, 0⟩ := o5
  clear c0 c1 c2 c3 HD4
  have hle : ¬ N ≤ T := by omega
  obtain ⟨W6, hW6⟩ : ∃ W6, W6 = w6.alloc (.cells #[.int .i64 1, .int .i64 1, .int .i64 0, .int .i64 M, .int .i64 2, .int .i64 0] 49) := ⟨_, rfl⟩
  obtain ⟨u, eu⟩ : ∃ u, u = w6.heap.size := ⟨_, rfl⟩
  have D6 : DF d s0 s5 W W6 := by rw [hW6]; exact D5.alloc _
  have hu6 : W6.heap[u]? = some (.cells #[.int .i64 1, .int .i64 1, .int .i64 0, .int .i64 M, .int .i64 2, .int .i64 0] 49) := by rw [hW6, eu]; exact (MapKept.heap_alloc _ _).1
  have u4 : W6.cell? ⟨u, 4, none⟩ = some (.int .i64 2) := by simp [World.cell?, hu6]
  obtain ⟨c0, c1, c2, c3⟩ := HH.out.1.cells _ _ D6
  rw [hW6] at c0 c1 c2 c3 u4
  rw [eu] at u4
  have HW6 : Hid (w6.alloc (.cells #[.int .i64 1, .int .i64 1, .int .i64 0, .int .i64 M, .int .i64 2, .int .i64 0] 49) = W6 ∧ w6.heap.size = u) := ⟨hW6.symm, eu.symm⟩
  have HD6 : Hid (DF d s0 s5 W W6 ∧ One s5 ba bb bb ba ((V + 1) * 1) 1 N N ⟨0, 1, 0, N, 1, 0⟩) := ⟨D6, o5⟩
  have hy1 : (s5.Y ba).kept = T := by rw [o5.ko]; omega
  have hy2 : (s5.Y bb).kept = 0 := by exact o5.kc
  have HK : Hid (0 ≤ ((V + 1) * 1) ∧ ((V + 1) * 1) ≤ 4611686018427387904) := ⟨by omega, by omega⟩
  have DX : Hid (∀ w9, DF d s0 s5 W w9 → Calls Try.prog 13 #[.pointer (some ⟨d, 0, none⟩), hdl 0 1] w9 fun e w' => e = .returned (.tuple #[.int .i64 T, .int .i64 0]) ∧ DF d s0 s5 W w') := fun w9 h9 => by
    have := one_deficit (s0 := s0) (W := W) (i := 0) (b := ba) h9 o5 HK.out.1 HK.out.2 (.inr ⟨rfl, rfl⟩) (.inl ⟨rfl, rfl⟩)
    rw [hy1] at this
    exact this
  have DY : Hid (∀ w9, DF d s0 s5 W w9 → Calls Try.prog 13 #[.pointer (some ⟨d, 0, none⟩), hdl 1 1] w9 fun e w' => e = .returned (.tuple #[.int .i64 0, .int .i64 0]) ∧ DF d s0 s5 W w') := fun w9 h9 => by
    have := one_deficit (s0 := s0) (W := W) (i := 1) (b := bb) h9 o5 HK.out.1 HK.out.2 (.inr ⟨rfl, rfl⟩) (.inr ⟨rfl, rfl⟩)
    rw [hy2] at this
    exact this
  clear D5 D6 hu6 o5 hW6 eu hy1 hy2 m0 m1 hV0 hV1 q1 q2 q3 eT eV
  go_wp2_with fail
  rw [HW6.out.1]
  refine (DX.out W6 HD6.out.1).mono ?_
  rintro e w7 ⟨rfl, D7⟩
  clear DX c0 c1 c2 c3 u4
  obtain ⟨c0, c1, c2, c3⟩ := HH.out.1.cells _ _ D7
  have HD7 : Hid (DF d s0 s5 W w7) := D7
  clear D7
  go_wp2_with fail
  refine (DY.out w7 HD7.out).mono ?_
  rintro e w8 ⟨rfl, D8⟩
  have HB : Hid (Below w.heap.size w w8) := HH.out.1.bel _ _ D8
  clear DY c0 c1 c2 c3 D8 HD7
  go_wp2_with fail
  exact bodyPost_ret (v := .bool true) (by simp [results, Try.results6, go_sem]) rfl ⟨rfl, HB.out⟩
end Go.Proofs.Ythbgoegfbbpieaa
