/- Contracts of the program's functions, part 11: own work, joined in build order. -/
import Derived.Test.YtkhdapmipcghoaaDoorJ10
namespace Go.Proofs.YtkhdapmipcghoaaDoor
open Go.RowKit
set_option maxRecDepth 100000
set_option linter.unusedVariables false
/-- A box of two cells that is still as it was made. -/
def Zer (w : World) (r : Nat) : Prop := ∀ i, i < 2 → w.cell? ⟨r, i, none⟩ = some (.slice none 0 0) ∧ w.frozen? ⟨r, i, none⟩ = false
theorem Zer.go {w w' : World} {r : Nat} (h : Zer w r) (hb : Below w.heap.size w w') : Zer w' r := fun i hi =>
  ⟨cell_later hb (h i hi).1, (hb.frozen (World.block_lt_of_cell? _ _ (h i hi).1)).trans (h i hi).2⟩
theorem Zer.set {w : World} {r g : Nat} (h : Zer w r) (hg : r ≠ g) (u : Value) : Zer (w.setCell ⟨g, 0, none⟩ u) r := fun i hi =>
  ⟨by rw [World.cell?_setCell_far _ _ _ _ (by simpa using Ne.symm hg)]; exact (h i hi).1, by simp [World.frozen?_setCell, (h i hi).2]⟩
/-- What Made knows of its world: four numbers in four boxes, two results. -/
structure MT (w0 w : World) (b g1 g2 h1 h2 : Nat) (a1 : Option Addr) (n1 c1 : Nat) (a2 : Option Addr) (n2 c2 : Nat) (a3 : Option Addr) (n3 c3 : Nat) (a4 : Option Addr) (n4 c4 : Nat) (x y y' : Nat) : Prop where
  nx : IsNat w (.agg #[.slice a1 n1 c1]) x
  ny : IsNat w (.agg #[.slice a2 n2 c2]) y
  rx : RNat w (.agg #[.slice a3 n3 c3]) x
  ry : RNat w (.agg #[.slice a4 n4 c4]) y'
  c1 : w.cell? ⟨g1, 0, none⟩ = some (.slice a1 n1 c1)
  c2 : w.cell? ⟨g2, 0, none⟩ = some (.slice a2 n2 c2)
  c3 : w.cell? ⟨h1, 0, none⟩ = some (.slice a3 n3 c3)
  c4 : w.cell? ⟨h2, 0, none⟩ = some (.slice a4 n4 c4)
  f2 : w.frozen? ⟨g2, 0, none⟩ = false
  f4 : w.frozen? ⟨h2, 0, none⟩ = false
  z1 : Zer w (b + 1)
  z2 : Zer w (b + 1 + 1)
  bel : Below w0.heap.size w0 w
  ne : g1 ≠ g2 ∧ g1 ≠ h2 ∧ h1 ≠ g2 ∧ h1 ≠ h2 ∧ g2 ≠ h2 ∧ b + 1 ≠ g2 ∧ b + 1 ≠ h2 ∧ b + 1 + 1 ≠ g2 ∧ b + 1 + 1 ≠ h2
  lo : w0.heap.size ≤ g2 ∧ w0.heap.size ≤ h2 ∧ w0.heap.size ≤ b
theorem MT.go {w0 w w' : World} {b g1 g2 h1 h2 : Nat} {a1 : Option Addr} {n1 c1 : Nat} {a2 : Option Addr} {n2 c2 : Nat} {a3 : Option Addr} {n3 c3 : Nat} {a4 : Option Addr} {n4 c4 : Nat} {x y y' : Nat} (h : MT w0 w b g1 g2 h1 h2 a1 n1 c1 a2 n2 c2 a3 n3 c3 a4 n4 c4 x y y') (hb : Below w.heap.size w w') : MT w0 w' b g1 g2 h1 h2 a1 n1 c1 a2 n2 c2 a3 n3 c3 a4 n4 c4 x y y' :=
  ⟨h.nx.mono hb, h.ny.mono hb, h.rx.mono hb, h.ry.mono hb, cell_later hb h.c1, cell_later hb h.c2, cell_later hb h.c3, cell_later hb h.c4, (hb.frozen (World.block_lt_of_cell? _ _ h.c2)).trans h.f2, (hb.frozen (World.block_lt_of_cell? _ _ h.c4)).trans h.f4, h.z1.go hb, h.z2.go hb, bel_go h.bel hb, h.ne, h.lo⟩
theorem far_cell {w : World} {g r : Nat} {u v : Value} (h : w.cell? ⟨r, 0, none⟩ = some v) (hg : r ≠ g) : (w.setCell ⟨g, 0, none⟩ u).cell? ⟨r, 0, none⟩ = some v := by
  rw [World.cell?_setCell_far _ _ _ _ (by simpa using Ne.symm hg)]
  exact h
theorem MT.setN {w0 w : World} {b g1 g2 h1 h2 : Nat} {a1 : Option Addr} {n1 c1 : Nat} {a2 : Option Addr} {n2 c2 : Nat} {a3 : Option Addr} {n3 c3 : Nat} {a4 : Option Addr} {n4 c4 : Nat} {x y y' : Nat} (h : MT w0 w b g1 g2 h1 h2 a1 n1 c1 a2 n2 c2 a3 n3 c3 a4 n4 c4 x y y') {a : Option Addr} {n c z : Nat} (hv : IsNat w (.agg #[.slice a n c]) z) : MT w0 (w.setCell ⟨g2, 0, none⟩ (.slice a n c)) b g1 g2 h1 h2 a1 n1 c1 a n c a3 n3 c3 a4 n4 c4 x z y' := by
  have hp := no_int_slice h.c2
  obtain ⟨e1, e2, e3, e4, e5, e6, e7, e8, e9⟩ := h.ne
  exact ⟨h.nx.setCell hp _, hv.setCell hp _, h.rx.setCell hp _, h.ry.setCell hp _, far_cell h.c1 e1, by simp [go_sem, h.c2], far_cell h.c3 e3, far_cell h.c4 (Ne.symm e5), by simp [World.frozen?_setCell, h.f2], by simp [World.frozen?_setCell, h.f4], h.z1.set e6 _, h.z2.set e8 _, h.bel.setCell (p := ⟨g2, 0, none⟩) h.lo.1 _, h.ne, h.lo⟩
theorem MT.setR {w0 w : World} {b g1 g2 h1 h2 : Nat} {a1 : Option Addr} {n1 c1 : Nat} {a2 : Option Addr} {n2 c2 : Nat} {a3 : Option Addr} {n3 c3 : Nat} {a4 : Option Addr} {n4 c4 : Nat} {x y y' : Nat} (h : MT w0 w b g1 g2 h1 h2 a1 n1 c1 a2 n2 c2 a3 n3 c3 a4 n4 c4 x y y') {a : Option Addr} {n c z : Nat} (hv : RNat w (.agg #[.slice a n c]) z) : MT w0 (w.setCell ⟨h2, 0, none⟩ (.slice a n c)) b g1 g2 h1 h2 a1 n1 c1 a2 n2 c2 a3 n3 c3 a n c x y z := by
  have hp := no_int_slice h.c4
  obtain ⟨e1, e2, e3, e4, e5, e6, e7, e8, e9⟩ := h.ne
  exact ⟨h.nx.setCell hp _, h.ny.setCell hp _, h.rx.setCell hp _, hv.setCell hp _, far_cell h.c1 e2, far_cell h.c2 e5, far_cell h.c3 e4, by simp [go_sem, h.c4], by simp [World.frozen?_setCell, h.f2], by simp [World.frozen?_setCell, h.f4], h.z1.set e7 _, h.z2.set e9 _, h.bel.setCell (p := ⟨h2, 0, none⟩) h.lo.2.1 _, h.ne, h.lo⟩
def MakesM (w : World) (p q : Nat) (e : Ending) (w' : World) : Prop := ∃ v u, e = .returned (.tuple #[v, u]) ∧ Rt w' v p q ∧ RRt w' u p q ∧ Below w.heap.size w w'
def orOne (y : Nat) : Nat := if y = 0 then 1 else y
theorem orOne_pos (y : Nat) : 0 < orOne y := by unfold orOne; split <;> omega
theorem rs15 {x : Nat} (h : x < P 15) : RS x := ⟨Nat.lt_trans h (P_lt (by omega))⟩
theorem orOne_15 {y : Nat} (h : y < P 15) : orOne y < P 15 := by
  unfold orOne
  split
  · exact Nat.lt_of_lt_of_le (by rw [P_one]; omega) (P_le (show 1 ≤ 15 by omega))
  · exact h
/-- Both fractions are laid into the results. -/
theorem made_put {w0 w : World} {r : Nat} {p q : Nat} {s1 s2 t1 t2 V U : Value} (z1 : Zer w r) (z2 : Zer w (r + 1)) (h : Rt w V p q) (k : RRt w U p q) (hb : Below w0.heap.size w0 w) (hr : w0.heap.size ≤ r) :
    Rt ((((w.setCell ⟨r, 0, none⟩ s1).setCell ⟨r, 1, none⟩ s2).setCell ⟨r + 1, 0, none⟩ t1).setCell ⟨r + 1, 1, none⟩ t2) V p q ∧ RRt ((((w.setCell ⟨r, 0, none⟩ s1).setCell ⟨r, 1, none⟩ s2).setCell ⟨r + 1, 0, none⟩ t1).setCell ⟨r + 1, 1, none⟩ t2) U p q ∧ Below w0.heap.size w0 ((((w.setCell ⟨r, 0, none⟩ s1).setCell ⟨r, 1, none⟩ s2).setCell ⟨r + 1, 0, none⟩ t1).setCell ⟨r + 1, 1, none⟩ t2) := by
  obtain ⟨n1, n2⟩ := two_set (z1 0 (by omega)).1 (z1 1 (by omega)).1 s1
  have far : ∀ i, i < 2 → ((w.setCell ⟨r, 0, none⟩ s1).setCell ⟨r, 1, none⟩ s2).cell? ⟨r + 1, i, none⟩ = some (.slice none 0 0) := fun i hi => by
    rw [World.cell?_setCell_far _ _ _ _ (by simp), World.cell?_setCell_far _ _ _ _ (by simp)]
    exact (z2 i hi).1
  obtain ⟨m1, m2⟩ := two_set (far 0 (by omega)) (far 1 (by omega)) t1
  exact ⟨(((h.setCell n1 _).setCell n2 _).setCell m1 _).setCell m2 _, (((k.setCell n1 _).setCell n2 _).setCell m1 _).setCell m2 _, (((hb.setCell hr _).setCell hr _).setCell (by show _ ≤ r + 1; omega) _).setCell (by show _ ≤ r + 1; omega) _⟩
set_option maxHeartbeats 8000000 in
theorem made_true (a0 : Option Addr) (l0 k0 : Nat) (a5 : Option Addr) (l5 k5 : Nat) (m0 m5 x y : Nat) (w : World) (h0 : Fed w a0 l0 k0 m0 x) (h5 : Fed w a5 l5 k5 m5 y) (hT : Tab w) :
    Calls Tryd.prog 12 #[.agg #[.slice a0 l0 k0, .slice a5 l5 k5]] w (MakesM w (x / Nat.gcd x (orOne y)) (orOne y / Nat.gcd x (orOne y))) := by
  obtain ⟨w1, hw1⟩ : ∃ w1, w1 = ((w.alloc (.cells #[.slice a0 l0 k0, .slice a5 l5 k5] 24)).alloc (.cells #[.slice none 0 0, .slice none 0 0] 29)).alloc (.cells #[.slice none 0 0, .slice none 0 0] 35) := ⟨_, rfl⟩
  have ba : Below w.heap.size w w1 := by rw [hw1]; exact bel_al (bel_al (bel_al (bel_refl w)))
  have e0 : w1.cell? ⟨w.heap.size, 0, none⟩ = some (.slice a0 l0 k0) := by rw [hw1]; simp [go_sem]
  have e1 : w1.cell? ⟨w.heap.size, 1, none⟩ = some (.slice a5 l5 k5) := by rw [hw1]; simp [go_sem]
  have ZZ : Hid (Zer w1 (w.heap.size + 1) ∧ Zer w1 (w.heap.size + 1 + 1)) := by
    rw [hw1]
    exact ⟨(fun i hi => by obtain rfl | rfl : i = 0 ∨ i = 1 := by omega
                           all_goals simp [go_sem]), (fun i hi => by obtain rfl | rfl : i = 0 ∨ i = 1 := by omega
                                                                     all_goals simp [go_sem])⟩
  have S1 : Hid _ := ((sq_start w1).addC e0).addC e1
  have FF : Hid (Fed w1 a0 l0 k0 m0 x ∧ Fed w1 a5 l5 k5 m5 y ∧ Tab w ∧ Below w.heap.size w w1) := ⟨h0.go ba, h5.go ba, hT, ba⟩
  obtain ⟨b, hb⟩ : ∃ b, b = w.heap.size := ⟨_, rfl⟩
  have HB : Hid (w.heap.size ≤ b ∧ b + 1 + 1 < w1.heap.size) := ⟨by omega, by rw [hb, hw1]; simp⟩
  clear h0 h5 hT ba e0 e1
  go_enter Tryd.func12, Tryd.ntmps12
  go_wp2_with fail
  rw [← hw1, ← hb]
  rw [← hb] at S1 ZZ
  clear hw1 hb
  refine wp_region_inv (JB w1 [sEq (.pointer (some ⟨b, 0, none⟩)), sEq (.slice a0 l0 k0), sEq (.slice a0 m0 k0), sNat (x), sEq (.pointer (some ⟨b, 1, none⟩)), sEq (.slice a5 l5 k5), sEq (.slice a5 m5 k5), sNat (y), sAny, sAny, sAny, sAny] [(8, 10, 3), (9, 11, 7)]) 46 (by kernel_rfl) rfl (by kernel_rfl) (JB.start _ _ _) (fun HG HN => ⟨?_, ?_, ?_, ?_, ?_, ?_, ?_, ?_, ?_, ?_, ?_, ?_, trivial⟩) ?_
  · intro L vs a w' hJ hF hP hL
    have q1 : (a.tmps[1]?).getD undef = .pointer (some ⟨b, 0, none⟩) := hF.old 1 rfl
    exact run_val (v := .pointer (some ⟨b, 0, none⟩)) rfl (by simp [execOp, go_sem, q1]) ⟨_, rfl, hJ.step hL rfl (Below.refl _ _) (by exact rfl)⟩
  · intro L vs a w' hJ hF hP hL
    have p0 : L 0 = true := hP ⟨0, .data⟩ (by simp) rfl
    have s0 : vs 0 = .pointer (some ⟨b, 0, none⟩) := hJ.sp 0 p0
    have q12 := hF.slot 0 12 rfl p0
    have cb := cell_later hJ.bel (S1.out.cel (b) 0 (.slice a0 l0 k0))
    exact run_val (v := .slice a0 l0 k0) rfl (by simp [execOp, go_sem, q12, s0, cb]) ⟨_, rfl, hJ.step hL rfl (Below.refl _ _) (by exact rfl)⟩
  · intro L vs a w' hJ hF hP hL
    have p1 : L 1 = true := hP ⟨1, .data⟩ (by simp) rfl
    have s1 : vs 1 = .slice a0 l0 k0 := hJ.sp 1 p1
    have q13 := hF.slot 1 13 rfl p1
    refine run_call (f := 15) (args := #[.slice a0 l0 k0]) rfl (by simp [go_sem, q13, s1]) (FF.out.1.cut _ hJ.bel) ?_
    rintro e w2 ⟨rfl, hb⟩
    exact ⟨_, rfl, _, rfl, hJ.step hL rfl hb (by exact rfl)⟩
  · intro L vs a w' hJ hF hP hL
    have p2 : L 2 = true := hP ⟨2, .data⟩ (by simp) rfl
    have s2 : vs 2 = .slice a0 m0 k0 := hJ.sp 2 p2
    have q14 := hF.slot 2 14 rfl p2
    refine run_call (f := 14) (args := #[.slice a0 m0 k0]) rfl (by simp [go_sem, q14, s2]) (FF.out.1.nat _ hJ.bel) ?_
    rintro e w2 ⟨v, rfl, hv, hb⟩
    exact ⟨_, rfl, _, rfl, hJ.step hL rfl hb (by exact hv)⟩
  · intro L vs a w' hJ hF hP hL
    have q1 : (a.tmps[1]?).getD undef = .pointer (some ⟨b, 0, none⟩) := hF.old 1 rfl
    exact run_val (v := .pointer (some ⟨b, 1, none⟩)) rfl (by simp [execOp, go_sem, q1]) ⟨_, rfl, hJ.step hL rfl (Below.refl _ _) (by exact rfl)⟩
  · intro L vs a w' hJ hF hP hL
    have p4 : L 4 = true := hP ⟨4, .data⟩ (by simp) rfl
    have s4 : vs 4 = .pointer (some ⟨b, 1, none⟩) := hJ.sp 4 p4
    have q16 := hF.slot 4 16 rfl p4
    have cb := cell_later hJ.bel (S1.out.cel (b) 1 (.slice a5 l5 k5))
    exact run_val (v := .slice a5 l5 k5) rfl (by simp [execOp, go_sem, q16, s4, cb]) ⟨_, rfl, hJ.step hL rfl (Below.refl _ _) (by exact rfl)⟩
  · intro L vs a w' hJ hF hP hL
    have p5 : L 5 = true := hP ⟨5, .data⟩ (by simp) rfl
    have s5 : vs 5 = .slice a5 l5 k5 := hJ.sp 5 p5
    have q17 := hF.slot 5 17 rfl p5
    refine run_call (f := 15) (args := #[.slice a5 l5 k5]) rfl (by simp [go_sem, q17, s5]) (FF.out.2.1.cut _ hJ.bel) ?_
    rintro e w2 ⟨rfl, hb⟩
    exact ⟨_, rfl, _, rfl, hJ.step hL rfl hb (by exact rfl)⟩
  · intro L vs a w' hJ hF hP hL
    have p6 : L 6 = true := hP ⟨6, .data⟩ (by simp) rfl
    have s6 : vs 6 = .slice a5 m5 k5 := hJ.sp 6 p6
    have q18 := hF.slot 6 18 rfl p6
    refine run_call (f := 14) (args := #[.slice a5 m5 k5]) rfl (by simp [go_sem, q18, s6]) (FF.out.2.1.nat _ hJ.bel) ?_
    rintro e w2 ⟨v, rfl, hv, hb⟩
    exact ⟨_, rfl, _, rfl, hJ.step hL rfl hb (by exact hv)⟩
  · intro L vs a w' hJ hF hP hL
    exact run_val (v := .pointer (some ⟨w'.heap.size, 0, none⟩)) (w' := w'.alloc (.cells #[.slice none 0 0] 27)) rfl (by simp [execOp, go_sem]) ⟨_, rfl, hJ.alloc hL rfl rfl _⟩
  · intro L vs a w' hJ hF hP hL
    exact run_val (v := .pointer (some ⟨w'.heap.size, 0, none⟩)) (w' := w'.alloc (.cells #[.slice none 0 0] 27)) rfl (by simp [execOp, go_sem]) ⟨_, rfl, hJ.alloc hL rfl rfl _⟩
  · intro L vs a w' hJ hF hP hL
    have p8 : L 8 = true := hP ⟨8, .data⟩ (by simp) rfl
    have q4 := hF.slot 8 4 rfl p8
    have p3 : L 3 = true := hP ⟨3, .data⟩ (by simp) rfl
    have s3 : IsNat w' (vs 3) (x) := hJ.sp 3 p3
    have q15 := hF.slot 3 15 rfl p3
    obtain ⟨bk, e1, e2, e3, e4, e5, e6⟩ := hJ.bx (8, 10, 3) (by simp) p8
    have e7 := e5 hL
    obtain ⟨aa, nn, cc, e8⟩ := s3.isAgg
    exact run_unit (w' := w'.setCell ⟨bk, 0, none⟩ (.slice aa nn cc)) rfl (by simp [execOp, go_sem, q4, q15, e1, e8, e7, e4]) ⟨undef, rfl, hJ.store (b := (8, 10, 3)) (by simp) hL p8 p3 (by decide) rfl e1 e8⟩
  · intro L vs a w' hJ hF hP hL
    have p9 : L 9 = true := hP ⟨9, .data⟩ (by simp) rfl
    have q5 := hF.slot 9 5 rfl p9
    have p7 : L 7 = true := hP ⟨7, .data⟩ (by simp) rfl
    have s7 : IsNat w' (vs 7) (y) := hJ.sp 7 p7
    have q19 := hF.slot 7 19 rfl p7
    obtain ⟨bk, e1, e2, e3, e4, e5, e6⟩ := hJ.bx (9, 11, 7) (by simp) p9
    have e7 := e5 hL
    obtain ⟨aa, nn, cc, e8⟩ := s7.isAgg
    exact run_unit (w' := w'.setCell ⟨bk, 0, none⟩ (.slice aa nn cc)) rfl (by simp [execOp, go_sem, q5, q19, e1, e8, e7, e4]) ⟨undef, rfl, hJ.store (b := (9, 11, 7)) (by simp) hL p9 p7 (by decide) rfl e1 e8⟩
  intro L vs w' hA hJ
  have s3 : IsNat w' (vs 3) (x) := hJ.sp 3 (hA 3 (by simp))
  have s7 : IsNat w' (vs 7) (y) := hJ.sp 7 (hA 7 (by simp))
  obtain ⟨bk8, eb8, ge8, lt8, fz8, _, e6⟩ := hJ.bx (8, 10, 3) (by simp) (hA 8 (by simp))
  obtain ⟨_, u8, eu8, ce8⟩ := e6 (hA 10 (by simp))
  clear e6
  obtain ⟨bk9, eb9, ge9, lt9, fz9, _, e6⟩ := hJ.bx (9, 11, 7) (by simp) (hA 9 (by simp))
  obtain ⟨_, u9, eu9, ce9⟩ := e6 (hA 11 (by simp))
  clear e6
  simp only [putL, Act.put, List.setIfInBounds_toArray, List.set_cons_zero, List.set_cons_succ, Nat.reduceAdd]
  obtain ⟨a1, n1, c1, q1⟩ := s3.isAgg
  obtain ⟨a2, n2, c2, q2⟩ := s7.isAgg
  rw [q1] at s3 eu8
  rw [q2] at s7 eu9
  obtain rfl : u8 = .slice a1 n1 c1 := by simpa using eu8.symm
  obtain rfl : u9 = .slice a2 n2 c2 := by simpa using eu9.symm
  have nd : bk8 ≠ bk9 := fun e => hJ.dj (8, 10, 3) (by simp) (9, 11, 7) (by simp) (hA 8 (by simp)) (hA 9 (by simp)) (by decide) (by rw [eb8, eb9, e])
  simp only [eb8, eb9]
  obtain ⟨w2, ew2⟩ : ∃ w2, w2 = w' := ⟨_, rfl⟩
  rw [← ew2] at s3 s7 ce8 ce9 fz8 fz9 lt8 lt9
  rw [← ew2]
  have S2 : Hid _ := S1.out.go (ew2 ▸ hJ.bel)
  obtain ⟨g1, eg1⟩ : ∃ g1, g1 = bk8 := ⟨_, rfl⟩
  obtain ⟨g2, eg2⟩ : ∃ g2, g2 = bk9 := ⟨_, rfl⟩
  have M1 : Hid (IsNat w2 (.agg #[.slice a1 n1 c1]) x ∧ IsNat w2 (.agg #[.slice a2 n2 c2]) y ∧ w2.cell? ⟨g1, 0, none⟩ = some (.slice a1 n1 c1) ∧ w2.cell? ⟨g2, 0, none⟩ = some (.slice a2 n2 c2) ∧ w2.frozen? ⟨g2, 0, none⟩ = false ∧ g1 ≠ g2 ∧ w1.heap.size ≤ g1 ∧ w1.heap.size ≤ g2 ∧ g1 < w2.heap.size ∧ g2 < w2.heap.size ∧ Below w1.heap.size w1 w2) := by
    rw [eg1, eg2]
    exact ⟨s3, s7, ce8, ce9, fz9, nd, ge8, ge9, lt8, lt9, ew2 ▸ hJ.bel⟩
  rw [← eg1, ← eg2]
  have F2 : Hid (Fed w2 a0 l0 k0 m0 x ∧ Fed w2 a5 l5 k5 m5 y) := ⟨FF.out.1.go M1.out.2.2.2.2.2.2.2.2.2.2, FF.out.2.1.go M1.out.2.2.2.2.2.2.2.2.2.2⟩
  clear eg1 eg2 ew2 s3 s7 ce8 ce9 fz8 fz9 ge8 ge9 lt8 lt9 nd eu8 eu9 eb8 eb9 q1 q2 hJ hA S1
  go_wp2_with fail
  refine wp_region_inv (JB w2 [sEq (.pointer (some ⟨b, 0, none⟩)), sEq (.slice a0 l0 k0), sEq (.slice a0 m0 k0), sR (x), sEq (.pointer (some ⟨b, 1, none⟩)), sEq (.slice a5 l5 k5), sEq (.slice a5 m5 k5), sR (y), sAny, sAny, sAny, sAny] [(8, 10, 3), (9, 11, 7)]) 46 (by kernel_rfl) rfl (by kernel_rfl) (JB.start _ _ _) (fun HG HN => ⟨?_, ?_, ?_, ?_, ?_, ?_, ?_, ?_, ?_, ?_, ?_, ?_, trivial⟩) ?_
  · intro L vs a w' hJ hF hP hL
    have q1 : (a.tmps[1]?).getD undef = .pointer (some ⟨b, 0, none⟩) := hF.old 1 rfl
    exact run_val (v := .pointer (some ⟨b, 0, none⟩)) rfl (by simp [execOp, go_sem, q1]) ⟨_, rfl, hJ.step hL rfl (Below.refl _ _) (by exact rfl)⟩
  · intro L vs a w' hJ hF hP hL
    have p0 : L 0 = true := hP ⟨0, .data⟩ (by simp) rfl
    have s0 : vs 0 = .pointer (some ⟨b, 0, none⟩) := hJ.sp 0 p0
    have q20 := hF.slot 0 20 rfl p0
    have cb := cell_later hJ.bel (S2.out.cel (b) 0 (.slice a0 l0 k0))
    exact run_val (v := .slice a0 l0 k0) rfl (by simp [execOp, go_sem, q20, s0, cb]) ⟨_, rfl, hJ.step hL rfl (Below.refl _ _) (by exact rfl)⟩
  · intro L vs a w' hJ hF hP hL
    have p1 : L 1 = true := hP ⟨1, .data⟩ (by simp) rfl
    have s1 : vs 1 = .slice a0 l0 k0 := hJ.sp 1 p1
    have q21 := hF.slot 1 21 rfl p1
    refine run_call (f := 15) (args := #[.slice a0 l0 k0]) rfl (by simp [go_sem, q21, s1]) (F2.out.1.cut _ hJ.bel) ?_
    rintro e w2 ⟨rfl, hb⟩
    exact ⟨_, rfl, _, rfl, hJ.step hL rfl hb (by exact rfl)⟩
  · intro L vs a w' hJ hF hP hL
    have p2 : L 2 = true := hP ⟨2, .data⟩ (by simp) rfl
    have s2 : vs 2 = .slice a0 m0 k0 := hJ.sp 2 p2
    have q22 := hF.slot 2 22 rfl p2
    refine run_call (f := 17) (args := #[.slice a0 m0 k0]) rfl (by simp [go_sem, q22, s2]) (F2.out.1.ref _ hJ.bel) ?_
    rintro e w2 ⟨v, rfl, hv, hb⟩
    exact ⟨_, rfl, _, rfl, hJ.step hL rfl hb (by exact hv)⟩
  · intro L vs a w' hJ hF hP hL
    have q1 : (a.tmps[1]?).getD undef = .pointer (some ⟨b, 0, none⟩) := hF.old 1 rfl
    exact run_val (v := .pointer (some ⟨b, 1, none⟩)) rfl (by simp [execOp, go_sem, q1]) ⟨_, rfl, hJ.step hL rfl (Below.refl _ _) (by exact rfl)⟩
  · intro L vs a w' hJ hF hP hL
    have p4 : L 4 = true := hP ⟨4, .data⟩ (by simp) rfl
    have s4 : vs 4 = .pointer (some ⟨b, 1, none⟩) := hJ.sp 4 p4
    have q24 := hF.slot 4 24 rfl p4
    have cb := cell_later hJ.bel (S2.out.cel (b) 1 (.slice a5 l5 k5))
    exact run_val (v := .slice a5 l5 k5) rfl (by simp [execOp, go_sem, q24, s4, cb]) ⟨_, rfl, hJ.step hL rfl (Below.refl _ _) (by exact rfl)⟩
  · intro L vs a w' hJ hF hP hL
    have p5 : L 5 = true := hP ⟨5, .data⟩ (by simp) rfl
    have s5 : vs 5 = .slice a5 l5 k5 := hJ.sp 5 p5
    have q25 := hF.slot 5 25 rfl p5
    refine run_call (f := 15) (args := #[.slice a5 l5 k5]) rfl (by simp [go_sem, q25, s5]) (F2.out.2.cut _ hJ.bel) ?_
    rintro e w2 ⟨rfl, hb⟩
    exact ⟨_, rfl, _, rfl, hJ.step hL rfl hb (by exact rfl)⟩
  · intro L vs a w' hJ hF hP hL
    have p6 : L 6 = true := hP ⟨6, .data⟩ (by simp) rfl
    have s6 : vs 6 = .slice a5 m5 k5 := hJ.sp 6 p6
    have q26 := hF.slot 6 26 rfl p6
    refine run_call (f := 17) (args := #[.slice a5 m5 k5]) rfl (by simp [go_sem, q26, s6]) (F2.out.2.ref _ hJ.bel) ?_
    rintro e w2 ⟨v, rfl, hv, hb⟩
    exact ⟨_, rfl, _, rfl, hJ.step hL rfl hb (by exact hv)⟩
  · intro L vs a w' hJ hF hP hL
    exact run_val (v := .pointer (some ⟨w'.heap.size, 0, none⟩)) (w' := w'.alloc (.cells #[.slice none 0 0] 33)) rfl (by simp [execOp, go_sem]) ⟨_, rfl, hJ.alloc hL rfl rfl _⟩
  · intro L vs a w' hJ hF hP hL
    exact run_val (v := .pointer (some ⟨w'.heap.size, 0, none⟩)) (w' := w'.alloc (.cells #[.slice none 0 0] 33)) rfl (by simp [execOp, go_sem]) ⟨_, rfl, hJ.alloc hL rfl rfl _⟩
  · intro L vs a w' hJ hF hP hL
    have p8 : L 8 = true := hP ⟨8, .data⟩ (by simp) rfl
    have q6 := hF.slot 8 6 rfl p8
    have p3 : L 3 = true := hP ⟨3, .data⟩ (by simp) rfl
    have s3 : RNat w' (vs 3) (x) := hJ.sp 3 p3
    have q23 := hF.slot 3 23 rfl p3
    obtain ⟨bk, e1, e2, e3, e4, e5, e6⟩ := hJ.bx (8, 10, 3) (by simp) p8
    have e7 := e5 hL
    obtain ⟨aa, nn, cc, e8⟩ := s3.isAgg
    exact run_unit (w' := w'.setCell ⟨bk, 0, none⟩ (.slice aa nn cc)) rfl (by simp [execOp, go_sem, q6, q23, e1, e8, e7, e4]) ⟨undef, rfl, hJ.store (b := (8, 10, 3)) (by simp) hL p8 p3 (by decide) rfl e1 e8⟩
  · intro L vs a w' hJ hF hP hL
    have p9 : L 9 = true := hP ⟨9, .data⟩ (by simp) rfl
    have q7 := hF.slot 9 7 rfl p9
    have p7 : L 7 = true := hP ⟨7, .data⟩ (by simp) rfl
    have s7 : RNat w' (vs 7) (y) := hJ.sp 7 p7
    have q27 := hF.slot 7 27 rfl p7
    obtain ⟨bk, e1, e2, e3, e4, e5, e6⟩ := hJ.bx (9, 11, 7) (by simp) p9
    have e7 := e5 hL
    obtain ⟨aa, nn, cc, e8⟩ := s7.isAgg
    exact run_unit (w' := w'.setCell ⟨bk, 0, none⟩ (.slice aa nn cc)) rfl (by simp [execOp, go_sem, q7, q27, e1, e8, e7, e4]) ⟨undef, rfl, hJ.store (b := (9, 11, 7)) (by simp) hL p9 p7 (by decide) rfl e1 e8⟩
  intro L vs w' hA hJ
  have s3 : RNat w' (vs 3) (x) := hJ.sp 3 (hA 3 (by simp))
  have s7 : RNat w' (vs 7) (y) := hJ.sp 7 (hA 7 (by simp))
  obtain ⟨bk8, eb8, ge8, lt8, fz8, _, e6⟩ := hJ.bx (8, 10, 3) (by simp) (hA 8 (by simp))
  obtain ⟨_, u8, eu8, ce8⟩ := e6 (hA 10 (by simp))
  clear e6
  obtain ⟨bk9, eb9, ge9, lt9, fz9, _, e6⟩ := hJ.bx (9, 11, 7) (by simp) (hA 9 (by simp))
  obtain ⟨_, u9, eu9, ce9⟩ := e6 (hA 11 (by simp))
  clear e6
  simp only [putL, Act.put, List.setIfInBounds_toArray, List.set_cons_zero, List.set_cons_succ, Nat.reduceAdd]
  obtain ⟨a3, n3, c3, q1⟩ := s3.isAgg
  obtain ⟨a4, n4, c4, q2⟩ := s7.isAgg
  rw [q1] at s3 eu8
  rw [q2] at s7 eu9
  obtain rfl : u8 = .slice a3 n3 c3 := by simpa using eu8.symm
  obtain rfl : u9 = .slice a4 n4 c4 := by simpa using eu9.symm
  have nd : bk8 ≠ bk9 := fun e => hJ.dj (8, 10, 3) (by simp) (9, 11, 7) (by simp) (hA 8 (by simp)) (hA 9 (by simp)) (by decide) (by rw [eb8, eb9, e])
  simp only [eb8, eb9]
  obtain ⟨w3, ew3⟩ : ∃ w3, w3 = w' := ⟨_, rfl⟩
  rw [← ew3] at s3 s7 ce8 ce9 fz8 fz9 lt8 lt9
  rw [← ew3]
  have b23 : Below w2.heap.size w2 w3 := ew3 ▸ hJ.bel
  obtain ⟨h1, eh1⟩ : ∃ h1, h1 = bk8 := ⟨_, rfl⟩
  obtain ⟨h2, eh2⟩ : ∃ h2, h2 = bk9 := ⟨_, rfl⟩
  rw [← eh1] at ce8 ge8 lt8 nd
  rw [← eh2] at ce9 fz9 ge9 lt9 nd
  rw [← eh1, ← eh2]
  have M3 : Hid (MT w w3 b g1 g2 h1 h2 a1 n1 c1 a2 n2 c2 a3 n3 c3 a4 n4 c4 x y y) := by
    obtain ⟨p1, p2, p3, p4, p5, p6, p7, p8, p9, p10, p11⟩ := M1.out
    obtain ⟨o1, o2⟩ := HB.out
    exact ⟨p1.mono b23, p2.mono b23, s3, s7, cell_later b23 p3, cell_later b23 p4, ce8, ce9, (b23.frozen (World.block_lt_of_cell? _ _ p4)).trans p5, fz9, (ZZ.out.1.go p11).go b23, (ZZ.out.2.go p11).go b23, bel_go FF.out.2.2.2 (bel_go p11 b23), ⟨p6, by omega, by omega, nd, by omega, by omega, by omega, by omega, by omega⟩, ⟨by have := FF.out.2.2.2.size; omega, by have := FF.out.2.2.2.size; omega, o1⟩⟩
  have XX : Hid (x < P 15 ∧ y < P 15 ∧ Tab w) := ⟨FF.out.1.rs, FF.out.2.1.rs, FF.out.2.2.1⟩
  have k4 := M3.out.c4
  clear eh1 eh2 ew3 s3 s7 ce8 ce9 fz8 fz9 ge8 ge9 lt8 lt9 nd eu8 eu9 eb8 eb9 q1 q2 hJ hA S2 b23 M1 F2 FF HB ZZ
  go_wp2_with fail
  refine (rzero_any _ y _ M3.out.ry (rs15 XX.out.2.1).rfits).mono ?_
  rintro e w4 ⟨rfl, hb4⟩
  have M4 : Hid _ := M3.out.go hb4
  clear hb4 M3 k4
  by_cases hy : y = 0
  · have d1 : decide (y = 0) = true := decide_eq_true hy
    have e4 := M4.out.c2
    go_wp2_with fail
    refine (of_any 1 _ (by omega)).mono ?_
    rintro e w5 ⟨v5, rfl, hv5, hb5⟩
    obtain ⟨a5', n5', c5', rfl⟩ := hv5.isAgg
    have N5 : Hid _ := M4.out.go hb5
    have k2 := N5.out.c2
    have k2' := N5.out.f2
    have M5 : Hid _ := N5.out.setN hv5
    clear hv5 hb5 M4 e4
    go_wp2_with fail
    obtain ⟨wa, hwa⟩ : ∃ wa, wa = w5.setCell ⟨g2, 0, none⟩ (.slice a5' n5' c5') := ⟨_, rfl⟩
    rw [← hwa] at M5
    rw [← hwa]
    clear hwa N5 k2 k2'
    refine (rof_any 1 _ (by omega)).mono ?_
    rintro e wb ⟨v6, rfl, hv6, hb6⟩
    obtain ⟨a6', n6', c6', rfl⟩ := hv6.isAgg
    have N6 : Hid _ := M5.out.go hb6
    have k2 := N6.out.c4
    have k2' := N6.out.f4
    have M6 : Hid _ := N6.out.setR hv6
    clear hv6 hb6 M5
    obtain ⟨wc, hwc⟩ : ∃ wc, wc = wb.setCell ⟨h2, 0, none⟩ (.slice a6' n6' c6') := ⟨_, rfl⟩
    rw [← hwc] at M6
    have YY : Hid (RS 1 ∧ 0 < 1) := ⟨rs_word (by omega), by omega⟩
    have EY : Hid (orOne y = 1) := by show orOne y = 1; unfold orOne; rw [if_pos hy]
    have k1 := M6.out.c1
    have k3 := M6.out.c2
    rw [hwc] at k1 k3
    clear N6 hy
    go_wp2_with fail
    rw [← hwc]
    clear hwc k1 k2 k2' k3
    have k1 := M6.out.c1
    have k2 := M6.out.c2
    have k3 := M6.out.c3
    have k4 := M6.out.c4
    go_wp2_with fail
    refine (from_any _ _ x (1) _ M6.out.nx M6.out.ny (rs15 XX.out.1) YY.out.1 YY.out.2 (XX.out.2.2.go M6.out.bel)).mono ?_
    rintro e w6 ⟨v6, rfl, hv6, hb6⟩
    obtain ⟨p1, p2, p3, p4, p5, p6, ev, _, _⟩ := hv6.raw
    subst ev
    have lbd : b + 1 + 1 < w6.heap.size := World.block_lt_of_cell? _ _ (cell_later hb6 (M6.out.z2 0 (by omega)).1)
    obtain ⟨w7, hw7⟩ : ∃ w7, w7 = w6.alloc (.cells #[.slice p1 p2 p3, .slice p4 p5 p6] 29) := ⟨_, rfl⟩
    have b67 : Below w6.heap.size w6 w7 := by rw [hw7]; exact bel_al (bel_refl _)
    have M7 : Hid _ := M6.out.go (bel_go hb6 b67)
    have V7 : Hid (Rt w7 (.agg #[.slice p1 p2 p3, .slice p4 p5 p6]) (x / Nat.gcd x (1)) ((1) / Nat.gcd x (1))) := hv6.mono b67
    have x3 := M7.out.c3
    have x4 := M7.out.c4
    have r0 : w7.cell? ⟨w6.heap.size, 0, none⟩ = some (.slice p1 p2 p3) := by rw [hw7]; simp [go_sem]
    have r1 : w7.cell? ⟨w6.heap.size, 1, none⟩ = some (.slice p4 p5 p6) := by rw [hw7]; simp [go_sem]
    rw [hw7] at x3 x4
    clear hv6 hb6 b67 k1 k2 k3 k4 M6
    go_wp2_with fail
    rw [← hw7] at x3 x4
    rw [← hw7]
    clear hw7
    obtain ⟨d, hd⟩ : ∃ d, d = w6.heap.size := ⟨_, rfl⟩
    rw [← hd] at r0 r1 lbd
    rw [← hd]
    clear hd
    refine (rfrom2_yes _ _ x (1) _ M7.out.rx M7.out.ry (rs15 XX.out.1).rsome YY.out.1.rsome YY.out.2).mono ?_
    rintro e w8 ⟨v8, rfl, hv8, hb8⟩
    obtain ⟨t1, t2, t3, t4, t5, t6, ev, h6, h7⟩ := hv8
    subst ev
    obtain ⟨w9, hw9⟩ : ∃ w9, w9 = w8.alloc (.cells #[.slice t1 t2 t3, .slice t4 t5 t6] 35) := ⟨_, rfl⟩
    have b89 : Below w8.heap.size w8 w9 := by rw [hw9]; exact bel_al (bel_refl _)
    have M9 : Hid _ := M7.out.go (bel_go hb8 b89)
    have V9 : Hid (Rt w9 (.agg #[.slice p1 p2 p3, .slice p4 p5 p6]) (x / Nat.gcd x (1)) ((1) / Nat.gcd x (1)) ∧ RRt w9 (.agg #[.slice t1 t2 t3, .slice t4 t5 t6]) (x / Nat.gcd x (1)) ((1) / Nat.gcd x (1))) := ⟨V7.out.mono (bel_go hb8 b89), ⟨_, _, _, _, _, _, rfl, h6.mono b89, h7.mono b89⟩⟩
    have q0 := cell_later (bel_go hb8 b89) r0
    have q1 := cell_later (bel_go hb8 b89) r1
    have q2 : w9.cell? ⟨w8.heap.size, 0, none⟩ = some (.slice t1 t2 t3) := by rw [hw9]; simp [go_sem]
    have q3 : w9.cell? ⟨w8.heap.size, 1, none⟩ = some (.slice t4 t5 t6) := by rw [hw9]; simp [go_sem]
    have z0 := (M9.out.z1 0 (by omega)).1
    have z1 := (M9.out.z1 1 (by omega)).1
    have z2 := (M9.out.z2 0 (by omega)).1
    have z3 := (M9.out.z2 1 (by omega)).1
    have y0 := (M9.out.z1 0 (by omega)).2
    have y1 := (M9.out.z1 1 (by omega)).2
    have y2 := (M9.out.z2 0 (by omega)).2
    have y3 := (M9.out.z2 1 (by omega)).2
    have lb2 : d < w8.heap.size := World.block_lt_of_cell? _ _ (cell_later hb8 r0)
    clear h6 h7 hb8 b89 r0 r1 x3 x4 M7 V7
    go_wp2_with fail
    rw [← hw9]
    obtain ⟨d', hd'⟩ : ∃ d', d' = w8.heap.size := ⟨_, rfl⟩
    rw [← hd'] at q2 q3 lb2
    rw [← hd']
    have nb1 : ¬ b + 1 = d := by omega
    have nb2 : ¬ b + 1 + 1 = d := by omega
    have nb3 : ¬ b + 1 = d' := by omega
    have nb4 : ¬ b + 1 + 1 = d' := by omega
    have nb5 : ¬ d = b + 1 := by omega
    have nb6 : ¬ d = b + 1 + 1 := by omega
    have nb7 : ¬ d' = b + 1 := by omega
    have nb8 : ¬ d' = b + 1 + 1 := by omega
    clear hw9 hd' lbd lb2
    have Z : Hid _ := made_put (w0 := w) (s1 := .slice p1 p2 p3) (s2 := .slice p4 p5 p6) (t1 := .slice t1 t2 t3) (t2 := .slice t4 t5 t6) M9.out.z1 M9.out.z2 V9.out.1 V9.out.2 M9.out.bel (by have := M9.out.lo.2.2; omega)
    go_region
    go_wp2_with fail
    refine bodyPost_ret (v := .tuple #[.agg #[.slice p1 p2 p3, .slice p4 p5 p6], .agg #[.slice t1 t2 t3, .slice t4 t5 t6]]) (by simp [results, Tryd.results12, go_sem, z0, z1, z2, z3]) rfl ?_
    rw [EY.out]
    exact ⟨_, _, rfl, Z.out.1.mono (bel_dr (bel_refl _)), Z.out.2.1.mono (bel_dr (bel_refl _)), bel_dr Z.out.2.2⟩
  · have d1 : decide (y = 0) = false := decide_eq_false hy
    have YY : Hid (RS y ∧ 0 < y) := ⟨rs15 XX.out.2.1, by omega⟩
    have EY : Hid (orOne y = y) := by show orOne y = y; unfold orOne; rw [if_neg hy]
    clear hy
    have k1 := M4.out.c1
    have k2 := M4.out.c2
    have k3 := M4.out.c3
    have k4 := M4.out.c4
    go_wp2_with fail
    refine (from_any _ _ x (y) _ M4.out.nx M4.out.ny (rs15 XX.out.1) YY.out.1 YY.out.2 (XX.out.2.2.go M4.out.bel)).mono ?_
    rintro e w6 ⟨v6, rfl, hv6, hb6⟩
    obtain ⟨p1, p2, p3, p4, p5, p6, ev, _, _⟩ := hv6.raw
    subst ev
    have lbd : b + 1 + 1 < w6.heap.size := World.block_lt_of_cell? _ _ (cell_later hb6 (M4.out.z2 0 (by omega)).1)
    obtain ⟨w7, hw7⟩ : ∃ w7, w7 = w6.alloc (.cells #[.slice p1 p2 p3, .slice p4 p5 p6] 29) := ⟨_, rfl⟩
    have b67 : Below w6.heap.size w6 w7 := by rw [hw7]; exact bel_al (bel_refl _)
    have M7 : Hid _ := M4.out.go (bel_go hb6 b67)
    have V7 : Hid (Rt w7 (.agg #[.slice p1 p2 p3, .slice p4 p5 p6]) (x / Nat.gcd x (y)) ((y) / Nat.gcd x (y))) := hv6.mono b67
    have x3 := M7.out.c3
    have x4 := M7.out.c4
    have r0 : w7.cell? ⟨w6.heap.size, 0, none⟩ = some (.slice p1 p2 p3) := by rw [hw7]; simp [go_sem]
    have r1 : w7.cell? ⟨w6.heap.size, 1, none⟩ = some (.slice p4 p5 p6) := by rw [hw7]; simp [go_sem]
    rw [hw7] at x3 x4
    clear hv6 hb6 b67 k1 k2 k3 k4 M4
    go_wp2_with fail
    rw [← hw7] at x3 x4
    rw [← hw7]
    clear hw7
    obtain ⟨d, hd⟩ : ∃ d, d = w6.heap.size := ⟨_, rfl⟩
    rw [← hd] at r0 r1 lbd
    rw [← hd]
    clear hd
    refine (rfrom2_yes _ _ x (y) _ M7.out.rx M7.out.ry (rs15 XX.out.1).rsome YY.out.1.rsome YY.out.2).mono ?_
    rintro e w8 ⟨v8, rfl, hv8, hb8⟩
    obtain ⟨t1, t2, t3, t4, t5, t6, ev, h6, h7⟩ := hv8
    subst ev
    obtain ⟨w9, hw9⟩ : ∃ w9, w9 = w8.alloc (.cells #[.slice t1 t2 t3, .slice t4 t5 t6] 35) := ⟨_, rfl⟩
    have b89 : Below w8.heap.size w8 w9 := by rw [hw9]; exact bel_al (bel_refl _)
    have M9 : Hid _ := M7.out.go (bel_go hb8 b89)
    have V9 : Hid (Rt w9 (.agg #[.slice p1 p2 p3, .slice p4 p5 p6]) (x / Nat.gcd x (y)) ((y) / Nat.gcd x (y)) ∧ RRt w9 (.agg #[.slice t1 t2 t3, .slice t4 t5 t6]) (x / Nat.gcd x (y)) ((y) / Nat.gcd x (y))) := ⟨V7.out.mono (bel_go hb8 b89), ⟨_, _, _, _, _, _, rfl, h6.mono b89, h7.mono b89⟩⟩
    have q0 := cell_later (bel_go hb8 b89) r0
    have q1 := cell_later (bel_go hb8 b89) r1
    have q2 : w9.cell? ⟨w8.heap.size, 0, none⟩ = some (.slice t1 t2 t3) := by rw [hw9]; simp [go_sem]
    have q3 : w9.cell? ⟨w8.heap.size, 1, none⟩ = some (.slice t4 t5 t6) := by rw [hw9]; simp [go_sem]
    have z0 := (M9.out.z1 0 (by omega)).1
    have z1 := (M9.out.z1 1 (by omega)).1
    have z2 := (M9.out.z2 0 (by omega)).1
    have z3 := (M9.out.z2 1 (by omega)).1
    have y0 := (M9.out.z1 0 (by omega)).2
    have y1 := (M9.out.z1 1 (by omega)).2
    have y2 := (M9.out.z2 0 (by omega)).2
    have y3 := (M9.out.z2 1 (by omega)).2
    have lb2 : d < w8.heap.size := World.block_lt_of_cell? _ _ (cell_later hb8 r0)
    clear h6 h7 hb8 b89 r0 r1 x3 x4 M7 V7
    go_wp2_with fail
    rw [← hw9]
    obtain ⟨d', hd'⟩ : ∃ d', d' = w8.heap.size := ⟨_, rfl⟩
    rw [← hd'] at q2 q3 lb2
    rw [← hd']
    have nb1 : ¬ b + 1 = d := by omega
    have nb2 : ¬ b + 1 + 1 = d := by omega
    have nb3 : ¬ b + 1 = d' := by omega
    have nb4 : ¬ b + 1 + 1 = d' := by omega
    have nb5 : ¬ d = b + 1 := by omega
    have nb6 : ¬ d = b + 1 + 1 := by omega
    have nb7 : ¬ d' = b + 1 := by omega
    have nb8 : ¬ d' = b + 1 + 1 := by omega
    clear hw9 hd' lbd lb2
    have Z : Hid _ := made_put (w0 := w) (s1 := .slice p1 p2 p3) (s2 := .slice p4 p5 p6) (t1 := .slice t1 t2 t3) (t2 := .slice t4 t5 t6) M9.out.z1 M9.out.z2 V9.out.1 V9.out.2 M9.out.bel (by have := M9.out.lo.2.2; omega)
    go_region
    go_wp2_with fail
    refine bodyPost_ret (v := .tuple #[.agg #[.slice p1 p2 p3, .slice p4 p5 p6], .agg #[.slice t1 t2 t3, .slice t4 t5 t6]]) (by simp [results, Tryd.results12, go_sem, z0, z1, z2, z3]) rfl ?_
    rw [EY.out]
    exact ⟨_, _, rfl, Z.out.1.mono (bel_dr (bel_refl _)), Z.out.2.1.mono (bel_dr (bel_refl _)), bel_dr Z.out.2.2⟩
end Go.Proofs.YtkhdapmipcghoaaDoor
namespace Go.Proofs.YtkhdapmipcghoaaDoor
open Go.RowKit
set_option maxRecDepth 100000
set_option linter.unusedVariables false
/-- What is known of a world: numbers and fractions of both kinds, what lies in cells, and that what was is as it was. -/
structure SX (w0 w : World) (N M : List (Value × Nat)) (F G : List (Value × Nat × Nat)) (C : List (Nat × Nat × Value)) : Prop where
  nats : ∀ p ∈ N, IsNat w p.1 p.2
  rnats : ∀ p ∈ M, RNat w p.1 p.2
  frs : ∀ p ∈ F, Rt w p.1 p.2.1 p.2.2
  rfrs : ∀ p ∈ G, RRt w p.1 p.2.1 p.2.2
  cells : ∀ p ∈ C, w.cell? ⟨p.1, p.2.1, none⟩ = some p.2.2
  bel : Below w0.heap.size w0 w
theorem SX.go {w0 w : World} {N M : List (Value × Nat)} {F G : List (Value × Nat × Nat)} {C : List (Nat × Nat × Value)} (h : SX w0 w N M F G C) {w' : World} (hb : Below w.heap.size w w') : SX w0 w' N M F G C :=
  ⟨fun p hp => (h.nats p hp).mono hb, fun p hp => (h.rnats p hp).mono hb, fun p hp => (h.frs p hp).mono hb, fun p hp => (h.rfrs p hp).mono hb, fun p hp => cell_later hb (h.cells p hp), bel_go h.bel hb⟩
theorem SX.at {w0 w : World} {N M : List (Value × Nat)} {F G : List (Value × Nat × Nat)} {C : List (Nat × Nat × Value)} (h : SX w0 w N M F G C) (v : Value) (x : Nat) (hm : (v, x) ∈ N := by simp) : IsNat w v x := h.nats _ hm
theorem SX.rat {w0 w : World} {N M : List (Value × Nat)} {F G : List (Value × Nat × Nat)} {C : List (Nat × Nat × Value)} (h : SX w0 w N M F G C) (v : Value) (x : Nat) (hm : (v, x) ∈ M := by simp) : RNat w v x := h.rnats _ hm
theorem SX.fr {w0 w : World} {N M : List (Value × Nat)} {F G : List (Value × Nat × Nat)} {C : List (Nat × Nat × Value)} (h : SX w0 w N M F G C) (v : Value) (p q : Nat) (hm : (v, p, q) ∈ F := by simp) : Rt w v p q := h.frs _ hm
theorem SX.rfr {w0 w : World} {N M : List (Value × Nat)} {F G : List (Value × Nat × Nat)} {C : List (Nat × Nat × Value)} (h : SX w0 w N M F G C) (v : Value) (p q : Nat) (hm : (v, p, q) ∈ G := by simp) : RRt w v p q := h.rfrs _ hm
theorem SX.cel {w0 w : World} {N M : List (Value × Nat)} {F G : List (Value × Nat × Nat)} {C : List (Nat × Nat × Value)} (h : SX w0 w N M F G C) (b i : Nat) (u : Value) (hm : (b, i, u) ∈ C := by simp) : w.cell? ⟨b, i, none⟩ = some u := h.cells _ hm
theorem SX.cell {w0 w : World} {N M : List (Value × Nat)} {F G : List (Value × Nat × Nat)} {C : List (Nat × Nat × Value)} (h : SX w0 w N M F G C) (b : Nat) (u : Value) (hm : (b, 0, u) ∈ C := by simp) : w.cell? ⟨b, 0, none⟩ = some u := h.cells _ hm
theorem SX.addN {w0 w : World} {N M : List (Value × Nat)} {F G : List (Value × Nat × Nat)} {C : List (Nat × Nat × Value)} (h : SX w0 w N M F G C) {v : Value} {x : Nat} (hv : IsNat w v x) : SX w0 w ((v, x) :: N) M F G C :=
  ⟨fun p hp => by
    rcases List.mem_cons.1 hp with e | e
    · subst e; exact hv
    · exact h.nats p e, h.rnats, h.frs, h.rfrs, h.cells, h.bel⟩
theorem SX.addM {w0 w : World} {N M : List (Value × Nat)} {F G : List (Value × Nat × Nat)} {C : List (Nat × Nat × Value)} (h : SX w0 w N M F G C) {v : Value} {x : Nat} (hv : RNat w v x) : SX w0 w N ((v, x) :: M) F G C :=
  ⟨h.nats, fun p hp => by
    rcases List.mem_cons.1 hp with e | e
    · subst e; exact hv
    · exact h.rnats p e, h.frs, h.rfrs, h.cells, h.bel⟩
theorem SX.addF {w0 w : World} {N M : List (Value × Nat)} {F G : List (Value × Nat × Nat)} {C : List (Nat × Nat × Value)} (h : SX w0 w N M F G C) {v : Value} {x y : Nat} (hv : Rt w v x y) : SX w0 w N M ((v, x, y) :: F) G C :=
  ⟨h.nats, h.rnats, fun p hp => by
    rcases List.mem_cons.1 hp with e | e
    · subst e; exact hv
    · exact h.frs p e, h.rfrs, h.cells, h.bel⟩
theorem SX.addG {w0 w : World} {N M : List (Value × Nat)} {F G : List (Value × Nat × Nat)} {C : List (Nat × Nat × Value)} (h : SX w0 w N M F G C) {v : Value} {x y : Nat} (hv : RRt w v x y) : SX w0 w N M F ((v, x, y) :: G) C :=
  ⟨h.nats, h.rnats, h.frs, fun p hp => by
    rcases List.mem_cons.1 hp with e | e
    · subst e; exact hv
    · exact h.rfrs p e, h.cells, h.bel⟩
theorem SX.addC {w0 w : World} {N M : List (Value × Nat)} {F G : List (Value × Nat × Nat)} {C : List (Nat × Nat × Value)} (h : SX w0 w N M F G C) {b i : Nat} {v : Value} (hv : w.cell? ⟨b, i, none⟩ = some v) : SX w0 w N M F G ((b, i, v) :: C) :=
  ⟨h.nats, h.rnats, h.frs, h.rfrs, fun p hp => by
    rcases List.mem_cons.1 hp with e | e
    · subst e; exact hv
    · exact h.cells p e, h.bel⟩
theorem SX.box1 {w0 w : World} {N M : List (Value × Nat)} {F G : List (Value × Nat × Nat)} {C : List (Nat × Nat × Value)} (h : SX w0 w N M F G C) (u : Value) (t : TypeId) (g : Nat) (hg : g = w.heap.size) : SX w0 (w.alloc (.cells #[u] t)) N M F G ((g, 0, u) :: C) := by
  subst hg
  exact (h.go (w' := w.alloc (.cells #[u] t)) (bel_al (Below.refl _ _))).addC (by simp)
theorem SX.box {w0 w : World} {N M : List (Value × Nat)} {F G : List (Value × Nat × Nat)} {C : List (Nat × Nat × Value)} (h : SX w0 w N M F G C) (u u' : Value) (t : TypeId) (g : Nat) (hg : g = w.heap.size) : SX w0 (w.alloc (.cells #[u, u'] t)) N M F G ((g, 0, u) :: (g, 1, u') :: C) := by
  subst hg
  have h' := h.go (w' := w.alloc (.cells #[u, u'] t)) (bel_al (Below.refl _ _))
  exact (h'.addC (b := w.heap.size) (i := 1) (v := u') (by simp)).addC (by simp)
/-- A cell is written over: what lay elsewhere stays. -/
theorem SX.set {w0 w : World} {N M : List (Value × Nat)} {F G : List (Value × Nat × Nat)} {C : List (Nat × Nat × Value)} (h : SX w0 w N M F G C) {b i : Nat} {a : Option Addr} {n c : Nat} (hc : w.cell? ⟨b, i, none⟩ = some (.slice a n c)) (hlo : w0.heap.size ≤ b) (C' : List (Nat × Nat × Value)) (hC : ∀ p ∈ C', p ∈ C ∧ p.1 ≠ b) (u : Value) : SX w0 (w.setCell ⟨b, i, none⟩ u) N M F G C' :=
  ⟨fun p hp => (h.nats p hp).setCell (no_int_slice hc) u, fun p hp => (h.rnats p hp).setCell (no_int_slice hc) u, fun p hp => (h.frs p hp).setCell (no_int_slice hc) u, fun p hp => (h.rfrs p hp).setCell (no_int_slice hc) u,
    fun p hp => by
      rw [World.cell?_setCell_far _ _ _ _ (by simpa using Ne.symm (hC p hp).2)]
      exact h.cells p (hC p hp).1,
    h.bel.setCell (p := ⟨b, i, none⟩) hlo u⟩
theorem sx_start (w : World) : SX w w [] [] [] [] [] := ⟨(fun _ h => by cases h), (fun _ h => by cases h), (fun _ h => by cases h), (fun _ h => by cases h), (fun _ h => by cases h), Below.refl _ _⟩
theorem byteLen_P {x n : Nat} (h : x < P n) : byteLen x ≤ 8 * n := by
  have := bitLen_P h
  unfold byteLen
  omega
theorem ByIs.bsl {w : World} {g x : Nat} (h : ∀ i, i < byteLen x → w.cell? ⟨g, i, none⟩ = some (.int .u8 ((byteAt x (byteLen x - 1 - i) : Nat) : Int))) (hx : byteLen x ≤ 1099511627776) : BSl w (some ⟨g, 0, none⟩) (byteLen x) (byteLen x) (fun i => byteAt x (byteLen x - 1 - i)) :=
  ⟨Nat.le_refl _, by omega, fun i _ => byteAt_lt _ _, .inr ⟨g, 0, rfl, fun i hi => by rw [Nat.zero_add]; exact h i hi⟩⟩
/-- The document's number of bytes that a number told. -/
theorem rfrom_by (v : Value) (x : Nat) (w : World) (h : ByIs w v x) (hx : byteLen x ≤ 1099511627776) : Calls Tryd.prog 17 #[v] w (RMakes w x) := by
  obtain ⟨g, rfl, hc⟩ := h
  have := rfromBytes_any _ _ _ _ w (ByIs.bsl hc hx) hx
  rw [BV_bytes] at this
  exact this
end Go.Proofs.YtkhdapmipcghoaaDoor
namespace Go.Proofs.YtkhdapmipcghoaaDoor
open Go.RowKit
set_option maxRecDepth 100000
set_option linter.unusedVariables false
/-- An invariant: while the answer is not stored, all is as without boxes; once it is, all else is done. -/
structure JD (w0 : World) (specs : List Spec) (needs : List (List Nat)) (st val : Nat) (oth : List Nat) (Sto : World → Value → World → Prop) (L : Nat → Bool) (vs : Nat → Value) (w : World) : Prop where
  core : L st = false → JB w0 specs [] L vs w
  cl : ∀ j, L j = true → ∀ k ∈ needs.getD j [], L k = true
  fin : L st = true → (∀ j ∈ oth, L j = true) ∧ ∃ w1, Below w0.heap.size w0 w1 ∧ (specs.getD val sAny).1 w1 (vs val) ∧ Sto w1 (vs val) w
theorem JD.start (w : World) (specs : List Spec) (needs : List (List Nat)) (st val : Nat) (oth : List Nat) (Sto : World → Value → World → Prop) : JD w specs needs st val oth Sto (fun _ => false) (fun _ => undef) w.drew :=
  ⟨fun _ => JB.start _ _ _, (fun _ h => by cases h), (fun h => by cases h)⟩
theorem nd_nil {L : Nat → Bool} : ∀ k ∈ ([] : List Nat), L k = true := fun _ h => by cases h
theorem nd_cons {L : Nat → Bool} {a : Nat} {l : List Nat} (h : L a = true) (k : ∀ j ∈ l, L j = true) : ∀ j ∈ a :: l, L j = true := fun j hj => by
  rcases List.mem_cons.1 hj with e | e
  · rw [e]; exact h
  · exact k j e
theorem JD.open {w0 : World} {specs : List Spec} {needs : List (List Nat)} {st val : Nat} {oth : List Nat} {Sto : World → Value → World → Prop} {L : Nat → Bool} {vs : Nat → Value} {w : World} (h : JD w0 specs needs st val oth Sto L vs w) {i : Nat} (hL : L i = false) (hi : i ∈ oth) : JB w0 specs [] L vs w :=
  h.core (by
    cases e : L st
    · rfl
    · have := (h.fin e).1 i hi
      rw [hL] at this
      cases this)
theorem JD.step {w0 : World} {specs : List Spec} {needs : List (List Nat)} {st val : Nat} {oth : List Nat} {Sto : World → Value → World → Prop} {L : Nat → Bool} {vs : Nat → Value} {w : World} (h : JD w0 specs needs st val oth Sto L vs w) {i : Nat} (hL : L i = false) (hi : i ∈ oth) (hne : i ≠ st) {nd : List Nat} (he : needs.getD i [] = nd) (hn : ∀ k ∈ nd, L k = true) {v : Value} {w' : World} (k : JB w0 specs [] (updB L i) (updV vs i v) w') : JD w0 specs needs st val oth Sto (updB L i) (updV vs i v) w' := by
  refine ⟨fun _ => k, fun j hj m hm => ?_, fun hs => ?_⟩
  · by_cases e : j = i
    · subst e
      rw [he] at hm
      have := hn m hm
      unfold updB; split <;> simp_all
    · have := h.cl j (by simpa [updB, e] using hj) m hm
      unfold updB; split <;> simp_all
  · have hs' : L st = true := by simpa [updB, hne.symm] using hs
    have := (h.fin hs').1 i hi
    rw [hL] at this
    cases this
theorem JD.put {w0 : World} {specs : List Spec} {needs : List (List Nat)} {st val : Nat} {oth : List Nat} {Sto : World → Value → World → Prop} {L : Nat → Bool} {vs : Nat → Value} {w : World} (h : JD w0 specs needs st val oth Sto L vs w) (hL : L st = false) (hv : val ≠ st) {nd : List Nat} (he : needs.getD st [] = nd) (hn : ∀ k ∈ nd, L k = true) (ho : ∀ j ∈ oth, L j = true) (hV : L val = true) {w' : World} (hs : Sto w (vs val) w') : JD w0 specs needs st val oth Sto (updB L st) (updV vs st undef) w' := by
  have J := h.core hL
  refine ⟨fun e => ?_, fun j hj m hm => ?_, fun _ => ⟨fun j hj => ?_, w, J.bel, ?_, ?_⟩⟩
  · simp [updB] at e
  · by_cases e : j = st
    · subst e
      rw [he] at hm
      have := hn m hm
      unfold updB; split <;> simp_all
    · have := h.cl j (by simpa [updB, e] using hj) m hm
      unfold updB; split <;> simp_all
  · have := ho j hj
    unfold updB; split <;> simp_all
  · have : updV vs st undef val = vs val := by simp [updV, hv]
    rw [this]
    exact J.sp val hV
  · have : updV vs st undef val = vs val := by simp [updV, hv]
    rw [this]
    exact hs
/-- Two cells of a box take the answer. -/
def Sto2 (R : Nat) (w : World) (v : Value) (w' : World) : Prop := ∃ u u', v = .agg #[u, u'] ∧ w' = (w.setCell ⟨R, 0, none⟩ u).setCell ⟨R, 1, none⟩ u'
end Go.Proofs.YtkhdapmipcghoaaDoor
namespace Go.Proofs.YtkhdapmipcghoaaDoor
open Go.RowKit
set_option maxRecDepth 100000
set_option linter.unusedVariables false
/-- Two fractions in lowest terms that are the same have the same parts. -/
theorem low_one {a b c d : Nat} (h1 : Nat.gcd a b = 1) (h2 : Nat.gcd c d = 1) (hb : 0 < b) (hd : 0 < d) (e : a * d = c * b) : a = c ∧ b = d := by
  have h1' : Nat.Coprime a b := h1
  have h2' : Nat.Coprime c d := h2
  have d1 : b ∣ d := h1'.symm.dvd_of_dvd_mul_left ⟨c, by rw [e, Nat.mul_comm]⟩
  have d2 : d ∣ b := h2'.symm.dvd_of_dvd_mul_left ⟨a, by rw [← e, Nat.mul_comm]⟩
  have hbd : b = d := Nat.dvd_antisymm d1 d2
  subst hbd
  exact ⟨Nat.eq_of_mul_eq_mul_right hb e, rfl⟩
/-- A fraction is brought to lowest terms. -/
theorem low_terms (x Y : Nat) (hY : 0 < Y) : Nat.gcd (x / Nat.gcd x Y) (Y / Nat.gcd x Y) = 1 ∧ x / Nat.gcd x Y * Y = x * (Y / Nat.gcd x Y) ∧ 0 < Y / Nat.gcd x Y := by
  have g0 : 0 < Nat.gcd x Y := Nat.gcd_pos_of_pos_right _ hY
  refine ⟨?_, ?_, Nat.div_pos (Nat.gcd_le_right _ hY) g0⟩
  · rw [Nat.gcd_div (Nat.gcd_dvd_left _ _) (Nat.gcd_dvd_right _ _), Nat.div_self g0]
  · obtain ⟨a, ha⟩ := Nat.gcd_dvd_left x Y
    obtain ⟨b, hb⟩ := Nat.gcd_dvd_right x Y
    generalize Nat.gcd x Y = g at *
    subst ha hb
    rw [Nat.mul_div_cancel_left _ g0, Nat.mul_div_cancel_left _ g0]
    grind
theorem radd_parts {w0 w : World} {r : Nat} {p q : Nat} {a6 a7 : Option Addr} {n6 k6 n7 k7 : Nat} (x0 : w.cell? ⟨r, 0, none⟩ = some (.slice none 0 0)) (x1 : w.cell? ⟨r, 1, none⟩ = some (.slice none 0 0)) :
    ((w.setCell ⟨r, 0, none⟩ (.slice a6 n6 k6)).setCell ⟨r, 1, none⟩ (.slice a7 n7 k7)).cell? ⟨r, 0, none⟩ = some (.slice a6 n6 k6) ∧ ((w.setCell ⟨r, 0, none⟩ (.slice a6 n6 k6)).setCell ⟨r, 1, none⟩ (.slice a7 n7 k7)).cell? ⟨r, 1, none⟩ = some (.slice a7 n7 k7) := by
  have hd : (w.setCell ⟨r, 0, none⟩ (.slice a6 n6 k6)).cell? ⟨r, 1, none⟩ = some (.slice none 0 0) := by rw [World.cell?_setCell_other (h := by simp), x1]
  constructor
  · rw [World.cell?_setCell_other (h := by simp)]
    simp [go_sem, x0]
  · simp [go_sem, hd]
set_option maxHeartbeats 4000000 in
theorem radd2_any (v u : Value) (p q x y : Nat) (w : World) (h : RRt w v p q) (k : RRt w u x y) (hp : RS p) (hq : RS q) (hx : RS x) (hy : RS y) (hq0 : 0 < q) (hy0 : 0 < y) :
    Calls Tryd.prog 42 #[v, u] w (MakesRR w ((p * y + x * q) / Nat.gcd (p * y + x * q) (q * y)) ((q * y) / Nat.gcd (p * y + x * q) (q * y))) := by
  obtain ⟨p1, n1, c1, p2, n2, c2, e0, g1, g2⟩ := h
  subst e0
  obtain ⟨p3, n3, c3, p4, n4, c4, e1, g3, g4⟩ := k
  subst e1
  have S0 : Hid _ := ((((((sx_start w).addM g1).addM g2).addM g3).addM g4).box (.slice p1 n1 c1) (.slice p2 n2 c2) 35 _ rfl).box (.slice p3 n3 c3) (.slice p4 n4 c4) 35 _ rfl
  simp only [World.size_alloc] at S0
  have S1 : Hid _ := S0.out.box (.slice none 0 0) (.slice none 0 0) 35 _ rfl
  simp only [World.size_alloc] at S1
  obtain ⟨w0, hw0⟩ : ∃ w0, w0 = ((w.alloc (.cells #[.slice p1 n1 c1, .slice p2 n2 c2] 35)).alloc (.cells #[.slice p3 n3 c3, .slice p4 n4 c4] 35)).alloc (.cells #[.slice none 0 0, .slice none 0 0] 35) := ⟨_, rfl⟩
  have f6 : w0.frozen? ⟨w.heap.size + 1 + 1, 0, none⟩ = false := by rw [hw0]; simp [go_sem]
  have f7 : w0.frozen? ⟨w.heap.size + 1 + 1, 1, none⟩ = false := by rw [hw0]; simp [go_sem]
  have s1 : RSome (p * y + x * q) := ⟨Nat.lt_of_lt_of_le (by rw [← P_B]; exact P_twice (hp.mul hy) (hx.mul hq)) (B_le (show 2 * 181 ≤ 1000000 by omega))⟩
  have s2 : RSome (q * y) := ⟨Nat.lt_of_lt_of_le (by rw [← P_B]; exact hq.mul hy) (B_le (show 2 * 180 ≤ 1000000 by omega))⟩
  have HH : Hid (RS p ∧ RS q ∧ RS x ∧ RS y ∧ RFits (p * y) ∧ RFits (x * q) ∧ RSome (p * y + x * q) ∧ RSome (q * y) ∧ 0 < q * y) := ⟨hp, hq, hx, hy, rfits_P (hp.mul hy) (by omega), rfits_P (hx.mul hq) (by omega), s1, s2, Nat.mul_pos hq0 hy0⟩
  clear g1 g2 g3 g4 hp hq hx hy hq0 hy0 s1 s2 S0
  go_enter Tryd.func42, Tryd.ntmps42
  go_wp2_with fail
  rw [← hw0] at S1
  rw [← hw0]
  obtain ⟨b2, hb2⟩ : ∃ b2, b2 = w.heap.size := ⟨_, rfl⟩
  have HB : Hid (w.heap.size ≤ b2 + 1 + 1) := by show _ ≤ _; omega
  rw [← hb2] at S1 f6 f7
  rw [← hb2]
  clear hw0 hb2
  have e6 := S1.out.cel (b2 + 1 + 1) 0 (.slice none 0 0)
  have e7 := S1.out.cel (b2 + 1 + 1) 1 (.slice none 0 0)
  refine wp_region_inv (JD w0 [sEq (.pointer (some ⟨b2, 0, none⟩)), sR (p), sEq (.pointer (some ⟨b2 + 1, 1, none⟩)), sR (y), sR (p * y), sEq (.pointer (some ⟨b2 + 1, 0, none⟩)), sR (x), sEq (.pointer (some ⟨b2, 1, none⟩)), sR (q), sR (x * q), sR (p * y + x * q), sEq (.pointer (some ⟨b2, 1, none⟩)), sR (q), sEq (.pointer (some ⟨b2 + 1, 1, none⟩)), sR (y), sR (q * y), sRRt ((p * y + x * q) / Nat.gcd (p * y + x * q) (q * y)) ((q * y) / Nat.gcd (p * y + x * q) (q * y)), sAny] [[], [0], [], [2], [1, 3], [], [5], [], [7], [6, 8], [4, 9], [], [11], [], [13], [12, 14], [10, 15], [16]] 17 16 [0, 1, 2, 3, 4, 5, 6, 7, 8, 9, 10, 11, 12, 13, 14, 15, 16] (Sto2 (b2 + 1 + 1))) 22 (by kernel_rfl) rfl (by kernel_rfl) (JD.start _ _ _ _ _ _ _) (fun HG HN => ⟨?_, ?_, ?_, ?_, ?_, ?_, ?_, ?_, ?_, ?_, ?_, ?_, ?_, ?_, ?_, ?_, ?_, ?_, trivial⟩) ?_
  · intro L vs a w' hJ hF hP hL
    have hK := hJ
    have hJ := hK.open hL (by decide)
    have q2 : (a.tmps[2]?).getD undef = .pointer (some ⟨b2, 0, none⟩) := hF.old 2 rfl
    exact run_val (v := .pointer (some ⟨b2, 0, none⟩)) rfl (by simp [execOp, go_sem, q2]) ⟨_, rfl, hK.step hL (by decide) (by decide) rfl (nd_nil) <| hJ.step hL rfl (Below.refl _ _) (by exact rfl)⟩
  · intro L vs a w' hJ hF hP hL
    have hK := hJ
    have hJ := hK.open hL (by decide)
    have p0 : L 0 = true := hP ⟨0, .data⟩ (by simp) rfl
    have s0 : vs 0 = .pointer (some ⟨b2, 0, none⟩) := hJ.sp 0 p0
    have q5 := hF.slot 0 5 rfl p0
    have cb := cell_later hJ.bel (S1.out.cel (b2) 0 (.slice p1 n1 c1))
    exact run_val (v := .agg #[.slice p1 n1 c1]) rfl (by simp [execOp, go_sem, q5, s0, cb]) ⟨_, rfl, hK.step hL (by decide) (by decide) rfl (nd_cons p0 (nd_nil)) <| hJ.step hL rfl (Below.refl _ _) (by exact ((S1.out.rat (.agg #[.slice p1 n1 c1]) (p)).mono hJ.bel))⟩
  · intro L vs a w' hJ hF hP hL
    have hK := hJ
    have hJ := hK.open hL (by decide)
    have q3 : (a.tmps[3]?).getD undef = .pointer (some ⟨b2 + 1, 0, none⟩) := hF.old 3 rfl
    exact run_val (v := .pointer (some ⟨b2 + 1, 1, none⟩)) rfl (by simp [execOp, go_sem, q3]) ⟨_, rfl, hK.step hL (by decide) (by decide) rfl (nd_nil) <| hJ.step hL rfl (Below.refl _ _) (by exact rfl)⟩
  · intro L vs a w' hJ hF hP hL
    have hK := hJ
    have hJ := hK.open hL (by decide)
    have p2 : L 2 = true := hP ⟨2, .data⟩ (by simp) rfl
    have s2 : vs 2 = .pointer (some ⟨b2 + 1, 1, none⟩) := hJ.sp 2 p2
    have q7 := hF.slot 2 7 rfl p2
    have cb := cell_later hJ.bel (S1.out.cel (b2 + 1) 1 (.slice p4 n4 c4))
    exact run_val (v := .agg #[.slice p4 n4 c4]) rfl (by simp [execOp, go_sem, q7, s2, cb]) ⟨_, rfl, hK.step hL (by decide) (by decide) rfl (nd_cons p2 (nd_nil)) <| hJ.step hL rfl (Below.refl _ _) (by exact ((S1.out.rat (.agg #[.slice p4 n4 c4]) (y)).mono hJ.bel))⟩
  · intro L vs a w' hJ hF hP hL
    have hK := hJ
    have hJ := hK.open hL (by decide)
    have p1 : L 1 = true := hP ⟨1, .data⟩ (by simp) rfl
    have s1 : RNat w' (vs 1) (p) := hJ.sp 1 p1
    have q6 := hF.slot 1 6 rfl p1
    have p3 : L 3 = true := hP ⟨3, .data⟩ (by simp) rfl
    have s3 : RNat w' (vs 3) (y) := hJ.sp 3 p3
    have q8 := hF.slot 3 8 rfl p3
    refine run_call (f := 37) (args := #[vs 1, vs 3]) rfl (by simp [go_sem, q6, q8]) (rtimes_any _ _ p y _ s1 s3 HH.out.1.rfits HH.out.2.2.2.1.rfits) ?_
    rintro e w2 ⟨v, rfl, hv, hb⟩
    exact ⟨_, rfl, _, rfl, hK.step hL (by decide) (by decide) rfl (nd_cons p1 (nd_cons p3 (nd_nil))) <| hJ.step hL rfl hb (by exact hv)⟩
  · intro L vs a w' hJ hF hP hL
    have hK := hJ
    have hJ := hK.open hL (by decide)
    have q3 : (a.tmps[3]?).getD undef = .pointer (some ⟨b2 + 1, 0, none⟩) := hF.old 3 rfl
    exact run_val (v := .pointer (some ⟨b2 + 1, 0, none⟩)) rfl (by simp [execOp, go_sem, q3]) ⟨_, rfl, hK.step hL (by decide) (by decide) rfl (nd_nil) <| hJ.step hL rfl (Below.refl _ _) (by exact rfl)⟩
  · intro L vs a w' hJ hF hP hL
    have hK := hJ
    have hJ := hK.open hL (by decide)
    have p5 : L 5 = true := hP ⟨5, .data⟩ (by simp) rfl
    have s5 : vs 5 = .pointer (some ⟨b2 + 1, 0, none⟩) := hJ.sp 5 p5
    have q10 := hF.slot 5 10 rfl p5
    have cb := cell_later hJ.bel (S1.out.cel (b2 + 1) 0 (.slice p3 n3 c3))
    exact run_val (v := .agg #[.slice p3 n3 c3]) rfl (by simp [execOp, go_sem, q10, s5, cb]) ⟨_, rfl, hK.step hL (by decide) (by decide) rfl (nd_cons p5 (nd_nil)) <| hJ.step hL rfl (Below.refl _ _) (by exact ((S1.out.rat (.agg #[.slice p3 n3 c3]) (x)).mono hJ.bel))⟩
  · intro L vs a w' hJ hF hP hL
    have hK := hJ
    have hJ := hK.open hL (by decide)
    have q2 : (a.tmps[2]?).getD undef = .pointer (some ⟨b2, 0, none⟩) := hF.old 2 rfl
    exact run_val (v := .pointer (some ⟨b2, 1, none⟩)) rfl (by simp [execOp, go_sem, q2]) ⟨_, rfl, hK.step hL (by decide) (by decide) rfl (nd_nil) <| hJ.step hL rfl (Below.refl _ _) (by exact rfl)⟩
  · intro L vs a w' hJ hF hP hL
    have hK := hJ
    have hJ := hK.open hL (by decide)
    have p7 : L 7 = true := hP ⟨7, .data⟩ (by simp) rfl
    have s7 : vs 7 = .pointer (some ⟨b2, 1, none⟩) := hJ.sp 7 p7
    have q12 := hF.slot 7 12 rfl p7
    have cb := cell_later hJ.bel (S1.out.cel (b2) 1 (.slice p2 n2 c2))
    exact run_val (v := .agg #[.slice p2 n2 c2]) rfl (by simp [execOp, go_sem, q12, s7, cb]) ⟨_, rfl, hK.step hL (by decide) (by decide) rfl (nd_cons p7 (nd_nil)) <| hJ.step hL rfl (Below.refl _ _) (by exact ((S1.out.rat (.agg #[.slice p2 n2 c2]) (q)).mono hJ.bel))⟩
  · intro L vs a w' hJ hF hP hL
    have hK := hJ
    have hJ := hK.open hL (by decide)
    have p6 : L 6 = true := hP ⟨6, .data⟩ (by simp) rfl
    have s6 : RNat w' (vs 6) (x) := hJ.sp 6 p6
    have q11 := hF.slot 6 11 rfl p6
    have p8 : L 8 = true := hP ⟨8, .data⟩ (by simp) rfl
    have s8 : RNat w' (vs 8) (q) := hJ.sp 8 p8
    have q13 := hF.slot 8 13 rfl p8
    refine run_call (f := 37) (args := #[vs 6, vs 8]) rfl (by simp [go_sem, q11, q13]) (rtimes_any _ _ x q _ s6 s8 HH.out.2.2.1.rfits HH.out.2.1.rfits) ?_
    rintro e w2 ⟨v, rfl, hv, hb⟩
    exact ⟨_, rfl, _, rfl, hK.step hL (by decide) (by decide) rfl (nd_cons p6 (nd_cons p8 (nd_nil))) <| hJ.step hL rfl hb (by exact hv)⟩
  · intro L vs a w' hJ hF hP hL
    have hK := hJ
    have hJ := hK.open hL (by decide)
    have p4 : L 4 = true := hP ⟨4, .data⟩ (by simp) rfl
    have s4 : RNat w' (vs 4) (p * y) := hJ.sp 4 p4
    have q9 := hF.slot 4 9 rfl p4
    have p9 : L 9 = true := hP ⟨9, .data⟩ (by simp) rfl
    have s9 : RNat w' (vs 9) (x * q) := hJ.sp 9 p9
    have q14 := hF.slot 9 14 rfl p9
    refine run_call (f := 38) (args := #[vs 4, vs 9]) rfl (by simp [go_sem, q9, q14]) (rplus_any _ _ (p * y) (x * q) _ s4 s9 HH.out.2.2.2.2.1 HH.out.2.2.2.2.2.1) ?_
    rintro e w2 ⟨v, rfl, hv, hb⟩
    exact ⟨_, rfl, _, rfl, hK.step hL (by decide) (by decide) rfl (nd_cons p4 (nd_cons p9 (nd_nil))) <| hJ.step hL rfl hb (by exact hv)⟩
  · intro L vs a w' hJ hF hP hL
    have hK := hJ
    have hJ := hK.open hL (by decide)
    have q2 : (a.tmps[2]?).getD undef = .pointer (some ⟨b2, 0, none⟩) := hF.old 2 rfl
    exact run_val (v := .pointer (some ⟨b2, 1, none⟩)) rfl (by simp [execOp, go_sem, q2]) ⟨_, rfl, hK.step hL (by decide) (by decide) rfl (nd_nil) <| hJ.step hL rfl (Below.refl _ _) (by exact rfl)⟩
  · intro L vs a w' hJ hF hP hL
    have hK := hJ
    have hJ := hK.open hL (by decide)
    have p11 : L 11 = true := hP ⟨11, .data⟩ (by simp) rfl
    have s11 : vs 11 = .pointer (some ⟨b2, 1, none⟩) := hJ.sp 11 p11
    have q16 := hF.slot 11 16 rfl p11
    have cb := cell_later hJ.bel (S1.out.cel (b2) 1 (.slice p2 n2 c2))
    exact run_val (v := .agg #[.slice p2 n2 c2]) rfl (by simp [execOp, go_sem, q16, s11, cb]) ⟨_, rfl, hK.step hL (by decide) (by decide) rfl (nd_cons p11 (nd_nil)) <| hJ.step hL rfl (Below.refl _ _) (by exact ((S1.out.rat (.agg #[.slice p2 n2 c2]) (q)).mono hJ.bel))⟩
  · intro L vs a w' hJ hF hP hL
    have hK := hJ
    have hJ := hK.open hL (by decide)
    have q3 : (a.tmps[3]?).getD undef = .pointer (some ⟨b2 + 1, 0, none⟩) := hF.old 3 rfl
    exact run_val (v := .pointer (some ⟨b2 + 1, 1, none⟩)) rfl (by simp [execOp, go_sem, q3]) ⟨_, rfl, hK.step hL (by decide) (by decide) rfl (nd_nil) <| hJ.step hL rfl (Below.refl _ _) (by exact rfl)⟩
  · intro L vs a w' hJ hF hP hL
    have hK := hJ
    have hJ := hK.open hL (by decide)
    have p13 : L 13 = true := hP ⟨13, .data⟩ (by simp) rfl
    have s13 : vs 13 = .pointer (some ⟨b2 + 1, 1, none⟩) := hJ.sp 13 p13
    have q18 := hF.slot 13 18 rfl p13
    have cb := cell_later hJ.bel (S1.out.cel (b2 + 1) 1 (.slice p4 n4 c4))
    exact run_val (v := .agg #[.slice p4 n4 c4]) rfl (by simp [execOp, go_sem, q18, s13, cb]) ⟨_, rfl, hK.step hL (by decide) (by decide) rfl (nd_cons p13 (nd_nil)) <| hJ.step hL rfl (Below.refl _ _) (by exact ((S1.out.rat (.agg #[.slice p4 n4 c4]) (y)).mono hJ.bel))⟩
  · intro L vs a w' hJ hF hP hL
    have hK := hJ
    have hJ := hK.open hL (by decide)
    have p12 : L 12 = true := hP ⟨12, .data⟩ (by simp) rfl
    have s12 : RNat w' (vs 12) (q) := hJ.sp 12 p12
    have q17 := hF.slot 12 17 rfl p12
    have p14 : L 14 = true := hP ⟨14, .data⟩ (by simp) rfl
    have s14 : RNat w' (vs 14) (y) := hJ.sp 14 p14
    have q19 := hF.slot 14 19 rfl p14
    refine run_call (f := 37) (args := #[vs 12, vs 14]) rfl (by simp [go_sem, q17, q19]) (rtimes_any _ _ q y _ s12 s14 HH.out.2.1.rfits HH.out.2.2.2.1.rfits) ?_
    rintro e w2 ⟨v, rfl, hv, hb⟩
    exact ⟨_, rfl, _, rfl, hK.step hL (by decide) (by decide) rfl (nd_cons p12 (nd_cons p14 (nd_nil))) <| hJ.step hL rfl hb (by exact hv)⟩
  · intro L vs a w' hJ hF hP hL
    have hK := hJ
    have hJ := hK.open hL (by decide)
    have p10 : L 10 = true := hP ⟨10, .data⟩ (by simp) rfl
    have s10 : RNat w' (vs 10) (p * y + x * q) := hJ.sp 10 p10
    have q15 := hF.slot 10 15 rfl p10
    have p15 : L 15 = true := hP ⟨15, .data⟩ (by simp) rfl
    have s15 : RNat w' (vs 15) (q * y) := hJ.sp 15 p15
    have q20 := hF.slot 15 20 rfl p15
    refine run_call (f := 44) (args := #[vs 10, vs 15]) rfl (by simp [go_sem, q15, q20]) (rmade_any _ _ (p * y + x * q) (q * y) _ s10 s15 HH.out.2.2.2.2.2.2.1 HH.out.2.2.2.2.2.2.2.1 HH.out.2.2.2.2.2.2.2.2) ?_
    rintro e w2 ⟨v, rfl, hv, hb⟩
    exact ⟨_, rfl, _, rfl, hK.step hL (by decide) (by decide) rfl (nd_cons p10 (nd_cons p15 (nd_nil))) <| hJ.step hL rfl hb (by exact hv)⟩
  · intro L vs a w' hJ hF hP hL
    have hK := hJ
    have hJ := hK.core hL
    have q4 : (a.tmps[4]?).getD undef = .pointer (some ⟨b2 + 1 + 1, 0, none⟩) := hF.old 4 rfl
    have p16 : L 16 = true := hP ⟨16, .data⟩ (by simp) rfl
    have s16 : RRt w' (vs 16) ((p * y + x * q) / Nat.gcd (p * y + x * q) (q * y)) ((q * y) / Nat.gcd (p * y + x * q) (q * y)) := hJ.sp 16 p16
    have q21 := hF.slot 16 21 rfl p16
    have p10 : L 10 = true := hK.cl 16 p16 10 (by simp)
    have p4 : L 4 = true := hK.cl 10 p10 4 (by simp)
    have p1 : L 1 = true := hK.cl 4 p4 1 (by simp)
    have p0 : L 0 = true := hK.cl 1 p1 0 (by simp)
    have p3 : L 3 = true := hK.cl 4 p4 3 (by simp)
    have p2 : L 2 = true := hK.cl 3 p3 2 (by simp)
    have p9 : L 9 = true := hK.cl 10 p10 9 (by simp)
    have p6 : L 6 = true := hK.cl 9 p9 6 (by simp)
    have p5 : L 5 = true := hK.cl 6 p6 5 (by simp)
    have p8 : L 8 = true := hK.cl 9 p9 8 (by simp)
    have p7 : L 7 = true := hK.cl 8 p8 7 (by simp)
    have p15 : L 15 = true := hK.cl 16 p16 15 (by simp)
    have p12 : L 12 = true := hK.cl 15 p15 12 (by simp)
    have p11 : L 11 = true := hK.cl 12 p12 11 (by simp)
    have p14 : L 14 = true := hK.cl 15 p15 14 (by simp)
    have p13 : L 13 = true := hK.cl 14 p14 13 (by simp)
    have x0 := cell_later hJ.bel e6
    have y0 := (hJ.bel.frozen (World.block_lt_of_cell? _ _ e6)).trans f6
    have x1 := cell_later hJ.bel e7
    have y1 := (hJ.bel.frozen (World.block_lt_of_cell? _ _ e7)).trans f7
    have s16' := s16
    obtain ⟨aa, nn, cc, a2, n2, c2, e8, _, _⟩ := s16'
    exact run_unit (w' := (w'.setCell ⟨b2 + 1 + 1, 0, none⟩ (.slice aa nn cc)).setCell ⟨b2 + 1 + 1, 1, none⟩ (.slice a2 n2 c2)) rfl (by simp [execOp, go_sem, q4, q21, e8, x0, y0, x1, y1]) ⟨undef, rfl, hK.put hL (by decide) rfl (nd_cons p16 nd_nil) (nd_cons p0 (nd_cons p1 (nd_cons p2 (nd_cons p3 (nd_cons p4 (nd_cons p5 (nd_cons p6 (nd_cons p7 (nd_cons p8 (nd_cons p9 (nd_cons p10 (nd_cons p11 (nd_cons p12 (nd_cons p13 (nd_cons p14 (nd_cons p15 (nd_cons p16 (nd_nil)))))))))))))))))) p16 ⟨_, _, e8, rfl⟩⟩
  intro L vs w' hA hK
  obtain ⟨_, w1, hb1, sv, u1, u2, ev, ew⟩ := hK.fin (hA 17 (by simp))
  replace sv : RRt w1 (vs 16) ((p * y + x * q) / Nat.gcd (p * y + x * q) (q * y)) ((q * y) / Nat.gcd (p * y + x * q) (q * y)) := sv
  obtain ⟨a6, n6, k6, a7, n7, k7, e8, h6, h7⟩ := sv
  rw [e8] at ev
  obtain ⟨rfl, rfl⟩ : u1 = .slice a6 n6 k6 ∧ u2 = .slice a7 n7 k7 := by simpa [eq_comm] using ev
  have x0 := cell_later hb1 e6
  have x1 := cell_later hb1 e7
  have Z : Hid _ := rrat_put (w0 := w) (v := .slice a6 n6 k6) (u := .slice a7 n7 k7) x0 x1 (V := .agg #[.slice a6 n6 k6, .slice a7 n7 k7]) ⟨_, _, _, _, _, _, rfl, h6, h7⟩ (bel_go S1.out.bel hb1) HB.out
  obtain ⟨l6, l7⟩ := radd_parts (w0 := w) (p := p) (q := q) (a6 := a6) (n6 := n6) (k6 := k6) (a7 := a7) (n7 := n7) (k7 := k7) x0 x1
  rw [← ew] at Z l6 l7
  clear ew x0 x1 h6 h7 ev hb1 e8 hK hA e6 e7 f6 f7 S1
  simp only [putL, Act.put, List.setIfInBounds_toArray, List.set_cons_zero, List.set_cons_succ, Nat.reduceAdd]
  go_wp2_with fail
  exact bodyPost_ret (v := .agg #[.slice a6 n6 k6, .slice a7 n7 k7]) (by simp [results, Tryd.results42, go_sem, l6, l7]) rfl ⟨_, rfl, Z.out.1, Z.out.2⟩
end Go.Proofs.YtkhdapmipcghoaaDoor
