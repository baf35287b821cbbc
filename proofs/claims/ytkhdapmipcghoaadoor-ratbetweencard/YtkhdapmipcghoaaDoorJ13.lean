/- Contracts of the program's functions, part 13: own work, joined in build order. -/
import Derived.Test.YtkhdapmipcghoaaDoorJ12
import Derived.Laws.AppendOwnNone
namespace Go.Proofs.YtkhdapmipcghoaaDoor
open Go.RowKit
set_option maxRecDepth 100000
set_option linter.unusedVariables false
theorem told_a (w : World) (hT : Tab w) : Calls Tryd.prog 8 #[.int .i64 6, .int .i64 4] w (MakesRB w 3 2 true) := by
  have h := ratOf_yes 6 4 w (by omega) (by omega) (by omega) hT
  rw [show 6 / Nat.gcd 6 4 = 3 by decide, show 4 / Nat.gcd 6 4 = 2 by decide] at h
  exact h
theorem told_b (w : World) (hT : Tab w) : Calls Tryd.prog 8 #[.int .i64 1, .int .i64 3] w (MakesRB w 1 3 true) := by
  have h := ratOf_yes 1 3 w (by omega) (by omega) (by omega) hT
  rw [show 1 / Nat.gcd 1 3 = 1 by decide, show 3 / Nat.gcd 1 3 = 3 by decide] at h
  exact h
theorem told_x (w : World) : Calls Tryd.prog 9 #[.int .i64 3, .int .i64 2] w (MakesRRB w 3 2 true) := by
  have h := rof2_yes 3 2 w (by omega) (by omega) (by omega)
  rw [show 3 / Nat.gcd 3 2 = 3 by decide, show 2 / Nat.gcd 3 2 = 2 by decide] at h
  exact h
theorem told_y (w : World) : Calls Tryd.prog 9 #[.int .i64 11, .int .i64 6] w (MakesRRB w 11 6 true) := by
  have h := rof2_yes 11 6 w (by omega) (by omega) (by omega)
  rw [show 11 / Nat.gcd 11 6 = 11 by decide, show 6 / Nat.gcd 11 6 = 6 by decide] at h
  exact h
theorem rs_few {x : Nat} (h : x < 100) : RS x := rs_word (by omega)
theorem told_sum (v u : Value) (w : World) (h : Rt w v 3 2) (k : Rt w u 1 3) (hT : Tab w) : Calls Tryd.prog 25 #[v, u] w (MakesR w 11 6) := by
  have h := ratAdd_any v u 3 2 1 3 w h k (rs_few (by omega)) (rs_few (by omega)) (rs_few (by omega)) (rs_few (by omega)) hT
  rw [show addP 3 2 1 3 = 11 by decide +kernel, show addQ 3 2 1 3 = 6 by decide +kernel] at h
  exact h
theorem told_more (v u : Value) (w : World) (h : Rt w v 3 2) (k : Rt w u 1 3) : Calls Tryd.prog 27 #[v, u] w fun e w' => e = .returned (.int .i64 1) ∧ Below w.heap.size w w' := by
  have h := ratCmp_any v u 3 2 1 3 w h k (rs_few (by omega)) (rs_few (by omega)) (rs_few (by omega)) (rs_few (by omega))
  rw [show cmpI (3 * 3) (1 * 2) = 1 by decide] at h
  exact h
theorem told_less (v u : Value) (w : World) (h : Rt w v 0 1) (k : Rt w u 1 3) : Calls Tryd.prog 27 #[v, u] w fun e w' => e = .returned (.int .i64 (-1)) ∧ Below w.heap.size w w' := by
  have h := ratCmp_any v u 0 1 1 3 w h k (rs_few (by omega)) (rs_few (by omega)) (rs_few (by omega)) (rs_few (by omega))
  rw [show cmpI (0 * 3) (1 * 1) = -1 by decide] at h
  exact h
set_option maxHeartbeats 8000000 in
theorem rtold_true (w : World) (hT : Tab w) : Calls Tryd.prog 10 #[] w fun e w' => e = .returned (.bool true) ∧ Below w.heap.size w w' := by
  have TT : Hid (Tab w) := hT
  have S0 : Hid _ := sq_start w
  clear hT
  go_enter Tryd.func10, Tryd.ntmps10
  go_wp2_with fail
  refine (told_a _ TT.out).mono ?_
  rintro e v1w ⟨v1, rfl, hv, hb⟩
  obtain ⟨a1, n1, c1, d1, m1, g1, ev, _, _⟩ := hv.raw
  subst ev
  have S1 : Hid _ := (((S0.out.go hb).addF hv).box (.slice a1 n1 c1) (.slice d1 m1 g1) 29 _ rfl)
  clear hv hb S0
  try simp only [World.size_alloc] at S1
  go_wp2_with fail
  obtain ⟨w1, hw⟩ : ∃ w1, w1 = v1w.alloc (.cells #[.slice a1 n1 c1, .slice d1 m1 g1] 29) := ⟨_, rfl⟩
  obtain ⟨b1, hb⟩ : ∃ b1, b1 = v1w.heap.size := ⟨_, rfl⟩
  rw [← hw, ← hb] at S1
  rw [← hw, ← hb]
  clear hw hb
  refine (told_b _ (TT.out.go S1.out.bel)).mono ?_
  rintro e v2w ⟨v2, rfl, hv, hb⟩
  obtain ⟨a2, n2, c2, d2, m2, g2, ev, _, _⟩ := hv.raw
  subst ev
  have S2 : Hid _ := (((S1.out.go hb).addF hv).box (.slice a2 n2 c2) (.slice d2 m2 g2) 29 _ rfl).box (.slice none 0 0) (.slice none 0 0) 29 _ rfl
  clear hv hb S1
  try simp only [World.size_alloc] at S2
  go_wp2_with fail
  obtain ⟨w2, hw⟩ : ∃ w2, w2 = (v2w.alloc (.cells #[.slice a2 n2 c2, .slice d2 m2 g2] 29)).alloc (.cells #[.slice none 0 0, .slice none 0 0] 29) := ⟨_, rfl⟩
  obtain ⟨b2, hb⟩ : ∃ b2, b2 = v2w.heap.size := ⟨_, rfl⟩
  rw [← hw, ← hb] at S2
  rw [← hw, ← hb]
  clear hw hb
  have S3 : Hid _ := S2.out.addF (rt_zero _)
  clear S2
  refine (told_x _).mono ?_
  rintro e v4w ⟨v4, rfl, hv, hb⟩
  obtain ⟨a4, n4, c4, d4, m4, g4, ev, _, _⟩ := id hv
  subst ev
  have S4 : Hid _ := (((S3.out.go hb).addG hv).box (.slice a4 n4 c4) (.slice d4 m4 g4) 35 _ rfl)
  clear hv hb S3
  try simp only [World.size_alloc] at S4
  go_wp2_with fail
  obtain ⟨w4, hw⟩ : ∃ w4, w4 = v4w.alloc (.cells #[.slice a4 n4 c4, .slice d4 m4 g4] 35) := ⟨_, rfl⟩
  obtain ⟨b4, hb⟩ : ∃ b4, b4 = v4w.heap.size := ⟨_, rfl⟩
  rw [← hw, ← hb] at S4
  rw [← hw, ← hb]
  clear hw hb
  refine (told_y _).mono ?_
  rintro e v5w ⟨v5, rfl, hv, hb⟩
  obtain ⟨a5, n5, c5, d5, m5, g5, ev, _, _⟩ := id hv
  subst ev
  have S5 : Hid _ := (((S4.out.go hb).addG hv).box (.slice a5 n5 c5) (.slice d5 m5 g5) 35 _ rfl)
  clear hv hb S4
  try simp only [World.size_alloc] at S5
  go_wp2_with fail
  obtain ⟨w5, hw⟩ : ∃ w5, w5 = v5w.alloc (.cells #[.slice a5 n5 c5, .slice d5 m5 g5] 35) := ⟨_, rfl⟩
  obtain ⟨b5, hb⟩ : ∃ b5, b5 = v5w.heap.size := ⟨_, rfl⟩
  rw [← hw, ← hb] at S5
  rw [← hw, ← hb]
  clear hw hb
  refine wp_region_inv (JB w5 [sEq (.bool true), sEq (.bool true), sEq (.bool true), sEq (.bool true), sEq (.bool true), sRt (3) (2), sRRt (3) (2), sEq (.bool true), sEq (.bool true), sEq (.bool true), sRt (3) (2), sRt (1) (3), sRt (11) (6), sRRt (11) (6), sEq (.bool true), sEq (.bool true), sEq (.bool true), sRt (3) (2), sRt (1) (3), sEq (.int .i64 1), sEq (.bool true), sEq (.bool true), sEq (.bool true), sRt (0) (1), sRt (1) (3), sEq (.int .i64 (-1)), sEq (.bool true), sEq (.bool true), sEq (.bool true), sRt (0) (1), sRRt (0) (1), sEq (.bool true), sEq (.bool true), sEq (.bool true)] []) 59 (by kernel_rfl) rfl (by kernel_rfl) (JB.start _ _ _) (fun HG HN => ⟨?_, ?_, ?_, ?_, ?_, ?_, ?_, ?_, ?_, ?_, ?_, ?_, ?_, ?_, ?_, ?_, ?_, ?_, ?_, ?_, ?_, ?_, ?_, ?_, ?_, ?_, ?_, ?_, ?_, ?_, ?_, ?_, ?_, ?_, trivial⟩) ?_
  · intro L vs a w' hJ hF hP hL
    have q2 : (a.tmps[2]?).getD undef = .bool true := hF.old 2 rfl
    exact run_val (v := .bool true) rfl (by simp [execOp, go_sem, q2]) ⟨_, rfl, hJ.step hL rfl (Below.refl _ _) (by exact rfl)⟩
  · intro L vs a w' hJ hF hP hL
    have p0 : L 0 = true := hP ⟨0, .data⟩ (by simp) rfl
    have s0 : vs 0 = .bool true := hJ.sp 0 p0
    have q26 := hF.slot 0 26 rfl p0
    exact run_val (v := .bool true) rfl (by simp [execOp, go_sem, q26, s0]) ⟨_, rfl, hJ.step hL rfl (Below.refl _ _) (by exact rfl)⟩
  · intro L vs a w' hJ hF hP hL
    have q4 : (a.tmps[4]?).getD undef = .bool true := hF.old 4 rfl
    exact run_val (v := .bool true) (hF.wants 59 HN HG _ 1 true true rfl rfl (hP ⟨1, .guard⟩ (by simp) rfl) (hJ.sp 1 (hP ⟨1, .guard⟩ (by simp) rfl))) (by simp [execOp, go_sem, q4]) ⟨_, rfl, hJ.step hL rfl (Below.refl _ _) (by exact rfl)⟩
  · intro L vs a w' hJ hF hP hL
    have p1 : L 1 = true := hP ⟨1, .data⟩ (by simp) rfl
    have s1 : vs 1 = .bool true := hJ.sp 1 p1
    have q27 := hF.slot 1 27 rfl p1
    have p2 : L 2 = true := hP ⟨2, .data⟩ (by simp) rfl
    have s2 : vs 2 = .bool true := hJ.sp 2 p2
    have q28 := hF.slot 2 28 rfl p2
    exact run_val (v := .bool true) rfl (by simp [execOp, go_sem, q27, s1, q28, s2]) ⟨_, rfl, hJ.step hL rfl (Below.refl _ _) (by exact rfl)⟩
  · intro L vs a w' hJ hF hP hL
    have p3 : L 3 = true := hP ⟨3, .data⟩ (by simp) rfl
    have s3 : vs 3 = .bool true := hJ.sp 3 p3
    have q29 := hF.slot 3 29 rfl p3
    exact run_val (v := .bool true) rfl (by simp [execOp, go_sem, q29, s3]) ⟨_, rfl, hJ.step hL rfl (Below.refl _ _) (by exact rfl)⟩
  · intro L vs a w' hJ hF hP hL
    have q1 : (a.tmps[1]?).getD undef = .pointer (some ⟨b1, 0, none⟩) := hF.old 1 rfl
    have cb := cell_later hJ.bel (S5.out.cel (b1) 0 (.slice a1 n1 c1))
    have cc := cell_later hJ.bel (S5.out.cel (b1) 1 (.slice d1 m1 g1))
    exact run_val (v := .agg #[.slice a1 n1 c1, .slice d1 m1 g1]) (hF.wants 59 HN HG _ 4 true true rfl rfl (hP ⟨4, .guard⟩ (by simp) rfl) (hJ.sp 4 (hP ⟨4, .guard⟩ (by simp) rfl))) (by simp [execOp, go_sem, q1, cb, cc]) ⟨_, rfl, hJ.step hL rfl (Below.refl _ _) (by exact ((S5.out.fr (.agg #[.slice a1 n1 c1, .slice d1 m1 g1]) (3) (2)).mono hJ.bel))⟩
  · intro L vs a w' hJ hF hP hL
    have q6 : (a.tmps[6]?).getD undef = .pointer (some ⟨b4, 0, none⟩) := hF.old 6 rfl
    have cb := cell_later hJ.bel (S5.out.cel (b4) 0 (.slice a4 n4 c4))
    have cc := cell_later hJ.bel (S5.out.cel (b4) 1 (.slice d4 m4 g4))
    exact run_val (v := .agg #[.slice a4 n4 c4, .slice d4 m4 g4]) (hF.wants 59 HN HG _ 4 true true rfl rfl (hP ⟨4, .guard⟩ (by simp) rfl) (hJ.sp 4 (hP ⟨4, .guard⟩ (by simp) rfl))) (by simp [execOp, go_sem, q6, cb, cc]) ⟨_, rfl, hJ.step hL rfl (Below.refl _ _) (by exact ((S5.out.rfr (.agg #[.slice a4 n4 c4, .slice d4 m4 g4]) (3) (2)).mono hJ.bel))⟩
  · intro L vs a w' hJ hF hP hL
    have p5 : L 5 = true := hP ⟨5, .data⟩ (by simp) rfl
    have s5 : Rt w' (vs 5) (3) (2) := hJ.sp 5 p5
    have q31 := hF.slot 5 31 rfl p5
    have p6 : L 6 = true := hP ⟨6, .data⟩ (by simp) rfl
    have s6 : RRt w' (vs 6) (3) (2) := hJ.sp 6 p6
    have q32 := hF.slot 6 32 rfl p6
    refine run_call (f := 11) (args := #[vs 5, vs 6]) (hF.wants 59 HN HG _ 4 true true rfl rfl (hP ⟨4, .guard⟩ (by simp) rfl) (hJ.sp 4 (hP ⟨4, .guard⟩ (by simp) rfl))) (by simp [go_sem, q31, q32]) (rsame_true _ _ 3 2 _ s5 s6 (rs_few (by omega)) (rs_few (by omega))) ?_
    rintro e w2 ⟨rfl, hb⟩
    exact ⟨_, rfl, _, rfl, hJ.step hL rfl hb (by exact rfl)⟩
  · intro L vs a w' hJ hF hP hL
    have p4 : L 4 = true := hP ⟨4, .data⟩ (by simp) rfl
    have s4 : vs 4 = .bool true := hJ.sp 4 p4
    have q30 := hF.slot 4 30 rfl p4
    have p7 : L 7 = true := hP ⟨7, .data⟩ (by simp) rfl
    have s7 : vs 7 = .bool true := hJ.sp 7 p7
    have q33 := hF.slot 7 33 rfl p7
    exact run_val (v := .bool true) rfl (by simp [execOp, go_sem, q30, s4, q33, s7]) ⟨_, rfl, hJ.step hL rfl (Below.refl _ _) (by exact rfl)⟩
  · intro L vs a w' hJ hF hP hL
    have p8 : L 8 = true := hP ⟨8, .data⟩ (by simp) rfl
    have s8 : vs 8 = .bool true := hJ.sp 8 p8
    have q34 := hF.slot 8 34 rfl p8
    exact run_val (v := .bool true) rfl (by simp [execOp, go_sem, q34, s8]) ⟨_, rfl, hJ.step hL rfl (Below.refl _ _) (by exact rfl)⟩
  · intro L vs a w' hJ hF hP hL
    have q1 : (a.tmps[1]?).getD undef = .pointer (some ⟨b1, 0, none⟩) := hF.old 1 rfl
    have cb := cell_later hJ.bel (S5.out.cel (b1) 0 (.slice a1 n1 c1))
    have cc := cell_later hJ.bel (S5.out.cel (b1) 1 (.slice d1 m1 g1))
    exact run_val (v := .agg #[.slice a1 n1 c1, .slice d1 m1 g1]) (hF.wants 59 HN HG _ 9 true true rfl rfl (hP ⟨9, .guard⟩ (by simp) rfl) (hJ.sp 9 (hP ⟨9, .guard⟩ (by simp) rfl))) (by simp [execOp, go_sem, q1, cb, cc]) ⟨_, rfl, hJ.step hL rfl (Below.refl _ _) (by exact ((S5.out.fr (.agg #[.slice a1 n1 c1, .slice d1 m1 g1]) (3) (2)).mono hJ.bel))⟩
  · intro L vs a w' hJ hF hP hL
    have q3 : (a.tmps[3]?).getD undef = .pointer (some ⟨b2, 0, none⟩) := hF.old 3 rfl
    have cb := cell_later hJ.bel (S5.out.cel (b2) 0 (.slice a2 n2 c2))
    have cc := cell_later hJ.bel (S5.out.cel (b2) 1 (.slice d2 m2 g2))
    exact run_val (v := .agg #[.slice a2 n2 c2, .slice d2 m2 g2]) (hF.wants 59 HN HG _ 9 true true rfl rfl (hP ⟨9, .guard⟩ (by simp) rfl) (hJ.sp 9 (hP ⟨9, .guard⟩ (by simp) rfl))) (by simp [execOp, go_sem, q3, cb, cc]) ⟨_, rfl, hJ.step hL rfl (Below.refl _ _) (by exact ((S5.out.fr (.agg #[.slice a2 n2 c2, .slice d2 m2 g2]) (1) (3)).mono hJ.bel))⟩
  · intro L vs a w' hJ hF hP hL
    have p10 : L 10 = true := hP ⟨10, .data⟩ (by simp) rfl
    have s10 : Rt w' (vs 10) (3) (2) := hJ.sp 10 p10
    have q36 := hF.slot 10 36 rfl p10
    have p11 : L 11 = true := hP ⟨11, .data⟩ (by simp) rfl
    have s11 : Rt w' (vs 11) (1) (3) := hJ.sp 11 p11
    have q37 := hF.slot 11 37 rfl p11
    refine run_call (f := 25) (args := #[vs 10, vs 11]) (hF.wants 59 HN HG _ 9 true true rfl rfl (hP ⟨9, .guard⟩ (by simp) rfl) (hJ.sp 9 (hP ⟨9, .guard⟩ (by simp) rfl))) (by simp [go_sem, q36, q37]) (told_sum _ _ _ s10 s11 (TT.out.go (S5.out.go hJ.bel).bel)) ?_
    rintro e w2 ⟨v, rfl, hv, hb⟩
    exact ⟨_, rfl, _, rfl, hJ.step hL rfl hb (by exact hv)⟩
  · intro L vs a w' hJ hF hP hL
    have q8 : (a.tmps[8]?).getD undef = .pointer (some ⟨b5, 0, none⟩) := hF.old 8 rfl
    have cb := cell_later hJ.bel (S5.out.cel (b5) 0 (.slice a5 n5 c5))
    have cc := cell_later hJ.bel (S5.out.cel (b5) 1 (.slice d5 m5 g5))
    exact run_val (v := .agg #[.slice a5 n5 c5, .slice d5 m5 g5]) (hF.wants 59 HN HG _ 9 true true rfl rfl (hP ⟨9, .guard⟩ (by simp) rfl) (hJ.sp 9 (hP ⟨9, .guard⟩ (by simp) rfl))) (by simp [execOp, go_sem, q8, cb, cc]) ⟨_, rfl, hJ.step hL rfl (Below.refl _ _) (by exact ((S5.out.rfr (.agg #[.slice a5 n5 c5, .slice d5 m5 g5]) (11) (6)).mono hJ.bel))⟩
  · intro L vs a w' hJ hF hP hL
    have p12 : L 12 = true := hP ⟨12, .data⟩ (by simp) rfl
    have s12 : Rt w' (vs 12) (11) (6) := hJ.sp 12 p12
    have q38 := hF.slot 12 38 rfl p12
    have p13 : L 13 = true := hP ⟨13, .data⟩ (by simp) rfl
    have s13 : RRt w' (vs 13) (11) (6) := hJ.sp 13 p13
    have q39 := hF.slot 13 39 rfl p13
    refine run_call (f := 11) (args := #[vs 12, vs 13]) (hF.wants 59 HN HG _ 9 true true rfl rfl (hP ⟨9, .guard⟩ (by simp) rfl) (hJ.sp 9 (hP ⟨9, .guard⟩ (by simp) rfl))) (by simp [go_sem, q38, q39]) (rsame_true _ _ 11 6 _ s12 s13 (rs_few (by omega)) (rs_few (by omega))) ?_
    rintro e w2 ⟨rfl, hb⟩
    exact ⟨_, rfl, _, rfl, hJ.step hL rfl hb (by exact rfl)⟩
  · intro L vs a w' hJ hF hP hL
    have p9 : L 9 = true := hP ⟨9, .data⟩ (by simp) rfl
    have s9 : vs 9 = .bool true := hJ.sp 9 p9
    have q35 := hF.slot 9 35 rfl p9
    have p14 : L 14 = true := hP ⟨14, .data⟩ (by simp) rfl
    have s14 : vs 14 = .bool true := hJ.sp 14 p14
    have q40 := hF.slot 14 40 rfl p14
    exact run_val (v := .bool true) rfl (by simp [execOp, go_sem, q35, s9, q40, s14]) ⟨_, rfl, hJ.step hL rfl (Below.refl _ _) (by exact rfl)⟩
  · intro L vs a w' hJ hF hP hL
    have p15 : L 15 = true := hP ⟨15, .data⟩ (by simp) rfl
    have s15 : vs 15 = .bool true := hJ.sp 15 p15
    have q41 := hF.slot 15 41 rfl p15
    exact run_val (v := .bool true) rfl (by simp [execOp, go_sem, q41, s15]) ⟨_, rfl, hJ.step hL rfl (Below.refl _ _) (by exact rfl)⟩
  · intro L vs a w' hJ hF hP hL
    have q1 : (a.tmps[1]?).getD undef = .pointer (some ⟨b1, 0, none⟩) := hF.old 1 rfl
    have cb := cell_later hJ.bel (S5.out.cel (b1) 0 (.slice a1 n1 c1))
    have cc := cell_later hJ.bel (S5.out.cel (b1) 1 (.slice d1 m1 g1))
    exact run_val (v := .agg #[.slice a1 n1 c1, .slice d1 m1 g1]) (hF.wants 59 HN HG _ 16 true true rfl rfl (hP ⟨16, .guard⟩ (by simp) rfl) (hJ.sp 16 (hP ⟨16, .guard⟩ (by simp) rfl))) (by simp [execOp, go_sem, q1, cb, cc]) ⟨_, rfl, hJ.step hL rfl (Below.refl _ _) (by exact ((S5.out.fr (.agg #[.slice a1 n1 c1, .slice d1 m1 g1]) (3) (2)).mono hJ.bel))⟩
  · intro L vs a w' hJ hF hP hL
    have q3 : (a.tmps[3]?).getD undef = .pointer (some ⟨b2, 0, none⟩) := hF.old 3 rfl
    have cb := cell_later hJ.bel (S5.out.cel (b2) 0 (.slice a2 n2 c2))
    have cc := cell_later hJ.bel (S5.out.cel (b2) 1 (.slice d2 m2 g2))
    exact run_val (v := .agg #[.slice a2 n2 c2, .slice d2 m2 g2]) (hF.wants 59 HN HG _ 16 true true rfl rfl (hP ⟨16, .guard⟩ (by simp) rfl) (hJ.sp 16 (hP ⟨16, .guard⟩ (by simp) rfl))) (by simp [execOp, go_sem, q3, cb, cc]) ⟨_, rfl, hJ.step hL rfl (Below.refl _ _) (by exact ((S5.out.fr (.agg #[.slice a2 n2 c2, .slice d2 m2 g2]) (1) (3)).mono hJ.bel))⟩
  · intro L vs a w' hJ hF hP hL
    have p17 : L 17 = true := hP ⟨17, .data⟩ (by simp) rfl
    have s17 : Rt w' (vs 17) (3) (2) := hJ.sp 17 p17
    have q43 := hF.slot 17 43 rfl p17
    have p18 : L 18 = true := hP ⟨18, .data⟩ (by simp) rfl
    have s18 : Rt w' (vs 18) (1) (3) := hJ.sp 18 p18
    have q44 := hF.slot 18 44 rfl p18
    refine run_call (f := 27) (args := #[vs 17, vs 18]) (hF.wants 59 HN HG _ 16 true true rfl rfl (hP ⟨16, .guard⟩ (by simp) rfl) (hJ.sp 16 (hP ⟨16, .guard⟩ (by simp) rfl))) (by simp [go_sem, q43, q44]) (told_more _ _ _ s17 s18) ?_
    rintro e w2 ⟨rfl, hb⟩
    exact ⟨_, rfl, _, rfl, hJ.step hL rfl hb (by exact rfl)⟩
  · intro L vs a w' hJ hF hP hL
    have p19 : L 19 = true := hP ⟨19, .data⟩ (by simp) rfl
    have s19 : vs 19 = .int .i64 1 := hJ.sp 19 p19
    have q45 := hF.slot 19 45 rfl p19
    exact run_val (v := .bool true) (hF.wants 59 HN HG _ 16 true true rfl rfl (hP ⟨16, .guard⟩ (by simp) rfl) (hJ.sp 16 (hP ⟨16, .guard⟩ (by simp) rfl))) (by simp [execOp, go_sem, q45, s19]) ⟨_, rfl, hJ.step hL rfl (Below.refl _ _) (by exact rfl)⟩
  · intro L vs a w' hJ hF hP hL
    have p16 : L 16 = true := hP ⟨16, .data⟩ (by simp) rfl
    have s16 : vs 16 = .bool true := hJ.sp 16 p16
    have q42 := hF.slot 16 42 rfl p16
    have p20 : L 20 = true := hP ⟨20, .data⟩ (by simp) rfl
    have s20 : vs 20 = .bool true := hJ.sp 20 p20
    have q46 := hF.slot 20 46 rfl p20
    exact run_val (v := .bool true) rfl (by simp [execOp, go_sem, q42, s16, q46, s20]) ⟨_, rfl, hJ.step hL rfl (Below.refl _ _) (by exact rfl)⟩
  · intro L vs a w' hJ hF hP hL
    have p21 : L 21 = true := hP ⟨21, .data⟩ (by simp) rfl
    have s21 : vs 21 = .bool true := hJ.sp 21 p21
    have q47 := hF.slot 21 47 rfl p21
    exact run_val (v := .bool true) rfl (by simp [execOp, go_sem, q47, s21]) ⟨_, rfl, hJ.step hL rfl (Below.refl _ _) (by exact rfl)⟩
  · intro L vs a w' hJ hF hP hL
    have q5 : (a.tmps[5]?).getD undef = .pointer (some ⟨b2 + 1, 0, none⟩) := hF.old 5 rfl
    have cb := cell_later hJ.bel (S5.out.cel (b2 + 1) 0 (.slice none 0 0))
    have cc := cell_later hJ.bel (S5.out.cel (b2 + 1) 1 (.slice none 0 0))
    exact run_val (v := .agg #[.slice none 0 0, .slice none 0 0]) (hF.wants 59 HN HG _ 22 true true rfl rfl (hP ⟨22, .guard⟩ (by simp) rfl) (hJ.sp 22 (hP ⟨22, .guard⟩ (by simp) rfl))) (by simp [execOp, go_sem, q5, cb, cc]) ⟨_, rfl, hJ.step hL rfl (Below.refl _ _) (by exact ((S5.out.fr (.agg #[.slice none 0 0, .slice none 0 0]) (0) (1)).mono hJ.bel))⟩
  · intro L vs a w' hJ hF hP hL
    have q3 : (a.tmps[3]?).getD undef = .pointer (some ⟨b2, 0, none⟩) := hF.old 3 rfl
    have cb := cell_later hJ.bel (S5.out.cel (b2) 0 (.slice a2 n2 c2))
    have cc := cell_later hJ.bel (S5.out.cel (b2) 1 (.slice d2 m2 g2))
    exact run_val (v := .agg #[.slice a2 n2 c2, .slice d2 m2 g2]) (hF.wants 59 HN HG _ 22 true true rfl rfl (hP ⟨22, .guard⟩ (by simp) rfl) (hJ.sp 22 (hP ⟨22, .guard⟩ (by simp) rfl))) (by simp [execOp, go_sem, q3, cb, cc]) ⟨_, rfl, hJ.step hL rfl (Below.refl _ _) (by exact ((S5.out.fr (.agg #[.slice a2 n2 c2, .slice d2 m2 g2]) (1) (3)).mono hJ.bel))⟩
  · intro L vs a w' hJ hF hP hL
    have p23 : L 23 = true := hP ⟨23, .data⟩ (by simp) rfl
    have s23 : Rt w' (vs 23) (0) (1) := hJ.sp 23 p23
    have q49 := hF.slot 23 49 rfl p23
    have p24 : L 24 = true := hP ⟨24, .data⟩ (by simp) rfl
    have s24 : Rt w' (vs 24) (1) (3) := hJ.sp 24 p24
    have q50 := hF.slot 24 50 rfl p24
    refine run_call (f := 27) (args := #[vs 23, vs 24]) (hF.wants 59 HN HG _ 22 true true rfl rfl (hP ⟨22, .guard⟩ (by simp) rfl) (hJ.sp 22 (hP ⟨22, .guard⟩ (by simp) rfl))) (by simp [go_sem, q49, q50]) (told_less _ _ _ s23 s24) ?_
    rintro e w2 ⟨rfl, hb⟩
    exact ⟨_, rfl, _, rfl, hJ.step hL rfl hb (by exact rfl)⟩
  · intro L vs a w' hJ hF hP hL
    have p25 : L 25 = true := hP ⟨25, .data⟩ (by simp) rfl
    have s25 : vs 25 = .int .i64 (-1) := hJ.sp 25 p25
    have q51 := hF.slot 25 51 rfl p25
    exact run_val (v := .bool true) (hF.wants 59 HN HG _ 22 true true rfl rfl (hP ⟨22, .guard⟩ (by simp) rfl) (hJ.sp 22 (hP ⟨22, .guard⟩ (by simp) rfl))) (by simp [execOp, go_sem, q51, s25]) ⟨_, rfl, hJ.step hL rfl (Below.refl _ _) (by exact rfl)⟩
  · intro L vs a w' hJ hF hP hL
    have p22 : L 22 = true := hP ⟨22, .data⟩ (by simp) rfl
    have s22 : vs 22 = .bool true := hJ.sp 22 p22
    have q48 := hF.slot 22 48 rfl p22
    have p26 : L 26 = true := hP ⟨26, .data⟩ (by simp) rfl
    have s26 : vs 26 = .bool true := hJ.sp 26 p26
    have q52 := hF.slot 26 52 rfl p26
    exact run_val (v := .bool true) rfl (by simp [execOp, go_sem, q48, s22, q52, s26]) ⟨_, rfl, hJ.step hL rfl (Below.refl _ _) (by exact rfl)⟩
  · intro L vs a w' hJ hF hP hL
    have p27 : L 27 = true := hP ⟨27, .data⟩ (by simp) rfl
    have s27 : vs 27 = .bool true := hJ.sp 27 p27
    have q53 := hF.slot 27 53 rfl p27
    exact run_val (v := .bool true) rfl (by simp [execOp, go_sem, q53, s27]) ⟨_, rfl, hJ.step hL rfl (Below.refl _ _) (by exact rfl)⟩
  · intro L vs a w' hJ hF hP hL
    have q5 : (a.tmps[5]?).getD undef = .pointer (some ⟨b2 + 1, 0, none⟩) := hF.old 5 rfl
    have cb := cell_later hJ.bel (S5.out.cel (b2 + 1) 0 (.slice none 0 0))
    have cc := cell_later hJ.bel (S5.out.cel (b2 + 1) 1 (.slice none 0 0))
    exact run_val (v := .agg #[.slice none 0 0, .slice none 0 0]) (hF.wants 59 HN HG _ 28 true true rfl rfl (hP ⟨28, .guard⟩ (by simp) rfl) (hJ.sp 28 (hP ⟨28, .guard⟩ (by simp) rfl))) (by simp [execOp, go_sem, q5, cb, cc]) ⟨_, rfl, hJ.step hL rfl (Below.refl _ _) (by exact ((S5.out.fr (.agg #[.slice none 0 0, .slice none 0 0]) (0) (1)).mono hJ.bel))⟩
  · intro L vs a w' hJ hF hP hL
    refine run_call (f := 43) (args := #[]) (hF.wants 59 HN HG _ 28 true true rfl rfl (hP ⟨28, .guard⟩ (by simp) rfl) (hJ.sp 28 (hP ⟨28, .guard⟩ (by simp) rfl))) (by simp [go_sem]) (rzero2_any _) ?_
    rintro e w2 ⟨v, rfl, hv, hb⟩
    exact ⟨_, rfl, _, rfl, hJ.step hL rfl hb (by exact hv)⟩
  · intro L vs a w' hJ hF hP hL
    have p29 : L 29 = true := hP ⟨29, .data⟩ (by simp) rfl
    have s29 : Rt w' (vs 29) (0) (1) := hJ.sp 29 p29
    have q55 := hF.slot 29 55 rfl p29
    have p30 : L 30 = true := hP ⟨30, .data⟩ (by simp) rfl
    have s30 : RRt w' (vs 30) (0) (1) := hJ.sp 30 p30
    have q56 := hF.slot 30 56 rfl p30
    refine run_call (f := 11) (args := #[vs 29, vs 30]) (hF.wants 59 HN HG _ 28 true true rfl rfl (hP ⟨28, .guard⟩ (by simp) rfl) (hJ.sp 28 (hP ⟨28, .guard⟩ (by simp) rfl))) (by simp [go_sem, q55, q56]) (rsame_true _ _ 0 1 _ s29 s30 (rs_few (by omega)) (rs_few (by omega))) ?_
    rintro e w2 ⟨rfl, hb⟩
    exact ⟨_, rfl, _, rfl, hJ.step hL rfl hb (by exact rfl)⟩
  · intro L vs a w' hJ hF hP hL
    have p28 : L 28 = true := hP ⟨28, .data⟩ (by simp) rfl
    have s28 : vs 28 = .bool true := hJ.sp 28 p28
    have q54 := hF.slot 28 54 rfl p28
    have p31 : L 31 = true := hP ⟨31, .data⟩ (by simp) rfl
    have s31 : vs 31 = .bool true := hJ.sp 31 p31
    have q57 := hF.slot 31 57 rfl p31
    exact run_val (v := .bool true) rfl (by simp [execOp, go_sem, q54, s28, q57, s31]) ⟨_, rfl, hJ.step hL rfl (Below.refl _ _) (by exact rfl)⟩
  · intro L vs a w' hJ hF hP hL
    have p32 : L 32 = true := hP ⟨32, .data⟩ (by simp) rfl
    have s32 : vs 32 = .bool true := hJ.sp 32 p32
    have q58 := hF.slot 32 58 rfl p32
    exact run_val (v := .bool true) rfl (by simp [execOp, go_sem, q58, s32]) ⟨_, rfl, hJ.step hL rfl (Below.refl _ _) (by exact rfl)⟩
  intro L vs w' hA hJ
  have s33 : vs 33 = .bool true := hJ.sp 33 (hA 33 (by simp))
  simp only [putL, Act.put, List.setIfInBounds_toArray, List.set_cons_zero, List.set_cons_succ, Nat.reduceAdd]
  simp only [s33]
  go_wp2_with fail
  go_ret
  exact ⟨rfl, (S5.out.go hJ.bel).bel⟩
end Go.Proofs.YtkhdapmipcghoaaDoor
namespace Go.Proofs.YtkhdapmipcghoaaDoor
open Go.RowKit
set_option maxRecDepth 100000
set_option linter.unusedVariables false
/-- The first n cells of block g are bytes that may be written. -/
def Bts (w : World) (g n : Nat) : Prop := ∀ i, i < n → (∃ z : Int, w.cell? ⟨g, i, none⟩ = some (.int .u8 z)) ∧ w.frozen? ⟨g, i, none⟩ = false
theorem Bts.mono {w w' : World} {g n : Nat} (h : Bts w g n) (hb : Below w.heap.size w w') : Bts w' g n := fun i hi => by
  obtain ⟨⟨z, hz⟩, hf⟩ := h i hi
  exact ⟨⟨z, cell_later hb hz⟩, (hb.frozen (World.block_lt_of_cell? _ _ hz)).trans hf⟩
theorem Bts.set {w : World} {g n : Nat} (h : Bts w g n) {p : Addr} (hp : ∀ k q, w.cell? p ≠ some (.int k q)) (u : Value) : Bts (w.setCell p u) g n := fun i hi => by
  obtain ⟨⟨z, hz⟩, hf⟩ := h i hi
  have hne : (⟨g, i, none⟩ : Addr) ≠ p := fun e => hp _ _ (e ▸ hz)
  exact ⟨⟨z, (World.cell?_setCell_other (h := hne.symm) ..).trans hz⟩, by simp [World.frozen?_setCell, hf]⟩
theorem Bts.put {w : World} {g n : Nat} (h : Bts w g n) (p : Addr) (e : Int) : Bts (w.setCell p (.int .u8 e)) g n := fun i hi => by
  obtain ⟨⟨z, hz⟩, hf⟩ := h i hi
  refine ⟨?_, by simp [World.frozen?_setCell, hf]⟩
  by_cases hne : p = ⟨g, i, none⟩
  · subst hne
    exact ⟨e, by simp [go_sem, hz]⟩
  · exact ⟨z, (World.cell?_setCell_other (h := hne) ..).trans hz⟩
theorem BRow.bts {w : World} {g n : Nat} {E : Nat → Nat} (h : BRow w g n E) : Bts w g n := fun i hi => ⟨⟨_, h.cell hi⟩, h.frozen i⟩
theorem ByteRow.bts {w : World} {g c n : Nat} {E : Nat → Nat} (h : ByteRow w g c n E) : Bts w g n := fun i hi => ⟨⟨_, h.cell hi⟩, h.frozen i⟩
theorem Bts.list {w : World} {g n : Nat} (h : Bts w g n) : ∃ E : Nat → Int, ∀ i, i < n → w.cell? ⟨g, i, none⟩ = some (.int .u8 (E i)) := by
  refine ⟨fun i => if hi : i < n then Classical.choose (h i hi).1 else 0, fun i hi => ?_⟩
  simp only [dif_pos hi]
  exact Classical.choose_spec (h i hi).1
theorem IsNat.byte {w : World} {v : Value} {x : Nat} (h : IsNat w v x) {p : Addr} {z : Int} (hp : w.cell? p = some (.int .u8 z)) (u : Value) : IsNat (w.setCell p u) v x := by
  obtain ⟨a, n, cap, F, rfl, ⟨s1, s2, s3, s4⟩, h0, h1, hv⟩ := h
  refine ⟨a, n, cap, F, rfl, ⟨s1, s2, s3, s4.imp id ?_⟩, h0, h1, hv⟩
  rintro ⟨b, o, rfl, hw⟩
  refine ⟨b, o, rfl, fun i hi => ?_⟩
  have hne : (⟨b, o + i, none⟩ : Addr) ≠ p := fun e => by
    have h2 := hw i hi
    rw [e, hp] at h2
    simp at h2
  exact (World.cell?_setCell_other (h := hne.symm) ..).trans (hw i hi)
theorem RNat.byte {w : World} {v : Value} {x : Nat} (h : RNat w v x) {p : Addr} {z : Int} (hp : w.cell? p = some (.int .u8 z)) (u : Value) : RNat (w.setCell p u) v x := by
  obtain ⟨a, n, cap, F, rfl, ⟨s1, s2, s3, s4⟩, h0, h1, hv⟩ := h
  refine ⟨a, n, cap, F, rfl, ⟨s1, s2, s3, s4.imp id ?_⟩, h0, h1, hv⟩
  rintro ⟨b, o, rfl, hw⟩
  refine ⟨b, o, rfl, fun i hi => ?_⟩
  have hne : (⟨b, o + i, none⟩ : Addr) ≠ p := fun e => by
    have h2 := hw i hi
    rw [e, hp] at h2
    simp at h2
  exact (World.cell?_setCell_other (h := hne.symm) ..).trans (hw i hi)
theorem Rt.byte {w : World} {v : Value} {x y : Nat} (h : Rt w v x y) {p : Addr} {z : Int} (hp : w.cell? p = some (.int .u8 z)) (u : Value) : Rt (w.setCell p u) v x y := by
  obtain ⟨⟨a, n, c, a', n', c', e, h1, h2⟩, h3, h4⟩ := h
  exact ⟨⟨a, n, c, a', n', c', e, h1.byte hp u, h2.byte hp u⟩, h3, h4⟩
theorem RRt.byte {w : World} {v : Value} {x y : Nat} (h : RRt w v x y) {p : Addr} {z : Int} (hp : w.cell? p = some (.int .u8 z)) (u : Value) : RRt (w.setCell p u) v x y := by
  obtain ⟨a, n, c, a', n', c', e, h1, h2⟩ := h
  exact ⟨a, n, c, a', n', c', e, h1.byte hp u, h2.byte hp u⟩
/-- A byte is written over: numbers, fractions and what lies in cells that hold slices stay. -/
theorem SX.byte {w0 w : World} {F G : List (Value × Nat × Nat)} {C : List (Nat × Nat × Value)} (h : SX w0 w [] [] F G C) {p : Addr} {z : Int} (hp : w.cell? p = some (.int .u8 z)) (hlo : w0.heap.size ≤ p.block) (hC : ∀ q ∈ C, ∃ a n c, q.2.2 = .slice a n c) (u : Value) : SX w0 (w.setCell p u) [] [] F G C :=
  ⟨(fun _ h => by cases h), (fun _ h => by cases h), fun q hq => (h.frs q hq).byte hp u, fun q hq => (h.rfrs q hq).byte hp u, (fun q hq => by
    obtain ⟨a, n, c, e⟩ := hC q hq
    have h2 := h.cells q hq
    have hne : p ≠ ⟨q.1, q.2.1, none⟩ := fun e2 => by
      rw [← e2, hp, e] at h2
      simp at h2
    exact (World.cell?_setCell_other (h := hne) ..).trans h2), h.bel.setCell hlo u⟩
/-- Only what is still wanted. -/
theorem SX.sub {w0 w : World} {N M : List (Value × Nat)} {F G : List (Value × Nat × Nat)} {C : List (Nat × Nat × Value)} (h : SX w0 w N M F G C) {F' G' : List (Value × Nat × Nat)} {C' : List (Nat × Nat × Value)} (hF : ∀ p ∈ F', p ∈ F) (hG : ∀ p ∈ G', p ∈ G) (hC : ∀ p ∈ C', p ∈ C) : SX w0 w [] [] F' G' C' :=
  ⟨(fun _ h => by cases h), (fun _ h => by cases h), fun p hp => h.frs p (hF p hp), fun p hp => h.rfrs p (hG p hp), fun p hp => h.cells p (hC p hp), h.bel⟩
/-- Bytes of the call's own, spare room none. -/
def OwnB (w : World) (base : Nat) (v : Value) (n : Nat) : Prop := ∃ g, v = .slice (some ⟨g, 0, none⟩) n n ∧ base ≤ g ∧ Bts w g n
def sOwn (base n : Nat) : Spec := ⟨fun w v => OwnB w base v n, ⟨fun ⟨g, e, h1, h2⟩ hb => ⟨g, e, h1, h2.mono hb⟩, fun ⟨g, e, h1, h2⟩ hp u => ⟨g, e, h1, h2.set hp u⟩⟩⟩
theorem own_of {w w2 : World} {v : Value} {n g base : Nat} {E : Nat → Nat} (e : v = .slice (some ⟨g, 0, none⟩) n n) (hg : w.heap.size ≤ g) (hb : base ≤ w.heap.size) (h : BRow w2 g n E) : OwnB w2 base v n := ⟨g, e, Nat.le_trans hb hg, h.bts⟩
theorem cells_any {w : World} {g m : Nat} {N : Nat → Int} (h : ∀ j, j < m → w.cell? ⟨g, j, none⟩ = some (.int .u8 (N j))) : ∀ j u, ((List.range m).map fun j => Value.int .u8 (N j))[j]? = some u → w.cell? ((⟨g, 0, none⟩ : Addr).add j) = some u := by
  intro j u hj
  have hjm : j < m := by
    have := (List.getElem?_eq_some_iff.1 hj).1
    simpa using this
  rw [List.getElem?_map, List.getElem?_range hjm] at hj
  have h3 : (⟨g, 0, none⟩ : Addr).add j = ⟨g, j, none⟩ := by unfold Addr.add; split <;> simp_all
  rw [h3, h j hjm]
  exact hj
/-- Three bytes more behind bytes without spare room: new memory. -/
theorem wpList_grow3 {w : World} {ops : Array Oper} {rest : List Oper} {o : Oper} {ac : Act} {Q : Exit → Act → World → Prop} (hgd : o.guard = none) (s x : Operand)
    (ho : o.op = .call { callee := .builtin .append, args := #[s, x], argTypes := #[22, 22] }) (g L : Nat) (hs : ac.eval s = .slice (some ⟨g, 0, none⟩) L L) (hrow : Bts w g L)
    (ad : Nat) (hx : ac.eval x = .slice (some ⟨ad, 0, none⟩) 3 3) (hc : ∀ j, j < 3 → w.cell? ⟨ad, j, none⟩ = some (.int .u8 ((j : Int) + 1))) (hn : L ≤ 1000)
    (h : ∀ g' c' w', w.grownBy w' none → wpList Tryd.prog ops Q rest (ac.put o.dst (.slice (some ⟨g', 0, none⟩) (L + 3) c')) w') : wpList Tryd.prog ops Q (o :: rest) ac w := by
  obtain ⟨i, hi, hzz, hsz, hb⟩ := info_parts Tryd.info5
  obtain ⟨E, hE⟩ := hrow.list
  refine wpList_append_grows w hgd s x 22 ho 5 i _ 1 1 Tryd.underlying22 hi hzz hsz hb rfl (by omega) (some ⟨g, 0, none⟩) L L ((List.range L).map fun j => Value.int .u8 (E j)) hs (fun e => by cases e) (by simp) (fun b hb => ?_) ⟨ad, 0, none⟩ 3 3 ((List.range 3).map fun (j : Nat) => Value.int .u8 ((j : Int) + 1)) hx (by simp) (cells_any (N := fun (j : Nat) => (j : Int) + 1) hc) (fun u hu => by simp at hu; obtain ⟨j, _, rfl⟩ := hu; rfl) (by omega) (by simp only [maxLen]; omega) (by omega) (fun v' w' hO hg => ?_)
  · cases hb
    exact cells_any hE
  · rcases hO.2 with ⟨_, h0⟩ | ⟨g', c', cur, rfl, _⟩
    · omega
    · exact h g' c' w' hg
theorem add_same {p q x y : Nat} (hq : 0 < q) (hy : 0 < y) (h1 : Nat.gcd p q = 1) (h2 : Nat.gcd x y = 1) : (p * y + x * q) / Nat.gcd (p * y + x * q) (q * y) = addP p q x y ∧ (q * y) / Nat.gcd (p * y + x * q) (q * y) = addQ p q x y := by
  have low := add_low hq hy h1 h2 (A := addA p q x y) rfl rfl
  have hD : 0 < q * y := Nat.mul_pos hq hy
  obtain ⟨t1, t2, t3⟩ := low_terms (p * y + x * q) (q * y) hD
  refine low_one t1 low.2.1 t3 low.2.2 ?_
  have g0 : 0 < Nat.gcd q y := Nat.gcd_pos_of_pos_left _ hq
  have cross : addP p q x y * (q * y) = (p * y + x * q) * addQ p q x y := by
    obtain ⟨d0, _, _⟩ := low
    obtain ⟨A, hA⟩ : ∃ A, A = addA p q x y := ⟨_, rfl⟩
    rw [← hA] at d0
    have hP : addP p q x y = A / Nat.gcd A (Nat.gcd q y) := by rw [hA]; rfl
    have hQ : addQ p q x y = q / Nat.gcd q y * (y / Nat.gcd A (Nat.gcd q y)) := by rw [hA]; rfl
    rw [hP, hQ]
    obtain ⟨a, ha⟩ := Nat.gcd_dvd_left q y
    obtain ⟨b, hb⟩ := Nat.gcd_dvd_right q y
    have hA2 : A = p * (y / Nat.gcd q y) + x * (q / Nat.gcd q y) := hA
    obtain ⟨d, hd⟩ : ∃ d, d = Nat.gcd A (Nat.gcd q y) := ⟨_, rfl⟩
    obtain ⟨A', hA'⟩ : d ∣ A := by rw [hd]; exact Nat.gcd_dvd_left _ _
    obtain ⟨y', hy'⟩ : d ∣ y := by rw [hd]; exact Nat.dvd_trans (Nat.gcd_dvd_right _ _) (Nat.gcd_dvd_right q y)
    rw [← hd] at d0
    rw [← hd]
    obtain ⟨g, hg⟩ : ∃ g, g = Nat.gcd q y := ⟨_, rfl⟩
    rw [← hg] at ha hb hA2 g0
    rw [← hg]
    have e1 : q / g = a := by rw [ha, Nat.mul_div_cancel_left _ g0]
    have e2 : y / g = b := by rw [hb, Nat.mul_div_cancel_left _ g0]
    have e3 : A / d = A' := by rw [hA', Nat.mul_div_cancel_left _ d0]
    have e4 : y / d = y' := by rw [hy', Nat.mul_div_cancel_left _ d0]
    rw [e1, e2] at hA2
    rw [e1, e3, e4]
    have e5 : p * y + x * q = g * A := by rw [hA2, ha, hb]; grind
    rw [e5, hA', ha, hy']
    grind
  refine Nat.eq_of_mul_eq_mul_right hD ?_
  obtain ⟨u, hu⟩ : ∃ u, u = (p * y + x * q) / Nat.gcd (p * y + x * q) (q * y) := ⟨_, rfl⟩
  obtain ⟨v, hv⟩ : ∃ v, v = q * y / Nat.gcd (p * y + x * q) (q * y) := ⟨_, rfl⟩
  rw [← hu, ← hv] at t2
  rw [← hu, ← hv]
  have e1 : u * addQ p q x y * (q * y) = u * (q * y) * addQ p q x y := by grind
  have e2 : addP p q x y * v * (q * y) = addP p q x y * (q * y) * v := by grind
  rw [e1, e2, t2, cross]
  grind
theorem add_15 {p q x y : Nat} (hp : p < P 15) (hq : q < P 15) (hx : x < P 15) (hy : y < P 15) : RS (addP p q x y) ∧ RS (addQ p q x y) := by
  have h1 : addA p q x y < P 31 := by
    have e1 : p * (y / Nat.gcd q y) < P 30 := by
      rw [show 30 = 15 + 15 from rfl, P_add]
      exact Nat.mul_lt_mul'' hp (Nat.lt_of_le_of_lt (Nat.div_le_self _ _) hy)
    have e2 : x * (q / Nat.gcd q y) < P 30 := by
      rw [show 30 = 15 + 15 from rfl, P_add]
      exact Nat.mul_lt_mul'' hx (Nat.lt_of_le_of_lt (Nat.div_le_self _ _) hq)
    exact P_twice e1 e2
  have h2 : addQ p q x y < P 30 := by
    rw [show 30 = 15 + 15 from rfl, P_add]
    exact Nat.mul_lt_mul'' (Nat.lt_of_le_of_lt (Nat.div_le_self _ _) hq) (Nat.lt_of_le_of_lt (Nat.div_le_self _ _) hy)
  exact ⟨⟨Nat.lt_of_le_of_lt (Nat.div_le_self _ _) (Nat.lt_trans h1 (P_lt (by omega)))⟩, ⟨Nat.lt_trans h2 (P_lt (by omega))⟩⟩
/-- A nought ahead of n bytes. -/
def ahead (D : Nat → Nat) : Nat → Nat := fun j => if j < 1 then 0 else D (j - 1)
theorem ahead_BV (D : Nat → Nat) (n : Nat) : BV (ahead D) (1 + n) = BV D n := by
  rw [BV_drop (k := 1) (fun i hi => by unfold ahead; rw [if_pos hi]) n]
  exact BV_congr fun i _ => by
    show ahead D (1 + i) = D i
    unfold ahead
    rw [if_neg (by omega), Nat.add_sub_cancel_left]
theorem or_zero (w : World) (base : Nat) (h : base ≤ w.heap.size) (D : Nat → Nat) : OR (w.alloc (.cells #[.int .u8 0] 5)) 5 base (.slice (some ⟨w.heap.size, 0, none⟩) 1 1) 1 (bt (ahead D)) :=
  .inr ⟨w.heap.size, 1, _, rfl, h, Nat.le_refl _, by simp only [maxLen]; omega, World.rowIs_alloc w #[.int .u8 0] 5 (fun _ => .int .u8 0) (fun i hi => by
    obtain rfl : i = 0 := by simpa using hi
    rfl), fun i hi => by
    obtain rfl : i = 0 := by omega
    rfl⟩
/-- What is appended to the nought. -/
theorem wpList_ahead {w : World} {ops : Array Oper} {rest : List Oper} {o : Oper} {ac : Act} {Q : Exit → Act → World → Prop} (hgd : o.guard = none) (s x : Operand)
    (ho : o.op = .call { callee := .builtin .append, args := #[s, x], argTypes := #[22, 22] }) (base : Nat) (v : Value) (D : Nat → Nat) (hs : ac.eval s = v) (hown : OR w 5 base v 1 (bt (ahead D)))
    (a : Option Addr) (m k : Nat) (hx : ac.eval x = .slice a m k) (hB : BSl w a m k D) (hnil : a = none → k = 0) (hm : m ≤ 120) (hbase : base ≤ w.heap.size)
    (h : ∀ g c w', base ≤ g → c ≤ maxLen → ByteRow w' g c (1 + m) (ahead D) → Below base w w' → wpList Tryd.prog ops Q rest (ac.put o.dst (.slice (some ⟨g, 0, none⟩) (1 + m) c)) w') : wpList Tryd.prog ops Q (o :: rest) ac w := by
  rcases a with _ | ad
  · obtain rfl := hnil rfl
    have hn0 : m = 0 := by
      rcases hB.2.2.2 with e | ⟨b, o, e, _⟩
      · exact e
      · cases e
    subst hn0
    obtain ⟨i5, hi5, hz5, hs5, hb5⟩ := info_parts Tryd.info5
    refine wpList_append_own_none hgd s x 22 ho base 5 i5 1 Tryd.underlying22 hi5 v 1 _ hs hown.owns hx ?_
    rcases hown with ⟨_, h0⟩ | ⟨g, c, f, rfl, k1, k2, k3, k4, k5⟩
    · omega
    · exact h g c w k1 k3 ⟨⟨f, k4, k5⟩, k2⟩ (Below.refl _ _)
  · have hcs : ∀ j, j < m → w.cell? (ad.add j) = some (bt D j) := by
      intro j hj
      obtain ⟨b, o, e, hw⟩ := hB.2.2.2.resolve_left (by omega)
      cases e
      have h3 : (⟨b, o, none⟩ : Addr).add j = ⟨b, o + j, none⟩ := by unfold Addr.add; split <;> simp_all
      rw [h3]
      exact hw j hj
    refine wpList_append_bs hgd s x ho base v 1 (ahead D) hs hown ad m k D hx hcs (by omega) hbase ?_
    intro v' w' hO hg
    rcases hO with ⟨_, h0⟩ | ⟨g, c, f, rfl, k1, k2, k3, k4, k5⟩
    · omega
    · refine h g c w' k1 k3 ⟨⟨f, k4, fun i hi => ?_⟩, k2⟩ ((Below.refl _ _).grown hg hbase (fun k hk => own_ge hown hk))
      rw [k5 i hi]
      show Value.int .u8 (((if i < 1 then ahead D i else D (i - 1) : Nat)) : Int) = Value.int .u8 ((ahead D i : Nat) : Int)
      unfold ahead
      by_cases hi1 : i < 1
      · rw [if_pos hi1, if_pos hi1]
      · rw [if_neg hi1, if_neg hi1]
theorem ahead_lt {D : Nat → Nat} {n : Nat} (h : ∀ i, i < n → D i < 256) (i : Nat) (hi : i < 1 + n) : ahead D i < 256 := by
  unfold ahead
  split
  · omega
  · exact h _ (by omega)
/-- What a law of fractions does with a slice of bytes, its bytes named. -/
theorem fed_at {w : World} {a : Option Addr} {len cap : Nat} {D : Nat → Nat} (h : BSl w a len cap D) : Fed w a len cap (Min.min len 120) (BV D (Min.min len 120)) := by
  refine ⟨fun w' hb => ?_, fun w' hb => ?_, fun w' hb => ?_, ?_⟩
  · refine (rcut_any a len cap D w' (h.mono hb)).mono ?_
    rintro e w2 ⟨rfl, rfl⟩
    exact ⟨rfl, bel_refl _⟩
  · exact fromBytes_any _ _ _ _ _ ((h.min 120).mono hb) (by omega)
  · exact rfromBytes_any _ _ _ _ _ ((h.min 120).mono hb) (by omega)
  · exact BV_P' (h.min 120).2.2.1 (by omega)
end Go.Proofs.YtkhdapmipcghoaaDoor
namespace Go.Proofs.YtkhdapmipcghoaaDoor
open Go.RowKit
set_option maxRecDepth 100000
set_option linter.unusedVariables false
/-- p / q, in lowest terms, is N / D; its parts have at most n words. -/
structure Fc (p q N D n : Nat) : Prop where
  low : Nat.gcd p q = 1
  pos : 0 < q
  dpos : 0 < D
  val : p * D = N * q
  s1 : p < P n
  s2 : q < P n
theorem Fc.rs1 {p q N D n : Nat} (h : Fc p q N D n) (hn : n ≤ 90) : RS p := ⟨Nat.lt_of_lt_of_le h.s1 (P_le hn)⟩
theorem Fc.rs2 {p q N D n : Nat} (h : Fc p q N D n) (hn : n ≤ 90) : RS q := ⟨Nat.lt_of_lt_of_le h.s2 (P_le hn)⟩
theorem Fc.own {p q n : Nat} (h1 : Nat.gcd p q = 1) (h2 : 0 < q) (h3 : p < P n) (h4 : q < P n) : Fc p q p q n := ⟨h1, h2, h2, rfl, h3, h4⟩
theorem add_cross {p q x y : Nat} (hq : 0 < q) (hy : 0 < y) (h1 : Nat.gcd p q = 1) (h2 : Nat.gcd x y = 1) : addP p q x y * (q * y) = (p * y + x * q) * addQ p q x y := by
  obtain ⟨e1, e2⟩ := add_same hq hy h1 h2
  obtain ⟨_, t2, _⟩ := low_terms (p * y + x * q) (q * y) (Nat.mul_pos hq hy)
  rw [e1, e2] at t2
  exact t2
theorem mulP_lt {x y n m : Nat} (h : x < P n) (k : y < P m) : x * y < P (n + m) := by
  rw [P_add]
  exact Nat.mul_lt_mul'' h k
theorem P_up {x n m : Nat} (h : x < P n) (hm : n ≤ m) : x < P m := Nat.lt_of_lt_of_le h (P_le hm)
theorem val_add {p q x y N1 D1 N2 D2 A B : Nat} (hq : 0 < q) (hy : 0 < y) (v1 : p * D1 = N1 * q) (v2 : x * D2 = N2 * y) (e : A * (q * y) = (p * y + x * q) * B) : A * (D1 * D2) = (N1 * D2 + N2 * D1) * B := by
  refine Nat.eq_of_mul_eq_mul_right (Nat.mul_pos hq hy) ?_
  have h1 : A * (D1 * D2) * (q * y) = A * (q * y) * (D1 * D2) := by grind
  have h2 : (p * y + x * q) * B * (D1 * D2) = (p * D1 * y * D2 + x * D2 * q * D1) * B := by grind
  rw [h1, e, h2, v1, v2]
  grind
theorem val_sub {p q x y N1 D1 N2 D2 A B : Nat} (hq : 0 < q) (hy : 0 < y) (d1 : 0 < D1) (d2 : 0 < D2) (v1 : p * D1 = N1 * q) (v2 : x * D2 = N2 * y) (hle : x * q ≤ p * y) (e : A * (q * y) = (p * y - x * q) * B) : A * (D1 * D2) = (N1 * D2 - N2 * D1) * B ∧ N2 * D1 ≤ N1 * D2 := by
  have hk : (N1 * D2) * (q * y) = (p * y) * (D1 * D2) := by
    have : (p * y) * (D1 * D2) = p * D1 * y * D2 := by grind
    rw [this, v1]
    grind
  have hk2 : (N2 * D1) * (q * y) = (x * q) * (D1 * D2) := by
    have : (x * q) * (D1 * D2) = x * D2 * q * D1 := by grind
    rw [this, v2]
    grind
  refine ⟨?_, ?_⟩
  · refine Nat.eq_of_mul_eq_mul_right (Nat.mul_pos hq hy) ?_
    have h1 : A * (D1 * D2) * (q * y) = A * (q * y) * (D1 * D2) := by grind
    have h2 : (N1 * D2 - N2 * D1) * B * (q * y) = (N1 * D2 - N2 * D1) * (q * y) * B := by grind
    rw [h1, e, h2, Nat.mul_sub_right_distrib (N1 * D2), hk, hk2, ← Nat.mul_sub_right_distrib]
    grind
  · refine Nat.le_of_mul_le_mul_right (c := q * y) ?_ (Nat.mul_pos hq hy)
    rw [hk, hk2]
    exact Nat.mul_le_mul_right _ hle
theorem val_mul {p q x y N1 D1 N2 D2 A B : Nat} (hq : 0 < q) (hy : 0 < y) (v1 : p * D1 = N1 * q) (v2 : x * D2 = N2 * y) (e : A * (q * y) = p * x * B) : A * (D1 * D2) = N1 * N2 * B := by
  refine Nat.eq_of_mul_eq_mul_right (Nat.mul_pos hq hy) ?_
  have h1 : A * (D1 * D2) * (q * y) = A * (q * y) * (D1 * D2) := by grind
  have h2 : p * x * B * (D1 * D2) = p * D1 * (x * D2) * B := by grind
  rw [h1, e, h2, v1, v2]
  grind
theorem Fc.add {p q N1 D1 n x y N2 D2 m : Nat} (h : Fc p q N1 D1 n) (k : Fc x y N2 D2 m) (hn : n ≤ 90) (hm : m ≤ 90) : ∃ A B, Fc A B (N1 * D2 + N2 * D1) (D1 * D2) (n + m + 1) ∧ (A = addP p q x y ∧ B = addQ p q x y) ∧ ∀ v u w, Rt w v p q → Rt w u x y → Tab w → Calls Tryd.prog 25 #[v, u] w (MakesR w A B) := by
  have low := add_low h.pos k.pos h.low k.low (A := addA p q x y) rfl rfl
  have d1 : y / Nat.gcd q y < P m := Nat.lt_of_le_of_lt (Nat.div_le_self _ _) k.s2
  have d2 : q / Nat.gcd q y < P n := Nat.lt_of_le_of_lt (Nat.div_le_self _ _) h.s2
  have h1 : addA p q x y < P (n + m + 1) := P_twice (mulP_lt h.s1 d1) (by rw [Nat.add_comm n m]; exact mulP_lt k.s1 d2)
  have h2 : addQ p q x y < P (n + m) := mulP_lt d2 (Nat.lt_of_le_of_lt (Nat.div_le_self _ _) k.s2)
  exact ⟨_, _, ⟨low.2.1, low.2.2, Nat.mul_pos h.dpos k.dpos, val_add h.pos k.pos h.val k.val (add_cross h.pos k.pos h.low k.low), Nat.lt_of_le_of_lt (Nat.div_le_self _ _) h1, P_up h2 (by omega)⟩, ⟨rfl, rfl⟩, fun v u w e1 e2 hT => ratAdd_any v u p q x y w e1 e2 (h.rs1 hn) (h.rs2 hn) (k.rs1 hm) (k.rs2 hm) hT⟩
theorem Fc.mul {p q N1 D1 n x y N2 D2 m : Nat} (h : Fc p q N1 D1 n) (k : Fc x y N2 D2 m) (hn : n ≤ 90) (hm : m ≤ 90) : ∃ A B, Fc A B (N1 * N2) (D1 * D2) (n + m) ∧ ∀ v u w, Rt w v p q → Rt w u x y → Tab w → Calls Tryd.prog 28 #[v, u] w (MakesR w A B) := by
  have low := mul_low h.pos k.pos h.low k.low
  exact ⟨_, _, ⟨low.1, low.2.1, Nat.mul_pos h.dpos k.dpos, val_mul h.pos k.pos h.val k.val low.2.2, mulP_lt (Nat.lt_of_le_of_lt (Nat.div_le_self _ _) h.s1) (Nat.lt_of_le_of_lt (Nat.div_le_self _ _) k.s1), mulP_lt (Nat.lt_of_le_of_lt (Nat.div_le_self _ _) h.s2) (Nat.lt_of_le_of_lt (Nat.div_le_self _ _) k.s2)⟩, fun v u w e1 e2 hT => ratMul_any v u p q x y w e1 e2 (h.rs1 hn) (h.rs2 hn) (k.rs1 hm) (k.rs2 hm) hT⟩
theorem Fc.cross {p q N1 D1 n x y N2 D2 m : Nat} (h : Fc p q N1 D1 n) (k : Fc x y N2 D2 m) : (p * y) * (D1 * D2) = (N1 * D2) * (q * y) ∧ (x * q) * (D1 * D2) = (N2 * D1) * (q * y) := by
  constructor
  · have : (p * y) * (D1 * D2) = p * D1 * (y * D2) := by grind
    rw [this, h.val]
    grind
  · have : (x * q) * (D1 * D2) = x * D2 * (q * D1) := by grind
    rw [this, k.val]
    grind
theorem Fc.le {p q N1 D1 n x y N2 D2 m : Nat} (h : Fc p q N1 D1 n) (k : Fc x y N2 D2 m) : x * q ≤ p * y ↔ N2 * D1 ≤ N1 * D2 := by
  obtain ⟨e1, e2⟩ := h.cross k
  have hd := Nat.mul_pos h.dpos k.dpos
  have hq := Nat.mul_pos h.pos k.pos
  rw [← Nat.mul_le_mul_right_iff hd, e1, e2, Nat.mul_le_mul_right_iff hq]
theorem Fc.sub {p q N1 D1 n x y N2 D2 m : Nat} (h : Fc p q N1 D1 n) (k : Fc x y N2 D2 m) (hn : n ≤ 90) (hm : m ≤ 90) (hle : N2 * D1 ≤ N1 * D2) : ∃ A B, Fc A B (N1 * D2 - N2 * D1) (D1 * D2) (n + m) ∧ ∀ v u w, Rt w v p q → Rt w u x y → Tab w → Calls Tryd.prog 26 #[v, u] w (MakesRB w A B true) := by
  have hle' := (h.le k).2 hle
  have low := sub_low h.pos k.pos h.low k.low hle'
  have d1 : y / Nat.gcd q y < P m := Nat.lt_of_le_of_lt (Nat.div_le_self _ _) k.s2
  have d2 : q / Nat.gcd q y < P n := Nat.lt_of_le_of_lt (Nat.div_le_self _ _) h.s2
  have h1 : subA p q x y < P (n + m) := Nat.lt_of_le_of_lt (Nat.sub_le _ _) (mulP_lt h.s1 d1)
  have h2 : subQ p q x y < P (n + m) := mulP_lt d2 (Nat.lt_of_le_of_lt (Nat.div_le_self _ _) k.s2)
  exact ⟨_, _, ⟨low.1, low.2.1, Nat.mul_pos h.dpos k.dpos, (val_sub h.pos k.pos h.dpos k.dpos h.val k.val hle' low.2.2).1, Nat.lt_of_le_of_lt (Nat.div_le_self _ _) h1, h2⟩, fun v u w e1 e2 hT => ratSub_yes v u p q x y w e1 e2 (h.rs1 hn) (h.rs2 hn) (k.rs1 hm) (k.rs2 hm) hle' hT⟩
theorem Fc.sub_no {p q N1 D1 n x y N2 D2 m : Nat} (h : Fc p q N1 D1 n) (k : Fc x y N2 D2 m) (hn : n ≤ 90) (hm : m ≤ 90) (hlt : N1 * D2 < N2 * D1) : ∀ v u w, Rt w v p q → Rt w u x y → Tab w → Calls Tryd.prog 26 #[v, u] w (MakesRB w 0 1 false) := fun v u w e1 e2 hT =>
  ratSub_no v u p q x y w e1 e2 (h.rs1 hn) (h.rs2 hn) (k.rs1 hm) (k.rs2 hm) (Nat.lt_of_not_le fun e => by have := (h.le k).1 e; omega) hT
theorem Fc.zero {p q N D n : Nat} (h : Fc p q N D n) : p = 0 ↔ N = 0 := by
  have h1 := h.val
  have h2 := h.pos
  have h3 := h.dpos
  constructor
  · rintro rfl
    rw [Nat.zero_mul] at h1
    rcases Nat.mul_eq_zero.1 h1.symm with e | e
    · exact e
    · omega
  · rintro rfl
    rw [Nat.zero_mul] at h1
    rcases Nat.mul_eq_zero.1 h1 with e | e
    · exact e
    · omega
theorem Fc.div {p q N1 D1 n x y N2 D2 m : Nat} (h : Fc p q N1 D1 n) (k : Fc x y N2 D2 m) (hn : n ≤ 90) (hm : m ≤ 90) (h0 : 0 < N2) : ∃ A B, Fc A B (N1 * D2) (D1 * N2) (n + m) ∧ ∀ v u w, Rt w v p q → Rt w u x y → Tab w → Calls Tryd.prog 29 #[v, u] w (MakesRB w A B true) := by
  have x0 : 0 < x := Nat.pos_of_ne_zero fun e => by have := k.zero.1 e; omega
  have low := mul_low (p := p) (q := q) (x := y) (y := x) h.pos x0 h.low (by rw [Nat.gcd_comm]; exact k.low)
  exact ⟨_, _, ⟨low.1, low.2.1, Nat.mul_pos h.dpos h0, val_mul (x := y) (y := x) (N2 := D2) (D2 := N2) h.pos x0 h.val (by rw [Nat.mul_comm y, Nat.mul_comm D2]; exact k.val.symm) low.2.2, mulP_lt (Nat.lt_of_le_of_lt (Nat.div_le_self _ _) h.s1) (Nat.lt_of_le_of_lt (Nat.div_le_self _ _) k.s2), mulP_lt (Nat.lt_of_le_of_lt (Nat.div_le_self _ _) h.s2) (Nat.lt_of_le_of_lt (Nat.div_le_self _ _) k.s1)⟩, fun v u w e1 e2 hT => ratDiv_yes v u p q x y w e1 e2 (h.rs1 hn) (h.rs2 hn) (k.rs1 hm) (k.rs2 hm) x0 hT⟩
theorem cmp_scale {a b c d s t : Nat} (hs : 0 < s) (ht : 0 < t) (e1 : a * s = c * t) (e2 : b * s = d * t) : cmpI a b = cmpI c d := by
  have l1 : a < b ↔ c < d := by rw [← Nat.mul_lt_mul_right hs, e1, e2, Nat.mul_lt_mul_right ht]
  have l2 : b < a ↔ d < c := by rw [← Nat.mul_lt_mul_right hs, e1, e2, Nat.mul_lt_mul_right ht]
  unfold cmpI
  by_cases h1 : a < b
  · rw [if_pos h1, if_pos (l1.1 h1)]
  · rw [if_neg h1, if_neg (fun e => h1 (l1.2 e))]
    by_cases h2 : b < a
    · have h3 := l2.1 h2
      rw [if_neg (by omega), if_neg (by omega)]
    · have h3 : ¬ d < c := fun e => h2 (l2.2 e)
      have h4 : ¬ c < d := fun e => h1 (l1.2 e)
      rw [if_pos (by omega), if_pos (by omega)]
theorem Fc.cmp {p q N1 D1 n x y N2 D2 m : Nat} (h : Fc p q N1 D1 n) (k : Fc x y N2 D2 m) (hn : n ≤ 90) (hm : m ≤ 90) {z : Int} (hz : cmpI (N1 * D2) (N2 * D1) = z) : ∀ v u w, Rt w v p q → Rt w u x y → Calls Tryd.prog 27 #[v, u] w fun e w' => e = .returned (.int .i64 z) ∧ Below w.heap.size w w' := fun v u w e1 e2 => by
  have := ratCmp_any v u p q x y w e1 e2 (h.rs1 hn) (h.rs2 hn) (k.rs1 hm) (k.rs2 hm)
  rw [cmp_scale (Nat.mul_pos h.dpos k.dpos) (Nat.mul_pos h.pos k.pos) (h.cross k).1 (h.cross k).2, hz] at this
  exact this
theorem cmpI_same {x y : Nat} (h : x = y) : cmpI x y = 0 := by unfold cmpI; rw [if_neg (by omega), if_pos h]
theorem cmpI_neg (x y : Nat) : cmpI y x = - cmpI x y := by
  unfold cmpI
  by_cases h1 : x < y
  · rw [if_pos h1, if_neg (by omega), if_neg (by omega)]
    rfl
  · by_cases h2 : x = y
    · rw [if_neg h1, if_pos h2, if_neg (by omega), if_pos h2.symm]
      rfl
    · rw [if_neg h1, if_neg h2, if_pos (by omega)]
/-- Three fractions side by side, as Sum is handed them. -/
def tri (a b c : Nat) : Nat → Nat := fun i => if i = 0 then a else if i = 1 then b else c
def Three (w : World) (v : Value) (X Y : Nat → Nat) : Prop := ∃ (g : Nat) (E E' : Nat → Value), v = .slice (some ⟨g, 0, none⟩) 3 3 ∧ g < w.heap.size ∧ ∀ i, i < 3 → w.cell? ⟨g, i * 2, none⟩ = some (E i) ∧ w.cell? ⟨g, i * 2 + 1, none⟩ = some (E' i) ∧ Rt w (.agg #[E i, E' i]) (X i) (Y i)
theorem Three.mono {w w' : World} {v : Value} {X Y : Nat → Nat} (h : Three w v X Y) (hb : Below w.heap.size w w') : Three w' v X Y := by
  obtain ⟨g, E, E', e, hg, he⟩ := h
  exact ⟨g, E, E', e, Nat.lt_of_lt_of_le hg hb.size, fun i hi => ⟨cell_later hb (he i hi).1, cell_later hb (he i hi).2.1, (he i hi).2.2.mono hb⟩⟩
theorem Fc.sum {p1 q1 N1 D1 n1 p2 q2 N2 D2 n2 p3 q3 N3 D3 n3 : Nat} (h1 : Fc p1 q1 N1 D1 n1) (h2 : Fc p2 q2 N2 D2 n2) (h3 : Fc p3 q3 N3 D3 n3) (hn : n1 + n2 + n3 + 4 ≤ 90) : ∃ A B, Fc A B ((N1 * D2 + N2 * D1) * D3 + N3 * (D1 * D2)) (D1 * D2 * D3) (n1 + n2 + n3 + 4) ∧ ∀ v w, Three w v (tri p1 p2 p3) (tri q1 q2 q3) → Tab w → Calls Tryd.prog 30 #[v] w (MakesR w A B) := by
  have z : Fc 0 1 0 1 1 := ⟨by simp, by omega, by omega, rfl, by rw [P_one]; omega, by rw [P_one]; omega⟩
  obtain ⟨A1, B1, f1, g1, _⟩ := z.add h1 (by omega) (by omega)
  obtain ⟨A2, B2, f2, g2, _⟩ := f1.add h2 (by omega) (by omega)
  obtain ⟨A3, B3, f3, g3, _⟩ := f2.add h3 (by omega) (by omega)
  have e1 : sumPQ (tri p1 p2 p3) (tri q1 q2 q3) 1 = (A1, B1) := by
    rw [g1.1, g1.2]
    rfl
  have e2 : sumPQ (tri p1 p2 p3) (tri q1 q2 q3) 2 = (A2, B2) := by
    rw [g2.1, g2.2, sumPQ, e1]
    rfl
  have e3 : sumPQ (tri p1 p2 p3) (tri q1 q2 q3) 3 = (A3, B3) := by
    rw [g3.1, g3.2, sumPQ, e2]
    rfl
  refine ⟨A3, B3, ⟨f3.low, f3.pos, Nat.mul_pos (Nat.mul_pos h1.dpos h2.dpos) h3.dpos, ?_, P_up f3.s1 (by omega), P_up f3.s2 (by omega)⟩, fun v w hv hT => ?_⟩
  · have := f3.val
    simp only [Nat.zero_mul, Nat.one_mul, Nat.mul_one, Nat.zero_add] at this
    exact this
  · obtain ⟨g, E, E', rfl, hg, he⟩ := hv
    have hs : ∀ i, i < 3 → RS (tri p1 p2 p3 i) ∧ RS (tri q1 q2 q3 i) ∧ RS (sumPQ (tri p1 p2 p3) (tri q1 q2 q3) i).1 ∧ RS (sumPQ (tri p1 p2 p3) (tri q1 q2 q3) i).2 := fun i hi => by
      match i, hi with
      | 0, _ => exact ⟨h1.rs1 (by omega), h1.rs2 (by omega), z.rs1 (by omega), z.rs2 (by omega)⟩
      | 1, _ => rw [e1]; exact ⟨h2.rs1 (by omega), h2.rs2 (by omega), f1.rs1 (by omega), f1.rs2 (by omega)⟩
      | 2, _ => rw [e2]; exact ⟨h3.rs1 (by omega), h3.rs2 (by omega), f2.rs1 (by omega), f2.rs2 (by omega)⟩
    have := ratSum_any g 3 3 E E' (tri p1 p2 p3) (tri q1 q2 q3) w (by omega) (by omega) (by omega) he hs hg hT
    rw [e3] at this
    exact this
theorem three_new {w : World} {s1 s2 s3 s4 s5 s6 : Value} {p1 q1 p2 q2 p3 q3 : Nat} (h1 : Rt w (.agg #[s1, s2]) p1 q1) (h2 : Rt w (.agg #[s3, s4]) p2 q2) (h3 : Rt w (.agg #[s5, s6]) p3 q3) (t : TypeId) : Three (w.alloc (.cells #[s1, s2, s3, s4, s5, s6] t)) (.slice (some ⟨w.heap.size, 0, none⟩) 3 3) (tri p1 p2 p3) (tri q1 q2 q3) := by
  have b := bel_al (o := .cells #[s1, s2, s3, s4, s5, s6] t) (bel_refl w)
  refine ⟨w.heap.size, (fun i => if i = 0 then s1 else if i = 1 then s3 else s5), (fun i => if i = 0 then s2 else if i = 1 then s4 else s6), rfl, by simp, fun i hi => ?_⟩
  match i, hi with
  | 0, _ => exact ⟨by simp [go_sem], by simp [go_sem], h1.mono b⟩
  | 1, _ => exact ⟨by simp [go_sem], by simp [go_sem], h2.mono b⟩
  | 2, _ => exact ⟨by simp [go_sem], by simp [go_sem], h3.mono b⟩
/-- Regions whose order is open and that write no cell that was there: what is known need only outlast what comes later. -/
def MSpec : Type := { R : World → Value → Prop // ∀ {w w' : World} {v : Value}, R w v → Below w.heap.size w w' → R w' v }
def Spec.m (s : Spec) : MSpec := ⟨s.1, fun h hb => s.2.mono h hb⟩
def mThree (X Y : Nat → Nat) : MSpec := ⟨fun w v => Three w v X Y, fun h hb => h.mono hb⟩
structure JM (w0 : World) (specs : List MSpec) (L : Nat → Bool) (vs : Nat → Value) (w : World) : Prop where
  bel : Below w0.heap.size w0 w
  sp : ∀ i, L i = true → (specs.getD i sAny.m).1 w (vs i)
theorem JM.start (w : World) (specs : List MSpec) : JM w specs (fun _ => false) (fun _ => undef) w.drew := ⟨bel_dr (Below.refl _ _), (fun _ h => by cases h)⟩
theorem JM.step {w0 : World} {specs : List MSpec} {L : Nat → Bool} {vs : Nat → Value} {w w' : World} (h : JM w0 specs L vs w) {i : Nat} (hL : L i = false) (_ : 0 = 0) (hb : Below w.heap.size w w') {v : Value} (hs : (specs.getD i sAny.m).1 w' v) : JM w0 specs (updB L i) (updV vs i v) w' := by
  refine ⟨bel_go h.bel hb, fun j hj => ?_⟩
  by_cases e : j = i
  · subst e
    simpa [updV] using hs
  · have hj' : L j = true := by simpa [updB, e] using hj
    have : updV vs i v j = vs j := by simp [updV, e]
    rw [this]
    exact (specs.getD j sAny.m).2 (h.sp j hj') hb
end Go.Proofs.YtkhdapmipcghoaaDoor
namespace Go.Proofs.YtkhdapmipcghoaaDoor
open Go.RowKit
set_option maxRecDepth 100000
set_option linter.unusedVariables false
/-- Four numbers side by side. -/
def IsTm (w : World) (v : Value) (a b c d : Nat) : Prop := ∃ t0 e0 k0 t1 e1 k1 t2 e2 k2 t3 e3 k3, v = .agg #[.slice t0 e0 k0, .slice t1 e1 k1, .slice t2 e2 k2, .slice t3 e3 k3] ∧ IsNat w (.agg #[.slice t0 e0 k0]) a ∧ IsNat w (.agg #[.slice t1 e1 k1]) b ∧ IsNat w (.agg #[.slice t2 e2 k2]) c ∧ IsNat w (.agg #[.slice t3 e3 k3]) d
theorem IsTm.mono {w w' : World} {v : Value} {a b c d : Nat} (h : IsTm w v a b c d) (hb : Below w.heap.size w w') : IsTm w' v a b c d := by
  obtain ⟨t0, e0, k0, t1, e1, k1, t2, e2, k2, t3, e3, k3, e, h0, h1, h2, h3⟩ := h
  exact ⟨_, _, _, _, _, _, _, _, _, _, _, _, e, h0.mono hb, h1.mono hb, h2.mono hb, h3.mono hb⟩
theorem IsTm.setCell {w : World} {v : Value} {a b c d : Nat} (h : IsTm w v a b c d) {x : Addr} (hp : ∀ k q, w.cell? x ≠ some (.int k q)) (u : Value) : IsTm (w.setCell x u) v a b c d := by
  obtain ⟨t0, e0, k0, t1, e1, k1, t2, e2, k2, t3, e3, k3, e, h0, h1, h2, h3⟩ := h
  exact ⟨_, _, _, _, _, _, _, _, _, _, _, _, e, h0.setCell hp u, h1.setCell hp u, h2.setCell hp u, h3.setCell hp u⟩
def MakesTm (w : World) (a b c d : Nat) (e : Ending) (w' : World) : Prop := ∃ v, e = .returned v ∧ IsTm w' v a b c d ∧ Below w.heap.size w w'
def sTm (a b c d : Nat) : Spec := ⟨fun w v => IsTm w v a b c d, ⟨fun h hb => h.mono hb, fun h hp u => h.setCell hp u⟩⟩
/-- Four cells of a box that hold slices, and may be written. -/
def Four (w : World) (r : Nat) : Prop := ∀ i, i < 4 → (∃ a n c, w.cell? ⟨r, i, none⟩ = some (.slice a n c)) ∧ w.frozen? ⟨r, i, none⟩ = false
theorem Four.go {w w' : World} {r : Nat} (h : Four w r) (hb : Below w.heap.size w w') : Four w' r := fun i hi => by
  obtain ⟨⟨a, n, c, hc⟩, hf⟩ := h i hi
  exact ⟨⟨a, n, c, cell_later hb hc⟩, (hb.frozen (World.block_lt_of_cell? _ _ hc)).trans hf⟩
theorem tm_put {w0 w : World} {r : Nat} (h4 : Four w r) {s0 s1 s2 s3 V : Value} {a b c d : Nat} (h : IsTm w V a b c d) (hb : Below w0.heap.size w0 w) (hr : w0.heap.size ≤ r) :
    (IsTm ((((w.setCell ⟨r, 0, none⟩ s0).setCell ⟨r, 1, none⟩ s1).setCell ⟨r, 2, none⟩ s2).setCell ⟨r, 3, none⟩ s3) V a b c d ∧ Below w0.heap.size w0 ((((w.setCell ⟨r, 0, none⟩ s0).setCell ⟨r, 1, none⟩ s1).setCell ⟨r, 2, none⟩ s2).setCell ⟨r, 3, none⟩ s3)) ∧ ((((w.setCell ⟨r, 0, none⟩ s0).setCell ⟨r, 1, none⟩ s1).setCell ⟨r, 2, none⟩ s2).setCell ⟨r, 3, none⟩ s3).cell? ⟨r, 0, none⟩ = some s0 ∧ ((((w.setCell ⟨r, 0, none⟩ s0).setCell ⟨r, 1, none⟩ s1).setCell ⟨r, 2, none⟩ s2).setCell ⟨r, 3, none⟩ s3).cell? ⟨r, 1, none⟩ = some s1 ∧ ((((w.setCell ⟨r, 0, none⟩ s0).setCell ⟨r, 1, none⟩ s1).setCell ⟨r, 2, none⟩ s2).setCell ⟨r, 3, none⟩ s3).cell? ⟨r, 2, none⟩ = some s2 ∧ ((((w.setCell ⟨r, 0, none⟩ s0).setCell ⟨r, 1, none⟩ s1).setCell ⟨r, 2, none⟩ s2).setCell ⟨r, 3, none⟩ s3).cell? ⟨r, 3, none⟩ = some s3 := by
  obtain ⟨⟨a0, n0, c0, k0⟩, _⟩ := h4 0 (by omega)
  obtain ⟨⟨a1, n1, c1, k1⟩, _⟩ := h4 1 (by omega)
  obtain ⟨⟨a2, n2, c2, k2⟩, _⟩ := h4 2 (by omega)
  obtain ⟨⟨a3, n3, c3, k3⟩, _⟩ := h4 3 (by omega)
  have j1 : (w.setCell ⟨r, 0, none⟩ s0).cell? ⟨r, 1, none⟩ = some (.slice a1 n1 c1) := (World.cell?_setCell_other (h := by simp) ..).trans k1
  have j2 : ((w.setCell ⟨r, 0, none⟩ s0).setCell ⟨r, 1, none⟩ s1).cell? ⟨r, 2, none⟩ = some (.slice a2 n2 c2) := (World.cell?_setCell_other (h := by simp) ..).trans ((World.cell?_setCell_other (h := by simp) ..).trans k2)
  have j3 : (((w.setCell ⟨r, 0, none⟩ s0).setCell ⟨r, 1, none⟩ s1).setCell ⟨r, 2, none⟩ s2).cell? ⟨r, 3, none⟩ = some (.slice a3 n3 c3) := (World.cell?_setCell_other (h := by simp) ..).trans ((World.cell?_setCell_other (h := by simp) ..).trans ((World.cell?_setCell_other (h := by simp) ..).trans k3))
  have i0 : (w.setCell ⟨r, 0, none⟩ s0).cell? ⟨r, 0, none⟩ = some s0 := by simp [go_sem, k0]
  have i1 : ((w.setCell ⟨r, 0, none⟩ s0).setCell ⟨r, 1, none⟩ s1).cell? ⟨r, 1, none⟩ = some s1 := by simp [go_sem, j1]
  have i2 : (((w.setCell ⟨r, 0, none⟩ s0).setCell ⟨r, 1, none⟩ s1).setCell ⟨r, 2, none⟩ s2).cell? ⟨r, 2, none⟩ = some s2 := by simp [go_sem, j2]
  refine ⟨⟨(((h.setCell (no_int_slice k0) _).setCell (no_int_slice j1) _).setCell (no_int_slice j2) _).setCell (no_int_slice j3) _, (((hb.setCell hr _).setCell hr _).setCell hr _).setCell hr _⟩, ?_, ?_, ?_, ?_⟩
  · exact (World.cell?_setCell_other (h := by simp) ..).trans ((World.cell?_setCell_other (h := by simp) ..).trans ((World.cell?_setCell_other (h := by simp) ..).trans i0))
  · exact (World.cell?_setCell_other (h := by simp) ..).trans ((World.cell?_setCell_other (h := by simp) ..).trans i1)
  · exact (World.cell?_setCell_other (h := by simp) ..).trans i2
  · simp [go_sem, j3]
set_option maxHeartbeats 4000000 in
theorem noTerms_any (w : World) : Calls Tryd.prog 64 #[] w (MakesTm w 1 0 0 1) := by
  obtain ⟨w0, hw0⟩ : ∃ w0, w0 = w.alloc (.cells #[.slice none 0 0, .slice none 0 0, .slice none 0 0, .slice none 0 0] 98) := ⟨_, rfl⟩
  have ba : Below w.heap.size w w0 := by rw [hw0]; exact bel_al (bel_refl w)
  have z : ∀ i, i < 4 → w0.cell? ⟨w.heap.size, i, none⟩ = some (.slice none 0 0) := fun i hi => by
    rw [hw0]
    match i, hi with
    | 0, _ => simp [go_sem]
    | 1, _ => simp [go_sem]
    | 2, _ => simp [go_sem]
    | 3, _ => simp [go_sem]
  have zf : ∀ i, i < 4 → w0.frozen? ⟨w.heap.size, i, none⟩ = false := fun i hi => by
    rw [hw0]
    simp [go_sem]
  have HZ : Hid ((∀ i, i < 4 → w0.cell? ⟨w.heap.size, i, none⟩ = some (.slice none 0 0)) ∧ (∀ i, i < 4 → w0.frozen? ⟨w.heap.size, i, none⟩ = false) ∧ Below w.heap.size w w0) := ⟨z, zf, ba⟩
  clear z zf ba
  go_enter Tryd.func64, Tryd.ntmps64
  go_wp2_with fail
  rw [← hw0]
  clear hw0
  refine (of_any 1 _ (by omega)).mono ?_
  rintro e w1 ⟨v1, rfl, hv1, hb1⟩
  obtain ⟨a1, n1, c1, rfl⟩ := hv1.isAgg
  have H1 : Hid (IsNat w1 (.agg #[.slice a1 n1 c1]) 1 ∧ Below w0.heap.size w0 w1) := ⟨hv1, hb1⟩
  clear hv1 hb1
  go_wp2_with fail
  refine (of_any 1 _ (by omega)).mono ?_
  rintro e w2 ⟨v2, rfl, hv2, hb2⟩
  obtain ⟨a2, n2, c2, rfl⟩ := hv2.isAgg
  have b2 := bel_go H1.out.2 hb2
  have HT : Hid (IsTm w2 (.agg #[.slice a1 n1 c1, .slice none 0 0, .slice none 0 0, .slice a2 n2 c2]) 1 0 0 1) := ⟨_, _, _, _, _, _, _, _, _, _, _, _, rfl, H1.out.1.mono hb2, isNat_zero _, isNat_zero _, hv2⟩
  have x0 := cell_later b2 (HZ.out.1 0 (by omega))
  have x1 := cell_later b2 (HZ.out.1 1 (by omega))
  have x2 := cell_later b2 (HZ.out.1 2 (by omega))
  have x3 := cell_later b2 (HZ.out.1 3 (by omega))
  have f0 := (b2.frozen (World.block_lt_of_cell? _ _ (HZ.out.1 0 (by omega)))).trans (HZ.out.2.1 0 (by omega))
  have f1 := (b2.frozen (World.block_lt_of_cell? _ _ (HZ.out.1 1 (by omega)))).trans (HZ.out.2.1 1 (by omega))
  have f2 := (b2.frozen (World.block_lt_of_cell? _ _ (HZ.out.1 2 (by omega)))).trans (HZ.out.2.1 2 (by omega))
  have f3 := (b2.frozen (World.block_lt_of_cell? _ _ (HZ.out.1 3 (by omega)))).trans (HZ.out.2.1 3 (by omega))
  have F4 : Four w2 w.heap.size := fun i hi => by
    match i, hi with
    | 0, _ => exact ⟨⟨_, _, _, x0⟩, f0⟩
    | 1, _ => exact ⟨⟨_, _, _, x1⟩, f1⟩
    | 2, _ => exact ⟨⟨_, _, _, x2⟩, f2⟩
    | 3, _ => exact ⟨⟨_, _, _, x3⟩, f3⟩
  have Z : Hid _ := tm_put (w0 := w) F4 (s0 := .slice a1 n1 c1) (s1 := .slice none 0 0) (s2 := .slice none 0 0) (s3 := .slice a2 n2 c2) HT.out (bel_go HZ.out.2.2 b2) (Nat.le_refl _)
  obtain ⟨_, l0, l1, l2, l3⟩ := Z.out
  clear hv2 hb2 b2 F4 HT H1 HZ
  go_wp2_with fail
  exact bodyPost_ret (v := .agg #[.slice a1 n1 c1, .slice none 0 0, .slice none 0 0, .slice a2 n2 c2]) (by simp [results, Tryd.results64, go_sem, l0, l1, l2, l3]) rfl ⟨_, rfl, Z.out.1.1, Z.out.1.2⟩
set_option maxHeartbeats 8000000 in
theorem before_any (v u : Value) (g1 g2 g3 g4 p q : Nat) (w : World) (h : IsTm w v g1 g2 g3 g4) (k : Rt w u p q) (ha : RS g1) (hb : RS g2) (hc : RS g3) (hd : RS g4) (hp : RS p) (hq : RS q) (hl : Nat.gcd (g1 * p + g2 * q) (g3 * p + g4 * q) = 1) (h0 : 0 < g3 * p + g4 * q) :
    Calls Tryd.prog 66 #[v, u] w (MakesR w (g1 * p + g2 * q) (g3 * p + g4 * q)) := by
  obtain ⟨t0, e0, k0, t1, e1, k1, t2, e2, k2, t3, e3, k3, ev, h1, h2, h3, h4⟩ := h
  subst ev
  obtain ⟨p3, m3, d3, p4, m4, d4, ev, _, _⟩ := k.raw
  subst ev
  obtain ⟨wt, hwt⟩ : ∃ wt, wt = w.alloc (.cells #[.slice t0 e0 k0, .slice t1 e1 k1, .slice t2 e2 k2, .slice t3 e3 k3] 98) := ⟨_, rfl⟩
  have bt1 : Below w.heap.size w wt := by rw [hwt]; exact bel_al (bel_refl w)
  have hs : wt.heap.size = w.heap.size + 1 := by rw [hwt]; simp
  have S0 : Hid _ := ((((((((((((sx_start w).addN h1).addN h2).addN h3).addN h4).addF k).go bt1).addC (b := w.heap.size) (i := 0) (v := .slice t0 e0 k0) (by rw [hwt]; simp [go_sem])).addC (b := w.heap.size) (i := 1) (v := .slice t1 e1 k1) (by rw [hwt]; simp [go_sem])).addC (b := w.heap.size) (i := 2) (v := .slice t2 e2 k2) (by rw [hwt]; simp [go_sem])).addC (b := w.heap.size) (i := 3) (v := .slice t3 e3 k3) (by rw [hwt]; simp [go_sem])).box (.slice p3 m3 d3) (.slice p4 m4 d4) 29 (w.heap.size + 1) hs.symm).box (.slice none 0 0) (.slice none 0 0) 29 (w.heap.size + 1 + 1) (by simp [hs])
  obtain ⟨w0, hw0⟩ : ∃ w0, w0 = (wt.alloc (.cells #[.slice p3 m3 d3, .slice p4 m4 d4] 29)).alloc (.cells #[.slice none 0 0, .slice none 0 0] 29) := ⟨_, rfl⟩
  have f6 : w0.frozen? ⟨w.heap.size + 1 + 1, 0, none⟩ = false := by rw [hw0, ← hs]; simp [go_sem]
  have f7 : w0.frozen? ⟨w.heap.size + 1 + 1, 1, none⟩ = false := by rw [hw0, ← hs]; simp [go_sem]
  have HH : Hid (RS g1 ∧ RS g2 ∧ RS g3 ∧ RS g4 ∧ RS p ∧ RS q) := ⟨ha, hb, hc, hd, hp, hq⟩
  have HF : Hid (Fits (g1 * p) ∧ Fits (g2 * q) ∧ Fits (g3 * p) ∧ Fits (g4 * q) ∧ Fits (g1 * p + g2 * q)) := ⟨fits_P (ha.mul hp) (by omega), fits_P (hb.mul hq) (by omega), fits_P (hc.mul hp) (by omega), fits_P (hd.mul hq) (by omega), fits_P (P_twice (ha.mul hp) (hb.mul hq)) (by omega)⟩
  have HL : Hid (Nat.gcd (g1 * p + g2 * q) (g3 * p + g4 * q) = 1 ∧ 0 < g3 * p + g4 * q) := ⟨hl, h0⟩
  clear h1 h2 h3 h4 k ha hb hc hd hp hq hl h0 bt1 hs
  go_enter Tryd.func66, Tryd.ntmps66
  go_wp2_with fail
  rw [← hwt, ← hw0]
  rw [← hw0] at S0
  obtain ⟨b2, hb2⟩ : ∃ b2, b2 = w.heap.size := ⟨_, rfl⟩
  have HB : Hid (w.heap.size ≤ b2 + 1 + 1) := by show _ ≤ _; omega
  rw [← hb2] at S0 f6 f7
  rw [← hb2]
  clear hw0 hb2 hwt
  refine (parts_any _ p q _ (S0.out.fr (.agg #[.slice p3 m3 d3, .slice p4 m4 d4]) p q) HH.out.2.2.2.2.2.fits).mono ?_
  rintro e v5w ⟨v5, v6, rfl, hv, hu, hb⟩
  obtain ⟨a5, n5, c5, rfl⟩ := hv.isAgg
  obtain ⟨a6, n6, c6, rfl⟩ := hu.isAgg
  have hbb := bel_go hb (bel_al (o := .cells #[.slice a6 n6 c6] 27) (bel_al (o := .cells #[.slice a5 n5 c5] 27) (bel_refl _)))
  have f6 := (hbb.frozen (World.block_lt_of_cell? _ _ (S0.out.cel (b2 + 1 + 1) 0 (.slice none 0 0)))).trans f6
  have f7 := (hbb.frozen (World.block_lt_of_cell? _ _ (S0.out.cel (b2 + 1 + 1) 1 (.slice none 0 0)))).trans f7
  have S1 : Hid _ := ((((S0.out.go hb).addN hv).addN hu).box1 (.slice a5 n5 c5) 27 _ rfl).box1 (.slice a6 n6 c6) 27 _ rfl
  clear hv hu hb hbb S0
  simp only [World.size_alloc] at S1
  go_wp2_with fail
  obtain ⟨w5, hw⟩ : ∃ w5, w5 = (v5w.alloc (.cells #[.slice a5 n5 c5] 27)).alloc (.cells #[.slice a6 n6 c6] 27) := ⟨_, rfl⟩
  obtain ⟨b5, hb⟩ : ∃ b5, b5 = v5w.heap.size := ⟨_, rfl⟩
  rw [← hw, ← hb] at S1
  rw [← hw] at f6 f7
  rw [← hw, ← hb]
  clear hw hb
  have e6 := S1.out.cel (b2 + 1 + 1) 0 (.slice none 0 0)
  have e7 := S1.out.cel (b2 + 1 + 1) 1 (.slice none 0 0)
  refine wp_region_inv (JD w5 [sEq (.pointer (some ⟨b2, 0, none⟩)), sNat (g1), sNat (p), sNat (g1 * p), sEq (.pointer (some ⟨b2, 1, none⟩)), sNat (g2), sNat (q), sNat (g2 * q), sNat (g1 * p + g2 * q), sEq (.pointer (some ⟨b2, 2, none⟩)), sNat (g3), sNat (p), sNat (g3 * p), sEq (.pointer (some ⟨b2, 3, none⟩)), sNat (g4), sNat (q), sNat (g4 * q), sNat (g3 * p + g4 * q), sRt (g1 * p + g2 * q) (g3 * p + g4 * q), sAny] [[], [0], [], [1, 2], [], [4], [], [5, 6], [3, 7], [], [9], [], [10, 11], [], [13], [], [14, 15], [12, 16], [8, 17], [18]] 19 18 [0, 1, 2, 3, 4, 5, 6, 7, 8, 9, 10, 11, 12, 13, 14, 15, 16, 17, 18] (Sto2 (b2 + 1 + 1))) 31 (by kernel_rfl) rfl (by kernel_rfl) (JD.start _ _ _ _ _ _ _) (fun HG HN => ⟨?_, ?_, ?_, ?_, ?_, ?_, ?_, ?_, ?_, ?_, ?_, ?_, ?_, ?_, ?_, ?_, ?_, ?_, ?_, ?_, trivial⟩) ?_
  · intro L vs a w' hJ hF hP hL
    have hK := hJ
    have hJ := hK.open hL (by decide)
    have q2 : (a.tmps[2]?).getD undef = .pointer (some ⟨b2, 0, none⟩) := hF.old 2 rfl
    exact run_val (v := .pointer (some ⟨b2, 0, none⟩)) rfl (by simp [execOp, go_sem, q2]) ⟨_, rfl, hK.step hL (by decide) (by decide) rfl (nd_nil) <| hJ.step hL rfl (Below.refl _ _) (by exact rfl)⟩
  · intro L vs a w' hJ hF hP hL
    have hK := hJ
    have hJ := hK.open hL (by decide)
    have p0 : L 0 = true := hP ⟨0, .data⟩ (by simp) rfl
    have s0 : vs 0 = .pointer (some ⟨b2, 0, none⟩) := hJ.sp 0 p0
    have q12 := hF.slot 0 12 rfl p0
    have cb := cell_later hJ.bel (S1.out.cel (b2) 0 (.slice t0 e0 k0))
    exact run_val (v := .agg #[.slice t0 e0 k0]) rfl (by simp [execOp, go_sem, q12, s0, cb]) ⟨_, rfl, hK.step hL (by decide) (by decide) rfl (nd_cons p0 (nd_nil)) <| hJ.step hL rfl (Below.refl _ _) (by exact ((S1.out.at (.agg #[.slice t0 e0 k0]) (g1)).mono hJ.bel))⟩
  · intro L vs a w' hJ hF hP hL
    have hK := hJ
    have hJ := hK.open hL (by decide)
    have q5 : (a.tmps[5]?).getD undef = .pointer (some ⟨b5, 0, none⟩) := hF.old 5 rfl
    have cb := cell_later hJ.bel (S1.out.cell (b5) (.slice a5 n5 c5))
    exact run_val (v := .agg #[.slice a5 n5 c5]) rfl (by simp [execOp, go_sem, q5, cb]) ⟨_, rfl, hK.step hL (by decide) (by decide) rfl (nd_nil) <| hJ.step hL rfl (Below.refl _ _) (by exact ((S1.out.at (.agg #[.slice a5 n5 c5]) (p)).mono hJ.bel))⟩
  · intro L vs a w' hJ hF hP hL
    have hK := hJ
    have hJ := hK.open hL (by decide)
    have p1 : L 1 = true := hP ⟨1, .data⟩ (by simp) rfl
    have s1 : IsNat w' (vs 1) (g1) := hJ.sp 1 p1
    have q13 := hF.slot 1 13 rfl p1
    have p2 : L 2 = true := hP ⟨2, .data⟩ (by simp) rfl
    have s2 : IsNat w' (vs 2) (p) := hJ.sp 2 p2
    have q14 := hF.slot 2 14 rfl p2
    refine run_call (f := 61) (args := #[vs 1, vs 2]) rfl (by simp [go_sem, q13, q14]) (mul_short _ _ g1 p _ s1 s2 HH.out.1.fits HH.out.2.2.2.2.1.fits (.inl HH.out.1.p99)) ?_
    rintro e w2 ⟨v, rfl, hv, hb⟩
    exact ⟨_, rfl, _, rfl, hK.step hL (by decide) (by decide) rfl (nd_cons p1 (nd_cons p2 (nd_nil))) <| hJ.step hL rfl hb (by exact hv)⟩
  · intro L vs a w' hJ hF hP hL
    have hK := hJ
    have hJ := hK.open hL (by decide)
    have q2 : (a.tmps[2]?).getD undef = .pointer (some ⟨b2, 0, none⟩) := hF.old 2 rfl
    exact run_val (v := .pointer (some ⟨b2, 1, none⟩)) rfl (by simp [execOp, go_sem, q2]) ⟨_, rfl, hK.step hL (by decide) (by decide) rfl (nd_nil) <| hJ.step hL rfl (Below.refl _ _) (by exact rfl)⟩
  · intro L vs a w' hJ hF hP hL
    have hK := hJ
    have hJ := hK.open hL (by decide)
    have p4 : L 4 = true := hP ⟨4, .data⟩ (by simp) rfl
    have s4 : vs 4 = .pointer (some ⟨b2, 1, none⟩) := hJ.sp 4 p4
    have q16 := hF.slot 4 16 rfl p4
    have cb := cell_later hJ.bel (S1.out.cel (b2) 1 (.slice t1 e1 k1))
    exact run_val (v := .agg #[.slice t1 e1 k1]) rfl (by simp [execOp, go_sem, q16, s4, cb]) ⟨_, rfl, hK.step hL (by decide) (by decide) rfl (nd_cons p4 (nd_nil)) <| hJ.step hL rfl (Below.refl _ _) (by exact ((S1.out.at (.agg #[.slice t1 e1 k1]) (g2)).mono hJ.bel))⟩
  · intro L vs a w' hJ hF hP hL
    have hK := hJ
    have hJ := hK.open hL (by decide)
    have q6 : (a.tmps[6]?).getD undef = .pointer (some ⟨b5 + 1, 0, none⟩) := hF.old 6 rfl
    have cb := cell_later hJ.bel (S1.out.cell (b5 + 1) (.slice a6 n6 c6))
    exact run_val (v := .agg #[.slice a6 n6 c6]) rfl (by simp [execOp, go_sem, q6, cb]) ⟨_, rfl, hK.step hL (by decide) (by decide) rfl (nd_nil) <| hJ.step hL rfl (Below.refl _ _) (by exact ((S1.out.at (.agg #[.slice a6 n6 c6]) (q)).mono hJ.bel))⟩
  · intro L vs a w' hJ hF hP hL
    have hK := hJ
    have hJ := hK.open hL (by decide)
    have p5 : L 5 = true := hP ⟨5, .data⟩ (by simp) rfl
    have s5 : IsNat w' (vs 5) (g2) := hJ.sp 5 p5
    have q17 := hF.slot 5 17 rfl p5
    have p6 : L 6 = true := hP ⟨6, .data⟩ (by simp) rfl
    have s6 : IsNat w' (vs 6) (q) := hJ.sp 6 p6
    have q18 := hF.slot 6 18 rfl p6
    refine run_call (f := 61) (args := #[vs 5, vs 6]) rfl (by simp [go_sem, q17, q18]) (mul_short _ _ g2 q _ s5 s6 HH.out.2.1.fits HH.out.2.2.2.2.2.fits (.inl HH.out.2.1.p99)) ?_
    rintro e w2 ⟨v, rfl, hv, hb⟩
    exact ⟨_, rfl, _, rfl, hK.step hL (by decide) (by decide) rfl (nd_cons p5 (nd_cons p6 (nd_nil))) <| hJ.step hL rfl hb (by exact hv)⟩
  · intro L vs a w' hJ hF hP hL
    have hK := hJ
    have hJ := hK.open hL (by decide)
    have p3 : L 3 = true := hP ⟨3, .data⟩ (by simp) rfl
    have s3 : IsNat w' (vs 3) (g1 * p) := hJ.sp 3 p3
    have q15 := hF.slot 3 15 rfl p3
    have p7 : L 7 = true := hP ⟨7, .data⟩ (by simp) rfl
    have s7 : IsNat w' (vs 7) (g2 * q) := hJ.sp 7 p7
    have q19 := hF.slot 7 19 rfl p7
    refine run_call (f := 57) (args := #[vs 3, vs 7]) rfl (by simp [go_sem, q15, q19]) (add_any _ _ (g1 * p) (g2 * q) _ s3 s7 HF.out.1 HF.out.2.1) ?_
    rintro e w2 ⟨v, rfl, hv, hb⟩
    exact ⟨_, rfl, _, rfl, hK.step hL (by decide) (by decide) rfl (nd_cons p3 (nd_cons p7 (nd_nil))) <| hJ.step hL rfl hb (by exact hv)⟩
  · intro L vs a w' hJ hF hP hL
    have hK := hJ
    have hJ := hK.open hL (by decide)
    have q2 : (a.tmps[2]?).getD undef = .pointer (some ⟨b2, 0, none⟩) := hF.old 2 rfl
    exact run_val (v := .pointer (some ⟨b2, 2, none⟩)) rfl (by simp [execOp, go_sem, q2]) ⟨_, rfl, hK.step hL (by decide) (by decide) rfl (nd_nil) <| hJ.step hL rfl (Below.refl _ _) (by exact rfl)⟩
  · intro L vs a w' hJ hF hP hL
    have hK := hJ
    have hJ := hK.open hL (by decide)
    have p9 : L 9 = true := hP ⟨9, .data⟩ (by simp) rfl
    have s9 : vs 9 = .pointer (some ⟨b2, 2, none⟩) := hJ.sp 9 p9
    have q21 := hF.slot 9 21 rfl p9
    have cb := cell_later hJ.bel (S1.out.cel (b2) 2 (.slice t2 e2 k2))
    exact run_val (v := .agg #[.slice t2 e2 k2]) rfl (by simp [execOp, go_sem, q21, s9, cb]) ⟨_, rfl, hK.step hL (by decide) (by decide) rfl (nd_cons p9 (nd_nil)) <| hJ.step hL rfl (Below.refl _ _) (by exact ((S1.out.at (.agg #[.slice t2 e2 k2]) (g3)).mono hJ.bel))⟩
  · intro L vs a w' hJ hF hP hL
    have hK := hJ
    have hJ := hK.open hL (by decide)
    have q5 : (a.tmps[5]?).getD undef = .pointer (some ⟨b5, 0, none⟩) := hF.old 5 rfl
    have cb := cell_later hJ.bel (S1.out.cell (b5) (.slice a5 n5 c5))
    exact run_val (v := .agg #[.slice a5 n5 c5]) rfl (by simp [execOp, go_sem, q5, cb]) ⟨_, rfl, hK.step hL (by decide) (by decide) rfl (nd_nil) <| hJ.step hL rfl (Below.refl _ _) (by exact ((S1.out.at (.agg #[.slice a5 n5 c5]) (p)).mono hJ.bel))⟩
  · intro L vs a w' hJ hF hP hL
    have hK := hJ
    have hJ := hK.open hL (by decide)
    have p10 : L 10 = true := hP ⟨10, .data⟩ (by simp) rfl
    have s10 : IsNat w' (vs 10) (g3) := hJ.sp 10 p10
    have q22 := hF.slot 10 22 rfl p10
    have p11 : L 11 = true := hP ⟨11, .data⟩ (by simp) rfl
    have s11 : IsNat w' (vs 11) (p) := hJ.sp 11 p11
    have q23 := hF.slot 11 23 rfl p11
    refine run_call (f := 61) (args := #[vs 10, vs 11]) rfl (by simp [go_sem, q22, q23]) (mul_short _ _ g3 p _ s10 s11 HH.out.2.2.1.fits HH.out.2.2.2.2.1.fits (.inl HH.out.2.2.1.p99)) ?_
    rintro e w2 ⟨v, rfl, hv, hb⟩
    exact ⟨_, rfl, _, rfl, hK.step hL (by decide) (by decide) rfl (nd_cons p10 (nd_cons p11 (nd_nil))) <| hJ.step hL rfl hb (by exact hv)⟩
  · intro L vs a w' hJ hF hP hL
    have hK := hJ
    have hJ := hK.open hL (by decide)
    have q2 : (a.tmps[2]?).getD undef = .pointer (some ⟨b2, 0, none⟩) := hF.old 2 rfl
    exact run_val (v := .pointer (some ⟨b2, 3, none⟩)) rfl (by simp [execOp, go_sem, q2]) ⟨_, rfl, hK.step hL (by decide) (by decide) rfl (nd_nil) <| hJ.step hL rfl (Below.refl _ _) (by exact rfl)⟩
  · intro L vs a w' hJ hF hP hL
    have hK := hJ
    have hJ := hK.open hL (by decide)
    have p13 : L 13 = true := hP ⟨13, .data⟩ (by simp) rfl
    have s13 : vs 13 = .pointer (some ⟨b2, 3, none⟩) := hJ.sp 13 p13
    have q25 := hF.slot 13 25 rfl p13
    have cb := cell_later hJ.bel (S1.out.cel (b2) 3 (.slice t3 e3 k3))
    exact run_val (v := .agg #[.slice t3 e3 k3]) rfl (by simp [execOp, go_sem, q25, s13, cb]) ⟨_, rfl, hK.step hL (by decide) (by decide) rfl (nd_cons p13 (nd_nil)) <| hJ.step hL rfl (Below.refl _ _) (by exact ((S1.out.at (.agg #[.slice t3 e3 k3]) (g4)).mono hJ.bel))⟩
  · intro L vs a w' hJ hF hP hL
    have hK := hJ
    have hJ := hK.open hL (by decide)
    have q6 : (a.tmps[6]?).getD undef = .pointer (some ⟨b5 + 1, 0, none⟩) := hF.old 6 rfl
    have cb := cell_later hJ.bel (S1.out.cell (b5 + 1) (.slice a6 n6 c6))
    exact run_val (v := .agg #[.slice a6 n6 c6]) rfl (by simp [execOp, go_sem, q6, cb]) ⟨_, rfl, hK.step hL (by decide) (by decide) rfl (nd_nil) <| hJ.step hL rfl (Below.refl _ _) (by exact ((S1.out.at (.agg #[.slice a6 n6 c6]) (q)).mono hJ.bel))⟩
  · intro L vs a w' hJ hF hP hL
    have hK := hJ
    have hJ := hK.open hL (by decide)
    have p14 : L 14 = true := hP ⟨14, .data⟩ (by simp) rfl
    have s14 : IsNat w' (vs 14) (g4) := hJ.sp 14 p14
    have q26 := hF.slot 14 26 rfl p14
    have p15 : L 15 = true := hP ⟨15, .data⟩ (by simp) rfl
    have s15 : IsNat w' (vs 15) (q) := hJ.sp 15 p15
    have q27 := hF.slot 15 27 rfl p15
    refine run_call (f := 61) (args := #[vs 14, vs 15]) rfl (by simp [go_sem, q26, q27]) (mul_short _ _ g4 q _ s14 s15 HH.out.2.2.2.1.fits HH.out.2.2.2.2.2.fits (.inl HH.out.2.2.2.1.p99)) ?_
    rintro e w2 ⟨v, rfl, hv, hb⟩
    exact ⟨_, rfl, _, rfl, hK.step hL (by decide) (by decide) rfl (nd_cons p14 (nd_cons p15 (nd_nil))) <| hJ.step hL rfl hb (by exact hv)⟩
  · intro L vs a w' hJ hF hP hL
    have hK := hJ
    have hJ := hK.open hL (by decide)
    have p12 : L 12 = true := hP ⟨12, .data⟩ (by simp) rfl
    have s12 : IsNat w' (vs 12) (g3 * p) := hJ.sp 12 p12
    have q24 := hF.slot 12 24 rfl p12
    have p16 : L 16 = true := hP ⟨16, .data⟩ (by simp) rfl
    have s16 : IsNat w' (vs 16) (g4 * q) := hJ.sp 16 p16
    have q28 := hF.slot 16 28 rfl p16
    refine run_call (f := 57) (args := #[vs 12, vs 16]) rfl (by simp [go_sem, q24, q28]) (add_any _ _ (g3 * p) (g4 * q) _ s12 s16 HF.out.2.2.1 HF.out.2.2.2.1) ?_
    rintro e w2 ⟨v, rfl, hv, hb⟩
    exact ⟨_, rfl, _, rfl, hK.step hL (by decide) (by decide) rfl (nd_cons p12 (nd_cons p16 (nd_nil))) <| hJ.step hL rfl hb (by exact hv)⟩
  · intro L vs a w' hJ hF hP hL
    have hK := hJ
    have hJ := hK.open hL (by decide)
    have p8 : L 8 = true := hP ⟨8, .data⟩ (by simp) rfl
    have s8 : IsNat w' (vs 8) (g1 * p + g2 * q) := hJ.sp 8 p8
    have q20 := hF.slot 8 20 rfl p8
    have p17 : L 17 = true := hP ⟨17, .data⟩ (by simp) rfl
    have s17 : IsNat w' (vs 17) (g3 * p + g4 * q) := hJ.sp 17 p17
    have q29 := hF.slot 17 29 rfl p17
    refine run_call (f := 47) (args := #[vs 8, vs 17]) rfl (by simp [go_sem, q20, q29]) (inLowest_any _ _ (g1 * p + g2 * q) (g3 * p + g4 * q) _ s8 s17 HF.out.2.2.2.2 HL.out.2 HL.out.1) ?_
    rintro e w2 ⟨v, rfl, hv, hb⟩
    exact ⟨_, rfl, _, rfl, hK.step hL (by decide) (by decide) rfl (nd_cons p8 (nd_cons p17 (nd_nil))) <| hJ.step hL rfl hb (by exact hv)⟩
  · intro L vs a w' hJ hF hP hL
    have hK := hJ
    have hJ := hK.core hL
    have q4 : (a.tmps[4]?).getD undef = .pointer (some ⟨b2 + 1 + 1, 0, none⟩) := hF.old 4 rfl
    have p18 : L 18 = true := hP ⟨18, .data⟩ (by simp) rfl
    have s18 : Rt w' (vs 18) (g1 * p + g2 * q) (g3 * p + g4 * q) := hJ.sp 18 p18
    have q30 := hF.slot 18 30 rfl p18
    have p8 : L 8 = true := hK.cl 18 p18 8 (by simp)
    have p3 : L 3 = true := hK.cl 8 p8 3 (by simp)
    have p1 : L 1 = true := hK.cl 3 p3 1 (by simp)
    have p0 : L 0 = true := hK.cl 1 p1 0 (by simp)
    have p2 : L 2 = true := hK.cl 3 p3 2 (by simp)
    have p7 : L 7 = true := hK.cl 8 p8 7 (by simp)
    have p5 : L 5 = true := hK.cl 7 p7 5 (by simp)
    have p4 : L 4 = true := hK.cl 5 p5 4 (by simp)
    have p6 : L 6 = true := hK.cl 7 p7 6 (by simp)
    have p17 : L 17 = true := hK.cl 18 p18 17 (by simp)
    have p12 : L 12 = true := hK.cl 17 p17 12 (by simp)
    have p10 : L 10 = true := hK.cl 12 p12 10 (by simp)
    have p9 : L 9 = true := hK.cl 10 p10 9 (by simp)
    have p11 : L 11 = true := hK.cl 12 p12 11 (by simp)
    have p16 : L 16 = true := hK.cl 17 p17 16 (by simp)
    have p14 : L 14 = true := hK.cl 16 p16 14 (by simp)
    have p13 : L 13 = true := hK.cl 14 p14 13 (by simp)
    have p15 : L 15 = true := hK.cl 16 p16 15 (by simp)
    have x0 := cell_later hJ.bel e6
    have y0 := (hJ.bel.frozen (World.block_lt_of_cell? _ _ e6)).trans f6
    have x1 := cell_later hJ.bel e7
    have y1 := (hJ.bel.frozen (World.block_lt_of_cell? _ _ e7)).trans f7
    obtain ⟨aa, nn, cc, a2, n2, c2, e8, _, _⟩ := s18.raw
    exact run_unit (w' := (w'.setCell ⟨b2 + 1 + 1, 0, none⟩ (.slice aa nn cc)).setCell ⟨b2 + 1 + 1, 1, none⟩ (.slice a2 n2 c2)) rfl (by simp [execOp, go_sem, q4, q30, e8, x0, y0, x1, y1]) ⟨undef, rfl, hK.put hL (by decide) rfl (nd_cons p18 nd_nil) (nd_cons p0 (nd_cons p1 (nd_cons p2 (nd_cons p3 (nd_cons p4 (nd_cons p5 (nd_cons p6 (nd_cons p7 (nd_cons p8 (nd_cons p9 (nd_cons p10 (nd_cons p11 (nd_cons p12 (nd_cons p13 (nd_cons p14 (nd_cons p15 (nd_cons p16 (nd_cons p17 (nd_cons p18 (nd_nil)))))))))))))))))))) p18 ⟨_, _, e8, rfl⟩⟩
  intro L vs w' hA hK
  obtain ⟨_, w1, hb1, sv, u1, u2, ev, ew⟩ := hK.fin (hA 19 (by simp))
  replace sv : Rt w1 (vs 18) (g1 * p + g2 * q) (g3 * p + g4 * q) := sv
  obtain ⟨a8, n8, k8, a9, n9, k9, e8, _, _⟩ := sv.raw
  rw [e8] at ev sv
  obtain ⟨rfl, rfl⟩ : u1 = .slice a8 n8 k8 ∧ u2 = .slice a9 n9 k9 := by simpa [eq_comm] using ev
  have x0 := cell_later hb1 e6
  have x1 := cell_later hb1 e7
  have Z : Hid _ := rat_put (w0 := w) (v := .slice a8 n8 k8) (u := .slice a9 n9 k9) x0 x1 sv (bel_go S1.out.bel hb1) HB.out
  obtain ⟨l6, l7⟩ := radd_parts (w0 := w) (p := 0) (q := 0) (a6 := a8) (n6 := n8) (k6 := k8) (a7 := a9) (n7 := n9) (k7 := k9) x0 x1
  rw [← ew] at Z l6 l7
  clear ew x0 x1 sv ev hb1 e8 hK hA e6 e7 f6 f7 S1
  simp only [putL, Act.put, List.setIfInBounds_toArray, List.set_cons_zero, List.set_cons_succ, Nat.reduceAdd]
  go_wp2_with fail
  exact bodyPost_ret (v := .agg #[.slice a8 n8 k8, .slice a9 n9 k9]) (by simp [results, Tryd.results66, go_sem, l6, l7]) rfl ⟨_, rfl, Z.out.1, Z.out.2⟩
end Go.Proofs.YtkhdapmipcghoaaDoor
