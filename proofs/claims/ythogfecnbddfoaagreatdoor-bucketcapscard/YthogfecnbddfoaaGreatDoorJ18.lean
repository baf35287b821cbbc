/- Contracts of the program's functions, part 18: own work, joined in build order. -/
import Derived.Test.YthogfecnbddfoaaGreatDoorJ17
import Derived.Handy
namespace Go.Proofs.YthogfecnbddfoaaGreatDoor
open Go.RowKit
set_option maxRecDepth 100000
set_option linter.unusedVariables false
/-- What Take gives. -/
def TakePost (b T N R D B : Nat) (t n : Int) (w : World) (e : Ending) (w' : World) : Prop := e = .returned (.int .i64 (takeE (atN T N R D B t) D n)) ∧ Bu w' b (atT T t) (takeN (atN T N R D B t) D n) R D B ∧ Fb (fun x => x = b) w w'
set_option maxHeartbeats 8000000 in
theorem btake_any (b T N R D B : Nat) (t n : Int) (w : World) (h : Bu w b T N R D B) (hT : Tab w) (hn : n ≤ 9223372036854775807) :
    Calls Tryz.prog 10 #[.pointer (some ⟨b, 0, none⟩), .int .i64 t, .int .i64 n] w (TakePost b T N R D B t n w) := by
  have HB : Hid (Bu w b T N R D B ∧ Tab w) := ⟨h, hT⟩
  clear h hT
  go_enter Tryz.func10, Tryz.ntmps10
  go_wp2_with fail
  refine (bat_any b T N R D B t _ HB.out.1 HB.out.2).mono ?_
  rintro e w1 ⟨v1, p, q, rfl, hv, f1, Z1, F1⟩
  obtain ⟨a7, n7, c7, a8, n8, c8, ev, _, _⟩ := hv.raw
  subst ev
  obtain ⟨M, hM⟩ : ∃ M, M = atN T N R D B t := ⟨_, rfl⟩
  obtain ⟨T', hT'⟩ : ∃ T', T' = atT T t := ⟨_, rfl⟩
  have HM : Hid (M = atN T N R D B t ∧ T' = atT T t) := ⟨hM, hT'⟩
  rw [← hM] at f1 Z1
  rw [← hT'] at Z1
  clear hM hT'
  have FH : Hid (Fc p q M D 20) := f1
  have hne : w1.heap.size ≠ b := by have := Z1.lt; omega
  have ba := bel_al (o := .cells #[.slice a7 n7 c7, .slice a8 n8 c8] 51) (bel_refl w1)
  have Z2 : Hid (Bu (w1.alloc (.cells #[.slice a7 n7 c7, .slice a8 n8 c8] 51)) b T' M R D B ∧ Tab (w1.alloc (.cells #[.slice a7 n7 c7, .slice a8 n8 c8] 51)) ∧ Fb (fun x => x = b) w (w1.alloc (.cells #[.slice a7 n7 c7, .slice a8 n8 c8] 51))) := ⟨Z1.go ba, (HB.out.2.fb F1 (fun k e => e ▸ HB.out.1.odd)).go ba, F1.go ba⟩
  have S1 : Hid _ := ((sx_start w1).addF hv).box (.slice a7 n7 c7) (.slice a8 n8 c8) 51 _ rfl
  clear f1 Z1 F1 hv ba
  by_cases h1 : n < 1
  · have d1 : decide (n < 1) = true := decide_eq_true h1
    have HE : Hid (takeE M D n = 1 ∧ takeN M D n = M) := by
      unfold takeE takeN
      rw [if_pos h1, if_pos h1]
      exact ⟨rfl, rfl⟩
    clear h1
    go_wp2_with fail
    go_ret
    refine ⟨?_, ?_, Z2.out.2.2⟩
    · exact ret_int (by rw [← HM.out.1, HE.out.1])
    · rw [← HM.out.1, ← HM.out.2, HE.out.2]
      exact Z2.out.1
  · obtain ⟨k, rfl⟩ : ∃ k : Nat, n = (k : Int) := ⟨n.toNat, by omega⟩
    have d1 : decide ((k : Int) < 1) = false := decide_eq_false h1
    have HK : Hid (1 ≤ k ∧ k ≤ 9223372036854775807) := ⟨by omega, by omega⟩
    have FK : Hid (Fc k 1 k 1 1) := ⟨Nat.gcd_one_right _, by omega, by omega, rfl, by rw [P_one]; omega, by rw [P_one]; omega⟩
    clear h1 hn
    go_wp2_with fail
    obtain ⟨w2, hw⟩ : ∃ w2, w2 = w1.alloc (.cells #[.slice a7 n7 c7, .slice a8 n8 c8] 51) := ⟨_, rfl⟩
    obtain ⟨g, hg⟩ : ∃ g, g = w1.heap.size := ⟨_, rfl⟩
    rw [← hw, ← hg] at S1
    rw [← hw] at Z2
    rw [← hg] at hne
    rw [← hw, ← hg]
    clear hw hg
    by_cases h2 : k * D ≤ M
    · have HE : Hid (takeE M D (k : Int) = 0 ∧ takeN M D (k : Int) = M - k * D) := by
        unfold takeE takeN
        have h9 : ¬ (k : Int) < 1 := by have := HK.out; omega
        rw [Int.toNat_natCast, if_neg h9, if_neg h9, if_neg (Nat.not_lt.2 h2), if_neg (Nat.not_lt.2 h2)]
        exact ⟨rfl, rfl⟩
      obtain ⟨X, Y, fs, ad⟩ := FH.out.sub FK.out (by omega) (by omega) (by rw [Nat.mul_one]; exact h2)
      rw [Nat.mul_one, Nat.mul_one] at fs
      have FS : Hid (Fc X Y (M - k * D) D 20) := fs.norm (by
        have h3 : B * D < P 1 * P 18 := Nat.mul_lt_mul'' (by rw [P_one]; have := HB.out.1.cB; omega) HB.out.1.cD.2
        rw [← P_add] at h3
        have := Z2.out.1.cN
        exact Nat.lt_of_le_of_lt (by omega) (P_up h3 (by omega))) (P_up HB.out.1.cD.2 (by omega))
      have AD : Hid (∀ v u w, Rt w v p q → Rt w u k 1 → Tab w → Calls Tryz.prog 26 #[v, u] w (MakesRB w X Y true)) := ad
      clear fs ad h2
      refine wp_region_inv (JC w2 [sEq (.agg #[.slice a7 n7 c7, .slice a8 n8 c8]), sEq (.int .i64 (k : Int)), sRt (k) (1), sRtB (X) (Y) true, sRtB (X) (Y) true, sRt (X) (Y), sEq (.bool true), sAny, sAny, sEq (.bool true)] (7, 8, 5)) 29 (by kernel_rfl) rfl (by kernel_rfl) (JC.start _ _ _) (fun HG HN => ⟨?_, ?_, ?_, ?_, ?_, ?_, ?_, ?_, ?_, ?_, trivial⟩) ?_
      · intro L vs a w' hJ hF hP hL
        have q7 : (a.tmps[7]?).getD undef = .pointer (some ⟨g, 0, none⟩) := hF.old 7 rfl
        have cb0 := cell_later hJ.bel (S1.out.cel (g) 0 (.slice a7 n7 c7))
        have cb1 := cell_later hJ.bel (S1.out.cel (g) 1 (.slice a8 n8 c8))
        exact run_val (v := .agg #[.slice a7 n7 c7, .slice a8 n8 c8]) rfl (by simp [execOp, go_sem, q7, cb0, cb1]) ⟨_, rfl, hJ.step hL rfl (Below.refl _ _) (by exact rfl)⟩
      · intro L vs a w' hJ hF hP hL
        have q2 : (a.tmps[2]?).getD undef = .int .i64 (k : Int) := hF.old 2 rfl
        exact run_val (v := .int .i64 (k : Int)) rfl (by simp [execOp, go_sem, q2]) ⟨_, rfl, hJ.step hL rfl (Below.refl _ _) (by exact rfl)⟩
      · intro L vs a w' hJ hF hP hL
        have p1 : L 1 = true := hP ⟨1, .data⟩ (by simp) rfl
        have s1 : vs 1 = .int .i64 (k : Int) := hJ.sp 1 p1
        have q17 := hF.slot 1 17 rfl p1
        refine run_call (f := 16) (args := #[.int .i64 (k : Int)]) rfl (by simp [go_sem, q17, s1]) (whole_any k _ HK.out.2 (Z2.out.2.1.go hJ.bel)) ?_
        rintro e w2 ⟨v, rfl, hv, hb⟩
        exact ⟨_, rfl, _, rfl, hJ.step hL rfl hb (by exact hv)⟩
      · intro L vs a w' hJ hF hP hL
        have p0 : L 0 = true := hP ⟨0, .data⟩ (by simp) rfl
        have s0 : vs 0 = .agg #[.slice a7 n7 c7, .slice a8 n8 c8] := hJ.sp 0 p0
        have q16 := hF.slot 0 16 rfl p0
        have p2 : L 2 = true := hP ⟨2, .data⟩ (by simp) rfl
        have s2 : Rt w' (vs 2) (k) (1) := hJ.sp 2 p2
        have q18 := hF.slot 2 18 rfl p2
        refine run_call (f := 26) (args := #[.agg #[.slice a7 n7 c7, .slice a8 n8 c8], vs 2]) rfl (by simp [go_sem, q16, s0, q18]) (AD.out _ _ _ ((S1.out.fr (.agg #[.slice a7 n7 c7, .slice a8 n8 c8]) p q).mono hJ.bel) s2 (Z2.out.2.1.go hJ.bel)) ?_
        rintro e w2 ⟨v1, rfl, h1, hb⟩
        exact ⟨_, rfl, _, rfl, hJ.step hL rfl hb (by exact ⟨v1, rfl, h1⟩)⟩
      · intro L vs a w' hJ hF hP hL
        have p3 : L 3 = true := hP ⟨3, .data⟩ (by simp) rfl
        have s3 : ∃ p, vs 3 = .tuple #[p, .bool true] ∧ Rt w' p (X) (Y) := hJ.sp 3 p3
        have q19 := hF.slot 3 19 rfl p3
        exact run_val (v := vs 3) rfl (by simp [execOp, go_sem, q19]) ⟨_, rfl, hJ.step hL rfl (Below.refl _ _) (by exact s3)⟩
      · intro L vs a w' hJ hF hP hL
        have p4 : L 4 = true := hP ⟨4, .data⟩ (by simp) rfl
        have s4 : ∃ p, vs 4 = .tuple #[p, .bool true] ∧ Rt w' p (X) (Y) := hJ.sp 4 p4
        have q15 := hF.slot 4 15 rfl p4
        obtain ⟨vp, e1, e2⟩ := s4
        exact run_val (v := vp) rfl (by simp [execOp, go_sem, q15, e1]) ⟨_, rfl, hJ.step hL rfl (Below.refl _ _) (by exact e2)⟩
      · intro L vs a w' hJ hF hP hL
        have p4 : L 4 = true := hP ⟨4, .data⟩ (by simp) rfl
        have s4 : ∃ p, vs 4 = .tuple #[p, .bool true] ∧ Rt w' p (X) (Y) := hJ.sp 4 p4
        have q15 := hF.slot 4 15 rfl p4
        obtain ⟨vp, e1, e2⟩ := s4
        exact run_val (v := .bool true) rfl (by simp [execOp, go_sem, q15, e1]) ⟨_, rfl, hJ.step hL rfl (Below.refl _ _) (by exact rfl)⟩
      · intro L vs a w' hJ hF hP hL
        exact run_val (v := .pointer (some ⟨w'.heap.size, 0, none⟩)) (w' := w'.alloc (.cells #[.slice none 0 0, .slice none 0 0] 51)) rfl (by simp [execOp, go_sem]) ⟨_, rfl, hJ.alloc hL rfl (by decide) rfl _⟩
      · intro L vs a w' hJ hF hP hL
        have p7 : L 7 = true := hP ⟨7, .data⟩ (by simp) rfl
        have q8 := hF.slot 7 8 rfl p7
        have p5 : L 5 = true := hP ⟨5, .data⟩ (by simp) rfl
        have s5 : Rt w' (vs 5) (X) (Y) := hJ.sp 5 p5
        have q20 := hF.slot 5 20 rfl p5
        obtain ⟨bk, e1, e2, e3, e4, e4', e5, e6⟩ := hJ.bx p7
        obtain ⟨e7, e7'⟩ := e5 hL
        obtain ⟨aa, nn, cc, a2, n2, c2, e8, _, _⟩ := s5.raw
        exact run_unit (w' := (w'.setCell ⟨bk, 0, none⟩ (.slice aa nn cc)).setCell ⟨bk, 1, none⟩ (.slice a2 n2 c2)) rfl (by simp [execOp, go_sem, q8, q20, e1, e8, e7, e4, e7', e4']) ⟨undef, rfl, hJ.store hL p7 p5 (by decide) rfl e1 e8⟩
      · intro L vs a w' hJ hF hP hL
        have p6 : L 6 = true := hP ⟨6, .data⟩ (by simp) rfl
        have s6 : vs 6 = .bool true := hJ.sp 6 p6
        have q21 := hF.slot 6 21 rfl p6
        exact run_val (v := .bool true) rfl (by simp [execOp, go_sem, q21, s6]) ⟨_, rfl, hJ.step hL rfl (Below.refl _ _) (by exact rfl)⟩
      intro L vs w' hA hJ
      have s5 : Rt w' (vs 5) (X) (Y) := hJ.sp 5 (hA 5 (by simp))
      have s6 : vs 6 = .bool true := hJ.sp 6 (hA 6 (by simp))
      have s9 : vs 9 = .bool true := hJ.sp 9 (hA 9 (by simp))
      obtain ⟨bk7, eb7, ge7, lt7, fz7, fz7', _, e6⟩ := hJ.bx (hA 7 (by simp))
      obtain ⟨_, u7, u7', eu7, ce7, ce7'⟩ := e6 (hA 8 (by simp))
      clear e6
      simp only [putL, Act.put, List.setIfInBounds_toArray, List.set_cons_zero, List.set_cons_succ, Nat.reduceAdd]
      obtain ⟨a9, n9, c9, a10, n10, c10, q1, _, _⟩ := s5.raw
      rw [q1] at s5 eu7
      obtain ⟨rfl, rfl⟩ : u7 = .slice a9 n9 c9 ∧ u7' = .slice a10 n10 c10 := by simpa using eu7.symm
      simp only [eb7, s6, s9]
      have Z3 : Hid (Bu w' b T' M R D B ∧ Tab w' ∧ Fb (fun x => x = b) w w') := ⟨Z2.out.1.go hJ.bel, Z2.out.2.1.go hJ.bel, Z2.out.2.2.go hJ.bel⟩
      have RV : Hid (Rt w' (.agg #[.slice a9 n9 c9, .slice a10 n10 c10]) X Y) := s5
      obtain ⟨w3, ew⟩ : ∃ w3, w3 = w' := ⟨_, rfl⟩
      obtain ⟨b9, e1⟩ : ∃ b9, b9 = bk7 := ⟨_, rfl⟩
      rw [← e1] at ce7 ce7'
      rw [← ew] at Z3 RV ce7 ce7'
      rw [← ew, ← e1]
      clear ew e1 q1 s5 s6 s9 eu7 eb7 ge7 lt7 fz7 fz7' hJ hA S1 Z2
      have zz : w3.cell? ⟨b, 1, none⟩ = w3.cell? ⟨b, 1, none⟩ ∧ ∃ s1 s2, isSl s1 ∧ isSl s2 ∧ w3.cell? ⟨b, 1, none⟩ = some s1 ∧ w3.cell? ⟨b, 2, none⟩ = some s2 ∧ w3.frozen? ⟨b, 1, none⟩ = false ∧ w3.frozen? ⟨b, 2, none⟩ = false := by
        obtain ⟨p, q, a1, n1, c1, a2, n2, c2, a3, n3, c3, a4, n4, c4, a5, n5, c5, a6, n6, c6, f1, S2, fz⟩ := Z3.out.1.toBv.open
        exact ⟨rfl, _, _, ⟨_, _, _, rfl⟩, ⟨_, _, _, rfl⟩, S2.cel b 1 (.slice a1 n1 c1), S2.cel b 2 (.slice a2 n2 c2), fz 1, fz 2⟩
      obtain ⟨-, s1, s2, ⟨a1, n1, c1, rfl⟩, ⟨a2, n2, c2, rfl⟩, z1, z2, y1, y2⟩ := zz
      have PT := Z3.out.1.toBv.put RV.out FS.out
      have XX : Hid _ := PT
      clear PT
      go_wp2_with fail
      go_ret
      refine ⟨?_, ?_, Z3.out.2.2.trans XX.out.2⟩
      · exact ret_int (by rw [← HM.out.1, HE.out.1])
      · rw [← HM.out.1, ← HM.out.2, HE.out.2]
        exact ⟨XX.out.1, by have := Z3.out.1.cN; omega⟩
    · have HE : Hid (takeE M D (k : Int) = 80 ∧ takeN M D (k : Int) = M) := by
        unfold takeE takeN
        have h9 : ¬ (k : Int) < 1 := by have := HK.out; omega
        rw [Int.toNat_natCast, if_neg h9, if_neg h9, if_pos (Nat.lt_of_not_le h2), if_pos (Nat.lt_of_not_le h2)]
        exact ⟨rfl, rfl⟩
      have ad := FH.out.sub_no FK.out (by omega) (by omega) (by rw [Nat.mul_one]; omega)
      have AD : Hid (∀ v u w, Rt w v p q → Rt w u k 1 → Tab w → Calls Tryz.prog 26 #[v, u] w (MakesRB w 0 1 false)) := ad
      clear ad h2
      refine wp_region_inv (JC w2 [sEq (.agg #[.slice a7 n7 c7, .slice a8 n8 c8]), sEq (.int .i64 (k : Int)), sRt (k) (1), sRtB (0) (1) false, sRtB (0) (1) false, sRt (0) (1), sEq (.bool false), sAny, sAny, sEq (.bool false)] (7, 8, 5)) 29 (by kernel_rfl) rfl (by kernel_rfl) (JC.start _ _ _) (fun HG HN => ⟨?_, ?_, ?_, ?_, ?_, ?_, ?_, ?_, ?_, ?_, trivial⟩) ?_
      · intro L vs a w' hJ hF hP hL
        have q7 : (a.tmps[7]?).getD undef = .pointer (some ⟨g, 0, none⟩) := hF.old 7 rfl
        have cb0 := cell_later hJ.bel (S1.out.cel (g) 0 (.slice a7 n7 c7))
        have cb1 := cell_later hJ.bel (S1.out.cel (g) 1 (.slice a8 n8 c8))
        exact run_val (v := .agg #[.slice a7 n7 c7, .slice a8 n8 c8]) rfl (by simp [execOp, go_sem, q7, cb0, cb1]) ⟨_, rfl, hJ.step hL rfl (Below.refl _ _) (by exact rfl)⟩
      · intro L vs a w' hJ hF hP hL
        have q2 : (a.tmps[2]?).getD undef = .int .i64 (k : Int) := hF.old 2 rfl
        exact run_val (v := .int .i64 (k : Int)) rfl (by simp [execOp, go_sem, q2]) ⟨_, rfl, hJ.step hL rfl (Below.refl _ _) (by exact rfl)⟩
      · intro L vs a w' hJ hF hP hL
        have p1 : L 1 = true := hP ⟨1, .data⟩ (by simp) rfl
        have s1 : vs 1 = .int .i64 (k : Int) := hJ.sp 1 p1
        have q17 := hF.slot 1 17 rfl p1
        refine run_call (f := 16) (args := #[.int .i64 (k : Int)]) rfl (by simp [go_sem, q17, s1]) (whole_any k _ HK.out.2 (Z2.out.2.1.go hJ.bel)) ?_
        rintro e w2 ⟨v, rfl, hv, hb⟩
        exact ⟨_, rfl, _, rfl, hJ.step hL rfl hb (by exact hv)⟩
      · intro L vs a w' hJ hF hP hL
        have p0 : L 0 = true := hP ⟨0, .data⟩ (by simp) rfl
        have s0 : vs 0 = .agg #[.slice a7 n7 c7, .slice a8 n8 c8] := hJ.sp 0 p0
        have q16 := hF.slot 0 16 rfl p0
        have p2 : L 2 = true := hP ⟨2, .data⟩ (by simp) rfl
        have s2 : Rt w' (vs 2) (k) (1) := hJ.sp 2 p2
        have q18 := hF.slot 2 18 rfl p2
        refine run_call (f := 26) (args := #[.agg #[.slice a7 n7 c7, .slice a8 n8 c8], vs 2]) rfl (by simp [go_sem, q16, s0, q18]) (AD.out _ _ _ ((S1.out.fr (.agg #[.slice a7 n7 c7, .slice a8 n8 c8]) p q).mono hJ.bel) s2 (Z2.out.2.1.go hJ.bel)) ?_
        rintro e w2 ⟨v1, rfl, h1, hb⟩
        exact ⟨_, rfl, _, rfl, hJ.step hL rfl hb (by exact ⟨v1, rfl, h1⟩)⟩
      · intro L vs a w' hJ hF hP hL
        have p3 : L 3 = true := hP ⟨3, .data⟩ (by simp) rfl
        have s3 : ∃ p, vs 3 = .tuple #[p, .bool false] ∧ Rt w' p (0) (1) := hJ.sp 3 p3
        have q19 := hF.slot 3 19 rfl p3
        exact run_val (v := vs 3) rfl (by simp [execOp, go_sem, q19]) ⟨_, rfl, hJ.step hL rfl (Below.refl _ _) (by exact s3)⟩
      · intro L vs a w' hJ hF hP hL
        have p4 : L 4 = true := hP ⟨4, .data⟩ (by simp) rfl
        have s4 : ∃ p, vs 4 = .tuple #[p, .bool false] ∧ Rt w' p (0) (1) := hJ.sp 4 p4
        have q15 := hF.slot 4 15 rfl p4
        obtain ⟨vp, e1, e2⟩ := s4
        exact run_val (v := vp) rfl (by simp [execOp, go_sem, q15, e1]) ⟨_, rfl, hJ.step hL rfl (Below.refl _ _) (by exact e2)⟩
      · intro L vs a w' hJ hF hP hL
        have p4 : L 4 = true := hP ⟨4, .data⟩ (by simp) rfl
        have s4 : ∃ p, vs 4 = .tuple #[p, .bool false] ∧ Rt w' p (0) (1) := hJ.sp 4 p4
        have q15 := hF.slot 4 15 rfl p4
        obtain ⟨vp, e1, e2⟩ := s4
        exact run_val (v := .bool false) rfl (by simp [execOp, go_sem, q15, e1]) ⟨_, rfl, hJ.step hL rfl (Below.refl _ _) (by exact rfl)⟩
      · intro L vs a w' hJ hF hP hL
        exact run_val (v := .pointer (some ⟨w'.heap.size, 0, none⟩)) (w' := w'.alloc (.cells #[.slice none 0 0, .slice none 0 0] 51)) rfl (by simp [execOp, go_sem]) ⟨_, rfl, hJ.alloc hL rfl (by decide) rfl _⟩
      · intro L vs a w' hJ hF hP hL
        have p7 : L 7 = true := hP ⟨7, .data⟩ (by simp) rfl
        have q8 := hF.slot 7 8 rfl p7
        have p5 : L 5 = true := hP ⟨5, .data⟩ (by simp) rfl
        have s5 : Rt w' (vs 5) (0) (1) := hJ.sp 5 p5
        have q20 := hF.slot 5 20 rfl p5
        obtain ⟨bk, e1, e2, e3, e4, e4', e5, e6⟩ := hJ.bx p7
        obtain ⟨e7, e7'⟩ := e5 hL
        obtain ⟨aa, nn, cc, a2, n2, c2, e8, _, _⟩ := s5.raw
        exact run_unit (w' := (w'.setCell ⟨bk, 0, none⟩ (.slice aa nn cc)).setCell ⟨bk, 1, none⟩ (.slice a2 n2 c2)) rfl (by simp [execOp, go_sem, q8, q20, e1, e8, e7, e4, e7', e4']) ⟨undef, rfl, hJ.store hL p7 p5 (by decide) rfl e1 e8⟩
      · intro L vs a w' hJ hF hP hL
        have p6 : L 6 = true := hP ⟨6, .data⟩ (by simp) rfl
        have s6 : vs 6 = .bool false := hJ.sp 6 p6
        have q21 := hF.slot 6 21 rfl p6
        exact run_val (v := .bool false) rfl (by simp [execOp, go_sem, q21, s6]) ⟨_, rfl, hJ.step hL rfl (Below.refl _ _) (by exact rfl)⟩
      intro L vs w' hA hJ
      have s5 : Rt w' (vs 5) (0) (1) := hJ.sp 5 (hA 5 (by simp))
      have s6 : vs 6 = .bool false := hJ.sp 6 (hA 6 (by simp))
      have s9 : vs 9 = .bool false := hJ.sp 9 (hA 9 (by simp))
      obtain ⟨bk7, eb7, ge7, lt7, fz7, fz7', _, e6⟩ := hJ.bx (hA 7 (by simp))
      obtain ⟨_, u7, u7', eu7, ce7, ce7'⟩ := e6 (hA 8 (by simp))
      clear e6
      simp only [putL, Act.put, List.setIfInBounds_toArray, List.set_cons_zero, List.set_cons_succ, Nat.reduceAdd]
      simp only [eb7, s6, s9]
      have Z3 : Hid (Bu w' b T' M R D B ∧ Fb (fun x => x = b) w w') := ⟨Z2.out.1.go hJ.bel, Z2.out.2.2.go hJ.bel⟩
      clear s5 s6 s9 eu7 eb7 ge7 lt7 fz7 fz7' hJ hA S1 Z2 ce7 ce7'
      go_wp2_with fail
      go_ret
      refine ⟨?_, ?_, Z3.out.2⟩
      · exact ret_int (by rw [← HM.out.1, HE.out.1])
      · rw [← HM.out.1, ← HM.out.2, HE.out.2]
        exact Z3.out.1
end Go.Proofs.YthogfecnbddfoaaGreatDoor

namespace Go.Proofs.YthogfecnbddfoaaGreatDoor
open Go.RowKit
set_option maxRecDepth 100000
set_option linter.unusedVariables false
end Go.Proofs.YthogfecnbddfoaaGreatDoor

namespace Go.Proofs.YthogfecnbddfoaaGreatDoor
open Go.RowKit
set_option maxRecDepth 100000
set_option linter.unusedVariables false
end Go.Proofs.YthogfecnbddfoaaGreatDoor

namespace Go.Proofs.YthogfecnbddfoaaGreatDoor
open Go.RowKit
set_option maxRecDepth 100000
set_option linter.unusedVariables false
set_option maxHeartbeats 4000000 in
theorem inUnits_neg (v u : Value) (p q t : Nat) (s : Int) (w : World) (h : IsNat w v p) (k : IsNat w u q) (hp : Fits p) (hs : s = -(t : Int)) (ht0 : 0 < t) (ht : t ≤ 16777216) :
    Calls Tryz.prog 49 #[v, u, .int .i64 s] w (Makes2N w (p * 2 ^ t) q) := by
  obtain ⟨a, n, c, rfl⟩ := h.isAgg
  obtain ⟨a', n', c', rfl⟩ := k.isAgg
  have S1 : Hid _ := (((((((sx_start w).addN h).addN k).box1 (.slice a n c) 49 _ rfl).box1 (.slice a' n' c') 49 _ rfl).box1 (.slice none 0 0) 49 _ rfl).box1 (.slice none 0 0) 49 _ rfl)
  simp only [World.size_alloc] at S1
  obtain ⟨w0, hw0⟩ : ∃ w0, w0 = (((w.alloc (.cells #[.slice a n c] 49)).alloc (.cells #[.slice a' n' c'] 49)).alloc (.cells #[.slice none 0 0] 49)).alloc (.cells #[.slice none 0 0] 49) := ⟨_, rfl⟩
  have f0 : w0.frozen? ⟨w.heap.size, 0, none⟩ = false := by rw [hw0]; simp [go_sem]
  have f1 : w0.frozen? ⟨w.heap.size + 1 + 1, 0, none⟩ = false := by rw [hw0]; simp [go_sem]
  have f2 : w0.frozen? ⟨w.heap.size + 1 + 1 + 1, 0, none⟩ = false := by rw [hw0]; simp [go_sem]
  have HH : Hid (Fits p ∧ t ≤ 16777216) := ⟨hp, ht⟩
  have d1 : decide (s < 0) = true := decide_eq_true (by omega)
  have m1 : IntKind.i64.wrap (-s) = (t : Int) := by rw [IntKind.wrap_i64]; omega
  clear h k hp hs ht0 ht
  go_enter Tryz.func49, Tryz.ntmps49
  go_wp2_with fail
  rw [← hw0] at S1
  rw [← hw0]
  obtain ⟨b2, hb2⟩ : ∃ b2, b2 = w.heap.size := ⟨_, rfl⟩
  have HB : Hid (w.heap.size ≤ b2) := by show _ ≤ _; omega
  rw [← hb2] at S1 f0 f1 f2
  rw [← hb2]
  clear hw0 hb2
  refine (left_yes _ p t _ (S1.out.at (.agg #[.slice a n c]) p) HH.out.1 HH.out.2).mono ?_
  rintro e w1 ⟨v1, rfl, hv1, hb1⟩
  obtain ⟨a1, n1, k1, rfl⟩ := hv1.isAgg
  have z0 := cell_later hb1 (S1.out.cel b2 0 (.slice a n c))
  have z1 := cell_later hb1 (S1.out.cel (b2 + 1) 0 (.slice a' n' c'))
  have z2 := cell_later hb1 (S1.out.cel (b2 + 1 + 1) 0 (.slice none 0 0))
  have z3 := cell_later hb1 (S1.out.cel (b2 + 1 + 1 + 1) 0 (.slice none 0 0))
  have g0 := (hb1.frozen (World.block_lt_of_cell? _ _ (S1.out.cel b2 0 (.slice a n c)))).trans f0
  have g1 := (hb1.frozen (World.block_lt_of_cell? _ _ (S1.out.cel (b2 + 1 + 1) 0 (.slice none 0 0)))).trans f1
  have g2 := (hb1.frozen (World.block_lt_of_cell? _ _ (S1.out.cel (b2 + 1 + 1 + 1) 0 (.slice none 0 0)))).trans f2
  have I1 : Hid (IsNat w1 (.agg #[.slice a1 n1 k1]) (p * 2 ^ t) ∧ IsNat w1 (.agg #[.slice a' n' c']) q ∧ Below w.heap.size w w1) := ⟨hv1, (S1.out.at (.agg #[.slice a' n' c']) q).mono hb1, bel_go S1.out.bel hb1⟩
  clear hv1 hb1 S1 f0 f1 f2
  go_wp2_with fail
  obtain ⟨W, hW⟩ : ∃ W, W = w1.setCell ⟨b2, 0, none⟩ (.slice a1 n1 k1) := ⟨_, rfl⟩
  have y0 : W.cell? ⟨b2, 0, none⟩ = some (.slice a1 n1 k1) := by rw [hW]; simp [go_sem, z0]
  have y1 : W.cell? ⟨b2 + 1, 0, none⟩ = some (.slice a' n' c') := by rw [hW]; simp [go_sem, z1]
  have y2 : W.cell? ⟨b2 + 1 + 1, 0, none⟩ = some (.slice none 0 0) := by rw [hW]; simp [go_sem, z2]
  have y3 : W.cell? ⟨b2 + 1 + 1 + 1, 0, none⟩ = some (.slice none 0 0) := by rw [hW]; simp [go_sem, z3]
  have h1 : W.frozen? ⟨b2 + 1 + 1, 0, none⟩ = false := by rw [hW]; simp [World.frozen?_setCell, g1]
  have h2 : W.frozen? ⟨b2 + 1 + 1 + 1, 0, none⟩ = false := by rw [hW]; simp [World.frozen?_setCell, g2]
  have I2 : Hid (IsNat W (.agg #[.slice a1 n1 k1]) (p * 2 ^ t) ∧ IsNat W (.agg #[.slice a' n' c']) q ∧ Below w.heap.size w W) := by
    rw [hW]
    exact ⟨I1.out.1.setCell (no_int_slice z0) _, I1.out.2.1.setCell (no_int_slice z0) _, I1.out.2.2.setCell HB.out _⟩
  rw [← hW]
  clear hW I1 z0 z1 z2 z3 g0 g1 g2
  have Z : Hid _ := nat_put2 (r := b2 + 1 + 1) (x := .slice a1 n1 k1) (y := .slice a' n' c') y2 y3 I2.out.1 I2.out.2.1 I2.out.2.2 (by have := HB.out; omega)
  go_region
  go_wp2_with fail
  refine bodyPost_ret (v := .tuple #[.agg #[.slice a1 n1 k1], .agg #[.slice a' n' c']]) (by simp [results, Tryz.results49, go_sem, y2, y3]) rfl ⟨_, _, rfl, Z.out.1.mono (bel_dr (bel_refl _)), Z.out.2.1.mono (bel_dr (bel_refl _)), bel_dr Z.out.2.2⟩
set_option maxHeartbeats 4000000 in
theorem inUnits_pos (v u : Value) (p q t : Nat) (s : Int) (w : World) (h : IsNat w v p) (k : IsNat w u q) (hp : Fits q) (hs : s = (t : Int)) (ht : t ≤ 16777216) :
    Calls Tryz.prog 49 #[v, u, .int .i64 s] w (Makes2N w p (q * 2 ^ t)) := by
  obtain ⟨a, n, c, rfl⟩ := h.isAgg
  obtain ⟨a', n', c', rfl⟩ := k.isAgg
  have S1 : Hid _ := (((((((sx_start w).addN h).addN k).box1 (.slice a n c) 49 _ rfl).box1 (.slice a' n' c') 49 _ rfl).box1 (.slice none 0 0) 49 _ rfl).box1 (.slice none 0 0) 49 _ rfl)
  simp only [World.size_alloc] at S1
  obtain ⟨w0, hw0⟩ : ∃ w0, w0 = (((w.alloc (.cells #[.slice a n c] 49)).alloc (.cells #[.slice a' n' c'] 49)).alloc (.cells #[.slice none 0 0] 49)).alloc (.cells #[.slice none 0 0] 49) := ⟨_, rfl⟩
  have f0 : w0.frozen? ⟨w.heap.size + 1, 0, none⟩ = false := by rw [hw0]; simp [go_sem]
  have f1 : w0.frozen? ⟨w.heap.size + 1 + 1, 0, none⟩ = false := by rw [hw0]; simp [go_sem]
  have f2 : w0.frozen? ⟨w.heap.size + 1 + 1 + 1, 0, none⟩ = false := by rw [hw0]; simp [go_sem]
  have HH : Hid (Fits q ∧ t ≤ 16777216) := ⟨hp, ht⟩
  have d1 : decide ((t : Int) < 0) = false := decide_eq_false (by omega)
  subst hs
  clear h k hp ht
  go_enter Tryz.func49, Tryz.ntmps49
  go_wp2_with fail
  rw [← hw0] at S1
  rw [← hw0]
  obtain ⟨b2, hb2⟩ : ∃ b2, b2 = w.heap.size := ⟨_, rfl⟩
  have HB : Hid (w.heap.size ≤ b2) := by show _ ≤ _; omega
  rw [← hb2] at S1 f0 f1 f2
  rw [← hb2]
  clear hw0 hb2
  refine (left_yes _ q t _ (S1.out.at (.agg #[.slice a' n' c']) q) HH.out.1 HH.out.2).mono ?_
  rintro e w1 ⟨v1, rfl, hv1, hb1⟩
  obtain ⟨a1, n1, k1, rfl⟩ := hv1.isAgg
  have z0 := cell_later hb1 (S1.out.cel b2 0 (.slice a n c))
  have z1 := cell_later hb1 (S1.out.cel (b2 + 1) 0 (.slice a' n' c'))
  have z2 := cell_later hb1 (S1.out.cel (b2 + 1 + 1) 0 (.slice none 0 0))
  have z3 := cell_later hb1 (S1.out.cel (b2 + 1 + 1 + 1) 0 (.slice none 0 0))
  have g0 := (hb1.frozen (World.block_lt_of_cell? _ _ (S1.out.cel (b2 + 1) 0 (.slice a' n' c')))).trans f0
  have g1 := (hb1.frozen (World.block_lt_of_cell? _ _ (S1.out.cel (b2 + 1 + 1) 0 (.slice none 0 0)))).trans f1
  have g2 := (hb1.frozen (World.block_lt_of_cell? _ _ (S1.out.cel (b2 + 1 + 1 + 1) 0 (.slice none 0 0)))).trans f2
  have I1 : Hid (IsNat w1 (.agg #[.slice a n c]) p ∧ IsNat w1 (.agg #[.slice a1 n1 k1]) (q * 2 ^ t) ∧ Below w.heap.size w w1) := ⟨(S1.out.at (.agg #[.slice a n c]) p).mono hb1, hv1, bel_go S1.out.bel hb1⟩
  clear hv1 hb1 S1 f0 f1 f2
  go_wp2_with fail
  obtain ⟨W, hW⟩ : ∃ W, W = w1.setCell ⟨b2 + 1, 0, none⟩ (.slice a1 n1 k1) := ⟨_, rfl⟩
  have y0 : W.cell? ⟨b2, 0, none⟩ = some (.slice a n c) := by rw [hW]; simp [go_sem, z0]
  have y1 : W.cell? ⟨b2 + 1, 0, none⟩ = some (.slice a1 n1 k1) := by rw [hW]; simp [go_sem, z1]
  have y2 : W.cell? ⟨b2 + 1 + 1, 0, none⟩ = some (.slice none 0 0) := by rw [hW]; simp [go_sem, z2]
  have y3 : W.cell? ⟨b2 + 1 + 1 + 1, 0, none⟩ = some (.slice none 0 0) := by rw [hW]; simp [go_sem, z3]
  have h1 : W.frozen? ⟨b2 + 1 + 1, 0, none⟩ = false := by rw [hW]; simp [World.frozen?_setCell, g1]
  have h2 : W.frozen? ⟨b2 + 1 + 1 + 1, 0, none⟩ = false := by rw [hW]; simp [World.frozen?_setCell, g2]
  have I2 : Hid (IsNat W (.agg #[.slice a n c]) p ∧ IsNat W (.agg #[.slice a1 n1 k1]) (q * 2 ^ t) ∧ Below w.heap.size w W) := by
    rw [hW]
    exact ⟨I1.out.1.setCell (no_int_slice z1) _, I1.out.2.1.setCell (no_int_slice z1) _, I1.out.2.2.setCell (by have := HB.out; show _ ≤ b2 + 1; omega) _⟩
  rw [← hW]
  clear hW I1 z0 z1 z2 z3 g0 g1 g2
  have Z : Hid _ := nat_put2 (r := b2 + 1 + 1) (x := .slice a n c) (y := .slice a1 n1 k1) y2 y3 I2.out.1 I2.out.2.1 I2.out.2.2 (by have := HB.out; omega)
  go_region
  go_wp2_with fail
  refine bodyPost_ret (v := .tuple #[.agg #[.slice a n c], .agg #[.slice a1 n1 k1]]) (by simp [results, Tryz.results49, go_sem, y2, y3]) rfl ⟨_, _, rfl, Z.out.1.mono (bel_dr (bel_refl _)), Z.out.2.1.mono (bel_dr (bel_refl _)), bel_dr Z.out.2.2⟩
end Go.Proofs.YthogfecnbddfoaaGreatDoor

namespace Go.Proofs.YthogfecnbddfoaaGreatDoor
open Go.RowKit
set_option maxRecDepth 100000
set_option linter.unusedVariables false
/-- What the bits of a number say: its whole part and its exponent. -/
def fm (u : Nat) : Nat := if u / 4503599627370496 = 0 then u % 4503599627370496 else u % 4503599627370496 + 4503599627370496
def fe (u : Nat) : Nat := u / 4503599627370496 - 1
def fN (u : Nat) : Nat := fm u * 2 ^ (fe u - 1074)
def fD (u : Nat) : Nat := 2 ^ (1074 - fe u)
/-- The number that is -0 is 0. -/
def nz (u : Nat) : Nat := if u = 9223372036854775808 then 0 else u
theorem fm_lt (u : Nat) : fm u < 2 ^ 53 := by unfold fm; split <;> omega
theorem fe_le {u : Nat} (h : u < 9218868437227405312) : fe u ≤ 2045 := by unfold fe; omega
theorem two_lt {a b : Nat} (h : a < b) : 2 ^ a < 2 ^ b := Nat.pow_lt_pow_right (by omega) h
theorem two_P {a n : Nat} (h : a < 64 * n) : 2 ^ a < P n := by
  rw [P_two]
  exact two_lt h
theorem fN_gen {m e n : Nat} (hm : m < 2 ^ 53) (he : 53 + e ≤ 64 * n) : m * 2 ^ e < P n := by
  rw [P_two]
  refine Nat.lt_of_lt_of_le (Nat.mul_lt_mul_of_pos_right hm (Nat.two_pow_pos e)) ?_
  rw [← Nat.pow_add]
  exact Nat.pow_le_pow_right (by omega) he
theorem fN_lt {u : Nat} (h : u < 9218868437227405312) : fN u < P 16 := fN_gen (fm_lt u) (by have := fe_le h; omega)
theorem fD_lt (u : Nat) : fD u < P 17 := two_P (by omega)
theorem fD_pos (u : Nat) : 0 < fD u := Nat.two_pow_pos _
theorem f64bits (u : Nat) (w : World) : (callFunc 70 #[.float .f64 u]).run Tryz.prog w = .ok (.value (.int .u64 (u : Int))) w := by
  rw [run_callFunc_extern Tryz.func70 (by kernel_rfl) (by kernel_rfl) (by kernel_rfl) (e := Extern.MathFloatBits.float64bits) (by kernel_rfl)]
  rfl
theorem f64frombits (u : Nat) (w : World) : (callFunc 17 #[.int .u64 (u : Int)]).run Tryz.prog w = .ok (.value (.float .f64 u)) w := by
  rw [run_callFunc_extern Tryz.func17 (by kernel_rfl) (by kernel_rfl) (by kernel_rfl) (e := Extern.MathFloatBits.float64frombits) (by kernel_rfl)]
  rfl
set_option maxHeartbeats 400000 in
theorem bits_any (u : Nat) (w : World) : Calls Tryz.prog 47 #[.float .f64 u] w fun e w' => e = .returned (.int .u64 (u : Int)) ∧ w' = w := by
  have h1 := f64bits u
  go_enter Tryz.func47, Tryz.ntmps47
  go_wp2_with fail
  go_ret
  exact ⟨rfl, rfl⟩
set_option maxHeartbeats 400000 in
theorem float_any (u : Nat) (w : World) : Calls Tryz.prog 6 #[.int .u64 (u : Int)] w fun e w' => e = .returned (.float .f64 u) ∧ w' = w := by
  have h1 := f64frombits u
  go_enter Tryz.func6, Tryz.ntmps6
  go_wp2_with fail
  go_ret
  exact ⟨rfl, rfl⟩
/-- What FromFloat takes. -/
def isF (u : Nat) : Prop := u = 9223372036854775808 ∨ u < 9218868437227405312
theorem low_fc {N D n : Nat} (hD : 0 < D) (h1 : N < P n) (h2 : D < P n) : Fc (N / Nat.gcd N D) (D / Nat.gcd N D) N D n := by
  have := low_terms N D hD
  exact ⟨this.1, this.2.2, hD, this.2.1, Nat.lt_of_le_of_lt (Nat.div_le_self _ _) h1, Nat.lt_of_le_of_lt (Nat.div_le_self _ _) h2⟩
set_option maxHeartbeats 4000000 in
theorem fromFloat_no (u : Nat) (w : World) (h : ¬ isF u) (hu : u < 18446744073709551616) : Calls Tryz.prog 32 #[.float .f64 u] w (MakesRB w 0 1 false) := by
  have a1 : ¬ u = 9223372036854775808 := fun e => h (.inl e)
  have a2 : ¬ u < 9218868437227405312 := fun e => h (.inr e)
  have d1 : decide (u = 9223372036854775808) = false := decide_eq_false a1
  have d1' : ((u : Int) == 9223372036854775808) = false := by simp; omega
  have d2 : decide (9218868437227405312 ≤ u) = true := decide_eq_true (by omega)
  have d2' : decide ((9218868437227405312 : Int) ≤ (u : Int)) = true := decide_eq_true (by omega)
  clear h a1 a2
  go_enter Tryz.func32, Tryz.ntmps32
  go_wp2_with fail
  refine (bits_any u _).mono ?_
  rintro e w1 ⟨rfl, rfl⟩
  go_wp2_with fail
  exact bodyPost_ret (v := .tuple #[.agg #[.slice none 0 0, .slice none 0 0], .bool false]) (by simp [results, Tryz.results32, go_sem]) rfl ⟨_, rfl, rt_zero _, bel_al (bel_refl w)⟩
set_option maxHeartbeats 4000000 in
theorem fromFloat_zero (w : World) : Calls Tryz.prog 32 #[.float .f64 9223372036854775808] w (MakesRB w 0 1 true) := by
  go_enter Tryz.func32, Tryz.ntmps32
  go_wp2_with fail
  refine (bits_any 9223372036854775808 _).mono ?_
  rintro e w1 ⟨rfl, rfl⟩
  go_wp2_with fail
  exact bodyPost_ret (v := .tuple #[.agg #[.slice none 0 0, .slice none 0 0], .bool true]) (by simp [results, Tryz.results32, go_sem]) rfl ⟨_, rfl, rt_zero _, bel_al (bel_refl w)⟩
theorem inUnits_at (v u : Value) (m f : Nat) (s : Int) (w : World) (h : IsNat w v m) (k : IsNat w u 1) (hm : Fits m) (hf : f ≤ 2045) (hs : s = 1074 - (f : Int)) :
    Calls Tryz.prog 49 #[v, u, .int .i64 s] w (Makes2N w (m * 2 ^ (f - 1074)) (2 ^ (1074 - f))) := by
  by_cases h1 : 1074 < f
  · have := inUnits_neg v u m 1 (f - 1074) s w h k hm (by omega) (by omega) (by omega)
    rw [show 1074 - f = 0 by omega]
    exact this
  · have := inUnits_pos v u m 1 (1074 - f) s w h k (fits_P (n := 1) (by rw [P_one]; omega) (by omega)) (by omega) (by omega)
    rw [show f - 1074 = 0 by omega, Nat.pow_zero, Nat.mul_one]
    rw [Nat.one_mul] at this
    exact this
set_option maxHeartbeats 4000000 in
theorem fromFloat_yes (u : Nat) (w : World) (h : u < 9218868437227405312) (hT : Tab w) : Calls Tryz.prog 32 #[.float .f64 u] w (MakesRB w (fN u / Nat.gcd (fN u) (fD u)) (fD u / Nat.gcd (fN u) (fD u)) true) := by
  have d1 : decide (u = 9223372036854775808) = false := decide_eq_false (by omega)
  have d1' : ((u : Int) == 9223372036854775808) = false := by simp; omega
  have d2 : decide (9218868437227405312 ≤ u) = false := decide_eq_false (by omega)
  have d2' : decide ((9218868437227405312 : Int) ≤ (u : Int)) = false := decide_eq_false (by omega)
  have HT : Hid (Tab w ∧ u < 9218868437227405312) := ⟨hT, h⟩
  have S1 : Hid _ := (sx_start w).box (.slice none 0 0) (.slice none 0 0) 51 _ rfl
  have f6 : (w.alloc (.cells #[.slice none 0 0, .slice none 0 0] 51)).frozen? ⟨w.heap.size, 0, none⟩ = false := by simp [go_sem]
  have f7 : (w.alloc (.cells #[.slice none 0 0, .slice none 0 0] 51)).frozen? ⟨w.heap.size, 1, none⟩ = false := by simp [go_sem]
  have FZ : Hid _ := And.intro f6 f7
  obtain ⟨m0, e0⟩ : ∃ m0 : Nat, m0 = u % 4503599627370496 := ⟨_, rfl⟩
  obtain ⟨x0, ex⟩ : ∃ x0 : Nat, x0 = u / 4503599627370496 := ⟨_, rfl⟩
  have r1 : (u : Int) % 4503599627370496 = (m0 : Int) := by omega
  have r2 : (u : Int) / 4503599627370496 = (x0 : Int) := by omega
  have r3 : IntKind.i64.wrap (x0 : Int) = (x0 : Int) := by rw [IntKind.wrap_i64]; omega
  have hfm : fm u = if x0 = 0 then m0 else m0 + 4503599627370496 := by unfold fm; rw [← e0, ← ex]
  have hfe : fe u = x0 - 1 := by unfold fe; rw [← ex]
  have sN : RS (fN u) := ⟨P_up (fN_lt h) (by omega)⟩
  have sD : RS (fD u) := ⟨P_up (fD_lt u) (by omega)⟩
  have hm0 : m0 < 4503599627370496 := by omega
  have hx0 : x0 ≤ 2046 := by omega
  clear hT f6 f7 e0 ex
  go_enter Tryz.func32, Tryz.ntmps32
  go_wp2_with fail
  refine (bits_any u _).mono ?_
  rintro e w1 ⟨rfl, rfl⟩
  clear h
  by_cases h0 : 0 < x0
  · obtain ⟨m, em⟩ : ∃ m : Nat, m = m0 + 4503599627370496 := ⟨_, rfl⟩
    obtain ⟨f, ef⟩ : ∃ f : Nat, f = x0 - 1 := ⟨_, rfl⟩
    have r4 : (m0 : Int) + 4503599627370496 = (m : Int) := by omega
    have r5 : wrap64 ((x0 : Int) - 1) = (f : Int) := by rw [IntWalk.wrap64_in _ ⟨by omega, by omega⟩]; omega
    obtain ⟨s, es⟩ : ∃ s : Int, s = -1074 + (f : Int) := ⟨_, rfl⟩
    have r6 : wrap64 (-1074 + (f : Int)) = s := by rw [IntWalk.wrap64_in _ ⟨by omega, by omega⟩]; omega
    obtain ⟨s2, es2⟩ : ∃ s2 : Int, s2 = -s := ⟨_, rfl⟩
    have r7 : wrap64 (-s) = s2 := by rw [IntWalk.wrap64_in _ ⟨by omega, by omega⟩]; omega
    have r8 : IntKind.i64.wrap (-s) = s2 := by rw [IntKind.wrap_i64]; omega
    have eN : m * 2 ^ (f - 1074) = fN u := by unfold fN; rw [hfm, hfe, if_neg (by omega), ← em, ← ef]
    have eD : 2 ^ (1074 - f) = fD u := by unfold fD; rw [hfe, ← ef]
    have HF : Hid (m < 9007199254740992 ∧ f ≤ 2045 ∧ s2 = 1074 - (f : Int) ∧ (m * 2 ^ (f - 1074) = fN u ∧ 2 ^ (1074 - f) = fD u) ∧ RS (m * 2 ^ (f - 1074)) ∧ RS (2 ^ (1074 - f))) := ⟨by omega, by omega, by omega, ⟨eN, eD⟩, by rw [eN]; exact sN, by rw [eD]; exact sD⟩
    clear em ef es es2 eN eD hfm hfe sN sD hm0 hx0
    go_wp2_with fail
    refine (of_any m _ (by have := HF.out; omega)).mono ?_
    rintro e w2 ⟨v2, rfl, hv2, hb2⟩
    have FZ2 : Hid (w2.frozen? ⟨w.heap.size, 0, none⟩ = false ∧ w2.frozen? ⟨w.heap.size, 1, none⟩ = false) := ⟨(hb2.frozen (World.block_lt_of_cell? _ _ (S1.out.cel w.heap.size 0 (.slice none 0 0)))).trans FZ.out.1, (hb2.frozen (World.block_lt_of_cell? _ _ (S1.out.cel w.heap.size 1 (.slice none 0 0)))).trans FZ.out.2⟩
    have S2 : Hid _ := (S1.out.go hb2).addN hv2
    clear hv2 hb2 S1
    go_wp2_with fail
    refine (of_any 1 _ (by omega)).mono ?_
    rintro e w3 ⟨v3, rfl, hv3, hb3⟩
    have FZ3 : Hid (w3.frozen? ⟨w.heap.size, 0, none⟩ = false ∧ w3.frozen? ⟨w.heap.size, 1, none⟩ = false) := ⟨(hb3.frozen (World.block_lt_of_cell? _ _ (S2.out.cel w.heap.size 0 (.slice none 0 0)))).trans FZ2.out.1, (hb3.frozen (World.block_lt_of_cell? _ _ (S2.out.cel w.heap.size 1 (.slice none 0 0)))).trans FZ2.out.2⟩
    have S3 : Hid _ := (S2.out.go hb3).addN hv3
    clear hv3 hb3 S2
    go_wp2_with fail
    refine (inUnits_at v2 v3 m f _ _ (S3.out.at v2 m) (S3.out.at v3 1) (fits_P (n := 1) (by rw [P_one]; have := HF.out; omega) (by omega)) (by have := HF.out; omega) HF.out.2.2.1).mono ?_
    rintro e w4 ⟨v4, v5, rfl, hv4, hv5, hb4⟩
    have FZ4 : Hid (w4.frozen? ⟨w.heap.size, 0, none⟩ = false ∧ w4.frozen? ⟨w.heap.size, 1, none⟩ = false) := ⟨(hb4.frozen (World.block_lt_of_cell? _ _ (S3.out.cel w.heap.size 0 (.slice none 0 0)))).trans FZ3.out.1, (hb4.frozen (World.block_lt_of_cell? _ _ (S3.out.cel w.heap.size 1 (.slice none 0 0)))).trans FZ3.out.2⟩
    have S4 : Hid _ := ((S3.out.go hb4).addN hv4).addN hv5
    clear hv4 hv5 hb4 S3
    go_wp2_with fail
    refine (from_any v4 v5 _ _ w4 (S4.out.at v4 (m * 2 ^ (f - 1074))) (S4.out.at v5 (2 ^ (1074 - f))) HF.out.2.2.2.2.1 HF.out.2.2.2.2.2 (Nat.two_pow_pos _) (HT.out.1.go S4.out.bel)).mono ?_
    rintro e w5 ⟨v6, rfl, hv, hb⟩
    obtain ⟨a6, n6, k6, a7, n7, k7, ev, _, _⟩ := hv.raw
    subst ev
    rw [HF.out.2.2.2.1.1, HF.out.2.2.2.1.2] at hv
    have z0 := cell_later hb (S4.out.cel w.heap.size 0 (.slice none 0 0))
    have z1 := cell_later hb (S4.out.cel w.heap.size 1 (.slice none 0 0))
    have u0 : w5.frozen? ⟨w.heap.size, 0, none⟩ = false := (hb.frozen (World.block_lt_of_cell? _ _ (S4.out.cel w.heap.size 0 (.slice none 0 0)))).trans FZ4.out.1
    have u1 : w5.frozen? ⟨w.heap.size, 1, none⟩ = false := (hb.frozen (World.block_lt_of_cell? _ _ (S4.out.cel w.heap.size 1 (.slice none 0 0)))).trans FZ4.out.2
    have Z : Hid _ := rat_put (v := .slice a6 n6 k6) (u := .slice a7 n7 k7) z0 z1 hv (bel_go S4.out.bel hb) (Nat.le_refl _)
    clear hv hb S4
    go_wp2_with fail
    exact bodyPost_ret (v := .tuple #[.agg #[.slice a6 n6 k6, .slice a7 n7 k7], .bool true]) (by simp [results, Tryz.results32, go_sem, z0, z1]) rfl ⟨_, rfl, Z.out.1, Z.out.2⟩
  · have x00 : x0 = 0 := by omega
    obtain ⟨f, ef⟩ : ∃ f : Nat, f = 0 := ⟨_, rfl⟩
    have eN : m0 * 2 ^ (f - 1074) = fN u := by unfold fN; rw [hfm, hfe, if_pos x00, x00, ef]
    have eD : 2 ^ (1074 - f) = fD u := by unfold fD; rw [hfe, show x0 - 1 = f by omega]
    have HF : Hid (m0 < 9007199254740992 ∧ f ≤ 2045 ∧ (1074 : Int) = 1074 - (f : Int) ∧ (m0 * 2 ^ (f - 1074) = fN u ∧ 2 ^ (1074 - f) = fD u) ∧ RS (m0 * 2 ^ (f - 1074)) ∧ RS (2 ^ (1074 - f))) := ⟨by omega, by omega, by omega, ⟨eN, eD⟩, by rw [eN]; exact sN, by rw [eD]; exact sD⟩
    clear ef x00 eN eD hfm hfe sN sD hm0 hx0
    go_wp2_with fail
    refine (of_any m0 _ (by have := HF.out; omega)).mono ?_
    rintro e w2 ⟨v2, rfl, hv2, hb2⟩
    have FZ2 : Hid (w2.frozen? ⟨w.heap.size, 0, none⟩ = false ∧ w2.frozen? ⟨w.heap.size, 1, none⟩ = false) := ⟨(hb2.frozen (World.block_lt_of_cell? _ _ (S1.out.cel w.heap.size 0 (.slice none 0 0)))).trans FZ.out.1, (hb2.frozen (World.block_lt_of_cell? _ _ (S1.out.cel w.heap.size 1 (.slice none 0 0)))).trans FZ.out.2⟩
    have S2 : Hid _ := (S1.out.go hb2).addN hv2
    clear hv2 hb2 S1
    go_wp2_with fail
    refine (of_any 1 _ (by omega)).mono ?_
    rintro e w3 ⟨v3, rfl, hv3, hb3⟩
    have FZ3 : Hid (w3.frozen? ⟨w.heap.size, 0, none⟩ = false ∧ w3.frozen? ⟨w.heap.size, 1, none⟩ = false) := ⟨(hb3.frozen (World.block_lt_of_cell? _ _ (S2.out.cel w.heap.size 0 (.slice none 0 0)))).trans FZ2.out.1, (hb3.frozen (World.block_lt_of_cell? _ _ (S2.out.cel w.heap.size 1 (.slice none 0 0)))).trans FZ2.out.2⟩
    have S3 : Hid _ := (S2.out.go hb3).addN hv3
    clear hv3 hb3 S2
    go_wp2_with fail
    refine (inUnits_at v2 v3 m0 f _ _ (S3.out.at v2 m0) (S3.out.at v3 1) (fits_P (n := 1) (by rw [P_one]; have := HF.out; omega) (by omega)) (by have := HF.out; omega) HF.out.2.2.1).mono ?_
    rintro e w4 ⟨v4, v5, rfl, hv4, hv5, hb4⟩
    have FZ4 : Hid (w4.frozen? ⟨w.heap.size, 0, none⟩ = false ∧ w4.frozen? ⟨w.heap.size, 1, none⟩ = false) := ⟨(hb4.frozen (World.block_lt_of_cell? _ _ (S3.out.cel w.heap.size 0 (.slice none 0 0)))).trans FZ3.out.1, (hb4.frozen (World.block_lt_of_cell? _ _ (S3.out.cel w.heap.size 1 (.slice none 0 0)))).trans FZ3.out.2⟩
    have S4 : Hid _ := ((S3.out.go hb4).addN hv4).addN hv5
    clear hv4 hv5 hb4 S3
    go_wp2_with fail
    refine (from_any v4 v5 _ _ w4 (S4.out.at v4 (m0 * 2 ^ (f - 1074))) (S4.out.at v5 (2 ^ (1074 - f))) HF.out.2.2.2.2.1 HF.out.2.2.2.2.2 (Nat.two_pow_pos _) (HT.out.1.go S4.out.bel)).mono ?_
    rintro e w5 ⟨v6, rfl, hv, hb⟩
    obtain ⟨a6, n6, k6, a7, n7, k7, ev, _, _⟩ := hv.raw
    subst ev
    rw [HF.out.2.2.2.1.1, HF.out.2.2.2.1.2] at hv
    have z0 := cell_later hb (S4.out.cel w.heap.size 0 (.slice none 0 0))
    have z1 := cell_later hb (S4.out.cel w.heap.size 1 (.slice none 0 0))
    have u0 : w5.frozen? ⟨w.heap.size, 0, none⟩ = false := (hb.frozen (World.block_lt_of_cell? _ _ (S4.out.cel w.heap.size 0 (.slice none 0 0)))).trans FZ4.out.1
    have u1 : w5.frozen? ⟨w.heap.size, 1, none⟩ = false := (hb.frozen (World.block_lt_of_cell? _ _ (S4.out.cel w.heap.size 1 (.slice none 0 0)))).trans FZ4.out.2
    have Z : Hid _ := rat_put (v := .slice a6 n6 k6) (u := .slice a7 n7 k7) z0 z1 hv (bel_go S4.out.bel hb) (Nat.le_refl _)
    clear hv hb S4
    go_wp2_with fail
    exact bodyPost_ret (v := .tuple #[.agg #[.slice a6 n6 k6, .slice a7 n7 k7], .bool true]) (by simp [results, Tryz.results32, go_sem, z0, z1]) rfl ⟨_, rfl, Z.out.1, Z.out.2⟩
end Go.Proofs.YthogfecnbddfoaaGreatDoor

namespace Go.Proofs.YthogfecnbddfoaaGreatDoor
open Go.RowKit
set_option maxRecDepth 100000
set_option linter.unusedVariables false
theorem from_nz (u : Nat) (h : isF u) : ∃ A C, Fc A C (fN (nz u)) (fD (nz u)) 17 ∧ ∀ w, Tab w → Calls Tryz.prog 32 #[.float .f64 u] w (MakesRB w A C true) := by
  by_cases e : u = 9223372036854775808
  · have e0 : nz u = 0 := if_pos e
    have e1 : fN 0 = 0 := by
      have : fm 0 = 0 := by decide
      unfold fN
      rw [this, Nat.zero_mul]
    refine ⟨0, 1, ⟨Nat.gcd_one_right _, by omega, fD_pos _, ?_, P_pos _, P_lt (by omega : 0 < 17)⟩, fun w _ => ?_⟩
    · rw [e0, e1, Nat.zero_mul, Nat.zero_mul]
    · rw [e]
      exact fromFloat_zero w
  · have h1 : u < 9218868437227405312 := h.resolve_left e
    have e0 : nz u = u := if_neg e
    rw [e0]
    exact ⟨_, _, low_fc (fD_pos u) (P_up (fN_lt h1) (by omega)) (fD_lt u), fun w hT => fromFloat_yes u w h1 hT⟩
theorem heap_new (w : World) (o : Obj) : (w.alloc o).heap[w.heap.size]? = some o := by
  show (w.heap.push o)[w.heap.size]? = some o
  simp
/-- A number is above the greatest rate. -/
def gtM (u : Nat) : Bool := FloatKind.f64.format.order u 4697254411347427328 == some .gt
/-- A rate's parts. -/
def rP (u per : Nat) : Nat := fN (nz u) / Nat.gcd (fN (nz u)) (fD (nz u) * per)
def rQ (u per : Nat) : Nat := fD (nz u) * per / Nat.gcd (fN (nz u)) (fD (nz u) * per)
theorem nz_lt {u : Nat} (h : isF u) : nz u < 9218868437227405312 := by
  unfold nz
  rcases h with e | e
  · rw [if_pos e]
    omega
  · split <;> omega
theorem rate_fc {u per : Nat} (h : isF u) (h1 : 1 ≤ per) (h2 : per ≤ 1073741824) : Fc (rP u per) (rQ u per) (fN (nz u)) (fD (nz u) * per) 18 := by
  refine low_fc (Nat.mul_pos (fD_pos _) (by omega)) (P_up (fN_lt (nz_lt h)) (by omega)) ?_
  have h3 : fD (nz u) * per < P 17 * P 1 := Nat.mul_lt_mul'' (fD_lt _) (by rw [P_one]; omega)
  rw [← P_add] at h3
  exact h3
theorem rP_lt {u per : Nat} (h : isF u) : rP u per < P 17 := Nat.lt_of_le_of_lt (Nat.div_le_self _ _) (P_up (fN_lt (nz_lt h)) (by omega))
set_option maxHeartbeats 4000000 in
theorem aTick_yes (u per : Nat) (w : World) (hg : gtM u = false) (h1 : 1 ≤ per) (h2 : per ≤ 1073741824) (hF : isF u) (hT : Tab w) : Calls Tryz.prog 15 #[.float .f64 u, .int .i64 (per : Int)] w (MakesRB w (rP u per) (rQ u per) true) := by
  obtain ⟨A, C, fa, fr⟩ := from_nz u hF
  obtain ⟨A2, C2, fb, dv⟩ := fa.divInt (by omega) (k := per) (by omega) (by omega)
  obtain ⟨e1, e2⟩ := fb.one (rate_fc hF h1 h2)
  subst e1 e2
  have FR : Hid (∀ w, Tab w → Calls Tryz.prog 32 #[.float .f64 u] w (MakesRB w A C true)) := fr
  have DV : Hid (∀ v w, Rt w v A C → Tab w → Calls Tryz.prog 33 #[v, .int .i64 (per : Int)] w (MakesRB w (rP u per) (rQ u per) true)) := dv
  have HT : Hid (Tab w) := hT
  have S1 : Hid _ := (sx_start w).box (.slice none 0 0) (.slice none 0 0) 51 _ rfl
  have f6 : (w.alloc (.cells #[.slice none 0 0, .slice none 0 0] 51)).frozen? ⟨w.heap.size, 0, none⟩ = false := by simp [go_sem]
  have f7 : (w.alloc (.cells #[.slice none 0 0, .slice none 0 0] 51)).frozen? ⟨w.heap.size, 1, none⟩ = false := by simp [go_sem]
  have FZ : Hid _ := And.intro f6 f7
  have g1 : (FloatKind.f64.format.order u 4697254411347427328 == some .gt) = false := hg
  have d1 : decide ((per : Int) < 1) = false := decide_eq_false (by omega)
  have d2 : decide ((1073741824 : Int) < (per : Int)) = false := decide_eq_false (by omega)
  clear fa fr fb dv hT f6 f7 hg hF
  go_enter Tryz.func15, Tryz.ntmps15
  go_wp2_with fail
  refine (FR.out _ (HT.out.go S1.out.bel)).mono ?_
  rintro e w7 ⟨v7, rfl, hv, hb⟩
  obtain ⟨a7, n7, c7, a8, n8, c8, ev, _, _⟩ := hv.raw
  subst ev
  have hbb := bel_go hb (bel_al (o := .cells #[.slice a7 n7 c7, .slice a8 n8 c8] 51) (bel_refl _))
  have FZ : Hid ((w7.alloc (.cells #[.slice a7 n7 c7, .slice a8 n8 c8] 51)).frozen? ⟨w.heap.size, 0, none⟩ = false ∧ (w7.alloc (.cells #[.slice a7 n7 c7, .slice a8 n8 c8] 51)).frozen? ⟨w.heap.size, 1, none⟩ = false) := ⟨(hbb.frozen (World.block_lt_of_cell? _ _ (S1.out.cel w.heap.size 0 (.slice none 0 0)))).trans FZ.out.1, (hbb.frozen (World.block_lt_of_cell? _ _ (S1.out.cel w.heap.size 1 (.slice none 0 0)))).trans FZ.out.2⟩
  have S3 : Hid _ := ((S1.out.go hb).addF hv).box (.slice a7 n7 c7) (.slice a8 n8 c8) 51 _ rfl
  clear hv hb hbb S1
  go_wp2_with fail
  refine (DV.out _ _ (S3.out.fr (.agg #[.slice a7 n7 c7, .slice a8 n8 c8]) A C) (HT.out.go S3.out.bel)).mono ?_
  rintro e w13 ⟨v13, rfl, hv, hb⟩
  obtain ⟨p7, q7, r7, p8, q8, r8, ev, _, _⟩ := hv.raw
  subst ev
  have x0 := cell_later hb (S3.out.cel w.heap.size 0 (.slice none 0 0))
  have x1 := cell_later hb (S3.out.cel w.heap.size 1 (.slice none 0 0))
  have f0 : w13.frozen? ⟨w.heap.size, 0, none⟩ = false := (hb.frozen (World.block_lt_of_cell? _ _ (S3.out.cel w.heap.size 0 (.slice none 0 0)))).trans FZ.out.1
  have f1 : w13.frozen? ⟨w.heap.size, 1, none⟩ = false := (hb.frozen (World.block_lt_of_cell? _ _ (S3.out.cel w.heap.size 1 (.slice none 0 0)))).trans FZ.out.2
  have ZZ : Hid _ := rat_put (w0 := w) (v := .slice p7 q7 r7) (u := .slice p8 q8 r8) x0 x1 hv (bel_go S3.out.bel hb) (Nat.le_refl _)
  clear hv hb S3 FZ
  go_wp2_with fail
  exact bodyPost_ret (v := .tuple #[.agg #[.slice p7 q7 r7, .slice p8 q8 r8], .bool true]) (by simp [results, Tryz.results15, go_sem, x0, x1]) rfl ⟨_, rfl, ZZ.out.1, ZZ.out.2⟩
/-- A rate that may be. -/
def rateOk (u : Nat) (per : Int) : Prop := gtM u = false ∧ 1 ≤ per ∧ per ≤ 1073741824 ∧ isF u
set_option maxHeartbeats 4000000 in
theorem aTick_no (u : Nat) (per : Int) (w : World) (h : ¬ rateOk u per) (hu : u < 18446744073709551616) : Calls Tryz.prog 15 #[.float .f64 u, .int .i64 per] w (MakesRB w 0 1 false) := by
  by_cases hg : gtM u = true
  · have g1 : (FloatKind.f64.format.order u 4697254411347427328 == some .gt) = true := hg
    clear hg h
    go_enter Tryz.func15, Tryz.ntmps15
    go_wp2_with fail
    exact bodyPost_ret (v := .tuple #[.agg #[.slice none 0 0, .slice none 0 0], .bool false]) (by simp [results, Tryz.results15, go_sem]) rfl ⟨_, rfl, rt_zero _, bel_al (bel_refl w)⟩
  · have g0 : gtM u = false := by simpa using hg
    have g1 : (FloatKind.f64.format.order u 4697254411347427328 == some .gt) = false := g0
    by_cases h1 : per < 1
    · have d1 : decide (per < 1) = true := decide_eq_true h1
      clear hg h g0 h1
      go_enter Tryz.func15, Tryz.ntmps15
      go_wp2_with fail
      exact bodyPost_ret (v := .tuple #[.agg #[.slice none 0 0, .slice none 0 0], .bool false]) (by simp [results, Tryz.results15, go_sem]) rfl ⟨_, rfl, rt_zero _, bel_al (bel_refl w)⟩
    · have d1 : decide (per < 1) = false := decide_eq_false h1
      by_cases h2 : 1073741824 < per
      · have d2 : decide ((1073741824 : Int) < per) = true := decide_eq_true h2
        clear hg h g0 h1 h2
        go_enter Tryz.func15, Tryz.ntmps15
        go_wp2_with fail
        exact bodyPost_ret (v := .tuple #[.agg #[.slice none 0 0, .slice none 0 0], .bool false]) (by simp [results, Tryz.results15, go_sem]) rfl ⟨_, rfl, rt_zero _, bel_al (bel_refl w)⟩
      · have d2 : decide ((1073741824 : Int) < per) = false := decide_eq_false h2
        have hF : ¬ isF u := fun e => h ⟨g0, by omega, by omega, e⟩
        have ba : Hid (Below w.heap.size w (w.alloc (.cells #[.slice none 0 0, .slice none 0 0] 51))) := bel_al (bel_refl w)
        have x0 : (w.alloc (.cells #[.slice none 0 0, .slice none 0 0] 51)).cell? ⟨w.heap.size, 0, none⟩ = some (.slice none 0 0) := by simp [go_sem]
        have x1 : (w.alloc (.cells #[.slice none 0 0, .slice none 0 0] 51)).cell? ⟨w.heap.size, 1, none⟩ = some (.slice none 0 0) := by simp [go_sem]
        have f6 : (w.alloc (.cells #[.slice none 0 0, .slice none 0 0] 51)).frozen? ⟨w.heap.size, 0, none⟩ = false := by simp [go_sem]
        have f7 : (w.alloc (.cells #[.slice none 0 0, .slice none 0 0] 51)).frozen? ⟨w.heap.size, 1, none⟩ = false := by simp [go_sem]
        have FN : Hid (∀ w, Calls Tryz.prog 32 #[.float .f64 u] w (MakesRB w 0 1 false)) := fun w => fromFloat_no u w hF hu
        clear hg h g0 h1 h2 hF
        go_enter Tryz.func15, Tryz.ntmps15
        go_wp2_with fail
        refine (FN.out _).mono ?_
        rintro e w7 ⟨v7, rfl, hv, hb⟩
        obtain ⟨a7, n7, c7, a8, n8, c8, ev, _, _⟩ := hv.raw
        subst ev
        have hbb := bel_go hb (bel_al (o := .cells #[.slice a7 n7 c7, .slice a8 n8 c8] 51) (bel_refl _))
        have z0 := cell_later hbb x0
        have z1 := cell_later hbb x1
        have y0 := (hbb.frozen (World.block_lt_of_cell? _ _ x0)).trans f6
        have y1 := (hbb.frozen (World.block_lt_of_cell? _ _ x1)).trans f7
        have ZZ : Hid _ := rat_put (w0 := w) (v := .slice none 0 0) (u := .slice none 0 0) z0 z1 (rt_zero _) (bel_go ba.out hbb) (Nat.le_refl _)
        clear hv hb hbb x0 x1 f6 f7
        go_wp2_with fail
        exact bodyPost_ret (v := .tuple #[.agg #[.slice none 0 0, .slice none 0 0], .bool false]) (by simp [results, Tryz.results15, go_sem, z0, z1]) rfl ⟨_, rfl, ZZ.out.1, ZZ.out.2⟩
/-- New tells an error. -/
def NewNo (w : World) (n : Int) (e : Ending) (w' : World) : Prop := e = .returned (.tuple #[.pointer none, .int .i64 n]) ∧ Below w.heap.size w w'
set_option maxHeartbeats 4000000 in
theorem bnew_rate (B : Int) (u : Nat) (per t : Int) (w : World) (h1 : 1 ≤ B) (h2 : B ≤ 1099511627776) (h : ¬ rateOk u per) (hu : u < 18446744073709551616) : Calls Tryz.prog 5 #[.int .i64 B, .float .f64 u, .int .i64 per, .int .i64 t] w (NewNo w 98) := by
  have d1 : decide (B < 1) = false := decide_eq_false (by omega)
  have d2 : decide ((1099511627776 : Int) < B) = false := decide_eq_false (by omega)
  have AN : Hid (∀ w, Calls Tryz.prog 15 #[.float .f64 u, .int .i64 per] w (MakesRB w 0 1 false)) := fun w => aTick_no u per w h hu
  clear h hu
  go_enter Tryz.func5, Tryz.ntmps5
  go_wp2_with fail
  refine (AN.out _).mono ?_
  rintro e w7 ⟨v7, rfl, hv, hb⟩
  obtain ⟨a7, n7, c7, a8, n8, c8, ev, _, _⟩ := hv.raw
  subst ev
  have B7 : Hid (Below w.heap.size w (w7.alloc (.cells #[.slice a7 n7 c7, .slice a8 n8 c8] 51))) := bel_al hb
  clear hv hb
  go_wp2_with fail
  exact bodyPost_ret (v := .tuple #[.pointer none, .int .i64 98]) (by simp [results, Tryz.results5, go_sem]) rfl ⟨rfl, B7.out⟩
/-- New gives a bucket. -/
def NewYes (w : World) (T R D B : Nat) (e : Ending) (w' : World) : Prop := ∃ b, e = .returned (.tuple #[.pointer (some ⟨b, 0, none⟩), .int .i64 0]) ∧ w.heap.size ≤ b ∧ Bu w' b T 0 R D B ∧ Below w.heap.size w w'
set_option maxHeartbeats 4000000 in
theorem bnew_yes (B u per t : Nat) (w : World) (h1 : 1 ≤ B) (h2 : B ≤ 1099511627776) (h : rateOk u (per : Int)) (ht : t ≤ 4611686018427387904) (hT : Tab w) : Calls Tryz.prog 5 #[.int .i64 (B : Int), .float .f64 u, .int .i64 (per : Int), .int .i64 (t : Int)] w (NewYes w t (rP u per) (rQ u per) B) := by
  have d1 : decide ((B : Int) < 1) = false := decide_eq_false (by omega)
  have d2 : decide ((1099511627776 : Int) < (B : Int)) = false := decide_eq_false (by omega)
  have d3 : decide ((t : Int) < 0) = false := decide_eq_false (by omega)
  have d4 : decide ((4611686018427387904 : Int) < (t : Int)) = false := decide_eq_false (by omega)
  have AN : Hid (∀ w, Tab w → Calls Tryz.prog 15 #[.float .f64 u, .int .i64 (per : Int)] w (MakesRB w (rP u per) (rQ u per) true)) := fun w hT => aTick_yes u per w h.1 (by have := h.2.1; omega) (by have := h.2.2.1; omega) h.2.2.2 hT
  have rf := rate_fc h.2.2.2 (per := per) (by have := h.2.1; omega) (by have := h.2.2.1; omega)
  obtain ⟨R, eR⟩ : ∃ R, R = rP u per := ⟨_, rfl⟩
  obtain ⟨D, eD⟩ : ∃ D, D = rQ u per := ⟨_, rfl⟩
  have RL := rP_lt (per := per) h.2.2.2
  rw [← eR, ← eD] at rf AN ⊢
  rw [← eR] at RL
  have HR : Hid (Nat.gcd R D = 1 ∧ 0 < D ∧ D < P 18 ∧ R < P 17 ∧ 1 ≤ B ∧ B ≤ 1099511627776 ∧ t ≤ 4611686018427387904) := ⟨rf.low, rf.pos, rf.s2, RL, h1, h2, ht⟩
  have HT : Hid (Tab w) := hT
  clear h hT rf eR eD RL h1 h2
  go_enter Tryz.func5, Tryz.ntmps5
  go_wp2_with fail
  refine (AN.out _ HT.out).mono ?_
  rintro e w7 ⟨v7, rfl, hv, hb⟩
  obtain ⟨a7, n7, c7, a8, n8, c8, ev, _, _⟩ := hv.raw
  subst ev
  have S1 : Hid _ := (((sx_start w).go hb).addF hv).box (.slice a7 n7 c7) (.slice a8 n8 c8) 51 _ rfl
  clear hv hb
  go_wp2_with fail
  obtain ⟨w8, hw⟩ : ∃ w8, w8 = w7.alloc (.cells #[.slice a7 n7 c7, .slice a8 n8 c8] 51) := ⟨_, rfl⟩
  obtain ⟨g, hg⟩ : ∃ g, g = w7.heap.size := ⟨_, rfl⟩
  rw [← hw, ← hg] at S1
  rw [← hw, ← hg]
  clear hw hg
  have z0 := S1.out.cel g 0 (.slice a7 n7 c7)
  have z1 := S1.out.cel g 1 (.slice a8 n8 c8)
  go_region_held3 (fun w' => w'.cell? ⟨g, 0, none⟩ = some (.slice a7 n7 c7) ∧ w'.cell? ⟨g, 1, none⟩ = some (.slice a8 n8 c8)) (first | (simp [go_sem, *]; done) | (trace_state; fail))
    (first
      | (go_at_call 16; refine Calls.mono (whole_any B _ (by have := HR.out; omega) (HT.out.go (bel_go S1.out.bel (by first | exact bel_refl _ | exact bel_dr (bel_refl _))))) ?_; rintro e w9 ⟨v9, rfl, hv9, hb9⟩; have hb9 : Below w8.heap.size w8 w9 := (by first | exact hb9 | exact bel_undrew hb9); obtain ⟨a9, n9, c9, a10, n10, c10, ev, _, _⟩ := hv9.raw; subst ev; have S2 : Hid _ := (S1.out.go hb9).addF hv9; have z2 := S2.out.cel g 0 (.slice a7 n7 c7); have z3 := S2.out.cel g 1 (.slice a8 n8 c8); have lg : g < w9.heap.size := World.block_lt_of_cell? _ _ z2; have lg2 : ¬ g = w9.heap.size := (by omega); clear hv9 hb9))
  have ba := bel_al (o := (.cells #[.int .i64 (t : Int), .slice none 0 0, .slice none 0 0, .slice a9 n9 c9, .slice a10 n10 c10, .slice a7 n7 c7, .slice a8 n8 c8] 58)) (bel_refl w9)
  have hk : (w9.alloc (.cells #[.int .i64 (t : Int), .slice none 0 0, .slice none 0 0, .slice a9 n9 c9, .slice a10 n10 c10, .slice a7 n7 c7, .slice a8 n8 c8] 58)).heap[w9.heap.size]? = some (.cells #[.int .i64 (t : Int), .slice none 0 0, .slice none 0 0, .slice a9 n9 c9, .slice a10 n10 c10, .slice a7 n7 c7, .slice a8 n8 c8] 58) := heap_new _ _
  have ZB : Hid (w.heap.size ≤ w9.heap.size ∧ Bu (w9.alloc (.cells #[.int .i64 (t : Int), .slice none 0 0, .slice none 0 0, .slice a9 n9 c9, .slice a10 n10 c10, .slice a7 n7 c7, .slice a8 n8 c8] 58)) w9.heap.size t 0 R D B ∧ Below w.heap.size w (w9.alloc (.cells #[.int .i64 (t : Int), .slice none 0 0, .slice none 0 0, .slice a9 n9 c9, .slice a10 n10 c10, .slice a7 n7 c7, .slice a8 n8 c8] 58))) := by
    refine ⟨S2.out.bel.size, ⟨⟨⟨0, 1, _, _, _, _, _, _, hk, rt_zero _, ⟨by simp, by omega, HR.out.2.1, by rw [Nat.zero_mul, Nat.zero_mul], P_pos _, P_lt (by omega : 0 < 20)⟩, (S2.out.fr (.agg #[.slice a9 n9 c9, .slice a10 n10 c10]) B 1).mono ba, (S2.out.fr (.agg #[.slice a7 n7 c7, .slice a8 n8 c8]) R D).mono ba⟩, HR.out.2.2.2.2.2.2, ⟨HR.out.2.2.2.2.1, HR.out.2.2.2.2.2.1⟩, ⟨HR.out.2.1, HR.out.2.2.1⟩, HR.out.2.2.2.1, HR.out.1⟩, Nat.zero_le _⟩, bel_go S2.out.bel ba⟩
  clear ba hk S1 S2 z0 z1 z2 z3 lg lg2
  go_wp2_with fail
  exact bodyPost_ret (v := .tuple #[.pointer (some ⟨w9.heap.size, 0, none⟩), .int .i64 0]) (by simp [results, Tryz.results5, go_sem]) rfl ⟨_, rfl, ZB.out.1, ZB.out.2.1, ZB.out.2.2⟩
end Go.Proofs.YthogfecnbddfoaaGreatDoor

