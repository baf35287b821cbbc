/- Contracts of the program's functions, part 32: own work, joined in build order. -/
import Derived.Test.YtjnfcihichaonaaJ31
import Derived.BigQuiet
import Derived.Deep.Cut
namespace Go.Proofs.Ytjnfcihichaonaa
open Go.RowKit
set_option maxRecDepth 100000
set_option linter.unusedVariables false
set_option maxHeartbeats 4000000 in
theorem one5_neg {W0 W : World} {hb ob : Nat} {md : Int} {tur : Bool} {lies : Int} {N n : Nat} {T : Int → Option (Int × Int)} {nx : Int} {lv : Value} {L : List Th} (oj K V It : Int) (h : Lz W0 W hb ob md tur lies N n nx T nx lv L) (hs : Syn T L n) (hN : N < 999999999) (hn : n < 1000) (hx : nx ≤ 100000) (hK : -9223372036854775808 ≤ K ∧ K ≤ 9223372036854775807) (hI1 : -9223372036854775808 ≤ It) (hI2 : It ≤ 9223372036854775807) (hI : It < 0) :
    Calls Try.prog 25 #[.agg #[.pointer (some ⟨hb, 0, none⟩), .pointer (some ⟨ob, 0, none⟩)], .agg #[.int .i64 oj, .int .i64 5, .int .i64 K, .int .i64 V, .int .i64 It]] W fun e w' => e = .returned (.bool true) ∧ ∃ T' lv' L', Lz W0 w' hb ob md tur lies N n nx T' nx lv' L' ∧ Syn T' L' n ∧ Fr hb ob W0.heap.size W w' := by
  obtain ⟨la, lc, e9⟩ := h.slice
  rw [hs.len] at e9
  subst e9
  have hx0 := h.hp.pus.1
  have hT : T It = none := h.nobody (by omega)
  have hj : -9223372036854775808 ≤ It ∧ It ≤ 9223372036854775807 := by omega
  have dI : decide (0 ≤ It) = false := decide_eq_false (by omega)
  obtain ⟨Wb, hWb⟩ : ∃ Wb, Wb = (W.alloc (.cells #[.pointer (some ⟨hb, 0, none⟩), .pointer (some ⟨ob, 0, none⟩)] 26)).alloc (.cells #[.int .i64 oj, .int .i64 5, .int .i64 K, .int .i64 V, .int .i64 It] 32) := ⟨_, rfl⟩
  obtain ⟨xb, exb⟩ : ∃ xb, xb = W.heap.size := ⟨_, rfl⟩
  have Bb : Below W.heap.size W Wb := by rw [hWb]; exact ((Below.refl _ _).alloc (Nat.le_refl _) _).alloc (by simp) _
  have Pb : Pr Wb xb hb ob := by rw [hWb, exb]; exact (Below.heap_alloc _ _ _ (by simp)).trans (MapKept.heap_alloc _ _).1
  have Ob : Wb.rowIs (xb + 1) 32 5 (opF oj 5 K V It) := by
    have := op_box (W.alloc (.cells #[.pointer (some ⟨hb, 0, none⟩), .pointer (some ⟨ob, 0, none⟩)] 26)) oj 5 K V It
    rw [hWb, exb]
    simpa using this
  have Zb := h.mono Bb
  obtain ⟨c0, c1⟩ := Pb.cells
  obtain ⟨p0, p1, p2, p3, p4⟩ := op_cells Ob
  obtain ⟨o0, o1, o2, o3, o5, olt, ofr⟩ := Zb.order
  have HZ : Hid (Lz W0 Wb hb ob md tur lies N n nx T nx (.slice la n lc) L ∧ Pr Wb xb hb ob ∧ Wb.rowIs (xb + 1) 32 5 (opF oj 5 K V It) ∧ Syn T L n ∧ Fr hb ob W0.heap.size W Wb) := ⟨Zb, Pb, Ob, hs, Fr.of_below Bb h.hp⟩
  have HW : Hid ((W.alloc (.cells #[.pointer (some ⟨hb, 0, none⟩), .pointer (some ⟨ob, 0, none⟩)] 26)).alloc (.cells #[.int .i64 oj, .int .i64 5, .int .i64 K, .int .i64 V, .int .i64 It] 32) = Wb ∧ W.heap.size = xb) := ⟨hWb.symm, exb.symm⟩
  have FI : Hid (∀ W', Below Wb.heap.size Wb W' → Calls Try.prog 48 #[.agg #[.slice la n lc, .int .i64 nx, .int .i64 md, .bool tur], .int .i64 It] W' fun e w' => e = .returned (.int .i64 (-1)) ∧ Below W'.heap.size W' w') := fun W' hB => by
    refine (find_any nx md tur It W' (Zb.mono hB).tr (by rw [hs.len]; omega)).mono ?_
    rintro e w' ⟨h1 | h1, hB'⟩
    · obtain ⟨p, q1, _, q3⟩ := h1
      exact absurd q3 (hs.none hT p q1)
    · exact ⟨h1.1, hB'⟩
  have HE : Hid (T It = none) := hT
  clear h hs hWb exb Bb Pb Ob Zb ofr olt hT
  go_enter Try.func25, Try.ntmps25
  go_upto_region 1 with fail
  rw [HW.out.1, HW.out.2]
  go_wp2_with fail
  refine Calls.mono (FI.out Wb (Below.refl _ _)) ?_
  rintro e W3 ⟨rfl, B3⟩
  have B03 : Below Wb.heap.size Wb W3 := B3
  obtain ⟨tb, etb⟩ : ∃ tb, tb = W3.heap.size := ⟨_, rfl⟩
  obtain ⟨W4, hW4⟩ : ∃ W4, W4 = W3.alloc (.cells #[.int .i64 0, .int .i64 0, .int .i64 0] 49) := ⟨_, rfl⟩
  have B4 : Below Wb.heap.size Wb W4 := by rw [hW4]; exact B03.alloc B03.size _
  have Z4 := HZ.out.1.mono B4
  have P4 := HZ.out.2.1.below B4
  have O4 : W4.rowIs (xb + 1) 32 5 (opF oj 5 K V It) := HZ.out.2.2.1.of_block (B4.block _ HZ.out.2.2.1.lt)
  have Q4 : W4.rowIs tb 49 3 (wtF 0 0 0) := by rw [hW4, etb]; exact wt_box W3 0 0 0
  have F4 := HZ.out.2.2.2.2.trans (Fr.of_below B4 HZ.out.1.hp)
  have H4 : Hid (Lz W0 W4 hb ob md tur lies N n nx T nx (.slice la n lc) L ∧ Pr W4 xb hb ob ∧ W4.rowIs (xb + 1) 32 5 (opF oj 5 K V It) ∧ W4.rowIs tb 49 3 (wtF 0 0 0) ∧ Fr hb ob W0.heap.size W W4) := ⟨Z4, P4, O4, Q4, F4⟩
  have HW4 : Hid (W3.alloc (.cells #[.int .i64 0, .int .i64 0, .int .i64 0] 49) = W4 ∧ W3.heap.size = tb) := ⟨hW4.symm, etb.symm⟩
  obtain ⟨d0, d1⟩ := P4.cells
  obtain ⟨s0, s1, s2, s3, s4⟩ := op_cells O4
  obtain ⟨y0, y1, y2, y3, y5, ylt, yfr⟩ := Z4.order
  have v0 := Q4.cell (i := 0) (by omega)
  have v1 := Q4.cell (i := 1) (by omega)
  have v2 := Q4.cell (i := 2) (by omega)
  simp only [wtF] at v0 v1 v2
  simp at v0 v1 v2
  clear hW4 etb B4 Z4 P4 O4 Q4 F4 B3 B03 FI c0 c1 o0 o1 o2 o3 p1 p2 o5 p0 p3 p4
  go_upto_region 8 with fail
  rw [HW4.out.1, HW4.out.2]
  go_wp2_with fail
  have GE : Hid (Calls Try.prog 27 #[.pointer (some ⟨hb, 0, none⟩), .int .i64 It] W4 fun e w' => e = .returned (rowT none) ∧ ∃ m, w' = W4.drewN m) := by
    have := H4.out.1.hp.get It hj.1 hj.2
    rw [HE.out] at this
    exact this
  simp only [rowT] at GE
  refine Calls.mono GE.out ?_
  rintro e w5 ⟨rfl, m, rfl⟩
  have B5 : Below W4.heap.size W4 (W4.drewN m) := bel_drewN (Below.refl _ _) _
  have H5 : Hid (Lz W0 (W4.drewN m) hb ob md tur lies N n nx T nx (.slice la n lc) L ∧ Fr hb ob W0.heap.size W (W4.drewN m)) := ⟨H4.out.1.mono B5, H4.out.2.2.2.2.trans (Fr.of_below B5 H4.out.1.hp)⟩
  clear B5 GE
  go_wp2_with fail
  go_ret
  exact ⟨rfl, T, _, L, H5.out.1, HZ.out.2.2.2.1, H5.out.2⟩
set_option maxHeartbeats 4000000 in
theorem one5_zero {W0 W : World} {hb ob : Nat} {md : Int} {tur : Bool} {lies : Int} {N n : Nat} {T : Int → Option (Int × Int)} {nx : Int} {lv : Value} {L : List Th} (oj K V It : Int) (h : Lz W0 W hb ob md tur lies N n nx T nx lv L) (hs : Syn T L n) (hN : N < 999999999) (hn : n < 1000) (hx : nx ≤ 100000) (hK : -9223372036854775808 ≤ K ∧ K ≤ 9223372036854775807) (hI1 : -9223372036854775808 ≤ It) (hI2 : It ≤ 9223372036854775807) (hI : 0 ≤ It) (hz : nx = 0) :
    Calls Try.prog 25 #[.agg #[.pointer (some ⟨hb, 0, none⟩), .pointer (some ⟨ob, 0, none⟩)], .agg #[.int .i64 oj, .int .i64 5, .int .i64 K, .int .i64 V, .int .i64 It]] W fun e w' => e = .returned (.bool true) ∧ ∃ T' lv' L', Lz W0 w' hb ob md tur lies N n nx T' nx lv' L' ∧ Syn T' L' n ∧ Fr hb ob W0.heap.size W w' := by
  obtain ⟨la, lc, e9⟩ := h.slice
  rw [hs.len] at e9
  subst e9
  have hx0 := h.hp.pus.1
  have hT : T It = none := h.nobody (by omega)
  have hj : -9223372036854775808 ≤ It ∧ It ≤ 9223372036854775807 := by omega
  have dI : decide (0 ≤ It) = true := decide_eq_true (by omega)
  have dz : decide (0 < nx) = false := decide_eq_false (by omega)
  clear hz
  obtain ⟨Wb, hWb⟩ : ∃ Wb, Wb = (W.alloc (.cells #[.pointer (some ⟨hb, 0, none⟩), .pointer (some ⟨ob, 0, none⟩)] 26)).alloc (.cells #[.int .i64 oj, .int .i64 5, .int .i64 K, .int .i64 V, .int .i64 It] 32) := ⟨_, rfl⟩
  obtain ⟨xb, exb⟩ : ∃ xb, xb = W.heap.size := ⟨_, rfl⟩
  have Bb : Below W.heap.size W Wb := by rw [hWb]; exact ((Below.refl _ _).alloc (Nat.le_refl _) _).alloc (by simp) _
  have Pb : Pr Wb xb hb ob := by rw [hWb, exb]; exact (Below.heap_alloc _ _ _ (by simp)).trans (MapKept.heap_alloc _ _).1
  have Ob : Wb.rowIs (xb + 1) 32 5 (opF oj 5 K V It) := by
    have := op_box (W.alloc (.cells #[.pointer (some ⟨hb, 0, none⟩), .pointer (some ⟨ob, 0, none⟩)] 26)) oj 5 K V It
    rw [hWb, exb]
    simpa using this
  have Zb := h.mono Bb
  obtain ⟨c0, c1⟩ := Pb.cells
  obtain ⟨p0, p1, p2, p3, p4⟩ := op_cells Ob
  obtain ⟨o0, o1, o2, o3, o5, olt, ofr⟩ := Zb.order
  have HZ : Hid (Lz W0 Wb hb ob md tur lies N n nx T nx (.slice la n lc) L ∧ Pr Wb xb hb ob ∧ Wb.rowIs (xb + 1) 32 5 (opF oj 5 K V It) ∧ Syn T L n ∧ Fr hb ob W0.heap.size W Wb) := ⟨Zb, Pb, Ob, hs, Fr.of_below Bb h.hp⟩
  have HW : Hid ((W.alloc (.cells #[.pointer (some ⟨hb, 0, none⟩), .pointer (some ⟨ob, 0, none⟩)] 26)).alloc (.cells #[.int .i64 oj, .int .i64 5, .int .i64 K, .int .i64 V, .int .i64 It] 32) = Wb ∧ W.heap.size = xb) := ⟨hWb.symm, exb.symm⟩
  have FI : Hid (∀ W', Below Wb.heap.size Wb W' → Calls Try.prog 48 #[.agg #[.slice la n lc, .int .i64 nx, .int .i64 md, .bool tur], .int .i64 It] W' fun e w' => e = .returned (.int .i64 (-1)) ∧ Below W'.heap.size W' w') := fun W' hB => by
    refine (find_any nx md tur It W' (Zb.mono hB).tr (by rw [hs.len]; omega)).mono ?_
    rintro e w' ⟨h1 | h1, hB'⟩
    · obtain ⟨p, q1, _, q3⟩ := h1
      exact absurd q3 (hs.none hT p q1)
    · exact ⟨h1.1, hB'⟩
  have HE : Hid (T It = none) := hT
  clear h hs hWb exb Bb Pb Ob Zb ofr olt hT
  go_enter Try.func25, Try.ntmps25
  go_upto_region 1 with fail
  rw [HW.out.1, HW.out.2]
  go_wp2_with fail
  refine Calls.mono (FI.out Wb (Below.refl _ _)) ?_
  rintro e W3 ⟨rfl, B3⟩
  have B03 : Below Wb.heap.size Wb W3 := B3
  obtain ⟨tb, etb⟩ : ∃ tb, tb = W3.heap.size := ⟨_, rfl⟩
  obtain ⟨W4, hW4⟩ : ∃ W4, W4 = W3.alloc (.cells #[.int .i64 0, .int .i64 0, .int .i64 0] 49) := ⟨_, rfl⟩
  have B4 : Below Wb.heap.size Wb W4 := by rw [hW4]; exact B03.alloc B03.size _
  have Z4 := HZ.out.1.mono B4
  have P4 := HZ.out.2.1.below B4
  have O4 : W4.rowIs (xb + 1) 32 5 (opF oj 5 K V It) := HZ.out.2.2.1.of_block (B4.block _ HZ.out.2.2.1.lt)
  have Q4 : W4.rowIs tb 49 3 (wtF 0 0 0) := by rw [hW4, etb]; exact wt_box W3 0 0 0
  have F4 := HZ.out.2.2.2.2.trans (Fr.of_below B4 HZ.out.1.hp)
  have H4 : Hid (Lz W0 W4 hb ob md tur lies N n nx T nx (.slice la n lc) L ∧ Pr W4 xb hb ob ∧ W4.rowIs (xb + 1) 32 5 (opF oj 5 K V It) ∧ W4.rowIs tb 49 3 (wtF 0 0 0) ∧ Fr hb ob W0.heap.size W W4) := ⟨Z4, P4, O4, Q4, F4⟩
  have HW4 : Hid (W3.alloc (.cells #[.int .i64 0, .int .i64 0, .int .i64 0] 49) = W4 ∧ W3.heap.size = tb) := ⟨hW4.symm, etb.symm⟩
  obtain ⟨d0, d1⟩ := P4.cells
  obtain ⟨s0, s1, s2, s3, s4⟩ := op_cells O4
  obtain ⟨y0, y1, y2, y3, y5, ylt, yfr⟩ := Z4.order
  have v0 := Q4.cell (i := 0) (by omega)
  have v1 := Q4.cell (i := 1) (by omega)
  have v2 := Q4.cell (i := 2) (by omega)
  simp only [wtF] at v0 v1 v2
  simp at v0 v1 v2
  clear hW4 etb B4 Z4 P4 O4 Q4 F4 B3 B03 FI c0 c1 o0 o1 o2 o3 p1 p2 o5 p0 p3 p4
  go_upto_region 8 with fail
  rw [HW4.out.1, HW4.out.2]
  go_wp2_with fail
  have GE : Hid (Calls Try.prog 27 #[.pointer (some ⟨hb, 0, none⟩), .int .i64 It] W4 fun e w' => e = .returned (rowT none) ∧ ∃ m, w' = W4.drewN m) := by
    have := H4.out.1.hp.get It hj.1 hj.2
    rw [HE.out] at this
    exact this
  simp only [rowT] at GE
  refine Calls.mono GE.out ?_
  rintro e w5 ⟨rfl, m, rfl⟩
  have B5 : Below W4.heap.size W4 (W4.drewN m) := bel_drewN (Below.refl _ _) _
  have H5 : Hid (Lz W0 (W4.drewN m) hb ob md tur lies N n nx T nx (.slice la n lc) L ∧ Fr hb ob W0.heap.size W (W4.drewN m)) := ⟨H4.out.1.mono B5, H4.out.2.2.2.2.trans (Fr.of_below B5 H4.out.1.hp)⟩
  clear B5 GE
  go_wp2_with fail
  go_ret
  exact ⟨rfl, T, _, L, H5.out.1, HZ.out.2.2.2.1, H5.out.2⟩
set_option maxHeartbeats 4000000 in
theorem one5_pos {W0 W : World} {hb ob : Nat} {md : Int} {tur : Bool} {lies : Int} {N n : Nat} {T : Int → Option (Int × Int)} {nx : Int} {lv : Value} {L : List Th} (oj K V It : Int) (h : Lz W0 W hb ob md tur lies N n nx T nx lv L) (hs : Syn T L n) (hN : N < 999999999) (hn : n < 1000) (hx : nx ≤ 100000) (hK : -9223372036854775808 ≤ K ∧ K ≤ 9223372036854775807) (hI1 : -9223372036854775808 ≤ It) (hI2 : It ≤ 9223372036854775807) (hI : 0 ≤ It) (hz : 0 < nx) (hT : T (It.tmod (nx + 2)) = none) :
    Calls Try.prog 25 #[.agg #[.pointer (some ⟨hb, 0, none⟩), .pointer (some ⟨ob, 0, none⟩)], .agg #[.int .i64 oj, .int .i64 5, .int .i64 K, .int .i64 V, .int .i64 It]] W fun e w' => e = .returned (.bool true) ∧ ∃ T' lv' L', Lz W0 w' hb ob md tur lies N n nx T' nx lv' L' ∧ Syn T' L' n ∧ Fr hb ob W0.heap.size W w' := by
  obtain ⟨la, lc, e9⟩ := h.slice
  rw [hs.len] at e9
  subst e9
  have hx0 := h.hp.pus.1
  obtain ⟨j, j1, j2, j3, j4, j5⟩ := item_rem hI hI2 hx0 hx
  rw [j1] at hT
  have hj : -9223372036854775808 ≤ j ∧ j ≤ 9223372036854775807 := by omega
  have dI : decide (0 ≤ It) = true := decide_eq_true (by omega)
  have dz : decide (0 < nx) = true := decide_eq_true (by omega)
  have w2 : IntKind.i64.wrap (nx + 2) = nx + 2 := by rw [IntKind.wrap_i64]; omega
  have hne : ¬ nx + 2 = 0 := by omega
  obtain ⟨Wb, hWb⟩ : ∃ Wb, Wb = (W.alloc (.cells #[.pointer (some ⟨hb, 0, none⟩), .pointer (some ⟨ob, 0, none⟩)] 26)).alloc (.cells #[.int .i64 oj, .int .i64 5, .int .i64 K, .int .i64 V, .int .i64 It] 32) := ⟨_, rfl⟩
  obtain ⟨xb, exb⟩ : ∃ xb, xb = W.heap.size := ⟨_, rfl⟩
  have Bb : Below W.heap.size W Wb := by rw [hWb]; exact ((Below.refl _ _).alloc (Nat.le_refl _) _).alloc (by simp) _
  have Pb : Pr Wb xb hb ob := by rw [hWb, exb]; exact (Below.heap_alloc _ _ _ (by simp)).trans (MapKept.heap_alloc _ _).1
  have Ob : Wb.rowIs (xb + 1) 32 5 (opF oj 5 K V It) := by
    have := op_box (W.alloc (.cells #[.pointer (some ⟨hb, 0, none⟩), .pointer (some ⟨ob, 0, none⟩)] 26)) oj 5 K V It
    rw [hWb, exb]
    simpa using this
  have Zb := h.mono Bb
  obtain ⟨c0, c1⟩ := Pb.cells
  obtain ⟨p0, p1, p2, p3, p4⟩ := op_cells Ob
  obtain ⟨o0, o1, o2, o3, o5, olt, ofr⟩ := Zb.order
  have HZ : Hid (Lz W0 Wb hb ob md tur lies N n nx T nx (.slice la n lc) L ∧ Pr Wb xb hb ob ∧ Wb.rowIs (xb + 1) 32 5 (opF oj 5 K V It) ∧ Syn T L n ∧ Fr hb ob W0.heap.size W Wb) := ⟨Zb, Pb, Ob, hs, Fr.of_below Bb h.hp⟩
  have HW : Hid ((W.alloc (.cells #[.pointer (some ⟨hb, 0, none⟩), .pointer (some ⟨ob, 0, none⟩)] 26)).alloc (.cells #[.int .i64 oj, .int .i64 5, .int .i64 K, .int .i64 V, .int .i64 It] 32) = Wb ∧ W.heap.size = xb) := ⟨hWb.symm, exb.symm⟩
  have FI : Hid (∀ W', Below Wb.heap.size Wb W' → Calls Try.prog 48 #[.agg #[.slice la n lc, .int .i64 nx, .int .i64 md, .bool tur], .int .i64 j] W' fun e w' => e = .returned (.int .i64 (-1)) ∧ Below W'.heap.size W' w') := fun W' hB => by
    refine (find_any nx md tur j W' (Zb.mono hB).tr (by rw [hs.len]; omega)).mono ?_
    rintro e w' ⟨h1 | h1, hB'⟩
    · obtain ⟨p, q1, _, q3⟩ := h1
      exact absurd q3 (hs.none hT p q1)
    · exact ⟨h1.1, hB'⟩
  have HE : Hid (T j = none) := hT
  clear h hs hWb exb Bb Pb Ob Zb ofr olt hT
  go_enter Try.func25, Try.ntmps25
  go_upto_region 1 with fail
  rw [HW.out.1, HW.out.2]
  go_wp2_with fail
  go_quiet (fail)
  obtain ⟨W2, hW2⟩ : ∃ W2, W2 = Wb.drewN nq := ⟨_, rfl⟩
  have B2 : Below Wb.heap.size Wb W2 := by rw [hW2]; exact bel_drewN (Below.refl _ _) _
  rw [← hW2]
  have HB2 : Hid (Below Wb.heap.size Wb W2) := B2
  have c0' := cell_later B2 c0
  have c1' := cell_later B2 c1
  have o0' := cell_later B2 o0
  have o1' := cell_later B2 o1
  have o2' := cell_later B2 o2
  have o3' := cell_later B2 o3
  have p1' := cell_later B2 p1
  have p2' := cell_later B2 p2
  clear hW2 B2 c0 c1 o0 o1 o2 o3 o5 p0 p1 p2 p3 p4
  go_wp2_with fail
  refine Calls.mono (FI.out W2 HB2.out) ?_
  rintro e W3 ⟨rfl, B3⟩
  have B03 : Below Wb.heap.size Wb W3 := HB2.out.trans (B3.mono HB2.out.size)
  obtain ⟨tb, etb⟩ : ∃ tb, tb = W3.heap.size := ⟨_, rfl⟩
  obtain ⟨W4, hW4⟩ : ∃ W4, W4 = W3.alloc (.cells #[.int .i64 0, .int .i64 0, .int .i64 0] 49) := ⟨_, rfl⟩
  have B4 : Below Wb.heap.size Wb W4 := by rw [hW4]; exact B03.alloc B03.size _
  have Z4 := HZ.out.1.mono B4
  have P4 := HZ.out.2.1.below B4
  have O4 : W4.rowIs (xb + 1) 32 5 (opF oj 5 K V It) := HZ.out.2.2.1.of_block (B4.block _ HZ.out.2.2.1.lt)
  have Q4 : W4.rowIs tb 49 3 (wtF 0 0 0) := by rw [hW4, etb]; exact wt_box W3 0 0 0
  have F4 := HZ.out.2.2.2.2.trans (Fr.of_below B4 HZ.out.1.hp)
  have H4 : Hid (Lz W0 W4 hb ob md tur lies N n nx T nx (.slice la n lc) L ∧ Pr W4 xb hb ob ∧ W4.rowIs (xb + 1) 32 5 (opF oj 5 K V It) ∧ W4.rowIs tb 49 3 (wtF 0 0 0) ∧ Fr hb ob W0.heap.size W W4) := ⟨Z4, P4, O4, Q4, F4⟩
  have HW4 : Hid (W3.alloc (.cells #[.int .i64 0, .int .i64 0, .int .i64 0] 49) = W4 ∧ W3.heap.size = tb) := ⟨hW4.symm, etb.symm⟩
  obtain ⟨d0, d1⟩ := P4.cells
  obtain ⟨s0, s1, s2, s3, s4⟩ := op_cells O4
  obtain ⟨y0, y1, y2, y3, y5, ylt, yfr⟩ := Z4.order
  have v0 := Q4.cell (i := 0) (by omega)
  have v1 := Q4.cell (i := 1) (by omega)
  have v2 := Q4.cell (i := 2) (by omega)
  simp only [wtF] at v0 v1 v2
  simp at v0 v1 v2
  clear hW4 etb B4 Z4 P4 O4 Q4 F4 B3 B03 FI c0' c1' o0' o1' o2' o3' p1' p2'
  go_upto_region 8 with fail
  rw [HW4.out.1, HW4.out.2]
  go_wp2_with fail
  have GE : Hid (Calls Try.prog 27 #[.pointer (some ⟨hb, 0, none⟩), .int .i64 j] W4 fun e w' => e = .returned (rowT none) ∧ ∃ m, w' = W4.drewN m) := by
    have := H4.out.1.hp.get j hj.1 hj.2
    rw [HE.out] at this
    exact this
  simp only [rowT] at GE
  refine Calls.mono GE.out ?_
  rintro e w5 ⟨rfl, m, rfl⟩
  have B5 : Below W4.heap.size W4 (W4.drewN m) := bel_drewN (Below.refl _ _) _
  have H5 : Hid (Lz W0 (W4.drewN m) hb ob md tur lies N n nx T nx (.slice la n lc) L ∧ Fr hb ob W0.heap.size W (W4.drewN m)) := ⟨H4.out.1.mono B5, H4.out.2.2.2.2.trans (Fr.of_below B5 H4.out.1.hp)⟩
  clear B5 GE
  go_wp2_with fail
  go_ret
  exact ⟨rfl, T, _, L, H5.out.1, HZ.out.2.2.2.1, H5.out.2⟩
set_option maxHeartbeats 4000000 in
theorem one5_hit {W0 W : World} {hb ob : Nat} {md : Int} {tur : Bool} {lies : Int} {N n : Nat} {T : Int → Option (Int × Int)} {nx : Int} {lv : Value} {L : List Th} (oj K V It : Int) (h : Lz W0 W hb ob md tur lies N n nx T nx lv L) (hs : Syn T L n) (hN : N < 999999999) (hn : n < 1000) (hx : nx ≤ 100000) (hK : -9223372036854775808 ≤ K ∧ K ≤ 9223372036854775807) (hI1 : -9223372036854775808 ≤ It) (hI2 : It ≤ 9223372036854775807) (hI : 0 ≤ It) (hz : 0 < nx) {k v : Int} (hT : T (It.tmod (nx + 2)) = some (k, v)) :
    Calls Try.prog 25 #[.agg #[.pointer (some ⟨hb, 0, none⟩), .pointer (some ⟨ob, 0, none⟩)], .agg #[.int .i64 oj, .int .i64 5, .int .i64 K, .int .i64 V, .int .i64 It]] W fun e w' => e = .returned (.bool true) ∧ ∃ T' lv' L', Lz W0 w' hb ob md tur lies N n nx T' nx lv' L' ∧ Syn T' L' n ∧ Fr hb ob W0.heap.size W w' := by
  obtain ⟨la, lc, e9⟩ := h.slice
  rw [hs.len] at e9
  subst e9
  have hx0 := h.hp.pus.1
  obtain ⟨j, j1, j2, j3, j4, j5⟩ := item_rem hI hI2 hx0 hx
  rw [j1] at hT
  have hj : -9223372036854775808 ≤ j ∧ j ≤ 9223372036854775807 := by omega
  have dI : decide (0 ≤ It) = true := decide_eq_true (by omega)
  have dz : decide (0 < nx) = true := decide_eq_true (by omega)
  have w2 : IntKind.i64.wrap (nx + 2) = nx + 2 := by rw [IntKind.wrap_i64]; omega
  have hne : ¬ nx + 2 = 0 := by omega
  obtain ⟨Wb, hWb⟩ : ∃ Wb, Wb = (W.alloc (.cells #[.pointer (some ⟨hb, 0, none⟩), .pointer (some ⟨ob, 0, none⟩)] 26)).alloc (.cells #[.int .i64 oj, .int .i64 5, .int .i64 K, .int .i64 V, .int .i64 It] 32) := ⟨_, rfl⟩
  obtain ⟨xb, exb⟩ : ∃ xb, xb = W.heap.size := ⟨_, rfl⟩
  have Bb : Below W.heap.size W Wb := by rw [hWb]; exact ((Below.refl _ _).alloc (Nat.le_refl _) _).alloc (by simp) _
  have Pb : Pr Wb xb hb ob := by rw [hWb, exb]; exact (Below.heap_alloc _ _ _ (by simp)).trans (MapKept.heap_alloc _ _).1
  have Ob : Wb.rowIs (xb + 1) 32 5 (opF oj 5 K V It) := by
    have := op_box (W.alloc (.cells #[.pointer (some ⟨hb, 0, none⟩), .pointer (some ⟨ob, 0, none⟩)] 26)) oj 5 K V It
    rw [hWb, exb]
    simpa using this
  have Zb := h.mono Bb
  obtain ⟨c0, c1⟩ := Pb.cells
  obtain ⟨p0, p1, p2, p3, p4⟩ := op_cells Ob
  obtain ⟨o0, o1, o2, o3, o5, olt, ofr⟩ := Zb.order
  have HZ : Hid (Lz W0 Wb hb ob md tur lies N n nx T nx (.slice la n lc) L ∧ Pr Wb xb hb ob ∧ Wb.rowIs (xb + 1) 32 5 (opF oj 5 K V It) ∧ Syn T L n ∧ Fr hb ob W0.heap.size W Wb) := ⟨Zb, Pb, Ob, hs, Fr.of_below Bb h.hp⟩
  have HW : Hid ((W.alloc (.cells #[.pointer (some ⟨hb, 0, none⟩), .pointer (some ⟨ob, 0, none⟩)] 26)).alloc (.cells #[.int .i64 oj, .int .i64 5, .int .i64 K, .int .i64 V, .int .i64 It] 32) = Wb ∧ W.heap.size = xb) := ⟨hWb.symm, exb.symm⟩
  obtain ⟨p, hp, ex, huq⟩ := hs.found hT
  have hp' : p < n := by rw [← hs.len]; exact hp
  have FI : Hid (∀ W', Below Wb.heap.size Wb W' → Calls Try.prog 48 #[.agg #[.slice la n lc, .int .i64 nx, .int .i64 md, .bool tur], .int .i64 j] W' fun e w' => e = .returned (.int .i64 (p : Int)) ∧ Below W'.heap.size W' w') := fun W' hB => by
    refine (find_any nx md tur j W' (Zb.mono hB).tr (by rw [hs.len]; omega)).mono ?_
    rintro e w' ⟨h1 | h1, hB'⟩
    · obtain ⟨q, q1, q2, q3⟩ := h1
      have := huq q q1 q3
      subst this
      exact ⟨q2, hB'⟩
    · exact absurd (by rw [ex]) (h1.2 p hp)
  have HE : Hid (L.getD p th0 = (j, k, v) ∧ (∀ q, q < L.length → (L.getD q th0).1 = j → q = p) ∧ p < L.length ∧ T j = some (k, v)) := ⟨ex, huq, hp, hT⟩
  clear ex huq hp
  clear h hs hWb exb Bb Pb Ob Zb ofr olt hT
  go_enter Try.func25, Try.ntmps25
  go_upto_region 1 with fail
  rw [HW.out.1, HW.out.2]
  go_wp2_with fail
  go_quiet (fail)
  obtain ⟨W2, hW2⟩ : ∃ W2, W2 = Wb.drewN nq := ⟨_, rfl⟩
  have B2 : Below Wb.heap.size Wb W2 := by rw [hW2]; exact bel_drewN (Below.refl _ _) _
  rw [← hW2]
  have HB2 : Hid (Below Wb.heap.size Wb W2) := B2
  have c0' := cell_later B2 c0
  have c1' := cell_later B2 c1
  have o0' := cell_later B2 o0
  have o1' := cell_later B2 o1
  have o2' := cell_later B2 o2
  have o3' := cell_later B2 o3
  have p1' := cell_later B2 p1
  have p2' := cell_later B2 p2
  clear hW2 B2 c0 c1 o0 o1 o2 o3 o5 p0 p1 p2 p3 p4
  go_wp2_with fail
  refine Calls.mono (FI.out W2 HB2.out) ?_
  rintro e W3 ⟨rfl, B3⟩
  have B03 : Below Wb.heap.size Wb W3 := HB2.out.trans (B3.mono HB2.out.size)
  obtain ⟨g, rfl, hc⟩ : ∃ g, la = some ⟨g, 0, none⟩ ∧ ∀ i, i < L.length → W3.cell? ⟨g, i * 3, none⟩ = some (.int .i64 (L.getD i th0).1) ∧ W3.cell? ⟨g, i * 3 + 1, none⟩ = some (.int .i64 (L.getD i th0).2.1) ∧ W3.cell? ⟨g, i * 3 + 2, none⟩ = some (.int .i64 (L.getD i th0).2.2) := by
    obtain ⟨a9, c9, e9, hat, _⟩ := (HZ.out.1.mono B03).tr.sl
    injection e9 with e91 e92 e93
    subst e91
    obtain ⟨g, e, _, _, hc⟩ := hat (by have := HE.out.2.2.1; omega)
    exact ⟨g, e, hc⟩
  obtain ⟨k0, k1, k2⟩ := hc p HE.out.2.2.1
  rw [HE.out.1] at k0 k1 k2
  clear hc
  have hpi : (p : Int) < ((n : Nat) : Int) := by omega
  have hge : decide (0 ≤ (p : Int)) = true := decide_eq_true (by omega)
  obtain ⟨tb, etb⟩ : ∃ tb, tb = W3.heap.size := ⟨_, rfl⟩
  obtain ⟨Wz, hWz⟩ : ∃ Wz, Wz = W3.alloc (.cells #[.int .i64 0, .int .i64 0, .int .i64 0] 49) := ⟨_, rfl⟩
  have Bz : Below W3.heap.size W3 Wz := by rw [hWz]; exact (Below.refl _ _).alloc (Nat.le_refl _) _
  have Qz : Wz.rowIs tb 49 3 (wtF 0 0 0) := by rw [hWz, etb]; exact wt_box W3 0 0 0
  obtain ⟨W4, hW4⟩ : ∃ W4, W4 = ((Wz.setCell ⟨tb, 0, none⟩ (.int .i64 j)).setCell ⟨tb, 1, none⟩ (.int .i64 k)).setCell ⟨tb, 2, none⟩ (.int .i64 v) := ⟨_, rfl⟩
  have B4 : Below Wb.heap.size Wb W4 := by
    have h9 : Wb.heap.size ≤ tb := by rw [etb]; exact B03.size
    rw [hW4]
    exact ((((B03.trans (Bz.mono B03.size)).setCell h9 _).setCell h9 _).setCell h9 _)
  have Z4 := HZ.out.1.mono B4
  have P4 := HZ.out.2.1.below B4
  have O4 : W4.rowIs (xb + 1) 32 5 (opF oj 5 K V It) := HZ.out.2.2.1.of_block (B4.block _ HZ.out.2.2.1.lt)
  have Q4 : W4.rowIs tb 49 3 (wtF j k v) := by
    rw [hW4]
    refine (((Qz.set 0 _).set 1 _).set 2 _).congr fun i hi => ?_
    match i, hi with
    | 0, _ => rfl
    | 1, _ => rfl
    | 2, _ => rfl
  have F4 := HZ.out.2.2.2.2.trans (Fr.of_below B4 HZ.out.1.hp)
  have H4 : Hid (Lz W0 W4 hb ob md tur lies N n nx T nx (.slice (some ⟨g, 0, none⟩) n lc) L ∧ Pr W4 xb hb ob ∧ W4.rowIs (xb + 1) 32 5 (opF oj 5 K V It) ∧ W4.rowIs tb 49 3 (wtF j k v) ∧ Fr hb ob W0.heap.size W W4) := ⟨Z4, P4, O4, Q4, F4⟩
  have HWz : Hid (W3.alloc (.cells #[.int .i64 0, .int .i64 0, .int .i64 0] 49) = Wz ∧ W3.heap.size = tb ∧ ((Wz.setCell ⟨tb, 0, none⟩ (.int .i64 j)).setCell ⟨tb, 1, none⟩ (.int .i64 k)).setCell ⟨tb, 2, none⟩ (.int .i64 v) = W4) := ⟨hWz.symm, etb.symm, hW4.symm⟩
  have c13 := cell_later Bz (cell_later B3 c1')
  have o03 := cell_later Bz (cell_later B3 o0')
  replace k0 := cell_later Bz k0
  replace k1 := cell_later Bz k1
  replace k2 := cell_later Bz k2
  have e0 := Qz.cell (i := 0) (by omega)
  have f0 := Qz.frozen 0
  have e1 := Qz.cell (i := 1) (by omega)
  have f1 := Qz.frozen 1
  have e2 := Qz.cell (i := 2) (by omega)
  have f2 := Qz.frozen 2
  simp only [wtF] at e0 e1 e2
  simp at e0 e1 e2
  clear hWz Bz Qz
  obtain ⟨d0, d1⟩ := P4.cells
  obtain ⟨s0, s1, s2, s3, s4⟩ := op_cells O4
  obtain ⟨y0, y1, y2, y3, y5, ylt, yfr⟩ := Z4.order
  have v0 := Q4.cell (i := 0) (by omega)
  have v1 := Q4.cell (i := 1) (by omega)
  have v2 := Q4.cell (i := 2) (by omega)
  simp only [wtF] at v0 v1 v2
  simp at v0 v1 v2
  clear hW4 etb B4 Z4 P4 O4 Q4 F4 B3 B03 FI c0' c1' o0' o1' o2' o3' p1' p2'
  go_upto_region 6 with fail
  rw [HWz.out.1, HWz.out.2.1]
  go_upto_region 8 with fail
  rw [HWz.out.2.2]
  clear e0 e1 e2 f0 f1 f2
  go_wp2_with fail
  have GE : Hid (Calls Try.prog 27 #[.pointer (some ⟨hb, 0, none⟩), .int .i64 j] W4 fun e w' => e = .returned (rowT (some (k, v))) ∧ ∃ m, w' = W4.drewN m) := by
    have := H4.out.1.hp.get j hj.1 hj.2
    rw [HE.out.2.2.2] at this
    exact this
  simp only [rowT] at GE
  refine Calls.mono GE.out ?_
  rintro e w5 ⟨rfl, m, rfl⟩
  have B5 : Below W4.heap.size W4 (W4.drewN m) := bel_drewN (Below.refl _ _) _
  have H5 : Hid (Lz W0 (W4.drewN m) hb ob md tur lies N n nx T nx (.slice (some ⟨g, 0, none⟩) n lc) L ∧ Fr hb ob W0.heap.size W (W4.drewN m)) := ⟨H4.out.1.mono B5, H4.out.2.2.2.2.trans (Fr.of_below B5 H4.out.1.hp)⟩
  clear B5 GE
  go_wp2_with fail
  go_ret
  exact ⟨rfl, T, _, L, H5.out.1, HZ.out.2.2.2.1, H5.out.2⟩
end Go.Proofs.Ytjnfcihichaonaa
