/- Contracts of the program's functions, part 34: own work, joined in build order. -/
import Derived.Test.YtjnfcihichaonaaJ33
import Derived.BigQuiet
import Derived.Deep.Cut
namespace Go.Proofs.Ytjnfcihichaonaa
open Go.RowKit
set_option maxRecDepth 100000
set_option linter.unusedVariables false
set_option maxHeartbeats 4000000 in
theorem one7_neg {W0 W : World} {hb ob : Nat} {md : Int} {tur : Bool} {lies : Int} {N n : Nat} {T : Int → Option (Int × Int)} {nx : Int} {lv : Value} {L : List Th} (oj K V It : Int) (h : Lz W0 W hb ob md tur lies N n nx T nx lv L) (hs : Syn T L n) (hN : N < 999999999) (hn : n < 1000) (hx : nx ≤ 100000) (hK : -9223372036854775808 ≤ K ∧ K ≤ 9223372036854775807) (hI1 : -9223372036854775808 ≤ It) (hI2 : It ≤ 9223372036854775807) (hI : It < 0) :
    Calls Try.prog 25 #[.agg #[.pointer (some ⟨hb, 0, none⟩), .pointer (some ⟨ob, 0, none⟩)], .agg #[.int .i64 oj, .int .i64 7, .int .i64 K, .int .i64 V, .int .i64 It]] W fun e w' => e = .returned (.bool true) ∧ Aft W0 W hb ob md tur lies N n nx nx w' := by
  obtain ⟨la, lc, e9⟩ := h.slice
  rw [hs.len] at e9
  subst e9
  have hx0 := h.hp.pus.1
  have hT : T It = none := h.nobody (by omega)
  have hj : -9223372036854775808 ≤ It ∧ It ≤ 9223372036854775807 := by omega
  have dI : decide (0 ≤ It) = false := decide_eq_false (by omega)
  obtain ⟨Wb, hWb⟩ : ∃ Wb, Wb = (W.alloc (.cells #[.pointer (some ⟨hb, 0, none⟩), .pointer (some ⟨ob, 0, none⟩)] 26)).alloc (.cells #[.int .i64 oj, .int .i64 7, .int .i64 K, .int .i64 V, .int .i64 It] 32) := ⟨_, rfl⟩
  obtain ⟨xb, exb⟩ : ∃ xb, xb = W.heap.size := ⟨_, rfl⟩
  have Bb : Below W.heap.size W Wb := by rw [hWb]; exact ((Below.refl _ _).alloc (Nat.le_refl _) _).alloc (by simp) _
  have Pb : Pr Wb xb hb ob := by rw [hWb, exb]; exact (Below.heap_alloc _ _ _ (by simp)).trans (MapKept.heap_alloc _ _).1
  have Ob : Wb.rowIs (xb + 1) 32 5 (opF oj 7 K V It) := by
    have := op_box (W.alloc (.cells #[.pointer (some ⟨hb, 0, none⟩), .pointer (some ⟨ob, 0, none⟩)] 26)) oj 7 K V It
    rw [hWb, exb]
    simpa using this
  have Zb := h.mono Bb
  obtain ⟨c0, c1⟩ := Pb.cells
  obtain ⟨p0, p1, p2, p3, p4⟩ := op_cells Ob
  obtain ⟨o0, o1, o2, o3, o5, olt, ofr⟩ := Zb.order
  have HZ : Hid (Lz W0 Wb hb ob md tur lies N n nx T nx (.slice la n lc) L ∧ Pr Wb xb hb ob ∧ Wb.rowIs (xb + 1) 32 5 (opF oj 7 K V It) ∧ Syn T L n ∧ Fr hb ob W0.heap.size W Wb) := ⟨Zb, Pb, Ob, hs, Fr.of_below Bb h.hp⟩
  have HW : Hid ((W.alloc (.cells #[.pointer (some ⟨hb, 0, none⟩), .pointer (some ⟨ob, 0, none⟩)] 26)).alloc (.cells #[.int .i64 oj, .int .i64 7, .int .i64 K, .int .i64 V, .int .i64 It] 32) = Wb ∧ W.heap.size = xb) := ⟨hWb.symm, exb.symm⟩
  have FI : Hid (∀ W', Below Wb.heap.size Wb W' → Calls Try.prog 48 #[.agg #[.slice la n lc, .int .i64 nx, .int .i64 md, .bool tur], .int .i64 It] W' fun e w' => e = .returned (.int .i64 (-1)) ∧ Below W'.heap.size W' w') := fun W' hB => by
    refine (find_any nx md tur It W' (Zb.mono hB).tr (by rw [hs.len]; omega)).mono ?_
    rintro e w' ⟨h1 | h1, hB'⟩
    · obtain ⟨p, q1, _, q3⟩ := h1
      exact absurd q3 (hs.none hT p q1)
    · exact ⟨h1.1, hB'⟩
  have HE : Hid (T It = none) := hT
  clear h hs hWb exb Bb Pb Ob Zb ofr olt hT
  go_enter Try.func25, Try.ntmps25
  go_upto_region 1 with fail
  rw [HW.out.1, HW.out.2]
  go_wp2_with fail
  refine Calls.mono (FI.out Wb (Below.refl _ _)) ?_
  rintro e W3 ⟨rfl, B3⟩
  have B03 : Below Wb.heap.size Wb W3 := B3
  obtain ⟨tb, etb⟩ : ∃ tb, tb = W3.heap.size := ⟨_, rfl⟩
  obtain ⟨W4, hW4⟩ : ∃ W4, W4 = W3.alloc (.cells #[.int .i64 0, .int .i64 0, .int .i64 0] 49) := ⟨_, rfl⟩
  have B4 : Below Wb.heap.size Wb W4 := by rw [hW4]; exact B03.alloc B03.size _
  have Z4 := HZ.out.1.mono B4
  have P4 := HZ.out.2.1.below B4
  have O4 : W4.rowIs (xb + 1) 32 5 (opF oj 7 K V It) := HZ.out.2.2.1.of_block (B4.block _ HZ.out.2.2.1.lt)
  have Q4 : W4.rowIs tb 49 3 (wtF 0 0 0) := by rw [hW4, etb]; exact wt_box W3 0 0 0
  have F4 := HZ.out.2.2.2.2.trans (Fr.of_below B4 HZ.out.1.hp)
  have H4 : Hid (Lz W0 W4 hb ob md tur lies N n nx T nx (.slice la n lc) L ∧ Pr W4 xb hb ob ∧ W4.rowIs (xb + 1) 32 5 (opF oj 7 K V It) ∧ W4.rowIs tb 49 3 (wtF 0 0 0) ∧ Fr hb ob W0.heap.size W W4) := ⟨Z4, P4, O4, Q4, F4⟩
  have HW4 : Hid (W3.alloc (.cells #[.int .i64 0, .int .i64 0, .int .i64 0] 49) = W4 ∧ W3.heap.size = tb) := ⟨hW4.symm, etb.symm⟩
  obtain ⟨d0, d1⟩ := P4.cells
  obtain ⟨s0, s1, s2, s3, s4⟩ := op_cells O4
  obtain ⟨y0, y1, y2, y3, y5, ylt, yfr⟩ := Z4.order
  have v0 := Q4.cell (i := 0) (by omega)
  have v1 := Q4.cell (i := 1) (by omega)
  have v2 := Q4.cell (i := 2) (by omega)
  simp only [wtF] at v0 v1 v2
  simp at v0 v1 v2
  clear hW4 etb B4 Z4 P4 O4 Q4 F4 B3 B03 FI c0 c1 o0 o1 o2 o3 p1 p2 o5 p0 p3 p4
  go_upto_region 8 with fail
  rw [HW4.out.1, HW4.out.2]
  go_wp2_with fail
  have NU : Hid (∀ i W', Calls Try.prog 35 #[.int .i64 i] W' fun e w' => e = .returned (.int .i64 i) ∧ w' = W') := fun i W' => num_any i W'
  have GE : Hid (Calls Try.prog 16 #[.pointer (some ⟨hb, 0, none⟩), .int .i64 It, .int .i64 K] W4 fun e w' => e = .returned (.int .i64 50) ∧ w' = W4) := H4.out.1.hp.updateNo It K hj.1 hj.2 HE.out
  refine Calls.mono GE.out ?_
  rintro e W5 ⟨rfl, e5⟩
  obtain ⟨M, eM⟩ : ∃ M, M = N := ⟨_, rfl⟩
  have H5 : Hid (Lz W0 W5 hb ob md tur lies M n nx T nx (.slice la n lc) L ∧ Pr W5 xb hb ob ∧ W5.rowIs (xb + 1) 32 5 (opF oj 7 K V It) ∧ Fr hb ob W0.heap.size W W5 ∧ N ≤ M ∧ (∀ d, n < 2 ^ d → M ≤ N + (12 * d + 12))) := by rw [eM, e5]; exact ⟨H4.out.1, H4.out.2.1, H4.out.2.2.1, H4.out.2.2.2.2, Nat.le_refl _, fun d _ => by omega⟩
  clear eM e5 GE d0 d1 s0 s1 s2 s3 s4 y0 y1 y2 y3 y5 ylt yfr v0 v1 v2
  obtain ⟨d0, d1⟩ := H5.out.2.1.cells
  obtain ⟨s0, s1, s2, s3, s4⟩ := op_cells H5.out.2.2.1
  obtain ⟨y0, y1, y2, y3, y5, ylt, yfr⟩ := H5.out.1.order
  have RU : Hid (∀ W', Below W5.heap.size W5 W' → Calls Try.prog 50 #[.agg #[.slice la n lc, .int .i64 nx, .int .i64 md, .bool tur], .int .i64 It, .int .i64 K] W' fun e w' => ∃ a' m' c', e = .returned (.tuple #[.agg #[.slice a' m' c', .int .i64 nx, .int .i64 md, .bool tur], .int .i64 50]) ∧ Tr W0.heap.size w' (.slice a' m' c') L ∧ Lz W0 w' hb ob md tur lies M n nx T nx (.slice la n lc) L ∧ Pr w' xb hb ob ∧ w'.rowIs (xb + 1) 32 5 (opF oj 7 K V It) ∧ Fr hb ob W0.heap.size W w' ∧ Below W'.heap.size W' w') := fun W' B9 => by
    have Z9 := H5.out.1.mono B9
    refine (refUpdate_none nx md tur It K W' Z9.tr (by rw [HZ.out.2.2.2.1.len]; omega) (HZ.out.2.2.2.1.none HE.out)).mono ?_
    rintro e w' ⟨rfl, t2⟩
    have F9 := (Fr.of_below B9 H5.out.1.hp).trans (Fr.of_below t2 Z9.hp)
    exact ⟨_, _, _, rfl, Z9.tr.below t2, Z9.mono t2, H5.out.2.1.fr F9, op_fr H5.out.2.2.1 F9, H5.out.2.2.2.1.trans F9, t2⟩
  have nxo : ¬ xb = ob := fun e => by
    have e1 := H5.out.2.1
    unfold Pr at e1
    rw [e, H5.out.1.hp.od.at'] at e1
    cases e1
  have nxo' : ¬ ob = xb := fun e => nxo e.symm
  have FIN : Hid (∀ (w8 : World) (a' : Option Addr) (m' c' : Nat), (Tr W0.heap.size w8 (.slice a' m' c') L ∧ Lz W0 w8 hb ob md tur lies M n nx T nx (.slice la n lc) L ∧ Pr w8 xb hb ob ∧ w8.rowIs (xb + 1) 32 5 (opF oj 7 K V It) ∧ Fr hb ob W0.heap.size W w8) → ∀ W9, Below ((((w8.setCell ⟨ob, 0, none⟩ (.slice a' m' c')).setCell ⟨ob, 1, none⟩ (.int .i64 nx)).setCell ⟨ob, 2, none⟩ (.int .i64 md)).setCell ⟨ob, 3, none⟩ (.bool tur)).heap.size ((((w8.setCell ⟨ob, 0, none⟩ (.slice a' m' c')).setCell ⟨ob, 1, none⟩ (.int .i64 nx)).setCell ⟨ob, 2, none⟩ (.int .i64 md)).setCell ⟨ob, 3, none⟩ (.bool tur)) W9 → Aft W0 W hb ob md tur lies N n nx nx W9) := by
    rintro w8 a' m' c' ⟨t1, Z8, P8, Q8, F8⟩ W9 hB9
    obtain ⟨Z9, F9⟩ := Z8.store (W' := _) ⟨_, _, _, rfl⟩ t1 rfl
    exact ⟨M, n, _, _, _, Z9.mono hB9, HZ.out.2.2.2.1, by omega, H5.out.2.2.2.2.1, H5.out.2.2.2.2.2, (F8.trans F9).trans (Fr.of_below hB9 Z9.hp)⟩
  have FINB : Hid (∀ (w8 : World) (a' : Option Addr) (m' c' : Nat), w8.rowIs W5.heap.size 55 4 (hvF (.slice none 0 0) 0 0 false) → (Tr W0.heap.size w8 (.slice a' m' c') L ∧ Lz W0 w8 hb ob md tur lies M n nx T nx (.slice la n lc) L ∧ Pr w8 xb hb ob ∧ w8.rowIs (xb + 1) 32 5 (opF oj 7 K V It) ∧ Fr hb ob W0.heap.size W w8) → ∀ W9, Below ((((((((w8.setCell ⟨W5.heap.size, 0, none⟩ (.slice a' m' c')).setCell ⟨W5.heap.size, 1, none⟩ (.int .i64 nx)).setCell ⟨W5.heap.size, 2, none⟩ (.int .i64 md)).setCell ⟨W5.heap.size, 3, none⟩ (.bool tur)).setCell ⟨ob, 0, none⟩ (.slice a' m' c')).setCell ⟨ob, 1, none⟩ (.int .i64 nx)).setCell ⟨ob, 2, none⟩ (.int .i64 md)).setCell ⟨ob, 3, none⟩ (.bool tur)).heap.size ((((((((w8.setCell ⟨W5.heap.size, 0, none⟩ (.slice a' m' c')).setCell ⟨W5.heap.size, 1, none⟩ (.int .i64 nx)).setCell ⟨W5.heap.size, 2, none⟩ (.int .i64 md)).setCell ⟨W5.heap.size, 3, none⟩ (.bool tur)).setCell ⟨ob, 0, none⟩ (.slice a' m' c')).setCell ⟨ob, 1, none⟩ (.int .i64 nx)).setCell ⟨ob, 2, none⟩ (.int .i64 md)).setCell ⟨ob, 3, none⟩ (.bool tur)) W9 → Aft W0 W hb ob md tur lies N n nx nx W9) := by
    rintro w8 a' m' c' hr ⟨t1, Z8, P8, Q8, F8⟩ W9 hB9
    have q1 : W0.heap.size ≤ W5.heap.size := H5.out.1.hp.le
    have q2 : W.heap.size ≤ W5.heap.size := H5.out.2.2.2.1.bel.size
    have r1 := hr.set 0 (.slice a' m' c')
    have r2 := r1.set 1 (.int .i64 nx)
    have r3 := r2.set 2 (.int .i64 md)
    have Z9' := (((Z8.setH (i := 0) (u := .slice a' m' c') hr q1).setH (i := 1) (u := .int .i64 nx) r1 q1).setH (i := 2) (u := .int .i64 md) r2 q1).setH (i := 3) (u := .bool tur) r3 q1
    have t9 := (((t1.setH (i := 0) (u := .slice a' m' c') hr).setH (i := 1) (u := .int .i64 nx) r1).setH (i := 2) (u := .int .i64 md) r2).setH (i := 3) (u := .bool tur) r3
    have Y1 := Z8.setH (i := 0) (u := .slice a' m' c') hr q1
    have Y2 := Y1.setH (i := 1) (u := .int .i64 nx) r1 q1
    have Y3 := Y2.setH (i := 2) (u := .int .i64 md) r2 q1
    have F9' := (((F8.set (i := 0) (u := .slice a' m' c') Z8 hr oth_heap q2 q1).set (i := 1) (u := .int .i64 nx) Y1 r1 oth_heap q2 q1).set (i := 2) (u := .int .i64 md) Y2 r2 oth_heap q2 q1).set (i := 3) (u := .bool tur) Y3 r3 oth_heap q2 q1
    obtain ⟨Z9, F9⟩ := Z9'.store (W' := _) ⟨_, _, _, rfl⟩ t9 rfl
    exact ⟨M, n, _, _, _, Z9.mono hB9, HZ.out.2.2.2.1, by omega, H5.out.2.2.2.2.1, H5.out.2.2.2.2.2, (F9'.trans F9).trans (Fr.of_below hB9 Z9.hp)⟩
  have RUB : Hid (∀ W', (W' = (W5.alloc (.cells #[.slice none 0 0, .int .i64 0, .int .i64 0, .bool false] 55)) ∨ W' = (W5.alloc (.cells #[.slice none 0 0, .int .i64 0, .int .i64 0, .bool false] 55)).drew) → Calls Try.prog 50 #[.agg #[.slice la n lc, .int .i64 nx, .int .i64 md, .bool tur], .int .i64 It, .int .i64 K] W' fun e w' => ∃ a' m' c', e = .returned (.tuple #[.agg #[.slice a' m' c', .int .i64 nx, .int .i64 md, .bool tur], .int .i64 50]) ∧ Hid (w'.rowIs W5.heap.size 55 4 (hvF (.slice none 0 0) 0 0 false) ∧ Tr W0.heap.size w' (.slice a' m' c') L ∧ Lz W0 w' hb ob md tur lies M n nx T nx (.slice la n lc) L ∧ Pr w' xb hb ob ∧ w'.rowIs (xb + 1) 32 5 (opF oj 7 K V It) ∧ Fr hb ob W0.heap.size W w') ∧ w'.cell? ⟨W5.heap.size, 0, none⟩ = some (.slice none 0 0) ∧ w'.cell? ⟨W5.heap.size, 1, none⟩ = some (.int .i64 0) ∧ w'.cell? ⟨W5.heap.size, 2, none⟩ = some (.int .i64 0) ∧ w'.cell? ⟨W5.heap.size, 3, none⟩ = some (.bool false) ∧ (∀ i, w'.frozen? ⟨W5.heap.size, i, none⟩ = false) ∧ w'.cell? ⟨xb, 0, none⟩ = some (.pointer (some ⟨hb, 0, none⟩)) ∧ w'.cell? ⟨xb, 1, none⟩ = some (.pointer (some ⟨ob, 0, none⟩)) ∧ w'.cell? ⟨ob, 0, none⟩ = some (.slice la n lc) ∧ w'.cell? ⟨ob, 1, none⟩ = some (.int .i64 nx) ∧ w'.cell? ⟨ob, 2, none⟩ = some (.int .i64 md) ∧ w'.cell? ⟨ob, 3, none⟩ = some (.bool tur) ∧ (∀ i, w'.frozen? ⟨ob, i, none⟩ = false) ∧ ob < w'.heap.size ∧ xb < w'.heap.size ∧ w'.cell? ⟨xb + 1, 2, none⟩ = some (.int .i64 K) ∧ xb + 1 < w'.heap.size) := fun W' hW' => by
    have e0 : Below W5.heap.size W5 W' := by rcases hW' with rfl | rfl; exact (Below.refl _ _).alloc (Nat.le_refl _) _; exact bel_drew ((Below.refl _ _).alloc (Nat.le_refl _) _)
    have e1 : W'.rowIs W5.heap.size 55 4 (hvF (.slice none 0 0) 0 0 false) := by rcases hW' with rfl | rfl; exact hv_box W5 (.slice none 0 0) 0 0 false; exact hv_box W5 (.slice none 0 0) 0 0 false
    refine (RU.out W' e0).mono ?_
    rintro e w' ⟨a', m', c', rfl, t1, Z8, P8, Q8, F8, hB8⟩
    obtain ⟨u0, u1⟩ := P8.cells
    obtain ⟨r0, r1, r2, r3, r5, rlt, rfr⟩ := Z8.order
    have rb := e1.of_block (hB8.block _ e1.lt)
    exact ⟨a', m', c', rfl, ⟨rb, t1, Z8, P8, Q8, F8⟩, rb.cell (i := 0) (by omega), rb.cell (i := 1) (by omega), rb.cell (i := 2) (by omega), rb.cell (i := 3) (by omega), rb.frozen, u0, u1, r0, r1, r2, r3, rfr, rlt, (Array.getElem?_eq_some_iff.1 P8).1, (op_cells Q8).2.2.1, Q8.lt⟩
  have RUA : Hid (∀ W', (W' = W5 ∨ W' = W5.drew) → Calls Try.prog 50 #[.agg #[.slice la n lc, .int .i64 nx, .int .i64 md, .bool tur], .int .i64 It, .int .i64 K] W' fun e w' => ∃ a' m' c', e = .returned (.tuple #[.agg #[.slice a' m' c', .int .i64 nx, .int .i64 md, .bool tur], .int .i64 50]) ∧ Hid (Tr W0.heap.size w' (.slice a' m' c') L ∧ Lz W0 w' hb ob md tur lies M n nx T nx (.slice la n lc) L ∧ Pr w' xb hb ob ∧ w'.rowIs (xb + 1) 32 5 (opF oj 7 K V It) ∧ Fr hb ob W0.heap.size W w') ∧ w'.cell? ⟨xb, 0, none⟩ = some (.pointer (some ⟨hb, 0, none⟩)) ∧ w'.cell? ⟨xb, 1, none⟩ = some (.pointer (some ⟨ob, 0, none⟩)) ∧ w'.cell? ⟨ob, 0, none⟩ = some (.slice la n lc) ∧ w'.cell? ⟨ob, 1, none⟩ = some (.int .i64 nx) ∧ w'.cell? ⟨ob, 2, none⟩ = some (.int .i64 md) ∧ w'.cell? ⟨ob, 3, none⟩ = some (.bool tur) ∧ (∀ i, w'.frozen? ⟨ob, i, none⟩ = false) ∧ ob < w'.heap.size ∧ xb < w'.heap.size ∧ w'.cell? ⟨xb + 1, 2, none⟩ = some (.int .i64 K) ∧ xb + 1 < w'.heap.size) := fun W' hW' => by
    have e0 : Below W5.heap.size W5 W' := by rcases hW' with rfl | rfl; exact Below.refl _ _; exact bel_drew (Below.refl _ _)
    refine (RU.out W' e0).mono ?_
    rintro e w' ⟨a', m', c', rfl, t1, Z8, P8, Q8, F8, hB8⟩
    obtain ⟨u0, u1⟩ := P8.cells
    obtain ⟨r0, r1, r2, r3, r5, rlt, rfr⟩ := Z8.order
    exact ⟨a', m', c', rfl, ⟨t1, Z8, P8, Q8, F8⟩, u0, u1, r0, r1, r2, r3, rfr, rlt, (Array.getElem?_eq_some_iff.1 P8).1, (op_cells Q8).2.2.1, Q8.lt⟩
  have n5 : ¬ ob = W5.heap.size := by omega
  have n5' : ¬ W5.heap.size = ob := by omega
  have x5 : xb < W5.heap.size := (Array.getElem?_eq_some_iff.1 H5.out.2.1).1
  have x6 : xb + 1 < W5.heap.size := H5.out.2.2.1.lt
  have n7 : ¬ xb + 1 = W5.heap.size := by omega
  have n7' : ¬ W5.heap.size = xb + 1 := by omega
  have n6 : ¬ xb = W5.heap.size := by omega
  have n6' : ¬ W5.heap.size = xb := by omega
  go_wp2_with fail
  rename_i hz
  go_region_held3 (fun w9 => w9.cell? ⟨xb, 1, none⟩ = some (.pointer (some ⟨ob, 0, none⟩)) ∧ w9.cell? ⟨ob, 0, none⟩ = some (.slice la n lc) ∧ w9.cell? ⟨ob, 1, none⟩ = some (.int .i64 nx) ∧ w9.cell? ⟨ob, 2, none⟩ = some (.int .i64 md) ∧ w9.cell? ⟨ob, 3, none⟩ = some (.bool tur) ∧ w9.cell? ⟨xb + 1, 2, none⟩ = some (.int .i64 K)) (first | (simp [go_sem, *]; done) | (trace_state; fail))
    (first
      | (go_at_call 50; refine Calls.mono (RUA.out _ ?hb) ?_; (case hb => first | exact .inl rfl | exact .inr rfl); rintro e w8 ⟨a', m', c', rfl, HM, u0, u1, r0, r1, r2, r3, rfr, rlt, xlt, p2, plt⟩)
      | (go_at_call 50; refine Calls.mono (RUB.out _ ?hb) ?_; (case hb => first | exact .inl rfl | exact .inr rfl); rintro e w8 ⟨a', m', c', rfl, HM, b0, b1, b2, b3, bf, u0, u1, r0, r1, r2, r3, rfr, rlt, xlt, p2, plt⟩))
  · refine hz _ _ ?_
    go_wp2_with (first | (go_at_call 35; refine Calls.mono (NU.out _ _) ?_; rintro e w9 ⟨rfl, rfl⟩))
    go_ret
    exact ⟨rfl, FIN.out _ _ _ _ HM.out _ ((Below.refl _ _).alloc (Nat.le_refl _) _)⟩
  · refine hz _ _ ?_
    go_wp2_with (first | (go_at_call 35; refine Calls.mono (NU.out _ _) ?_; rintro e w9 ⟨rfl, rfl⟩))
    go_ret
    exact ⟨rfl, FINB.out _ _ _ _ HM.out.1 HM.out.2 _ (by first | exact Below.refl _ _ | exact bel_drew (Below.refl _ _))⟩
set_option maxHeartbeats 4000000 in
theorem one7_zero {W0 W : World} {hb ob : Nat} {md : Int} {tur : Bool} {lies : Int} {N n : Nat} {T : Int → Option (Int × Int)} {nx : Int} {lv : Value} {L : List Th} (oj K V It : Int) (h : Lz W0 W hb ob md tur lies N n nx T nx lv L) (hs : Syn T L n) (hN : N < 999999999) (hn : n < 1000) (hx : nx ≤ 100000) (hK : -9223372036854775808 ≤ K ∧ K ≤ 9223372036854775807) (hI1 : -9223372036854775808 ≤ It) (hI2 : It ≤ 9223372036854775807) (hI : 0 ≤ It) (hz : nx = 0) :
    Calls Try.prog 25 #[.agg #[.pointer (some ⟨hb, 0, none⟩), .pointer (some ⟨ob, 0, none⟩)], .agg #[.int .i64 oj, .int .i64 7, .int .i64 K, .int .i64 V, .int .i64 It]] W fun e w' => e = .returned (.bool true) ∧ Aft W0 W hb ob md tur lies N n nx nx w' := by
  obtain ⟨la, lc, e9⟩ := h.slice
  rw [hs.len] at e9
  subst e9
  have hx0 := h.hp.pus.1
  have hT : T It = none := h.nobody (by omega)
  have hj : -9223372036854775808 ≤ It ∧ It ≤ 9223372036854775807 := by omega
  have dI : decide (0 ≤ It) = true := decide_eq_true (by omega)
  have dz : decide (0 < nx) = false := decide_eq_false (by omega)
  clear hz
  obtain ⟨Wb, hWb⟩ : ∃ Wb, Wb = (W.alloc (.cells #[.pointer (some ⟨hb, 0, none⟩), .pointer (some ⟨ob, 0, none⟩)] 26)).alloc (.cells #[.int .i64 oj, .int .i64 7, .int .i64 K, .int .i64 V, .int .i64 It] 32) := ⟨_, rfl⟩
  obtain ⟨xb, exb⟩ : ∃ xb, xb = W.heap.size := ⟨_, rfl⟩
  have Bb : Below W.heap.size W Wb := by rw [hWb]; exact ((Below.refl _ _).alloc (Nat.le_refl _) _).alloc (by simp) _
  have Pb : Pr Wb xb hb ob := by rw [hWb, exb]; exact (Below.heap_alloc _ _ _ (by simp)).trans (MapKept.heap_alloc _ _).1
  have Ob : Wb.rowIs (xb + 1) 32 5 (opF oj 7 K V It) := by
    have := op_box (W.alloc (.cells #[.pointer (some ⟨hb, 0, none⟩), .pointer (some ⟨ob, 0, none⟩)] 26)) oj 7 K V It
    rw [hWb, exb]
    simpa using this
  have Zb := h.mono Bb
  obtain ⟨c0, c1⟩ := Pb.cells
  obtain ⟨p0, p1, p2, p3, p4⟩ := op_cells Ob
  obtain ⟨o0, o1, o2, o3, o5, olt, ofr⟩ := Zb.order
  have HZ : Hid (Lz W0 Wb hb ob md tur lies N n nx T nx (.slice la n lc) L ∧ Pr Wb xb hb ob ∧ Wb.rowIs (xb + 1) 32 5 (opF oj 7 K V It) ∧ Syn T L n ∧ Fr hb ob W0.heap.size W Wb) := ⟨Zb, Pb, Ob, hs, Fr.of_below Bb h.hp⟩
  have HW : Hid ((W.alloc (.cells #[.pointer (some ⟨hb, 0, none⟩), .pointer (some ⟨ob, 0, none⟩)] 26)).alloc (.cells #[.int .i64 oj, .int .i64 7, .int .i64 K, .int .i64 V, .int .i64 It] 32) = Wb ∧ W.heap.size = xb) := ⟨hWb.symm, exb.symm⟩
  have FI : Hid (∀ W', Below Wb.heap.size Wb W' → Calls Try.prog 48 #[.agg #[.slice la n lc, .int .i64 nx, .int .i64 md, .bool tur], .int .i64 It] W' fun e w' => e = .returned (.int .i64 (-1)) ∧ Below W'.heap.size W' w') := fun W' hB => by
    refine (find_any nx md tur It W' (Zb.mono hB).tr (by rw [hs.len]; omega)).mono ?_
    rintro e w' ⟨h1 | h1, hB'⟩
    · obtain ⟨p, q1, _, q3⟩ := h1
      exact absurd q3 (hs.none hT p q1)
    · exact ⟨h1.1, hB'⟩
  have HE : Hid (T It = none) := hT
  clear h hs hWb exb Bb Pb Ob Zb ofr olt hT
  go_enter Try.func25, Try.ntmps25
  go_upto_region 1 with fail
  rw [HW.out.1, HW.out.2]
  go_wp2_with fail
  refine Calls.mono (FI.out Wb (Below.refl _ _)) ?_
  rintro e W3 ⟨rfl, B3⟩
  have B03 : Below Wb.heap.size Wb W3 := B3
  obtain ⟨tb, etb⟩ : ∃ tb, tb = W3.heap.size := ⟨_, rfl⟩
  obtain ⟨W4, hW4⟩ : ∃ W4, W4 = W3.alloc (.cells #[.int .i64 0, .int .i64 0, .int .i64 0] 49) := ⟨_, rfl⟩
  have B4 : Below Wb.heap.size Wb W4 := by rw [hW4]; exact B03.alloc B03.size _
  have Z4 := HZ.out.1.mono B4
  have P4 := HZ.out.2.1.below B4
  have O4 : W4.rowIs (xb + 1) 32 5 (opF oj 7 K V It) := HZ.out.2.2.1.of_block (B4.block _ HZ.out.2.2.1.lt)
  have Q4 : W4.rowIs tb 49 3 (wtF 0 0 0) := by rw [hW4, etb]; exact wt_box W3 0 0 0
  have F4 := HZ.out.2.2.2.2.trans (Fr.of_below B4 HZ.out.1.hp)
  have H4 : Hid (Lz W0 W4 hb ob md tur lies N n nx T nx (.slice la n lc) L ∧ Pr W4 xb hb ob ∧ W4.rowIs (xb + 1) 32 5 (opF oj 7 K V It) ∧ W4.rowIs tb 49 3 (wtF 0 0 0) ∧ Fr hb ob W0.heap.size W W4) := ⟨Z4, P4, O4, Q4, F4⟩
  have HW4 : Hid (W3.alloc (.cells #[.int .i64 0, .int .i64 0, .int .i64 0] 49) = W4 ∧ W3.heap.size = tb) := ⟨hW4.symm, etb.symm⟩
  obtain ⟨d0, d1⟩ := P4.cells
  obtain ⟨s0, s1, s2, s3, s4⟩ := op_cells O4
  obtain ⟨y0, y1, y2, y3, y5, ylt, yfr⟩ := Z4.order
  have v0 := Q4.cell (i := 0) (by omega)
  have v1 := Q4.cell (i := 1) (by omega)
  have v2 := Q4.cell (i := 2) (by omega)
  simp only [wtF] at v0 v1 v2
  simp at v0 v1 v2
  clear hW4 etb B4 Z4 P4 O4 Q4 F4 B3 B03 FI c0 c1 o0 o1 o2 o3 p1 p2 o5 p0 p3 p4
  go_upto_region 8 with fail
  rw [HW4.out.1, HW4.out.2]
  go_wp2_with fail
  have NU : Hid (∀ i W', Calls Try.prog 35 #[.int .i64 i] W' fun e w' => e = .returned (.int .i64 i) ∧ w' = W') := fun i W' => num_any i W'
  have GE : Hid (Calls Try.prog 16 #[.pointer (some ⟨hb, 0, none⟩), .int .i64 It, .int .i64 K] W4 fun e w' => e = .returned (.int .i64 50) ∧ w' = W4) := H4.out.1.hp.updateNo It K hj.1 hj.2 HE.out
  refine Calls.mono GE.out ?_
  rintro e W5 ⟨rfl, e5⟩
  obtain ⟨M, eM⟩ : ∃ M, M = N := ⟨_, rfl⟩
  have H5 : Hid (Lz W0 W5 hb ob md tur lies M n nx T nx (.slice la n lc) L ∧ Pr W5 xb hb ob ∧ W5.rowIs (xb + 1) 32 5 (opF oj 7 K V It) ∧ Fr hb ob W0.heap.size W W5 ∧ N ≤ M ∧ (∀ d, n < 2 ^ d → M ≤ N + (12 * d + 12))) := by rw [eM, e5]; exact ⟨H4.out.1, H4.out.2.1, H4.out.2.2.1, H4.out.2.2.2.2, Nat.le_refl _, fun d _ => by omega⟩
  clear eM e5 GE d0 d1 s0 s1 s2 s3 s4 y0 y1 y2 y3 y5 ylt yfr v0 v1 v2
  obtain ⟨d0, d1⟩ := H5.out.2.1.cells
  obtain ⟨s0, s1, s2, s3, s4⟩ := op_cells H5.out.2.2.1
  obtain ⟨y0, y1, y2, y3, y5, ylt, yfr⟩ := H5.out.1.order
  have RU : Hid (∀ W', Below W5.heap.size W5 W' → Calls Try.prog 50 #[.agg #[.slice la n lc, .int .i64 nx, .int .i64 md, .bool tur], .int .i64 It, .int .i64 K] W' fun e w' => ∃ a' m' c', e = .returned (.tuple #[.agg #[.slice a' m' c', .int .i64 nx, .int .i64 md, .bool tur], .int .i64 50]) ∧ Tr W0.heap.size w' (.slice a' m' c') L ∧ Lz W0 w' hb ob md tur lies M n nx T nx (.slice la n lc) L ∧ Pr w' xb hb ob ∧ w'.rowIs (xb + 1) 32 5 (opF oj 7 K V It) ∧ Fr hb ob W0.heap.size W w' ∧ Below W'.heap.size W' w') := fun W' B9 => by
    have Z9 := H5.out.1.mono B9
    refine (refUpdate_none nx md tur It K W' Z9.tr (by rw [HZ.out.2.2.2.1.len]; omega) (HZ.out.2.2.2.1.none HE.out)).mono ?_
    rintro e w' ⟨rfl, t2⟩
    have F9 := (Fr.of_below B9 H5.out.1.hp).trans (Fr.of_below t2 Z9.hp)
    exact ⟨_, _, _, rfl, Z9.tr.below t2, Z9.mono t2, H5.out.2.1.fr F9, op_fr H5.out.2.2.1 F9, H5.out.2.2.2.1.trans F9, t2⟩
  have nxo : ¬ xb = ob := fun e => by
    have e1 := H5.out.2.1
    unfold Pr at e1
    rw [e, H5.out.1.hp.od.at'] at e1
    cases e1
  have nxo' : ¬ ob = xb := fun e => nxo e.symm
  have FIN : Hid (∀ (w8 : World) (a' : Option Addr) (m' c' : Nat), (Tr W0.heap.size w8 (.slice a' m' c') L ∧ Lz W0 w8 hb ob md tur lies M n nx T nx (.slice la n lc) L ∧ Pr w8 xb hb ob ∧ w8.rowIs (xb + 1) 32 5 (opF oj 7 K V It) ∧ Fr hb ob W0.heap.size W w8) → ∀ W9, Below ((((w8.setCell ⟨ob, 0, none⟩ (.slice a' m' c')).setCell ⟨ob, 1, none⟩ (.int .i64 nx)).setCell ⟨ob, 2, none⟩ (.int .i64 md)).setCell ⟨ob, 3, none⟩ (.bool tur)).heap.size ((((w8.setCell ⟨ob, 0, none⟩ (.slice a' m' c')).setCell ⟨ob, 1, none⟩ (.int .i64 nx)).setCell ⟨ob, 2, none⟩ (.int .i64 md)).setCell ⟨ob, 3, none⟩ (.bool tur)) W9 → Aft W0 W hb ob md tur lies N n nx nx W9) := by
    rintro w8 a' m' c' ⟨t1, Z8, P8, Q8, F8⟩ W9 hB9
    obtain ⟨Z9, F9⟩ := Z8.store (W' := _) ⟨_, _, _, rfl⟩ t1 rfl
    exact ⟨M, n, _, _, _, Z9.mono hB9, HZ.out.2.2.2.1, by omega, H5.out.2.2.2.2.1, H5.out.2.2.2.2.2, (F8.trans F9).trans (Fr.of_below hB9 Z9.hp)⟩
  have FINB : Hid (∀ (w8 : World) (a' : Option Addr) (m' c' : Nat), w8.rowIs W5.heap.size 55 4 (hvF (.slice none 0 0) 0 0 false) → (Tr W0.heap.size w8 (.slice a' m' c') L ∧ Lz W0 w8 hb ob md tur lies M n nx T nx (.slice la n lc) L ∧ Pr w8 xb hb ob ∧ w8.rowIs (xb + 1) 32 5 (opF oj 7 K V It) ∧ Fr hb ob W0.heap.size W w8) → ∀ W9, Below ((((((((w8.setCell ⟨W5.heap.size, 0, none⟩ (.slice a' m' c')).setCell ⟨W5.heap.size, 1, none⟩ (.int .i64 nx)).setCell ⟨W5.heap.size, 2, none⟩ (.int .i64 md)).setCell ⟨W5.heap.size, 3, none⟩ (.bool tur)).setCell ⟨ob, 0, none⟩ (.slice a' m' c')).setCell ⟨ob, 1, none⟩ (.int .i64 nx)).setCell ⟨ob, 2, none⟩ (.int .i64 md)).setCell ⟨ob, 3, none⟩ (.bool tur)).heap.size ((((((((w8.setCell ⟨W5.heap.size, 0, none⟩ (.slice a' m' c')).setCell ⟨W5.heap.size, 1, none⟩ (.int .i64 nx)).setCell ⟨W5.heap.size, 2, none⟩ (.int .i64 md)).setCell ⟨W5.heap.size, 3, none⟩ (.bool tur)).setCell ⟨ob, 0, none⟩ (.slice a' m' c')).setCell ⟨ob, 1, none⟩ (.int .i64 nx)).setCell ⟨ob, 2, none⟩ (.int .i64 md)).setCell ⟨ob, 3, none⟩ (.bool tur)) W9 → Aft W0 W hb ob md tur lies N n nx nx W9) := by
    rintro w8 a' m' c' hr ⟨t1, Z8, P8, Q8, F8⟩ W9 hB9
    have q1 : W0.heap.size ≤ W5.heap.size := H5.out.1.hp.le
    have q2 : W.heap.size ≤ W5.heap.size := H5.out.2.2.2.1.bel.size
    have r1 := hr.set 0 (.slice a' m' c')
    have r2 := r1.set 1 (.int .i64 nx)
    have r3 := r2.set 2 (.int .i64 md)
    have Z9' := (((Z8.setH (i := 0) (u := .slice a' m' c') hr q1).setH (i := 1) (u := .int .i64 nx) r1 q1).setH (i := 2) (u := .int .i64 md) r2 q1).setH (i := 3) (u := .bool tur) r3 q1
    have t9 := (((t1.setH (i := 0) (u := .slice a' m' c') hr).setH (i := 1) (u := .int .i64 nx) r1).setH (i := 2) (u := .int .i64 md) r2).setH (i := 3) (u := .bool tur) r3
    have Y1 := Z8.setH (i := 0) (u := .slice a' m' c') hr q1
    have Y2 := Y1.setH (i := 1) (u := .int .i64 nx) r1 q1
    have Y3 := Y2.setH (i := 2) (u := .int .i64 md) r2 q1
    have F9' := (((F8.set (i := 0) (u := .slice a' m' c') Z8 hr oth_heap q2 q1).set (i := 1) (u := .int .i64 nx) Y1 r1 oth_heap q2 q1).set (i := 2) (u := .int .i64 md) Y2 r2 oth_heap q2 q1).set (i := 3) (u := .bool tur) Y3 r3 oth_heap q2 q1
    obtain ⟨Z9, F9⟩ := Z9'.store (W' := _) ⟨_, _, _, rfl⟩ t9 rfl
    exact ⟨M, n, _, _, _, Z9.mono hB9, HZ.out.2.2.2.1, by omega, H5.out.2.2.2.2.1, H5.out.2.2.2.2.2, (F9'.trans F9).trans (Fr.of_below hB9 Z9.hp)⟩
  have RUB : Hid (∀ W', (W' = (W5.alloc (.cells #[.slice none 0 0, .int .i64 0, .int .i64 0, .bool false] 55)) ∨ W' = (W5.alloc (.cells #[.slice none 0 0, .int .i64 0, .int .i64 0, .bool false] 55)).drew) → Calls Try.prog 50 #[.agg #[.slice la n lc, .int .i64 nx, .int .i64 md, .bool tur], .int .i64 It, .int .i64 K] W' fun e w' => ∃ a' m' c', e = .returned (.tuple #[.agg #[.slice a' m' c', .int .i64 nx, .int .i64 md, .bool tur], .int .i64 50]) ∧ Hid (w'.rowIs W5.heap.size 55 4 (hvF (.slice none 0 0) 0 0 false) ∧ Tr W0.heap.size w' (.slice a' m' c') L ∧ Lz W0 w' hb ob md tur lies M n nx T nx (.slice la n lc) L ∧ Pr w' xb hb ob ∧ w'.rowIs (xb + 1) 32 5 (opF oj 7 K V It) ∧ Fr hb ob W0.heap.size W w') ∧ w'.cell? ⟨W5.heap.size, 0, none⟩ = some (.slice none 0 0) ∧ w'.cell? ⟨W5.heap.size, 1, none⟩ = some (.int .i64 0) ∧ w'.cell? ⟨W5.heap.size, 2, none⟩ = some (.int .i64 0) ∧ w'.cell? ⟨W5.heap.size, 3, none⟩ = some (.bool false) ∧ (∀ i, w'.frozen? ⟨W5.heap.size, i, none⟩ = false) ∧ w'.cell? ⟨xb, 0, none⟩ = some (.pointer (some ⟨hb, 0, none⟩)) ∧ w'.cell? ⟨xb, 1, none⟩ = some (.pointer (some ⟨ob, 0, none⟩)) ∧ w'.cell? ⟨ob, 0, none⟩ = some (.slice la n lc) ∧ w'.cell? ⟨ob, 1, none⟩ = some (.int .i64 nx) ∧ w'.cell? ⟨ob, 2, none⟩ = some (.int .i64 md) ∧ w'.cell? ⟨ob, 3, none⟩ = some (.bool tur) ∧ (∀ i, w'.frozen? ⟨ob, i, none⟩ = false) ∧ ob < w'.heap.size ∧ xb < w'.heap.size ∧ w'.cell? ⟨xb + 1, 2, none⟩ = some (.int .i64 K) ∧ xb + 1 < w'.heap.size) := fun W' hW' => by
    have e0 : Below W5.heap.size W5 W' := by rcases hW' with rfl | rfl; exact (Below.refl _ _).alloc (Nat.le_refl _) _; exact bel_drew ((Below.refl _ _).alloc (Nat.le_refl _) _)
    have e1 : W'.rowIs W5.heap.size 55 4 (hvF (.slice none 0 0) 0 0 false) := by rcases hW' with rfl | rfl; exact hv_box W5 (.slice none 0 0) 0 0 false; exact hv_box W5 (.slice none 0 0) 0 0 false
    refine (RU.out W' e0).mono ?_
    rintro e w' ⟨a', m', c', rfl, t1, Z8, P8, Q8, F8, hB8⟩
    obtain ⟨u0, u1⟩ := P8.cells
    obtain ⟨r0, r1, r2, r3, r5, rlt, rfr⟩ := Z8.order
    have rb := e1.of_block (hB8.block _ e1.lt)
    exact ⟨a', m', c', rfl, ⟨rb, t1, Z8, P8, Q8, F8⟩, rb.cell (i := 0) (by omega), rb.cell (i := 1) (by omega), rb.cell (i := 2) (by omega), rb.cell (i := 3) (by omega), rb.frozen, u0, u1, r0, r1, r2, r3, rfr, rlt, (Array.getElem?_eq_some_iff.1 P8).1, (op_cells Q8).2.2.1, Q8.lt⟩
  have RUA : Hid (∀ W', (W' = W5 ∨ W' = W5.drew) → Calls Try.prog 50 #[.agg #[.slice la n lc, .int .i64 nx, .int .i64 md, .bool tur], .int .i64 It, .int .i64 K] W' fun e w' => ∃ a' m' c', e = .returned (.tuple #[.agg #[.slice a' m' c', .int .i64 nx, .int .i64 md, .bool tur], .int .i64 50]) ∧ Hid (Tr W0.heap.size w' (.slice a' m' c') L ∧ Lz W0 w' hb ob md tur lies M n nx T nx (.slice la n lc) L ∧ Pr w' xb hb ob ∧ w'.rowIs (xb + 1) 32 5 (opF oj 7 K V It) ∧ Fr hb ob W0.heap.size W w') ∧ w'.cell? ⟨xb, 0, none⟩ = some (.pointer (some ⟨hb, 0, none⟩)) ∧ w'.cell? ⟨xb, 1, none⟩ = some (.pointer (some ⟨ob, 0, none⟩)) ∧ w'.cell? ⟨ob, 0, none⟩ = some (.slice la n lc) ∧ w'.cell? ⟨ob, 1, none⟩ = some (.int .i64 nx) ∧ w'.cell? ⟨ob, 2, none⟩ = some (.int .i64 md) ∧ w'.cell? ⟨ob, 3, none⟩ = some (.bool tur) ∧ (∀ i, w'.frozen? ⟨ob, i, none⟩ = false) ∧ ob < w'.heap.size ∧ xb < w'.heap.size ∧ w'.cell? ⟨xb + 1, 2, none⟩ = some (.int .i64 K) ∧ xb + 1 < w'.heap.size) := fun W' hW' => by
    have e0 : Below W5.heap.size W5 W' := by rcases hW' with rfl | rfl; exact Below.refl _ _; exact bel_drew (Below.refl _ _)
    refine (RU.out W' e0).mono ?_
    rintro e w' ⟨a', m', c', rfl, t1, Z8, P8, Q8, F8, hB8⟩
    obtain ⟨u0, u1⟩ := P8.cells
    obtain ⟨r0, r1, r2, r3, r5, rlt, rfr⟩ := Z8.order
    exact ⟨a', m', c', rfl, ⟨t1, Z8, P8, Q8, F8⟩, u0, u1, r0, r1, r2, r3, rfr, rlt, (Array.getElem?_eq_some_iff.1 P8).1, (op_cells Q8).2.2.1, Q8.lt⟩
  have n5 : ¬ ob = W5.heap.size := by omega
  have n5' : ¬ W5.heap.size = ob := by omega
  have x5 : xb < W5.heap.size := (Array.getElem?_eq_some_iff.1 H5.out.2.1).1
  have x6 : xb + 1 < W5.heap.size := H5.out.2.2.1.lt
  have n7 : ¬ xb + 1 = W5.heap.size := by omega
  have n7' : ¬ W5.heap.size = xb + 1 := by omega
  have n6 : ¬ xb = W5.heap.size := by omega
  have n6' : ¬ W5.heap.size = xb := by omega
  go_wp2_with fail
  rename_i hz
  go_region_held3 (fun w9 => w9.cell? ⟨xb, 1, none⟩ = some (.pointer (some ⟨ob, 0, none⟩)) ∧ w9.cell? ⟨ob, 0, none⟩ = some (.slice la n lc) ∧ w9.cell? ⟨ob, 1, none⟩ = some (.int .i64 nx) ∧ w9.cell? ⟨ob, 2, none⟩ = some (.int .i64 md) ∧ w9.cell? ⟨ob, 3, none⟩ = some (.bool tur) ∧ w9.cell? ⟨xb + 1, 2, none⟩ = some (.int .i64 K)) (first | (simp [go_sem, *]; done) | (trace_state; fail))
    (first
      | (go_at_call 50; refine Calls.mono (RUA.out _ ?hb) ?_; (case hb => first | exact .inl rfl | exact .inr rfl); rintro e w8 ⟨a', m', c', rfl, HM, u0, u1, r0, r1, r2, r3, rfr, rlt, xlt, p2, plt⟩)
      | (go_at_call 50; refine Calls.mono (RUB.out _ ?hb) ?_; (case hb => first | exact .inl rfl | exact .inr rfl); rintro e w8 ⟨a', m', c', rfl, HM, b0, b1, b2, b3, bf, u0, u1, r0, r1, r2, r3, rfr, rlt, xlt, p2, plt⟩))
  · refine hz _ _ ?_
    go_wp2_with (first | (go_at_call 35; refine Calls.mono (NU.out _ _) ?_; rintro e w9 ⟨rfl, rfl⟩))
    go_ret
    exact ⟨rfl, FIN.out _ _ _ _ HM.out _ ((Below.refl _ _).alloc (Nat.le_refl _) _)⟩
  · refine hz _ _ ?_
    go_wp2_with (first | (go_at_call 35; refine Calls.mono (NU.out _ _) ?_; rintro e w9 ⟨rfl, rfl⟩))
    go_ret
    exact ⟨rfl, FINB.out _ _ _ _ HM.out.1 HM.out.2 _ (by first | exact Below.refl _ _ | exact bel_drew (Below.refl _ _))⟩
set_option maxHeartbeats 4000000 in
theorem one7_pos {W0 W : World} {hb ob : Nat} {md : Int} {tur : Bool} {lies : Int} {N n : Nat} {T : Int → Option (Int × Int)} {nx : Int} {lv : Value} {L : List Th} (oj K V It : Int) (h : Lz W0 W hb ob md tur lies N n nx T nx lv L) (hs : Syn T L n) (hN : N < 999999999) (hn : n < 1000) (hx : nx ≤ 100000) (hK : -9223372036854775808 ≤ K ∧ K ≤ 9223372036854775807) (hI1 : -9223372036854775808 ≤ It) (hI2 : It ≤ 9223372036854775807) (hI : 0 ≤ It) (hz : 0 < nx) (hT : T (It.tmod (nx + 2)) = none) :
    Calls Try.prog 25 #[.agg #[.pointer (some ⟨hb, 0, none⟩), .pointer (some ⟨ob, 0, none⟩)], .agg #[.int .i64 oj, .int .i64 7, .int .i64 K, .int .i64 V, .int .i64 It]] W fun e w' => e = .returned (.bool true) ∧ Aft W0 W hb ob md tur lies N n nx nx w' := by
  obtain ⟨la, lc, e9⟩ := h.slice
  rw [hs.len] at e9
  subst e9
  have hx0 := h.hp.pus.1
  obtain ⟨j, j1, j2, j3, j4, j5⟩ := item_rem hI hI2 hx0 hx
  rw [j1] at hT
  have hj : -9223372036854775808 ≤ j ∧ j ≤ 9223372036854775807 := by omega
  have dI : decide (0 ≤ It) = true := decide_eq_true (by omega)
  have dz : decide (0 < nx) = true := decide_eq_true (by omega)
  have w2 : IntKind.i64.wrap (nx + 2) = nx + 2 := by rw [IntKind.wrap_i64]; omega
  have hne : ¬ nx + 2 = 0 := by omega
  obtain ⟨Wb, hWb⟩ : ∃ Wb, Wb = (W.alloc (.cells #[.pointer (some ⟨hb, 0, none⟩), .pointer (some ⟨ob, 0, none⟩)] 26)).alloc (.cells #[.int .i64 oj, .int .i64 7, .int .i64 K, .int .i64 V, .int .i64 It] 32) := ⟨_, rfl⟩
  obtain ⟨xb, exb⟩ : ∃ xb, xb = W.heap.size := ⟨_, rfl⟩
  have Bb : Below W.heap.size W Wb := by rw [hWb]; exact ((Below.refl _ _).alloc (Nat.le_refl _) _).alloc (by simp) _
  have Pb : Pr Wb xb hb ob := by rw [hWb, exb]; exact (Below.heap_alloc _ _ _ (by simp)).trans (MapKept.heap_alloc _ _).1
  have Ob : Wb.rowIs (xb + 1) 32 5 (opF oj 7 K V It) := by
    have := op_box (W.alloc (.cells #[.pointer (some ⟨hb, 0, none⟩), .pointer (some ⟨ob, 0, none⟩)] 26)) oj 7 K V It
    rw [hWb, exb]
    simpa using this
  have Zb := h.mono Bb
  obtain ⟨c0, c1⟩ := Pb.cells
  obtain ⟨p0, p1, p2, p3, p4⟩ := op_cells Ob
  obtain ⟨o0, o1, o2, o3, o5, olt, ofr⟩ := Zb.order
  have HZ : Hid (Lz W0 Wb hb ob md tur lies N n nx T nx (.slice la n lc) L ∧ Pr Wb xb hb ob ∧ Wb.rowIs (xb + 1) 32 5 (opF oj 7 K V It) ∧ Syn T L n ∧ Fr hb ob W0.heap.size W Wb) := ⟨Zb, Pb, Ob, hs, Fr.of_below Bb h.hp⟩
  have HW : Hid ((W.alloc (.cells #[.pointer (some ⟨hb, 0, none⟩), .pointer (some ⟨ob, 0, none⟩)] 26)).alloc (.cells #[.int .i64 oj, .int .i64 7, .int .i64 K, .int .i64 V, .int .i64 It] 32) = Wb ∧ W.heap.size = xb) := ⟨hWb.symm, exb.symm⟩
  have FI : Hid (∀ W', Below Wb.heap.size Wb W' → Calls Try.prog 48 #[.agg #[.slice la n lc, .int .i64 nx, .int .i64 md, .bool tur], .int .i64 j] W' fun e w' => e = .returned (.int .i64 (-1)) ∧ Below W'.heap.size W' w') := fun W' hB => by
    refine (find_any nx md tur j W' (Zb.mono hB).tr (by rw [hs.len]; omega)).mono ?_
    rintro e w' ⟨h1 | h1, hB'⟩
    · obtain ⟨p, q1, _, q3⟩ := h1
      exact absurd q3 (hs.none hT p q1)
    · exact ⟨h1.1, hB'⟩
  have HE : Hid (T j = none) := hT
  clear h hs hWb exb Bb Pb Ob Zb ofr olt hT
  go_enter Try.func25, Try.ntmps25
  go_upto_region 1 with fail
  rw [HW.out.1, HW.out.2]
  go_wp2_with fail
  go_quiet (fail)
  obtain ⟨W2, hW2⟩ : ∃ W2, W2 = Wb.drewN nq := ⟨_, rfl⟩
  have B2 : Below Wb.heap.size Wb W2 := by rw [hW2]; exact bel_drewN (Below.refl _ _) _
  rw [← hW2]
  have HB2 : Hid (Below Wb.heap.size Wb W2) := B2
  have c0' := cell_later B2 c0
  have c1' := cell_later B2 c1
  have o0' := cell_later B2 o0
  have o1' := cell_later B2 o1
  have o2' := cell_later B2 o2
  have o3' := cell_later B2 o3
  have p1' := cell_later B2 p1
  have p2' := cell_later B2 p2
  clear hW2 B2 c0 c1 o0 o1 o2 o3 o5 p0 p1 p2 p3 p4
  go_wp2_with fail
  refine Calls.mono (FI.out W2 HB2.out) ?_
  rintro e W3 ⟨rfl, B3⟩
  have B03 : Below Wb.heap.size Wb W3 := HB2.out.trans (B3.mono HB2.out.size)
  obtain ⟨tb, etb⟩ : ∃ tb, tb = W3.heap.size := ⟨_, rfl⟩
  obtain ⟨W4, hW4⟩ : ∃ W4, W4 = W3.alloc (.cells #[.int .i64 0, .int .i64 0, .int .i64 0] 49) := ⟨_, rfl⟩
  have B4 : Below Wb.heap.size Wb W4 := by rw [hW4]; exact B03.alloc B03.size _
  have Z4 := HZ.out.1.mono B4
  have P4 := HZ.out.2.1.below B4
  have O4 : W4.rowIs (xb + 1) 32 5 (opF oj 7 K V It) := HZ.out.2.2.1.of_block (B4.block _ HZ.out.2.2.1.lt)
  have Q4 : W4.rowIs tb 49 3 (wtF 0 0 0) := by rw [hW4, etb]; exact wt_box W3 0 0 0
  have F4 := HZ.out.2.2.2.2.trans (Fr.of_below B4 HZ.out.1.hp)
  have H4 : Hid (Lz W0 W4 hb ob md tur lies N n nx T nx (.slice la n lc) L ∧ Pr W4 xb hb ob ∧ W4.rowIs (xb + 1) 32 5 (opF oj 7 K V It) ∧ W4.rowIs tb 49 3 (wtF 0 0 0) ∧ Fr hb ob W0.heap.size W W4) := ⟨Z4, P4, O4, Q4, F4⟩
  have HW4 : Hid (W3.alloc (.cells #[.int .i64 0, .int .i64 0, .int .i64 0] 49) = W4 ∧ W3.heap.size = tb) := ⟨hW4.symm, etb.symm⟩
  obtain ⟨d0, d1⟩ := P4.cells
  obtain ⟨s0, s1, s2, s3, s4⟩ := op_cells O4
  obtain ⟨y0, y1, y2, y3, y5, ylt, yfr⟩ := Z4.order
  have v0 := Q4.cell (i := 0) (by omega)
  have v1 := Q4.cell (i := 1) (by omega)
  have v2 := Q4.cell (i := 2) (by omega)
  simp only [wtF] at v0 v1 v2
  simp at v0 v1 v2
  clear hW4 etb B4 Z4 P4 O4 Q4 F4 B3 B03 FI c0' c1' o0' o1' o2' o3' p1' p2'
  go_upto_region 8 with fail
  rw [HW4.out.1, HW4.out.2]
  go_wp2_with fail
  have NU : Hid (∀ i W', Calls Try.prog 35 #[.int .i64 i] W' fun e w' => e = .returned (.int .i64 i) ∧ w' = W') := fun i W' => num_any i W'
  have GE : Hid (Calls Try.prog 16 #[.pointer (some ⟨hb, 0, none⟩), .int .i64 j, .int .i64 K] W4 fun e w' => e = .returned (.int .i64 50) ∧ w' = W4) := H4.out.1.hp.updateNo j K hj.1 hj.2 HE.out
  refine Calls.mono GE.out ?_
  rintro e W5 ⟨rfl, e5⟩
  obtain ⟨M, eM⟩ : ∃ M, M = N := ⟨_, rfl⟩
  have H5 : Hid (Lz W0 W5 hb ob md tur lies M n nx T nx (.slice la n lc) L ∧ Pr W5 xb hb ob ∧ W5.rowIs (xb + 1) 32 5 (opF oj 7 K V It) ∧ Fr hb ob W0.heap.size W W5 ∧ N ≤ M ∧ (∀ d, n < 2 ^ d → M ≤ N + (12 * d + 12))) := by rw [eM, e5]; exact ⟨H4.out.1, H4.out.2.1, H4.out.2.2.1, H4.out.2.2.2.2, Nat.le_refl _, fun d _ => by omega⟩
  clear eM e5 GE d0 d1 s0 s1 s2 s3 s4 y0 y1 y2 y3 y5 ylt yfr v0 v1 v2
  obtain ⟨d0, d1⟩ := H5.out.2.1.cells
  obtain ⟨s0, s1, s2, s3, s4⟩ := op_cells H5.out.2.2.1
  obtain ⟨y0, y1, y2, y3, y5, ylt, yfr⟩ := H5.out.1.order
  have RU : Hid (∀ W', Below W5.heap.size W5 W' → Calls Try.prog 50 #[.agg #[.slice la n lc, .int .i64 nx, .int .i64 md, .bool tur], .int .i64 j, .int .i64 K] W' fun e w' => ∃ a' m' c', e = .returned (.tuple #[.agg #[.slice a' m' c', .int .i64 nx, .int .i64 md, .bool tur], .int .i64 50]) ∧ Tr W0.heap.size w' (.slice a' m' c') L ∧ Lz W0 w' hb ob md tur lies M n nx T nx (.slice la n lc) L ∧ Pr w' xb hb ob ∧ w'.rowIs (xb + 1) 32 5 (opF oj 7 K V It) ∧ Fr hb ob W0.heap.size W w' ∧ Below W'.heap.size W' w') := fun W' B9 => by
    have Z9 := H5.out.1.mono B9
    refine (refUpdate_none nx md tur j K W' Z9.tr (by rw [HZ.out.2.2.2.1.len]; omega) (HZ.out.2.2.2.1.none HE.out)).mono ?_
    rintro e w' ⟨rfl, t2⟩
    have F9 := (Fr.of_below B9 H5.out.1.hp).trans (Fr.of_below t2 Z9.hp)
    exact ⟨_, _, _, rfl, Z9.tr.below t2, Z9.mono t2, H5.out.2.1.fr F9, op_fr H5.out.2.2.1 F9, H5.out.2.2.2.1.trans F9, t2⟩
  have nxo : ¬ xb = ob := fun e => by
    have e1 := H5.out.2.1
    unfold Pr at e1
    rw [e, H5.out.1.hp.od.at'] at e1
    cases e1
  have nxo' : ¬ ob = xb := fun e => nxo e.symm
  have FIN : Hid (∀ (w8 : World) (a' : Option Addr) (m' c' : Nat), (Tr W0.heap.size w8 (.slice a' m' c') L ∧ Lz W0 w8 hb ob md tur lies M n nx T nx (.slice la n lc) L ∧ Pr w8 xb hb ob ∧ w8.rowIs (xb + 1) 32 5 (opF oj 7 K V It) ∧ Fr hb ob W0.heap.size W w8) → ∀ W9, Below ((((w8.setCell ⟨ob, 0, none⟩ (.slice a' m' c')).setCell ⟨ob, 1, none⟩ (.int .i64 nx)).setCell ⟨ob, 2, none⟩ (.int .i64 md)).setCell ⟨ob, 3, none⟩ (.bool tur)).heap.size ((((w8.setCell ⟨ob, 0, none⟩ (.slice a' m' c')).setCell ⟨ob, 1, none⟩ (.int .i64 nx)).setCell ⟨ob, 2, none⟩ (.int .i64 md)).setCell ⟨ob, 3, none⟩ (.bool tur)) W9 → Aft W0 W hb ob md tur lies N n nx nx W9) := by
    rintro w8 a' m' c' ⟨t1, Z8, P8, Q8, F8⟩ W9 hB9
    obtain ⟨Z9, F9⟩ := Z8.store (W' := _) ⟨_, _, _, rfl⟩ t1 rfl
    exact ⟨M, n, _, _, _, Z9.mono hB9, HZ.out.2.2.2.1, by omega, H5.out.2.2.2.2.1, H5.out.2.2.2.2.2, (F8.trans F9).trans (Fr.of_below hB9 Z9.hp)⟩
  have FINB : Hid (∀ (w8 : World) (a' : Option Addr) (m' c' : Nat), w8.rowIs W5.heap.size 55 4 (hvF (.slice none 0 0) 0 0 false) → (Tr W0.heap.size w8 (.slice a' m' c') L ∧ Lz W0 w8 hb ob md tur lies M n nx T nx (.slice la n lc) L ∧ Pr w8 xb hb ob ∧ w8.rowIs (xb + 1) 32 5 (opF oj 7 K V It) ∧ Fr hb ob W0.heap.size W w8) → ∀ W9, Below ((((((((w8.setCell ⟨W5.heap.size, 0, none⟩ (.slice a' m' c')).setCell ⟨W5.heap.size, 1, none⟩ (.int .i64 nx)).setCell ⟨W5.heap.size, 2, none⟩ (.int .i64 md)).setCell ⟨W5.heap.size, 3, none⟩ (.bool tur)).setCell ⟨ob, 0, none⟩ (.slice a' m' c')).setCell ⟨ob, 1, none⟩ (.int .i64 nx)).setCell ⟨ob, 2, none⟩ (.int .i64 md)).setCell ⟨ob, 3, none⟩ (.bool tur)).heap.size ((((((((w8.setCell ⟨W5.heap.size, 0, none⟩ (.slice a' m' c')).setCell ⟨W5.heap.size, 1, none⟩ (.int .i64 nx)).setCell ⟨W5.heap.size, 2, none⟩ (.int .i64 md)).setCell ⟨W5.heap.size, 3, none⟩ (.bool tur)).setCell ⟨ob, 0, none⟩ (.slice a' m' c')).setCell ⟨ob, 1, none⟩ (.int .i64 nx)).setCell ⟨ob, 2, none⟩ (.int .i64 md)).setCell ⟨ob, 3, none⟩ (.bool tur)) W9 → Aft W0 W hb ob md tur lies N n nx nx W9) := by
    rintro w8 a' m' c' hr ⟨t1, Z8, P8, Q8, F8⟩ W9 hB9
    have q1 : W0.heap.size ≤ W5.heap.size := H5.out.1.hp.le
    have q2 : W.heap.size ≤ W5.heap.size := H5.out.2.2.2.1.bel.size
    have r1 := hr.set 0 (.slice a' m' c')
    have r2 := r1.set 1 (.int .i64 nx)
    have r3 := r2.set 2 (.int .i64 md)
    have Z9' := (((Z8.setH (i := 0) (u := .slice a' m' c') hr q1).setH (i := 1) (u := .int .i64 nx) r1 q1).setH (i := 2) (u := .int .i64 md) r2 q1).setH (i := 3) (u := .bool tur) r3 q1
    have t9 := (((t1.setH (i := 0) (u := .slice a' m' c') hr).setH (i := 1) (u := .int .i64 nx) r1).setH (i := 2) (u := .int .i64 md) r2).setH (i := 3) (u := .bool tur) r3
    have Y1 := Z8.setH (i := 0) (u := .slice a' m' c') hr q1
    have Y2 := Y1.setH (i := 1) (u := .int .i64 nx) r1 q1
    have Y3 := Y2.setH (i := 2) (u := .int .i64 md) r2 q1
    have F9' := (((F8.set (i := 0) (u := .slice a' m' c') Z8 hr oth_heap q2 q1).set (i := 1) (u := .int .i64 nx) Y1 r1 oth_heap q2 q1).set (i := 2) (u := .int .i64 md) Y2 r2 oth_heap q2 q1).set (i := 3) (u := .bool tur) Y3 r3 oth_heap q2 q1
    obtain ⟨Z9, F9⟩ := Z9'.store (W' := _) ⟨_, _, _, rfl⟩ t9 rfl
    exact ⟨M, n, _, _, _, Z9.mono hB9, HZ.out.2.2.2.1, by omega, H5.out.2.2.2.2.1, H5.out.2.2.2.2.2, (F9'.trans F9).trans (Fr.of_below hB9 Z9.hp)⟩
  have RUB : Hid (∀ W', (W' = (W5.alloc (.cells #[.slice none 0 0, .int .i64 0, .int .i64 0, .bool false] 55)) ∨ W' = (W5.alloc (.cells #[.slice none 0 0, .int .i64 0, .int .i64 0, .bool false] 55)).drew) → Calls Try.prog 50 #[.agg #[.slice la n lc, .int .i64 nx, .int .i64 md, .bool tur], .int .i64 j, .int .i64 K] W' fun e w' => ∃ a' m' c', e = .returned (.tuple #[.agg #[.slice a' m' c', .int .i64 nx, .int .i64 md, .bool tur], .int .i64 50]) ∧ Hid (w'.rowIs W5.heap.size 55 4 (hvF (.slice none 0 0) 0 0 false) ∧ Tr W0.heap.size w' (.slice a' m' c') L ∧ Lz W0 w' hb ob md tur lies M n nx T nx (.slice la n lc) L ∧ Pr w' xb hb ob ∧ w'.rowIs (xb + 1) 32 5 (opF oj 7 K V It) ∧ Fr hb ob W0.heap.size W w') ∧ w'.cell? ⟨W5.heap.size, 0, none⟩ = some (.slice none 0 0) ∧ w'.cell? ⟨W5.heap.size, 1, none⟩ = some (.int .i64 0) ∧ w'.cell? ⟨W5.heap.size, 2, none⟩ = some (.int .i64 0) ∧ w'.cell? ⟨W5.heap.size, 3, none⟩ = some (.bool false) ∧ (∀ i, w'.frozen? ⟨W5.heap.size, i, none⟩ = false) ∧ w'.cell? ⟨xb, 0, none⟩ = some (.pointer (some ⟨hb, 0, none⟩)) ∧ w'.cell? ⟨xb, 1, none⟩ = some (.pointer (some ⟨ob, 0, none⟩)) ∧ w'.cell? ⟨ob, 0, none⟩ = some (.slice la n lc) ∧ w'.cell? ⟨ob, 1, none⟩ = some (.int .i64 nx) ∧ w'.cell? ⟨ob, 2, none⟩ = some (.int .i64 md) ∧ w'.cell? ⟨ob, 3, none⟩ = some (.bool tur) ∧ (∀ i, w'.frozen? ⟨ob, i, none⟩ = false) ∧ ob < w'.heap.size ∧ xb < w'.heap.size ∧ w'.cell? ⟨xb + 1, 2, none⟩ = some (.int .i64 K) ∧ xb + 1 < w'.heap.size) := fun W' hW' => by
    have e0 : Below W5.heap.size W5 W' := by rcases hW' with rfl | rfl; exact (Below.refl _ _).alloc (Nat.le_refl _) _; exact bel_drew ((Below.refl _ _).alloc (Nat.le_refl _) _)
    have e1 : W'.rowIs W5.heap.size 55 4 (hvF (.slice none 0 0) 0 0 false) := by rcases hW' with rfl | rfl; exact hv_box W5 (.slice none 0 0) 0 0 false; exact hv_box W5 (.slice none 0 0) 0 0 false
    refine (RU.out W' e0).mono ?_
    rintro e w' ⟨a', m', c', rfl, t1, Z8, P8, Q8, F8, hB8⟩
    obtain ⟨u0, u1⟩ := P8.cells
    obtain ⟨r0, r1, r2, r3, r5, rlt, rfr⟩ := Z8.order
    have rb := e1.of_block (hB8.block _ e1.lt)
    exact ⟨a', m', c', rfl, ⟨rb, t1, Z8, P8, Q8, F8⟩, rb.cell (i := 0) (by omega), rb.cell (i := 1) (by omega), rb.cell (i := 2) (by omega), rb.cell (i := 3) (by omega), rb.frozen, u0, u1, r0, r1, r2, r3, rfr, rlt, (Array.getElem?_eq_some_iff.1 P8).1, (op_cells Q8).2.2.1, Q8.lt⟩
  have RUA : Hid (∀ W', (W' = W5 ∨ W' = W5.drew) → Calls Try.prog 50 #[.agg #[.slice la n lc, .int .i64 nx, .int .i64 md, .bool tur], .int .i64 j, .int .i64 K] W' fun e w' => ∃ a' m' c', e = .returned (.tuple #[.agg #[.slice a' m' c', .int .i64 nx, .int .i64 md, .bool tur], .int .i64 50]) ∧ Hid (Tr W0.heap.size w' (.slice a' m' c') L ∧ Lz W0 w' hb ob md tur lies M n nx T nx (.slice la n lc) L ∧ Pr w' xb hb ob ∧ w'.rowIs (xb + 1) 32 5 (opF oj 7 K V It) ∧ Fr hb ob W0.heap.size W w') ∧ w'.cell? ⟨xb, 0, none⟩ = some (.pointer (some ⟨hb, 0, none⟩)) ∧ w'.cell? ⟨xb, 1, none⟩ = some (.pointer (some ⟨ob, 0, none⟩)) ∧ w'.cell? ⟨ob, 0, none⟩ = some (.slice la n lc) ∧ w'.cell? ⟨ob, 1, none⟩ = some (.int .i64 nx) ∧ w'.cell? ⟨ob, 2, none⟩ = some (.int .i64 md) ∧ w'.cell? ⟨ob, 3, none⟩ = some (.bool tur) ∧ (∀ i, w'.frozen? ⟨ob, i, none⟩ = false) ∧ ob < w'.heap.size ∧ xb < w'.heap.size ∧ w'.cell? ⟨xb + 1, 2, none⟩ = some (.int .i64 K) ∧ xb + 1 < w'.heap.size) := fun W' hW' => by
    have e0 : Below W5.heap.size W5 W' := by rcases hW' with rfl | rfl; exact Below.refl _ _; exact bel_drew (Below.refl _ _)
    refine (RU.out W' e0).mono ?_
    rintro e w' ⟨a', m', c', rfl, t1, Z8, P8, Q8, F8, hB8⟩
    obtain ⟨u0, u1⟩ := P8.cells
    obtain ⟨r0, r1, r2, r3, r5, rlt, rfr⟩ := Z8.order
    exact ⟨a', m', c', rfl, ⟨t1, Z8, P8, Q8, F8⟩, u0, u1, r0, r1, r2, r3, rfr, rlt, (Array.getElem?_eq_some_iff.1 P8).1, (op_cells Q8).2.2.1, Q8.lt⟩
  have n5 : ¬ ob = W5.heap.size := by omega
  have n5' : ¬ W5.heap.size = ob := by omega
  have x5 : xb < W5.heap.size := (Array.getElem?_eq_some_iff.1 H5.out.2.1).1
  have x6 : xb + 1 < W5.heap.size := H5.out.2.2.1.lt
  have n7 : ¬ xb + 1 = W5.heap.size := by omega
  have n7' : ¬ W5.heap.size = xb + 1 := by omega
  have n6 : ¬ xb = W5.heap.size := by omega
  have n6' : ¬ W5.heap.size = xb := by omega
  go_wp2_with fail
  rename_i hz
  go_region_held3 (fun w9 => w9.cell? ⟨xb, 1, none⟩ = some (.pointer (some ⟨ob, 0, none⟩)) ∧ w9.cell? ⟨ob, 0, none⟩ = some (.slice la n lc) ∧ w9.cell? ⟨ob, 1, none⟩ = some (.int .i64 nx) ∧ w9.cell? ⟨ob, 2, none⟩ = some (.int .i64 md) ∧ w9.cell? ⟨ob, 3, none⟩ = some (.bool tur) ∧ w9.cell? ⟨xb + 1, 2, none⟩ = some (.int .i64 K)) (first | (simp [go_sem, *]; done) | (trace_state; fail))
    (first
      | (go_at_call 50; refine Calls.mono (RUA.out _ ?hb) ?_; (case hb => first | exact .inl rfl | exact .inr rfl); rintro e w8 ⟨a', m', c', rfl, HM, u0, u1, r0, r1, r2, r3, rfr, rlt, xlt, p2, plt⟩)
      | (go_at_call 50; refine Calls.mono (RUB.out _ ?hb) ?_; (case hb => first | exact .inl rfl | exact .inr rfl); rintro e w8 ⟨a', m', c', rfl, HM, b0, b1, b2, b3, bf, u0, u1, r0, r1, r2, r3, rfr, rlt, xlt, p2, plt⟩))
  · refine hz _ _ ?_
    go_wp2_with (first | (go_at_call 35; refine Calls.mono (NU.out _ _) ?_; rintro e w9 ⟨rfl, rfl⟩))
    go_ret
    exact ⟨rfl, FIN.out _ _ _ _ HM.out _ ((Below.refl _ _).alloc (Nat.le_refl _) _)⟩
  · refine hz _ _ ?_
    go_wp2_with (first | (go_at_call 35; refine Calls.mono (NU.out _ _) ?_; rintro e w9 ⟨rfl, rfl⟩))
    go_ret
    exact ⟨rfl, FINB.out _ _ _ _ HM.out.1 HM.out.2 _ (by first | exact Below.refl _ _ | exact bel_drew (Below.refl _ _))⟩
set_option maxHeartbeats 4000000 in
theorem one7_hit {W0 W : World} {hb ob : Nat} {md : Int} {tur : Bool} {lies : Int} {N n : Nat} {T : Int → Option (Int × Int)} {nx : Int} {lv : Value} {L : List Th} (oj K V It : Int) (h : Lz W0 W hb ob md tur lies N n nx T nx lv L) (hs : Syn T L n) (hN : N < 999999999) (hn : n < 1000) (hx : nx ≤ 100000) (hK : -9223372036854775808 ≤ K ∧ K ≤ 9223372036854775807) (hI1 : -9223372036854775808 ≤ It) (hI2 : It ≤ 9223372036854775807) (hI : 0 ≤ It) (hz : 0 < nx) {k v : Int} (hT : T (It.tmod (nx + 2)) = some (k, v)) :
    Calls Try.prog 25 #[.agg #[.pointer (some ⟨hb, 0, none⟩), .pointer (some ⟨ob, 0, none⟩)], .agg #[.int .i64 oj, .int .i64 7, .int .i64 K, .int .i64 V, .int .i64 It]] W fun e w' => e = .returned (.bool true) ∧ Aft W0 W hb ob md tur lies N n nx nx w' := by
  obtain ⟨la, lc, e9⟩ := h.slice
  rw [hs.len] at e9
  subst e9
  have hx0 := h.hp.pus.1
  obtain ⟨j, j1, j2, j3, j4, j5⟩ := item_rem hI hI2 hx0 hx
  rw [j1] at hT
  have hj : -9223372036854775808 ≤ j ∧ j ≤ 9223372036854775807 := by omega
  have dI : decide (0 ≤ It) = true := decide_eq_true (by omega)
  have dz : decide (0 < nx) = true := decide_eq_true (by omega)
  have w2 : IntKind.i64.wrap (nx + 2) = nx + 2 := by rw [IntKind.wrap_i64]; omega
  have hne : ¬ nx + 2 = 0 := by omega
  obtain ⟨Wb, hWb⟩ : ∃ Wb, Wb = (W.alloc (.cells #[.pointer (some ⟨hb, 0, none⟩), .pointer (some ⟨ob, 0, none⟩)] 26)).alloc (.cells #[.int .i64 oj, .int .i64 7, .int .i64 K, .int .i64 V, .int .i64 It] 32) := ⟨_, rfl⟩
  obtain ⟨xb, exb⟩ : ∃ xb, xb = W.heap.size := ⟨_, rfl⟩
  have Bb : Below W.heap.size W Wb := by rw [hWb]; exact ((Below.refl _ _).alloc (Nat.le_refl _) _).alloc (by simp) _
  have Pb : Pr Wb xb hb ob := by rw [hWb, exb]; exact (Below.heap_alloc _ _ _ (by simp)).trans (MapKept.heap_alloc _ _).1
  have Ob : Wb.rowIs (xb + 1) 32 5 (opF oj 7 K V It) := by
    have := op_box (W.alloc (.cells #[.pointer (some ⟨hb, 0, none⟩), .pointer (some ⟨ob, 0, none⟩)] 26)) oj 7 K V It
    rw [hWb, exb]
    simpa using this
  have Zb := h.mono Bb
  obtain ⟨c0, c1⟩ := Pb.cells
  obtain ⟨p0, p1, p2, p3, p4⟩ := op_cells Ob
  obtain ⟨o0, o1, o2, o3, o5, olt, ofr⟩ := Zb.order
  have HZ : Hid (Lz W0 Wb hb ob md tur lies N n nx T nx (.slice la n lc) L ∧ Pr Wb xb hb ob ∧ Wb.rowIs (xb + 1) 32 5 (opF oj 7 K V It) ∧ Syn T L n ∧ Fr hb ob W0.heap.size W Wb) := ⟨Zb, Pb, Ob, hs, Fr.of_below Bb h.hp⟩
  have HW : Hid ((W.alloc (.cells #[.pointer (some ⟨hb, 0, none⟩), .pointer (some ⟨ob, 0, none⟩)] 26)).alloc (.cells #[.int .i64 oj, .int .i64 7, .int .i64 K, .int .i64 V, .int .i64 It] 32) = Wb ∧ W.heap.size = xb) := ⟨hWb.symm, exb.symm⟩
  obtain ⟨p, hp, ex, huq⟩ := hs.found hT
  have hp' : p < n := by rw [← hs.len]; exact hp
  have FI : Hid (∀ W', Below Wb.heap.size Wb W' → Calls Try.prog 48 #[.agg #[.slice la n lc, .int .i64 nx, .int .i64 md, .bool tur], .int .i64 j] W' fun e w' => e = .returned (.int .i64 (p : Int)) ∧ Below W'.heap.size W' w') := fun W' hB => by
    refine (find_any nx md tur j W' (Zb.mono hB).tr (by rw [hs.len]; omega)).mono ?_
    rintro e w' ⟨h1 | h1, hB'⟩
    · obtain ⟨q, q1, q2, q3⟩ := h1
      have := huq q q1 q3
      subst this
      exact ⟨q2, hB'⟩
    · exact absurd (by rw [ex]) (h1.2 p hp)
  have HE : Hid (L.getD p th0 = (j, k, v) ∧ (∀ q, q < L.length → (L.getD q th0).1 = j → q = p) ∧ p < L.length ∧ T j = some (k, v)) := ⟨ex, huq, hp, hT⟩
  clear ex huq hp
  clear h hs hWb exb Bb Pb Ob Zb ofr olt hT
  go_enter Try.func25, Try.ntmps25
  go_upto_region 1 with fail
  rw [HW.out.1, HW.out.2]
  go_wp2_with fail
  go_quiet (fail)
  obtain ⟨W2, hW2⟩ : ∃ W2, W2 = Wb.drewN nq := ⟨_, rfl⟩
  have B2 : Below Wb.heap.size Wb W2 := by rw [hW2]; exact bel_drewN (Below.refl _ _) _
  rw [← hW2]
  have HB2 : Hid (Below Wb.heap.size Wb W2) := B2
  have c0' := cell_later B2 c0
  have c1' := cell_later B2 c1
  have o0' := cell_later B2 o0
  have o1' := cell_later B2 o1
  have o2' := cell_later B2 o2
  have o3' := cell_later B2 o3
  have p1' := cell_later B2 p1
  have p2' := cell_later B2 p2
  clear hW2 B2 c0 c1 o0 o1 o2 o3 o5 p0 p1 p2 p3 p4
  go_wp2_with fail
  refine Calls.mono (FI.out W2 HB2.out) ?_
  rintro e W3 ⟨rfl, B3⟩
  have B03 : Below Wb.heap.size Wb W3 := HB2.out.trans (B3.mono HB2.out.size)
  obtain ⟨g, rfl, hc⟩ : ∃ g, la = some ⟨g, 0, none⟩ ∧ ∀ i, i < L.length → W3.cell? ⟨g, i * 3, none⟩ = some (.int .i64 (L.getD i th0).1) ∧ W3.cell? ⟨g, i * 3 + 1, none⟩ = some (.int .i64 (L.getD i th0).2.1) ∧ W3.cell? ⟨g, i * 3 + 2, none⟩ = some (.int .i64 (L.getD i th0).2.2) := by
    obtain ⟨a9, c9, e9, hat, _⟩ := (HZ.out.1.mono B03).tr.sl
    injection e9 with e91 e92 e93
    subst e91
    obtain ⟨g, e, _, _, hc⟩ := hat (by have := HE.out.2.2.1; omega)
    exact ⟨g, e, hc⟩
  obtain ⟨k0, k1, k2⟩ := hc p HE.out.2.2.1
  rw [HE.out.1] at k0 k1 k2
  clear hc
  have hpi : (p : Int) < ((n : Nat) : Int) := by omega
  have hge : decide (0 ≤ (p : Int)) = true := decide_eq_true (by omega)
  obtain ⟨tb, etb⟩ : ∃ tb, tb = W3.heap.size := ⟨_, rfl⟩
  obtain ⟨Wz, hWz⟩ : ∃ Wz, Wz = W3.alloc (.cells #[.int .i64 0, .int .i64 0, .int .i64 0] 49) := ⟨_, rfl⟩
  have Bz : Below W3.heap.size W3 Wz := by rw [hWz]; exact (Below.refl _ _).alloc (Nat.le_refl _) _
  have Qz : Wz.rowIs tb 49 3 (wtF 0 0 0) := by rw [hWz, etb]; exact wt_box W3 0 0 0
  obtain ⟨W4, hW4⟩ : ∃ W4, W4 = ((Wz.setCell ⟨tb, 0, none⟩ (.int .i64 j)).setCell ⟨tb, 1, none⟩ (.int .i64 k)).setCell ⟨tb, 2, none⟩ (.int .i64 v) := ⟨_, rfl⟩
  have B4 : Below Wb.heap.size Wb W4 := by
    have h9 : Wb.heap.size ≤ tb := by rw [etb]; exact B03.size
    rw [hW4]
    exact ((((B03.trans (Bz.mono B03.size)).setCell h9 _).setCell h9 _).setCell h9 _)
  have Z4 := HZ.out.1.mono B4
  have P4 := HZ.out.2.1.below B4
  have O4 : W4.rowIs (xb + 1) 32 5 (opF oj 7 K V It) := HZ.out.2.2.1.of_block (B4.block _ HZ.out.2.2.1.lt)
  have Q4 : W4.rowIs tb 49 3 (wtF j k v) := by
    rw [hW4]
    refine (((Qz.set 0 _).set 1 _).set 2 _).congr fun i hi => ?_
    match i, hi with
    | 0, _ => rfl
    | 1, _ => rfl
    | 2, _ => rfl
  have F4 := HZ.out.2.2.2.2.trans (Fr.of_below B4 HZ.out.1.hp)
  have H4 : Hid (Lz W0 W4 hb ob md tur lies N n nx T nx (.slice (some ⟨g, 0, none⟩) n lc) L ∧ Pr W4 xb hb ob ∧ W4.rowIs (xb + 1) 32 5 (opF oj 7 K V It) ∧ W4.rowIs tb 49 3 (wtF j k v) ∧ Fr hb ob W0.heap.size W W4) := ⟨Z4, P4, O4, Q4, F4⟩
  have HWz : Hid (W3.alloc (.cells #[.int .i64 0, .int .i64 0, .int .i64 0] 49) = Wz ∧ W3.heap.size = tb ∧ ((Wz.setCell ⟨tb, 0, none⟩ (.int .i64 j)).setCell ⟨tb, 1, none⟩ (.int .i64 k)).setCell ⟨tb, 2, none⟩ (.int .i64 v) = W4) := ⟨hWz.symm, etb.symm, hW4.symm⟩
  have c13 := cell_later Bz (cell_later B3 c1')
  have o03 := cell_later Bz (cell_later B3 o0')
  replace k0 := cell_later Bz k0
  replace k1 := cell_later Bz k1
  replace k2 := cell_later Bz k2
  have e0 := Qz.cell (i := 0) (by omega)
  have f0 := Qz.frozen 0
  have e1 := Qz.cell (i := 1) (by omega)
  have f1 := Qz.frozen 1
  have e2 := Qz.cell (i := 2) (by omega)
  have f2 := Qz.frozen 2
  simp only [wtF] at e0 e1 e2
  simp at e0 e1 e2
  clear hWz Bz Qz
  obtain ⟨d0, d1⟩ := P4.cells
  obtain ⟨s0, s1, s2, s3, s4⟩ := op_cells O4
  obtain ⟨y0, y1, y2, y3, y5, ylt, yfr⟩ := Z4.order
  have v0 := Q4.cell (i := 0) (by omega)
  have v1 := Q4.cell (i := 1) (by omega)
  have v2 := Q4.cell (i := 2) (by omega)
  simp only [wtF] at v0 v1 v2
  simp at v0 v1 v2
  clear hW4 etb B4 Z4 P4 O4 Q4 F4 B3 B03 FI c0' c1' o0' o1' o2' o3' p1' p2'
  go_upto_region 6 with fail
  rw [HWz.out.1, HWz.out.2.1]
  go_upto_region 8 with fail
  rw [HWz.out.2.2]
  clear e0 e1 e2 f0 f1 f2
  go_wp2_with fail
  have NU : Hid (∀ i W', Calls Try.prog 35 #[.int .i64 i] W' fun e w' => e = .returned (.int .i64 i) ∧ w' = W') := fun i W' => num_any i W'
  have GE : Hid _ := H4.out.1.hp.update hN HE.out.2.2.2 K hK.1 hK.2
  refine Calls.mono GE.out ?_
  rintro e W5 ⟨rfl, M, hp5, hM, hfew, F5⟩
  have H5 : Hid (Lz W0 W5 hb ob md tur lies M n nx (updT T j (some (K, v))) nx (.slice (some ⟨g, 0, none⟩) n lc) L ∧ Pr W5 xb hb ob ∧ W5.rowIs (xb + 1) 32 5 (opF oj 7 K V It) ∧ Fr hb ob W0.heap.size W W5 ∧ N ≤ M ∧ (∀ d, n < 2 ^ d → M ≤ N + (12 * d + 12))) := ⟨H4.out.1.step F5 hp5, H4.out.2.1.fr F5, op_fr H4.out.2.2.1 F5, H4.out.2.2.2.2.trans F5, hM, fun d hd => few_upd hfew hM hd⟩
  clear hp5 hM hfew F5 GE d0 d1 s0 s1 s2 s3 s4 y0 y1 y2 y3 y5 ylt yfr v0 v1 v2 c13 o03 k0 k1 k2
  obtain ⟨d0, d1⟩ := H5.out.2.1.cells
  obtain ⟨s0, s1, s2, s3, s4⟩ := op_cells H5.out.2.2.1
  obtain ⟨y0, y1, y2, y3, y5, ylt, yfr⟩ := H5.out.1.order
  have RU : Hid (∀ W', Below W5.heap.size W5 W' → Calls Try.prog 50 #[.agg #[.slice (some ⟨g, 0, none⟩) n lc, .int .i64 nx, .int .i64 md, .bool tur], .int .i64 j, .int .i64 K] W' fun e w' => ∃ a' m' c', e = .returned (.tuple #[.agg #[.slice a' m' c', .int .i64 nx, .int .i64 md, .bool tur], .int .i64 0]) ∧ Tr W0.heap.size w' (.slice a' m' c') (L.set p (j, K, v)) ∧ Lz W0 w' hb ob md tur lies M n nx (updT T j (some (K, v))) nx (.slice (some ⟨g, 0, none⟩) n lc) L ∧ Pr w' xb hb ob ∧ w'.rowIs (xb + 1) 32 5 (opF oj 7 K V It) ∧ Fr hb ob W0.heap.size W w' ∧ Below W'.heap.size W' w') := fun W' B9 => by
    have Z9 := H5.out.1.mono B9
    refine (refUpdate_some nx md tur j K p W' Z9.tr (by rw [HZ.out.2.2.2.1.len]; omega) HE.out.2.2.1 (by rw [HE.out.1]) HE.out.2.1).mono ?_
    rintro e w' ⟨lv', rfl, t1, t2⟩
    rw [HE.out.1] at t1
    obtain ⟨a', c', e', _⟩ := t1.sl
    subst e'
    have F9 := (Fr.of_below B9 H5.out.1.hp).trans (Fr.of_below t2 Z9.hp)
    exact ⟨_, _, _, rfl, t1.weak Z9.hp.le, Z9.mono t2, H5.out.2.1.fr F9, op_fr H5.out.2.2.1 F9, H5.out.2.2.2.1.trans F9, t2⟩
  have nxo : ¬ xb = ob := fun e => by
    have e1 := H5.out.2.1
    unfold Pr at e1
    rw [e, H5.out.1.hp.od.at'] at e1
    cases e1
  have nxo' : ¬ ob = xb := fun e => nxo e.symm
  have FIN : Hid (∀ (w8 : World) (a' : Option Addr) (m' c' : Nat), (Tr W0.heap.size w8 (.slice a' m' c') (L.set p (j, K, v)) ∧ Lz W0 w8 hb ob md tur lies M n nx (updT T j (some (K, v))) nx (.slice (some ⟨g, 0, none⟩) n lc) L ∧ Pr w8 xb hb ob ∧ w8.rowIs (xb + 1) 32 5 (opF oj 7 K V It) ∧ Fr hb ob W0.heap.size W w8) → ∀ W9, Below ((((w8.setCell ⟨ob, 0, none⟩ (.slice a' m' c')).setCell ⟨ob, 1, none⟩ (.int .i64 nx)).setCell ⟨ob, 2, none⟩ (.int .i64 md)).setCell ⟨ob, 3, none⟩ (.bool tur)).heap.size ((((w8.setCell ⟨ob, 0, none⟩ (.slice a' m' c')).setCell ⟨ob, 1, none⟩ (.int .i64 nx)).setCell ⟨ob, 2, none⟩ (.int .i64 md)).setCell ⟨ob, 3, none⟩ (.bool tur)) W9 → Aft W0 W hb ob md tur lies N n nx nx W9) := by
    rintro w8 a' m' c' ⟨t1, Z8, P8, Q8, F8⟩ W9 hB9
    obtain ⟨Z9, F9⟩ := Z8.store (W' := _) ⟨_, _, _, rfl⟩ t1 rfl
    exact ⟨M, n, _, _, _, Z9.mono hB9, HZ.out.2.2.2.1.upd HE.out.2.2.1 HE.out.1 K, by omega, H5.out.2.2.2.2.1, H5.out.2.2.2.2.2, (F8.trans F9).trans (Fr.of_below hB9 Z9.hp)⟩
  have FINB : Hid (∀ (w8 : World) (a' : Option Addr) (m' c' : Nat), w8.rowIs W5.heap.size 55 4 (hvF (.slice none 0 0) 0 0 false) → (Tr W0.heap.size w8 (.slice a' m' c') (L.set p (j, K, v)) ∧ Lz W0 w8 hb ob md tur lies M n nx (updT T j (some (K, v))) nx (.slice (some ⟨g, 0, none⟩) n lc) L ∧ Pr w8 xb hb ob ∧ w8.rowIs (xb + 1) 32 5 (opF oj 7 K V It) ∧ Fr hb ob W0.heap.size W w8) → ∀ W9, Below ((((((((w8.setCell ⟨W5.heap.size, 0, none⟩ (.slice a' m' c')).setCell ⟨W5.heap.size, 1, none⟩ (.int .i64 nx)).setCell ⟨W5.heap.size, 2, none⟩ (.int .i64 md)).setCell ⟨W5.heap.size, 3, none⟩ (.bool tur)).setCell ⟨ob, 0, none⟩ (.slice a' m' c')).setCell ⟨ob, 1, none⟩ (.int .i64 nx)).setCell ⟨ob, 2, none⟩ (.int .i64 md)).setCell ⟨ob, 3, none⟩ (.bool tur)).heap.size ((((((((w8.setCell ⟨W5.heap.size, 0, none⟩ (.slice a' m' c')).setCell ⟨W5.heap.size, 1, none⟩ (.int .i64 nx)).setCell ⟨W5.heap.size, 2, none⟩ (.int .i64 md)).setCell ⟨W5.heap.size, 3, none⟩ (.bool tur)).setCell ⟨ob, 0, none⟩ (.slice a' m' c')).setCell ⟨ob, 1, none⟩ (.int .i64 nx)).setCell ⟨ob, 2, none⟩ (.int .i64 md)).setCell ⟨ob, 3, none⟩ (.bool tur)) W9 → Aft W0 W hb ob md tur lies N n nx nx W9) := by
    rintro w8 a' m' c' hr ⟨t1, Z8, P8, Q8, F8⟩ W9 hB9
    have q1 : W0.heap.size ≤ W5.heap.size := H5.out.1.hp.le
    have q2 : W.heap.size ≤ W5.heap.size := H5.out.2.2.2.1.bel.size
    have r1 := hr.set 0 (.slice a' m' c')
    have r2 := r1.set 1 (.int .i64 nx)
    have r3 := r2.set 2 (.int .i64 md)
    have Z9' := (((Z8.setH (i := 0) (u := .slice a' m' c') hr q1).setH (i := 1) (u := .int .i64 nx) r1 q1).setH (i := 2) (u := .int .i64 md) r2 q1).setH (i := 3) (u := .bool tur) r3 q1
    have t9 := (((t1.setH (i := 0) (u := .slice a' m' c') hr).setH (i := 1) (u := .int .i64 nx) r1).setH (i := 2) (u := .int .i64 md) r2).setH (i := 3) (u := .bool tur) r3
    have Y1 := Z8.setH (i := 0) (u := .slice a' m' c') hr q1
    have Y2 := Y1.setH (i := 1) (u := .int .i64 nx) r1 q1
    have Y3 := Y2.setH (i := 2) (u := .int .i64 md) r2 q1
    have F9' := (((F8.set (i := 0) (u := .slice a' m' c') Z8 hr oth_heap q2 q1).set (i := 1) (u := .int .i64 nx) Y1 r1 oth_heap q2 q1).set (i := 2) (u := .int .i64 md) Y2 r2 oth_heap q2 q1).set (i := 3) (u := .bool tur) Y3 r3 oth_heap q2 q1
    obtain ⟨Z9, F9⟩ := Z9'.store (W' := _) ⟨_, _, _, rfl⟩ t9 rfl
    exact ⟨M, n, _, _, _, Z9.mono hB9, HZ.out.2.2.2.1.upd HE.out.2.2.1 HE.out.1 K, by omega, H5.out.2.2.2.2.1, H5.out.2.2.2.2.2, (F9'.trans F9).trans (Fr.of_below hB9 Z9.hp)⟩
  have RUB : Hid (∀ W', (W' = (W5.alloc (.cells #[.slice none 0 0, .int .i64 0, .int .i64 0, .bool false] 55)) ∨ W' = (W5.alloc (.cells #[.slice none 0 0, .int .i64 0, .int .i64 0, .bool false] 55)).drew) → Calls Try.prog 50 #[.agg #[.slice (some ⟨g, 0, none⟩) n lc, .int .i64 nx, .int .i64 md, .bool tur], .int .i64 j, .int .i64 K] W' fun e w' => ∃ a' m' c', e = .returned (.tuple #[.agg #[.slice a' m' c', .int .i64 nx, .int .i64 md, .bool tur], .int .i64 0]) ∧ Hid (w'.rowIs W5.heap.size 55 4 (hvF (.slice none 0 0) 0 0 false) ∧ Tr W0.heap.size w' (.slice a' m' c') (L.set p (j, K, v)) ∧ Lz W0 w' hb ob md tur lies M n nx (updT T j (some (K, v))) nx (.slice (some ⟨g, 0, none⟩) n lc) L ∧ Pr w' xb hb ob ∧ w'.rowIs (xb + 1) 32 5 (opF oj 7 K V It) ∧ Fr hb ob W0.heap.size W w') ∧ w'.cell? ⟨W5.heap.size, 0, none⟩ = some (.slice none 0 0) ∧ w'.cell? ⟨W5.heap.size, 1, none⟩ = some (.int .i64 0) ∧ w'.cell? ⟨W5.heap.size, 2, none⟩ = some (.int .i64 0) ∧ w'.cell? ⟨W5.heap.size, 3, none⟩ = some (.bool false) ∧ (∀ i, w'.frozen? ⟨W5.heap.size, i, none⟩ = false) ∧ w'.cell? ⟨xb, 0, none⟩ = some (.pointer (some ⟨hb, 0, none⟩)) ∧ w'.cell? ⟨xb, 1, none⟩ = some (.pointer (some ⟨ob, 0, none⟩)) ∧ w'.cell? ⟨ob, 0, none⟩ = some (.slice (some ⟨g, 0, none⟩) n lc) ∧ w'.cell? ⟨ob, 1, none⟩ = some (.int .i64 nx) ∧ w'.cell? ⟨ob, 2, none⟩ = some (.int .i64 md) ∧ w'.cell? ⟨ob, 3, none⟩ = some (.bool tur) ∧ (∀ i, w'.frozen? ⟨ob, i, none⟩ = false) ∧ ob < w'.heap.size ∧ xb < w'.heap.size ∧ w'.cell? ⟨xb + 1, 2, none⟩ = some (.int .i64 K) ∧ xb + 1 < w'.heap.size) := fun W' hW' => by
    have e0 : Below W5.heap.size W5 W' := by rcases hW' with rfl | rfl; exact (Below.refl _ _).alloc (Nat.le_refl _) _; exact bel_drew ((Below.refl _ _).alloc (Nat.le_refl _) _)
    have e1 : W'.rowIs W5.heap.size 55 4 (hvF (.slice none 0 0) 0 0 false) := by rcases hW' with rfl | rfl; exact hv_box W5 (.slice none 0 0) 0 0 false; exact hv_box W5 (.slice none 0 0) 0 0 false
    refine (RU.out W' e0).mono ?_
    rintro e w' ⟨a', m', c', rfl, t1, Z8, P8, Q8, F8, hB8⟩
    obtain ⟨u0, u1⟩ := P8.cells
    obtain ⟨r0, r1, r2, r3, r5, rlt, rfr⟩ := Z8.order
    have rb := e1.of_block (hB8.block _ e1.lt)
    exact ⟨a', m', c', rfl, ⟨rb, t1, Z8, P8, Q8, F8⟩, rb.cell (i := 0) (by omega), rb.cell (i := 1) (by omega), rb.cell (i := 2) (by omega), rb.cell (i := 3) (by omega), rb.frozen, u0, u1, r0, r1, r2, r3, rfr, rlt, (Array.getElem?_eq_some_iff.1 P8).1, (op_cells Q8).2.2.1, Q8.lt⟩
  have RUA : Hid (∀ W', (W' = W5 ∨ W' = W5.drew) → Calls Try.prog 50 #[.agg #[.slice (some ⟨g, 0, none⟩) n lc, .int .i64 nx, .int .i64 md, .bool tur], .int .i64 j, .int .i64 K] W' fun e w' => ∃ a' m' c', e = .returned (.tuple #[.agg #[.slice a' m' c', .int .i64 nx, .int .i64 md, .bool tur], .int .i64 0]) ∧ Hid (Tr W0.heap.size w' (.slice a' m' c') (L.set p (j, K, v)) ∧ Lz W0 w' hb ob md tur lies M n nx (updT T j (some (K, v))) nx (.slice (some ⟨g, 0, none⟩) n lc) L ∧ Pr w' xb hb ob ∧ w'.rowIs (xb + 1) 32 5 (opF oj 7 K V It) ∧ Fr hb ob W0.heap.size W w') ∧ w'.cell? ⟨xb, 0, none⟩ = some (.pointer (some ⟨hb, 0, none⟩)) ∧ w'.cell? ⟨xb, 1, none⟩ = some (.pointer (some ⟨ob, 0, none⟩)) ∧ w'.cell? ⟨ob, 0, none⟩ = some (.slice (some ⟨g, 0, none⟩) n lc) ∧ w'.cell? ⟨ob, 1, none⟩ = some (.int .i64 nx) ∧ w'.cell? ⟨ob, 2, none⟩ = some (.int .i64 md) ∧ w'.cell? ⟨ob, 3, none⟩ = some (.bool tur) ∧ (∀ i, w'.frozen? ⟨ob, i, none⟩ = false) ∧ ob < w'.heap.size ∧ xb < w'.heap.size ∧ w'.cell? ⟨xb + 1, 2, none⟩ = some (.int .i64 K) ∧ xb + 1 < w'.heap.size) := fun W' hW' => by
    have e0 : Below W5.heap.size W5 W' := by rcases hW' with rfl | rfl; exact Below.refl _ _; exact bel_drew (Below.refl _ _)
    refine (RU.out W' e0).mono ?_
    rintro e w' ⟨a', m', c', rfl, t1, Z8, P8, Q8, F8, hB8⟩
    obtain ⟨u0, u1⟩ := P8.cells
    obtain ⟨r0, r1, r2, r3, r5, rlt, rfr⟩ := Z8.order
    exact ⟨a', m', c', rfl, ⟨t1, Z8, P8, Q8, F8⟩, u0, u1, r0, r1, r2, r3, rfr, rlt, (Array.getElem?_eq_some_iff.1 P8).1, (op_cells Q8).2.2.1, Q8.lt⟩
  have n5 : ¬ ob = W5.heap.size := by omega
  have n5' : ¬ W5.heap.size = ob := by omega
  have x5 : xb < W5.heap.size := (Array.getElem?_eq_some_iff.1 H5.out.2.1).1
  have x6 : xb + 1 < W5.heap.size := H5.out.2.2.1.lt
  have n7 : ¬ xb + 1 = W5.heap.size := by omega
  have n7' : ¬ W5.heap.size = xb + 1 := by omega
  have n6 : ¬ xb = W5.heap.size := by omega
  have n6' : ¬ W5.heap.size = xb := by omega
  go_wp2_with fail
  rename_i hz
  go_region_held3 (fun w9 => w9.cell? ⟨xb, 1, none⟩ = some (.pointer (some ⟨ob, 0, none⟩)) ∧ w9.cell? ⟨ob, 0, none⟩ = some (.slice (some ⟨g, 0, none⟩) n lc) ∧ w9.cell? ⟨ob, 1, none⟩ = some (.int .i64 nx) ∧ w9.cell? ⟨ob, 2, none⟩ = some (.int .i64 md) ∧ w9.cell? ⟨ob, 3, none⟩ = some (.bool tur) ∧ w9.cell? ⟨xb + 1, 2, none⟩ = some (.int .i64 K)) (first | (simp [go_sem, *]; done) | (trace_state; fail))
    (first
      | (go_at_call 50; refine Calls.mono (RUA.out _ ?hb) ?_; (case hb => first | exact .inl rfl | exact .inr rfl); rintro e w8 ⟨a', m', c', rfl, HM, u0, u1, r0, r1, r2, r3, rfr, rlt, xlt, p2, plt⟩)
      | (go_at_call 50; refine Calls.mono (RUB.out _ ?hb) ?_; (case hb => first | exact .inl rfl | exact .inr rfl); rintro e w8 ⟨a', m', c', rfl, HM, b0, b1, b2, b3, bf, u0, u1, r0, r1, r2, r3, rfr, rlt, xlt, p2, plt⟩))
  · refine hz _ _ ?_
    go_wp2_with (first | (go_at_call 35; refine Calls.mono (NU.out _ _) ?_; rintro e w9 ⟨rfl, rfl⟩))
    go_ret
    exact ⟨rfl, FIN.out _ _ _ _ HM.out _ ((Below.refl _ _).alloc (Nat.le_refl _) _)⟩
  · refine hz _ _ ?_
    go_wp2_with (first | (go_at_call 35; refine Calls.mono (NU.out _ _) ?_; rintro e w9 ⟨rfl, rfl⟩))
    go_ret
    exact ⟨rfl, FINB.out _ _ _ _ HM.out.1 HM.out.2 _ (by first | exact Below.refl _ _ | exact bel_drew (Below.refl _ _))⟩
end Go.Proofs.Ytjnfcihichaonaa
