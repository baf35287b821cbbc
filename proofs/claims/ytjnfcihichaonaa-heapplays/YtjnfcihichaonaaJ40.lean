/- Contracts of the program's functions, part 40: own work, joined in build order. -/
import Derived.Test.YtjnfcihichaonaaJ39
import Derived.Deep.CutRange
namespace Go.Proofs.Ytjnfcihichaonaa
open Go.RowKit
set_option maxRecDepth 100000
set_option linter.unusedVariables false
set_option maxHeartbeats 4000000 in
theorem end4_none {W0 W : World} {hb ob : Nat} {md : Int} {tur : Bool} {N : Nat} {T : Int → Option (Int × Int)} {nx : Int} {lv : Value} {L : List Th} (h : Lz W0 W hb ob md tur 0 N 0 nx T nx lv L) (hs : Syn T L 0) (hN : N < 999999999) :
    Calls Try.prog 29 #[.agg #[.pointer (some ⟨hb, 0, none⟩), .pointer (some ⟨ob, 0, none⟩)], .int .i64 4] W fun e w' => e = .returned (.bool true) ∧ Aft W0 W hb ob md tur 0 N 0 nx nx w' := by
  obtain ⟨la, lc, e9⟩ := h.slice
  rw [hs.len] at e9
  subst e9
  obtain ⟨Wb, hWb⟩ : ∃ Wb, Wb = W.alloc (.cells #[.pointer (some ⟨hb, 0, none⟩), .pointer (some ⟨ob, 0, none⟩)] 26) := ⟨_, rfl⟩
  obtain ⟨xb, exb⟩ : ∃ xb, xb = W.heap.size := ⟨_, rfl⟩
  have Bb : Below W.heap.size W Wb := by rw [hWb]; exact (Below.refl _ _).alloc (Nat.le_refl _) _
  have Pb : Pr Wb xb hb ob := by rw [hWb, exb]; exact (MapKept.heap_alloc _ _).1
  have Zb := h.mono Bb
  have CM : Hid (∀ W', Below Wb.heap.size Wb W' → Calls Try.prog 46 #[.pointer (some ⟨hb, 0, none⟩)] W' fun e w' => e = .returned (.tuple #[.int .i64 0, .int .i64 0, .int .i64 0, .bool false]) ∧ ∃ m, w' = W'.drewN m) := fun W' hB => (Zb.mono hB).hp.minNo
  have CX : Hid (∀ W', Below Wb.heap.size Wb W' → Calls Try.prog 47 #[.pointer (some ⟨hb, 0, none⟩)] W' fun e w' => e = .returned (.tuple #[.int .i64 0, .int .i64 0, .int .i64 0, .bool false]) ∧ ∃ m, w' = W'.drewN m) := fun W' hB => (Zb.mono hB).hp.maxNo
  have CE : Hid (∀ W', Below Wb.heap.size Wb W' → Calls Try.prog 51 #[.agg #[.slice la 0 lc, .int .i64 nx, .int .i64 md, .bool tur], .bool true] W' fun e w' => e = .returned (.int .i64 (-1)) ∧ Below W'.heap.size W' w') := fun W' hB => (Zb.mono hB).end_no hs true
  obtain ⟨c0, c1⟩ := Pb.cells
  obtain ⟨o0, o1, o2, o3, o5, olt, ofr⟩ := Zb.order
  have HZ : Hid (Lz W0 Wb hb ob md tur 0 N 0 nx T nx (.slice la 0 lc) L ∧ Pr Wb xb hb ob ∧ Syn T L 0 ∧ Fr hb ob W0.heap.size W Wb) := ⟨Zb, Pb, hs, Fr.of_below Bb h.hp⟩
  have HW : Hid (W.alloc (.cells #[.pointer (some ⟨hb, 0, none⟩), .pointer (some ⟨ob, 0, none⟩)] 26) = Wb ∧ W.heap.size = xb) := ⟨hWb.symm, exb.symm⟩
  clear h hs hWb exb Bb Pb Zb ofr olt o5
  go_enter Try.func29, Try.ntmps29
  go_wp2_with fail
  rw [HW.out.1, HW.out.2]
  refine Calls.mono (CM.out Wb (Below.refl _ _)) ?_
  rintro e w2 ⟨rfl, m, rfl⟩
  obtain ⟨W2, hW2⟩ : ∃ W2, W2 = Wb.drewN m := ⟨_, rfl⟩
  have B2 : Below Wb.heap.size Wb W2 := by rw [hW2]; exact bel_drewN (Below.refl _ _) _
  have HB2 : Hid (Below Wb.heap.size Wb W2) := B2
  replace c0 := cell_later B2 c0
  replace c1 := cell_later B2 c1
  replace o0 := cell_later B2 o0
  replace o1 := cell_later B2 o1
  replace o2 := cell_later B2 o2
  replace o3 := cell_later B2 o3
  rw [← hW2]
  clear hW2 B2 CM
  go_wp2_with fail
  refine Calls.mono (CX.out W2 HB2.out) ?_
  rintro e w3 ⟨rfl, m', rfl⟩
  obtain ⟨W3, hW3⟩ : ∃ W3, W3 = W2.drewN m' := ⟨_, rfl⟩
  have B3 : Below W2.heap.size W2 W3 := by rw [hW3]; exact bel_drewN (Below.refl _ _) _
  have HB3 : Hid (Below Wb.heap.size Wb W3) := HB2.out.trans (B3.mono HB2.out.size)
  replace c0 := cell_later B3 c0
  replace c1 := cell_later B3 c1
  replace o0 := cell_later B3 o0
  replace o1 := cell_later B3 o1
  replace o2 := cell_later B3 o2
  replace o3 := cell_later B3 o3
  rw [← hW3]
  clear hW3 B3 CX HB2
  go_wp2_with fail
  refine Calls.mono (CE.out W3 HB3.out) ?_
  rintro e W4 ⟨rfl, B4⟩
  have B04 : Below Wb.heap.size Wb W4 := HB3.out.trans (B4.mono HB3.out.size)
  replace c0 := cell_later B4 c0
  replace c1 := cell_later B4 c1
  replace o0 := cell_later B4 o0
  replace o1 := cell_later B4 o1
  replace o2 := cell_later B4 o2
  replace o3 := cell_later B4 o3
  obtain ⟨tb, etb⟩ : ∃ tb, tb = W4.heap.size := ⟨_, rfl⟩
  obtain ⟨W5, hW5⟩ : ∃ W5, W5 = W4.alloc (.cells #[.int .i64 0, .int .i64 0, .int .i64 0] 49) := ⟨_, rfl⟩
  have B5 : Below Wb.heap.size Wb W5 := by rw [hW5]; exact B04.alloc B04.size _
  have Q5 : W5.rowIs tb 49 3 (wtF 0 0 0) := by rw [hW5, etb]; exact wt_box W4 0 0 0
  have HWz : Hid (W4.alloc (.cells #[.int .i64 0, .int .i64 0, .int .i64 0] 49) = W5 ∧ W4.heap.size = tb) := ⟨hW5.symm, etb.symm⟩
  have Z5 := HZ.out.1.mono B5
  have P5 := HZ.out.2.1.below B5
  have F5 := HZ.out.2.2.2.trans (Fr.of_below B5 HZ.out.1.hp)
  have H5 : Hid (Lz W0 W5 hb ob md tur 0 N 0 nx T nx (.slice la 0 lc) L ∧ Pr W5 xb hb ob ∧ W5.rowIs tb 49 3 (wtF 0 0 0) ∧ Fr hb ob W0.heap.size W W5) := ⟨Z5, P5, Q5, F5⟩
  obtain ⟨d0, d1⟩ := P5.cells
  obtain ⟨y0, y1, y2, y3, y5, ylt, yfr⟩ := Z5.order
  have v0 := Q5.cell (i := 0) (by omega)
  have v1 := Q5.cell (i := 1) (by omega)
  have v2 := Q5.cell (i := 2) (by omega)
  simp only [wtF] at v0 v1 v2
  simp at v0 v1 v2
  clear hW5 etb B5 Z5 P5 Q5 F5 B4 B04 CE HB3 c0 c1 o0 o1 o2 o3
  go_upto_region 9 with fail
  rw [HWz.out.1, HWz.out.2]
  go_wp2_with fail
  have PP : Hid _ := H5.out.1.hp.noMax
  refine Calls.mono PP.out ?_
  rintro e w6 ⟨rfl, m6, rfl⟩
  have B6 : Below W5.heap.size W5 (W5.drewN m6) := bel_drewN (Below.refl _ _) _
  have H6 : Hid (Lz W0 (W5.drewN m6) hb ob md tur 0 N 0 nx T nx (.slice la 0 lc) L ∧ Fr hb ob W0.heap.size W (W5.drewN m6)) := ⟨H5.out.1.mono B6, H5.out.2.2.2.trans (Fr.of_below B6 H5.out.1.hp)⟩
  clear PP B6
  go_wp2_with fail
  go_ret
  exact ⟨rfl, N, 0, T, _, L, H6.out.1, HZ.out.2.2.1, Nat.le_refl _, Nat.le_refl _, fun d _ => by omega, H6.out.2⟩
set_option maxHeartbeats 4000000 in
theorem end4_some {W0 W : World} {hb ob : Nat} {md : Int} {tur : Bool} {N n : Nat} {T : Int → Option (Int × Int)} {nx : Int} {lv : Value} {L : List Th} (h : Lz W0 W hb ob md tur 0 N (n + 1) nx T nx lv L) (hs : Syn T L (n + 1)) (hN : N < 999999999) (hn : n < 1000) :
    Calls Try.prog 29 #[.agg #[.pointer (some ⟨hb, 0, none⟩), .pointer (some ⟨ob, 0, none⟩)], .int .i64 4] W fun e w' => e = .returned (.bool true) ∧ Aft W0 W hb ob md tur 0 N (n + 1) nx nx w' := by
  obtain ⟨la, lc, e9⟩ := h.slice
  rw [hs.len] at e9
  subst e9
  obtain ⟨i, k, v, hL⟩ := h.hp.least true
  obtain ⟨i0, k0', v0', hL0⟩ := h.hp.least false
  obtain ⟨p, hp, ex, huq⟩ := hs.found hL.1
  have hp' : p < n + 1 := by rw [← hs.len]; exact hp
  have hrg : ∀ i k v, T i = some (k, v) → -9223372036854775808 ≤ k ∧ k ≤ 9223372036854775807 := fun i k v e => (h.hp.range e).2.2
  obtain ⟨Wb, hWb⟩ : ∃ Wb, Wb = W.alloc (.cells #[.pointer (some ⟨hb, 0, none⟩), .pointer (some ⟨ob, 0, none⟩)] 26) := ⟨_, rfl⟩
  obtain ⟨xb, exb⟩ : ∃ xb, xb = W.heap.size := ⟨_, rfl⟩
  have Bb : Below W.heap.size W Wb := by rw [hWb]; exact (Below.refl _ _).alloc (Nat.le_refl _) _
  have Pb : Pr Wb xb hb ob := by rw [hWb, exb]; exact (MapKept.heap_alloc _ _).1
  have Zb := h.mono Bb
  have CM : Hid (∀ W', Below Wb.heap.size Wb W' → Calls Try.prog 46 #[.pointer (some ⟨hb, 0, none⟩)] W' fun e w' => e = .returned (.tuple #[.int .i64 i0, .int .i64 k0', .int .i64 v0', .bool true]) ∧ ∃ m, w' = W'.drewN m) := fun W' hB => (Zb.mono hB).hp.tellMin hL0
  have CX : Hid (∀ W', Below Wb.heap.size Wb W' → Calls Try.prog 47 #[.pointer (some ⟨hb, 0, none⟩)] W' fun e w' => e = .returned (.tuple #[.int .i64 i, .int .i64 k, .int .i64 v, .bool true]) ∧ ∃ m, w' = W'.drewN m) := fun W' hB => (Zb.mono hB).hp.tellMax hL
  have CE : Hid (∀ W', Below Wb.heap.size Wb W' → Calls Try.prog 51 #[.agg #[.slice la (n + 1) lc, .int .i64 nx, .int .i64 md, .bool tur], .bool true] W' fun e w' => e = .returned (.int .i64 (p : Int)) ∧ Below W'.heap.size W' w') := fun W' hB => (Zb.mono hB).end_is hs (by omega) hrg hL hp ex
  obtain ⟨c0, c1⟩ := Pb.cells
  obtain ⟨o0, o1, o2, o3, o5, olt, ofr⟩ := Zb.order
  have HZ : Hid (Lz W0 Wb hb ob md tur 0 N (n + 1) nx T nx (.slice la (n + 1) lc) L ∧ Pr Wb xb hb ob ∧ Syn T L (n + 1) ∧ Fr hb ob W0.heap.size W Wb) := ⟨Zb, Pb, hs, Fr.of_below Bb h.hp⟩
  have HW : Hid (W.alloc (.cells #[.pointer (some ⟨hb, 0, none⟩), .pointer (some ⟨ob, 0, none⟩)] 26) = Wb ∧ W.heap.size = xb) := ⟨hWb.symm, exb.symm⟩
  have HE : Hid (L.getD p th0 = (i, k, v) ∧ p < L.length ∧ Lea md tur true T i k v) := ⟨ex, hp, hL⟩
  clear ex huq hp hL hrg hL0
  clear h hs hWb exb Bb Pb Zb ofr olt o5
  go_enter Try.func29, Try.ntmps29
  go_wp2_with fail
  rw [HW.out.1, HW.out.2]
  refine Calls.mono (CM.out Wb (Below.refl _ _)) ?_
  rintro e w2 ⟨rfl, m, rfl⟩
  obtain ⟨W2, hW2⟩ : ∃ W2, W2 = Wb.drewN m := ⟨_, rfl⟩
  have B2 : Below Wb.heap.size Wb W2 := by rw [hW2]; exact bel_drewN (Below.refl _ _) _
  have HB2 : Hid (Below Wb.heap.size Wb W2) := B2
  replace c0 := cell_later B2 c0
  replace c1 := cell_later B2 c1
  replace o0 := cell_later B2 o0
  replace o1 := cell_later B2 o1
  replace o2 := cell_later B2 o2
  replace o3 := cell_later B2 o3
  rw [← hW2]
  clear hW2 B2 CM
  go_wp2_with fail
  refine Calls.mono (CX.out W2 HB2.out) ?_
  rintro e w3 ⟨rfl, m', rfl⟩
  obtain ⟨W3, hW3⟩ : ∃ W3, W3 = W2.drewN m' := ⟨_, rfl⟩
  have B3 : Below W2.heap.size W2 W3 := by rw [hW3]; exact bel_drewN (Below.refl _ _) _
  have HB3 : Hid (Below Wb.heap.size Wb W3) := HB2.out.trans (B3.mono HB2.out.size)
  replace c0 := cell_later B3 c0
  replace c1 := cell_later B3 c1
  replace o0 := cell_later B3 o0
  replace o1 := cell_later B3 o1
  replace o2 := cell_later B3 o2
  replace o3 := cell_later B3 o3
  rw [← hW3]
  clear hW3 B3 CX HB2
  go_wp2_with fail
  refine Calls.mono (CE.out W3 HB3.out) ?_
  rintro e W4 ⟨rfl, B4⟩
  have B04 : Below Wb.heap.size Wb W4 := HB3.out.trans (B4.mono HB3.out.size)
  replace c0 := cell_later B4 c0
  replace c1 := cell_later B4 c1
  replace o0 := cell_later B4 o0
  replace o1 := cell_later B4 o1
  replace o2 := cell_later B4 o2
  replace o3 := cell_later B4 o3
  obtain ⟨tb, etb⟩ : ∃ tb, tb = W4.heap.size := ⟨_, rfl⟩
  obtain ⟨g, rfl, hc⟩ : ∃ g, la = some ⟨g, 0, none⟩ ∧ ∀ i, i < L.length → W4.cell? ⟨g, i * 3, none⟩ = some (.int .i64 (L.getD i th0).1) ∧ W4.cell? ⟨g, i * 3 + 1, none⟩ = some (.int .i64 (L.getD i th0).2.1) ∧ W4.cell? ⟨g, i * 3 + 2, none⟩ = some (.int .i64 (L.getD i th0).2.2) := by
    obtain ⟨a9, c9, e9, hat, _⟩ := (HZ.out.1.mono B04).tr.sl
    injection e9 with e91 e92 e93
    subst e91
    obtain ⟨g, e, _, _, hc⟩ := hat (by have := HE.out.2.1; omega)
    exact ⟨g, e, hc⟩
  obtain ⟨k0, k1, k2⟩ := hc p HE.out.2.1
  rw [HE.out.1] at k0 k1 k2
  clear hc
  have hpi : (p : Int) < ((n + 1 : Nat) : Int) := by omega
  have hge : decide (0 ≤ (p : Int)) = true := decide_eq_true (by omega)
  obtain ⟨Wz, hWz⟩ : ∃ Wz, Wz = W4.alloc (.cells #[.int .i64 0, .int .i64 0, .int .i64 0] 49) := ⟨_, rfl⟩
  have Bz : Below W4.heap.size W4 Wz := by rw [hWz]; exact (Below.refl _ _).alloc (Nat.le_refl _) _
  have Qz : Wz.rowIs tb 49 3 (wtF 0 0 0) := by rw [hWz, etb]; exact wt_box W4 0 0 0
  obtain ⟨W5, hW5⟩ : ∃ W5, W5 = ((Wz.setCell ⟨tb, 0, none⟩ (.int .i64 i)).setCell ⟨tb, 1, none⟩ (.int .i64 k)).setCell ⟨tb, 2, none⟩ (.int .i64 v) := ⟨_, rfl⟩
  have B5 : Below Wb.heap.size Wb W5 := by
    have h9 : Wb.heap.size ≤ tb := by rw [etb]; exact B04.size
    rw [hW5]
    exact ((((B04.trans (Bz.mono B04.size)).setCell h9 _).setCell h9 _).setCell h9 _)
  have Q5 : W5.rowIs tb 49 3 (wtF i k v) := by
    rw [hW5]
    refine (((Qz.set 0 _).set 1 _).set 2 _).congr fun i hi => ?_
    match i, hi with
    | 0, _ => rfl
    | 1, _ => rfl
    | 2, _ => rfl
  have HWz : Hid (W4.alloc (.cells #[.int .i64 0, .int .i64 0, .int .i64 0] 49) = Wz ∧ W4.heap.size = tb ∧ ((Wz.setCell ⟨tb, 0, none⟩ (.int .i64 i)).setCell ⟨tb, 1, none⟩ (.int .i64 k)).setCell ⟨tb, 2, none⟩ (.int .i64 v) = W5) := ⟨hWz.symm, etb.symm, hW5.symm⟩
  replace c1 := cell_later Bz c1
  replace o0 := cell_later Bz o0
  replace k0 := cell_later Bz k0
  replace k1 := cell_later Bz k1
  replace k2 := cell_later Bz k2
  have e0 := Qz.cell (i := 0) (by omega)
  have f0 := Qz.frozen 0
  have e1 := Qz.cell (i := 1) (by omega)
  have f1 := Qz.frozen 1
  have e2 := Qz.cell (i := 2) (by omega)
  have f2 := Qz.frozen 2
  simp only [wtF] at e0 e1 e2
  simp at e0 e1 e2
  clear hWz Bz Qz
  have Z5 := HZ.out.1.mono B5
  have P5 := HZ.out.2.1.below B5
  have F5 := HZ.out.2.2.2.trans (Fr.of_below B5 HZ.out.1.hp)
  have H5 : Hid (Lz W0 W5 hb ob md tur 0 N (n + 1) nx T nx (.slice (some ⟨g, 0, none⟩) (n + 1) lc) L ∧ Pr W5 xb hb ob ∧ W5.rowIs tb 49 3 (wtF i k v) ∧ Fr hb ob W0.heap.size W W5) := ⟨Z5, P5, Q5, F5⟩
  obtain ⟨d0, d1⟩ := P5.cells
  obtain ⟨y0, y1, y2, y3, y5, ylt, yfr⟩ := Z5.order
  have v0 := Q5.cell (i := 0) (by omega)
  have v1 := Q5.cell (i := 1) (by omega)
  have v2 := Q5.cell (i := 2) (by omega)
  simp only [wtF] at v0 v1 v2
  simp at v0 v1 v2
  clear hW5 etb B5 Z5 P5 Q5 F5 B4 B04 CE HB3
  go_upto_region 7 with fail
  rw [HWz.out.1, HWz.out.2.1]
  go_upto_region 9 with fail
  rw [HWz.out.2.2]
  clear e0 e1 e2 f0 f1 f2 k0 k1 k2 c0 c1 o0 o1 o2 o3
  go_wp2_with fail
  have PP : Hid _ := H5.out.1.hp.takeMax hN HE.out.2.2
  refine Calls.mono PP.out ?_
  rintro e W6 ⟨rfl, M, hp6, hM, hfew, F6⟩
  have Z6 := H5.out.1.step F6 hp6
  have P6 := H5.out.2.1.fr F6
  have Q6 := th_fr H5.out.2.2.1 F6
  obtain ⟨z0, z1⟩ := P6.cells
  obtain ⟨r0, r1, r2, r3, r5, rlt, rfr⟩ := Z6.order
  have H6 : Hid (Lz W0 W6 hb ob md tur 0 M n nx (updT T i none) nx (.slice (some ⟨g, 0, none⟩) (n + 1) lc) L ∧ Pr W6 xb hb ob ∧ W6.rowIs tb 49 3 (wtF i k v) ∧ Fr hb ob W0.heap.size W W6 ∧ N ≤ M ∧ (∀ d, n + 1 < 2 ^ d → M ≤ N + (12 * d + 12))) := ⟨Z6, P6, Q6, H5.out.2.2.2.trans F6, hM, fun d hd => few_pop hfew hM hd⟩
  have OU : Hid (Calls Try.prog 49 #[.agg #[.slice (some ⟨g, 0, none⟩) (n + 1) lc, .int .i64 nx, .int .i64 md, .bool tur], .int .i64 (p : Int)] W6.drew fun e w' => ∃ a' m' c', e = .returned (.agg #[.slice a' m' c', .int .i64 nx, .int .i64 md, .bool tur]) ∧ Hid (Tr W0.heap.size w' (.slice a' m' c') (L.eraseIdx p) ∧ Lz W0 w' hb ob md tur 0 M n nx (updT T i none) nx (.slice (some ⟨g, 0, none⟩) (n + 1) lc) L ∧ Pr w' xb hb ob ∧ w'.rowIs tb 49 3 (wtF i k v) ∧ Fr hb ob W0.heap.size W w') ∧ w'.cell? ⟨xb, 1, none⟩ = some (.pointer (some ⟨ob, 0, none⟩)) ∧ w'.cell? ⟨ob, 0, none⟩ = some (.slice (some ⟨g, 0, none⟩) (n + 1) lc) ∧ w'.cell? ⟨ob, 1, none⟩ = some (.int .i64 nx) ∧ w'.cell? ⟨ob, 2, none⟩ = some (.int .i64 md) ∧ w'.cell? ⟨ob, 3, none⟩ = some (.bool tur) ∧ (∀ i, w'.frozen? ⟨ob, i, none⟩ = false) ∧ w'.cell? ⟨tb, 0, none⟩ = some (.int .i64 i) ∧ w'.cell? ⟨tb, 1, none⟩ = some (.int .i64 k) ∧ w'.cell? ⟨tb, 2, none⟩ = some (.int .i64 v)) := by
    have B9 : Below W6.heap.size W6 W6.drew := bel_drew (Below.refl _ _)
    have Z9 := H6.out.1.mono B9
    refine (refOut_any nx md tur p W6.drew Z9.tr (by rw [HZ.out.2.2.1.len]; omega) HE.out.2.1).mono ?_
    rintro e w' ⟨lv', rfl, t1, t2⟩
    obtain ⟨a', c', e', _⟩ := t1.sl
    subst e'
    have F9 := (Fr.of_below B9 H6.out.1.hp).trans (Fr.of_below t2 Z9.hp)
    have Z10 := Z9.mono t2
    have P10 := H6.out.2.1.fr F9
    have Q10 := th_fr H6.out.2.2.1 F9
    obtain ⟨r0, r1, r2, r3, r5, rlt, rfr⟩ := Z10.order
    exact ⟨_, _, _, rfl, ⟨t1.weak Z9.hp.le, Z10, P10, Q10, H6.out.2.2.2.1.trans F9⟩, P10.cells.2, r0, r1, r2, r3, rfr, Q10.cell (i := 0) (by omega), Q10.cell (i := 1) (by omega), Q10.cell (i := 2) (by omega)⟩
  have FIN : Hid (∀ (w8 : World) (a' : Option Addr) (m' c' : Nat), (Tr W0.heap.size w8 (.slice a' m' c') (L.eraseIdx p) ∧ Lz W0 w8 hb ob md tur 0 M n nx (updT T i none) nx (.slice (some ⟨g, 0, none⟩) (n + 1) lc) L ∧ Pr w8 xb hb ob ∧ w8.rowIs tb 49 3 (wtF i k v) ∧ Fr hb ob W0.heap.size W w8) → Aft W0 W hb ob md tur 0 N (n + 1) nx nx ((((w8.setCell ⟨ob, 0, none⟩ (.slice a' m' c')).setCell ⟨ob, 1, none⟩ (.int .i64 nx)).setCell ⟨ob, 2, none⟩ (.int .i64 md)).setCell ⟨ob, 3, none⟩ (.bool tur))) := by
    rintro w8 a' m' c' ⟨t1, Z8, P8, Q8, F8⟩
    obtain ⟨Z9, F9⟩ := Z8.store (W' := _) ⟨_, _, _, rfl⟩ t1 rfl
    have Sy := HZ.out.2.2.1.out (p := p) HE.out.2.1
    rw [HE.out.1] at Sy
    exact ⟨M, n, _, _, _, Z9, Sy, by omega, H6.out.2.2.2.2.1, H6.out.2.2.2.2.2, F8.trans F9⟩
  have nxo : ¬ xb = ob := fun e => by
    have e1 := P6
    unfold Pr at e1
    rw [e, Z6.hp.od.at'] at e1
    cases e1
  have nxo' : ¬ ob = xb := fun e => nxo e.symm
  have nto : ¬ tb = ob := fun e => by
    obtain ⟨cs, e1, _⟩ := Q6
    rw [e, Z6.hp.od.at'] at e1
    cases e1
  have nto' : ¬ ob = tb := fun e => nto e.symm
  clear Z6 P6 Q6 hp6 hM hfew F6 PP d0 d1 y0 y1 y2 y3 y5 ylt yfr v0 v1 v2
  go_wp2_with fail
  rename_i hz
  refine wp_region_held_drew (S := (fun w9 => w9.cell? ⟨xb, 1, none⟩ = some (.pointer (some ⟨ob, 0, none⟩)))) (by kernel_rfl) z1 (fun hHeld => ?_)
  refine wpAnyH_take (i := 0) (v := .pointer (some ⟨xb, 1, none⟩)) rfl (by kernel_rfl) (by kernel_rfl) (by kernel_rfl) (fun _ _ _ h => h) (Or.inl ⟨by rfl, ?_⟩) (by assumption) ?_
  · intro w hSw
    go_simp
  refine wpAnyH_take (i := 1) (v := .pointer (some ⟨ob, 0, none⟩)) rfl (by kernel_rfl) (by kernel_rfl) (by kernel_rfl) (fun _ _ _ h => h) (Or.inl ⟨by rfl, ?_⟩) (by assumption) ?_
  · intro w hSw
    go_simp
  refine wpAnyH_take (i := 2) (v := .pointer (some ⟨xb, 1, none⟩)) rfl (by kernel_rfl) (by kernel_rfl) (by kernel_rfl) (fun _ _ _ h => h) (Or.inl ⟨by rfl, ?_⟩) (by assumption) ?_
  · intro w hSw
    go_simp
  refine wpAnyH_take (i := 3) (v := .pointer (some ⟨ob, 0, none⟩)) rfl (by kernel_rfl) (by kernel_rfl) (by kernel_rfl) (fun _ _ _ h => h) (Or.inl ⟨by rfl, ?_⟩) (by assumption) ?_
  · intro w hSw
    go_simp
  refine wpAnyH_take (i := 4) (v := .pointer (some ⟨ob, 0, none⟩)) rfl (by kernel_rfl) (by kernel_rfl) (by kernel_rfl) (fun _ _ _ h => h) (Or.inl ⟨by rfl, ?_⟩) (by assumption) ?_
  · intro w hSw
    go_simp
  refine wpAnyH_take (i := 5) (v := .pointer (some ⟨ob, 0, none⟩)) rfl (by kernel_rfl) (by kernel_rfl) (by kernel_rfl) (fun _ _ _ h => h) (Or.inl ⟨by rfl, ?_⟩) (by assumption) ?_
  · intro w hSw
    go_simp
  refine wpAnyH_take (i := 7) (v := .int .i64 (p : Int)) rfl (by kernel_rfl) (by kernel_rfl) (by kernel_rfl) (fun _ _ _ h => h) (Or.inl ⟨by rfl, ?_⟩) (by assumption) ?_
  · intro w hSw
    go_simp
  refine wpAnyH_ready (rs := [6]) (by kernel_rfl) (by simp) ?_
  refine AllReadyH.cons rfl (fun K9 hK9 => ?_) AllReadyH.nil
  go_simp
  refine hK9.out _ _ hHeld (fun _ => ?_)
  clear hK9 K9
  refine wpAnyH_ready (rs := [8]) (by kernel_rfl) (by simp) ?_
  refine AllReadyH.cons rfl (fun K9 hK9 => ?_) AllReadyH.nil
  go_simp
  refine Calls.mono OU.out ?_
  rintro e w8 ⟨a', m', c', rfl, HM, u1, s0, s1, s2, s3, sfr, q0, q1, q2⟩
  refine hK9.out _ _ u1 (fun hHeld2 => ?_)
  clear hK9 K9 hHeld
  refine wpAnyH_take (i := 9) (v := .pointer (some ⟨ob, 0, none⟩)) rfl (by kernel_rfl) (by kernel_rfl) (by kernel_rfl) (fun _ _ _ h => h) (Or.inl ⟨by rfl, ?_⟩) (by assumption) ?_
  · intro w hSw
    go_simp
  refine wpAnyH_take (i := 10) (v := .pointer (some ⟨ob, 0, none⟩)) rfl (by kernel_rfl) (by kernel_rfl) (by kernel_rfl) (fun _ _ _ h => h) (Or.inl ⟨by rfl, ?_⟩) (by assumption) ?_
  · intro w hSw
    go_simp
  refine wpAnyH_ready (rs := [11]) (by kernel_rfl) (by simp) ?_
  refine AllReadyH.cons rfl (fun K9 hK9 => ?_) AllReadyH.nil
  go_simp
  refine hK9.out _ _ (by simp [go_sem, *]) (fun _ => ?_)
  clear hK9 K9
  refine wpAnyH_done (by kernel_rfl) ?_ _
  refine hz _ _ ?_
  have HX := FIN.out _ _ _ _ HM.out
  have HX' : Hid _ := HX
  clear HX HM FIN OU z0 z1 r0 r1 r2 r3 r5 rlt rfr
  go_wp2_with fail
  go_ret
  exact ⟨rfl, HX'.out⟩
end Go.Proofs.Ytjnfcihichaonaa
