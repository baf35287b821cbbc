/- Contracts of the program's functions, part 38: own work, joined in build order. -/
import Derived.Test.YtjnfcihichaonaaJ37
import Derived.Deep.CutRange
namespace Go.Proofs.Ytjnfcihichaonaa
open Go.RowKit
set_option maxRecDepth 100000
set_option linter.unusedVariables false
set_option maxHeartbeats 4000000 in
theorem end2_none {W0 W : World} {hb ob : Nat} {md : Int} {tur : Bool} {N : Nat} {T : Int → Option (Int × Int)} {nx : Int} {lv : Value} {L : List Th} (h : Lz W0 W hb ob md tur 0 N 0 nx T nx lv L) (hs : Syn T L 0) (hN : N < 999999999) :
    Calls Try.prog 29 #[.agg #[.pointer (some ⟨hb, 0, none⟩), .pointer (some ⟨ob, 0, none⟩)], .int .i64 2] W fun e w' => e = .returned (.bool true) ∧ Aft W0 W hb ob md tur 0 N 0 nx nx w' := by
  obtain ⟨la, lc, e9⟩ := h.slice
  rw [hs.len] at e9
  subst e9
  obtain ⟨Wb, hWb⟩ : ∃ Wb, Wb = W.alloc (.cells #[.pointer (some ⟨hb, 0, none⟩), .pointer (some ⟨ob, 0, none⟩)] 26) := ⟨_, rfl⟩
  obtain ⟨xb, exb⟩ : ∃ xb, xb = W.heap.size := ⟨_, rfl⟩
  have Bb : Below W.heap.size W Wb := by rw [hWb]; exact (Below.refl _ _).alloc (Nat.le_refl _) _
  have Pb : Pr Wb xb hb ob := by rw [hWb, exb]; exact (MapKept.heap_alloc _ _).1
  have Zb := h.mono Bb
  have CM : Hid (∀ W', Below Wb.heap.size Wb W' → Calls Try.prog 46 #[.pointer (some ⟨hb, 0, none⟩)] W' fun e w' => e = .returned (.tuple #[.int .i64 0, .int .i64 0, .int .i64 0, .bool false]) ∧ ∃ m, w' = W'.drewN m) := fun W' hB => (Zb.mono hB).hp.minNo
  have CX : Hid (∀ W', Below Wb.heap.size Wb W' → Calls Try.prog 47 #[.pointer (some ⟨hb, 0, none⟩)] W' fun e w' => e = .returned (.tuple #[.int .i64 0, .int .i64 0, .int .i64 0, .bool false]) ∧ ∃ m, w' = W'.drewN m) := fun W' hB => (Zb.mono hB).hp.maxNo
  have CE : Hid (∀ W', Below Wb.heap.size Wb W' → Calls Try.prog 51 #[.agg #[.slice la 0 lc, .int .i64 nx, .int .i64 md, .bool tur], .bool true] W' fun e w' => e = .returned (.int .i64 (-1)) ∧ Below W'.heap.size W' w') := fun W' hB => (Zb.mono hB).end_no hs true
  obtain ⟨c0, c1⟩ := Pb.cells
  obtain ⟨o0, o1, o2, o3, o5, olt, ofr⟩ := Zb.order
  have HZ : Hid (Lz W0 Wb hb ob md tur 0 N 0 nx T nx (.slice la 0 lc) L ∧ Pr Wb xb hb ob ∧ Syn T L 0 ∧ Fr hb ob W0.heap.size W Wb) := ⟨Zb, Pb, hs, Fr.of_below Bb h.hp⟩
  have HW : Hid (W.alloc (.cells #[.pointer (some ⟨hb, 0, none⟩), .pointer (some ⟨ob, 0, none⟩)] 26) = Wb ∧ W.heap.size = xb) := ⟨hWb.symm, exb.symm⟩
  clear h hs hWb exb Bb Pb Zb ofr olt o5
  go_enter Try.func29, Try.ntmps29
  go_wp2_with fail
  rw [HW.out.1, HW.out.2]
  refine Calls.mono (CM.out Wb (Below.refl _ _)) ?_
  rintro e w2 ⟨rfl, m, rfl⟩
  obtain ⟨W2, hW2⟩ : ∃ W2, W2 = Wb.drewN m := ⟨_, rfl⟩
  have B2 : Below Wb.heap.size Wb W2 := by rw [hW2]; exact bel_drewN (Below.refl _ _) _
  have HB2 : Hid (Below Wb.heap.size Wb W2) := B2
  replace c0 := cell_later B2 c0
  replace c1 := cell_later B2 c1
  replace o0 := cell_later B2 o0
  replace o1 := cell_later B2 o1
  replace o2 := cell_later B2 o2
  replace o3 := cell_later B2 o3
  rw [← hW2]
  clear hW2 B2 CM
  go_wp2_with fail
  refine Calls.mono (CX.out W2 HB2.out) ?_
  rintro e w3 ⟨rfl, m', rfl⟩
  obtain ⟨W3, hW3⟩ : ∃ W3, W3 = W2.drewN m' := ⟨_, rfl⟩
  have B3 : Below W2.heap.size W2 W3 := by rw [hW3]; exact bel_drewN (Below.refl _ _) _
  have HB3 : Hid (Below Wb.heap.size Wb W3) := HB2.out.trans (B3.mono HB2.out.size)
  replace c0 := cell_later B3 c0
  replace c1 := cell_later B3 c1
  replace o0 := cell_later B3 o0
  replace o1 := cell_later B3 o1
  replace o2 := cell_later B3 o2
  replace o3 := cell_later B3 o3
  rw [← hW3]
  clear hW3 B3 CX HB2
  go_wp2_with fail
  refine Calls.mono (CE.out W3 HB3.out) ?_
  rintro e W4 ⟨rfl, B4⟩
  have B04 : Below Wb.heap.size Wb W4 := HB3.out.trans (B4.mono HB3.out.size)
  replace c0 := cell_later B4 c0
  replace c1 := cell_later B4 c1
  replace o0 := cell_later B4 o0
  replace o1 := cell_later B4 o1
  replace o2 := cell_later B4 o2
  replace o3 := cell_later B4 o3
  obtain ⟨tb, etb⟩ : ∃ tb, tb = W4.heap.size := ⟨_, rfl⟩
  obtain ⟨W5, hW5⟩ : ∃ W5, W5 = W4.alloc (.cells #[.int .i64 0, .int .i64 0, .int .i64 0] 49) := ⟨_, rfl⟩
  have B5 : Below Wb.heap.size Wb W5 := by rw [hW5]; exact B04.alloc B04.size _
  have Q5 : W5.rowIs tb 49 3 (wtF 0 0 0) := by rw [hW5, etb]; exact wt_box W4 0 0 0
  have HWz : Hid (W4.alloc (.cells #[.int .i64 0, .int .i64 0, .int .i64 0] 49) = W5 ∧ W4.heap.size = tb) := ⟨hW5.symm, etb.symm⟩
  have Z5 := HZ.out.1.mono B5
  have P5 := HZ.out.2.1.below B5
  have F5 := HZ.out.2.2.2.trans (Fr.of_below B5 HZ.out.1.hp)
  have H5 : Hid (Lz W0 W5 hb ob md tur 0 N 0 nx T nx (.slice la 0 lc) L ∧ Pr W5 xb hb ob ∧ W5.rowIs tb 49 3 (wtF 0 0 0) ∧ Fr hb ob W0.heap.size W W5) := ⟨Z5, P5, Q5, F5⟩
  obtain ⟨d0, d1⟩ := P5.cells
  obtain ⟨y0, y1, y2, y3, y5, ylt, yfr⟩ := Z5.order
  have v0 := Q5.cell (i := 0) (by omega)
  have v1 := Q5.cell (i := 1) (by omega)
  have v2 := Q5.cell (i := 2) (by omega)
  simp only [wtF] at v0 v1 v2
  simp at v0 v1 v2
  clear hW5 etb B5 Z5 P5 Q5 F5 B4 B04 CE HB3 c0 c1 o0 o1 o2 o3
  go_upto_region 9 with fail
  rw [HWz.out.1, HWz.out.2]
  go_wp2_with fail
  go_ret
  exact ⟨rfl, N, 0, T, _, L, H5.out.1, HZ.out.2.2.1, Nat.le_refl _, Nat.le_refl _, fun d _ => by omega, H5.out.2.2.2⟩
set_option maxHeartbeats 4000000 in
theorem end2_some {W0 W : World} {hb ob : Nat} {md : Int} {tur : Bool} {N n : Nat} {T : Int → Option (Int × Int)} {nx : Int} {lv : Value} {L : List Th} (h : Lz W0 W hb ob md tur 0 N (n + 1) nx T nx lv L) (hs : Syn T L (n + 1)) (hN : N < 999999999) (hn : n < 1000) :
    Calls Try.prog 29 #[.agg #[.pointer (some ⟨hb, 0, none⟩), .pointer (some ⟨ob, 0, none⟩)], .int .i64 2] W fun e w' => e = .returned (.bool true) ∧ Aft W0 W hb ob md tur 0 N (n + 1) nx nx w' := by
  obtain ⟨la, lc, e9⟩ := h.slice
  rw [hs.len] at e9
  subst e9
  obtain ⟨i, k, v, hL⟩ := h.hp.least true
  obtain ⟨i0, k0', v0', hL0⟩ := h.hp.least false
  obtain ⟨p, hp, ex, huq⟩ := hs.found hL.1
  have hp' : p < n + 1 := by rw [← hs.len]; exact hp
  have hrg : ∀ i k v, T i = some (k, v) → -9223372036854775808 ≤ k ∧ k ≤ 9223372036854775807 := fun i k v e => (h.hp.range e).2.2
  obtain ⟨Wb, hWb⟩ : ∃ Wb, Wb = W.alloc (.cells #[.pointer (some ⟨hb, 0, none⟩), .pointer (some ⟨ob, 0, none⟩)] 26) := ⟨_, rfl⟩
  obtain ⟨xb, exb⟩ : ∃ xb, xb = W.heap.size := ⟨_, rfl⟩
  have Bb : Below W.heap.size W Wb := by rw [hWb]; exact (Below.refl _ _).alloc (Nat.le_refl _) _
  have Pb : Pr Wb xb hb ob := by rw [hWb, exb]; exact (MapKept.heap_alloc _ _).1
  have Zb := h.mono Bb
  have CM : Hid (∀ W', Below Wb.heap.size Wb W' → Calls Try.prog 46 #[.pointer (some ⟨hb, 0, none⟩)] W' fun e w' => e = .returned (.tuple #[.int .i64 i0, .int .i64 k0', .int .i64 v0', .bool true]) ∧ ∃ m, w' = W'.drewN m) := fun W' hB => (Zb.mono hB).hp.tellMin hL0
  have CX : Hid (∀ W', Below Wb.heap.size Wb W' → Calls Try.prog 47 #[.pointer (some ⟨hb, 0, none⟩)] W' fun e w' => e = .returned (.tuple #[.int .i64 i, .int .i64 k, .int .i64 v, .bool true]) ∧ ∃ m, w' = W'.drewN m) := fun W' hB => (Zb.mono hB).hp.tellMax hL
  have CE : Hid (∀ W', Below Wb.heap.size Wb W' → Calls Try.prog 51 #[.agg #[.slice la (n + 1) lc, .int .i64 nx, .int .i64 md, .bool tur], .bool true] W' fun e w' => e = .returned (.int .i64 (p : Int)) ∧ Below W'.heap.size W' w') := fun W' hB => (Zb.mono hB).end_is hs (by omega) hrg hL hp ex
  obtain ⟨c0, c1⟩ := Pb.cells
  obtain ⟨o0, o1, o2, o3, o5, olt, ofr⟩ := Zb.order
  have HZ : Hid (Lz W0 Wb hb ob md tur 0 N (n + 1) nx T nx (.slice la (n + 1) lc) L ∧ Pr Wb xb hb ob ∧ Syn T L (n + 1) ∧ Fr hb ob W0.heap.size W Wb) := ⟨Zb, Pb, hs, Fr.of_below Bb h.hp⟩
  have HW : Hid (W.alloc (.cells #[.pointer (some ⟨hb, 0, none⟩), .pointer (some ⟨ob, 0, none⟩)] 26) = Wb ∧ W.heap.size = xb) := ⟨hWb.symm, exb.symm⟩
  have HE : Hid (L.getD p th0 = (i, k, v) ∧ p < L.length ∧ Lea md tur true T i k v) := ⟨ex, hp, hL⟩
  clear ex huq hp hL hrg hL0
  clear h hs hWb exb Bb Pb Zb ofr olt o5
  go_enter Try.func29, Try.ntmps29
  go_wp2_with fail
  rw [HW.out.1, HW.out.2]
  refine Calls.mono (CM.out Wb (Below.refl _ _)) ?_
  rintro e w2 ⟨rfl, m, rfl⟩
  obtain ⟨W2, hW2⟩ : ∃ W2, W2 = Wb.drewN m := ⟨_, rfl⟩
  have B2 : Below Wb.heap.size Wb W2 := by rw [hW2]; exact bel_drewN (Below.refl _ _) _
  have HB2 : Hid (Below Wb.heap.size Wb W2) := B2
  replace c0 := cell_later B2 c0
  replace c1 := cell_later B2 c1
  replace o0 := cell_later B2 o0
  replace o1 := cell_later B2 o1
  replace o2 := cell_later B2 o2
  replace o3 := cell_later B2 o3
  rw [← hW2]
  clear hW2 B2 CM
  go_wp2_with fail
  refine Calls.mono (CX.out W2 HB2.out) ?_
  rintro e w3 ⟨rfl, m', rfl⟩
  obtain ⟨W3, hW3⟩ : ∃ W3, W3 = W2.drewN m' := ⟨_, rfl⟩
  have B3 : Below W2.heap.size W2 W3 := by rw [hW3]; exact bel_drewN (Below.refl _ _) _
  have HB3 : Hid (Below Wb.heap.size Wb W3) := HB2.out.trans (B3.mono HB2.out.size)
  replace c0 := cell_later B3 c0
  replace c1 := cell_later B3 c1
  replace o0 := cell_later B3 o0
  replace o1 := cell_later B3 o1
  replace o2 := cell_later B3 o2
  replace o3 := cell_later B3 o3
  rw [← hW3]
  clear hW3 B3 CX HB2
  go_wp2_with fail
  refine Calls.mono (CE.out W3 HB3.out) ?_
  rintro e W4 ⟨rfl, B4⟩
  have B04 : Below Wb.heap.size Wb W4 := HB3.out.trans (B4.mono HB3.out.size)
  replace c0 := cell_later B4 c0
  replace c1 := cell_later B4 c1
  replace o0 := cell_later B4 o0
  replace o1 := cell_later B4 o1
  replace o2 := cell_later B4 o2
  replace o3 := cell_later B4 o3
  obtain ⟨tb, etb⟩ : ∃ tb, tb = W4.heap.size := ⟨_, rfl⟩
  obtain ⟨g, rfl, hc⟩ : ∃ g, la = some ⟨g, 0, none⟩ ∧ ∀ i, i < L.length → W4.cell? ⟨g, i * 3, none⟩ = some (.int .i64 (L.getD i th0).1) ∧ W4.cell? ⟨g, i * 3 + 1, none⟩ = some (.int .i64 (L.getD i th0).2.1) ∧ W4.cell? ⟨g, i * 3 + 2, none⟩ = some (.int .i64 (L.getD i th0).2.2) := by
    obtain ⟨a9, c9, e9, hat, _⟩ := (HZ.out.1.mono B04).tr.sl
    injection e9 with e91 e92 e93
    subst e91
    obtain ⟨g, e, _, _, hc⟩ := hat (by have := HE.out.2.1; omega)
    exact ⟨g, e, hc⟩
  obtain ⟨k0, k1, k2⟩ := hc p HE.out.2.1
  rw [HE.out.1] at k0 k1 k2
  clear hc
  have hpi : (p : Int) < ((n + 1 : Nat) : Int) := by omega
  have hge : decide (0 ≤ (p : Int)) = true := decide_eq_true (by omega)
  obtain ⟨Wz, hWz⟩ : ∃ Wz, Wz = W4.alloc (.cells #[.int .i64 0, .int .i64 0, .int .i64 0] 49) := ⟨_, rfl⟩
  have Bz : Below W4.heap.size W4 Wz := by rw [hWz]; exact (Below.refl _ _).alloc (Nat.le_refl _) _
  have Qz : Wz.rowIs tb 49 3 (wtF 0 0 0) := by rw [hWz, etb]; exact wt_box W4 0 0 0
  obtain ⟨W5, hW5⟩ : ∃ W5, W5 = ((Wz.setCell ⟨tb, 0, none⟩ (.int .i64 i)).setCell ⟨tb, 1, none⟩ (.int .i64 k)).setCell ⟨tb, 2, none⟩ (.int .i64 v) := ⟨_, rfl⟩
  have B5 : Below Wb.heap.size Wb W5 := by
    have h9 : Wb.heap.size ≤ tb := by rw [etb]; exact B04.size
    rw [hW5]
    exact ((((B04.trans (Bz.mono B04.size)).setCell h9 _).setCell h9 _).setCell h9 _)
  have Q5 : W5.rowIs tb 49 3 (wtF i k v) := by
    rw [hW5]
    refine (((Qz.set 0 _).set 1 _).set 2 _).congr fun i hi => ?_
    match i, hi with
    | 0, _ => rfl
    | 1, _ => rfl
    | 2, _ => rfl
  have HWz : Hid (W4.alloc (.cells #[.int .i64 0, .int .i64 0, .int .i64 0] 49) = Wz ∧ W4.heap.size = tb ∧ ((Wz.setCell ⟨tb, 0, none⟩ (.int .i64 i)).setCell ⟨tb, 1, none⟩ (.int .i64 k)).setCell ⟨tb, 2, none⟩ (.int .i64 v) = W5) := ⟨hWz.symm, etb.symm, hW5.symm⟩
  replace c1 := cell_later Bz c1
  replace o0 := cell_later Bz o0
  replace k0 := cell_later Bz k0
  replace k1 := cell_later Bz k1
  replace k2 := cell_later Bz k2
  have e0 := Qz.cell (i := 0) (by omega)
  have f0 := Qz.frozen 0
  have e1 := Qz.cell (i := 1) (by omega)
  have f1 := Qz.frozen 1
  have e2 := Qz.cell (i := 2) (by omega)
  have f2 := Qz.frozen 2
  simp only [wtF] at e0 e1 e2
  simp at e0 e1 e2
  clear hWz Bz Qz
  have Z5 := HZ.out.1.mono B5
  have P5 := HZ.out.2.1.below B5
  have F5 := HZ.out.2.2.2.trans (Fr.of_below B5 HZ.out.1.hp)
  have H5 : Hid (Lz W0 W5 hb ob md tur 0 N (n + 1) nx T nx (.slice (some ⟨g, 0, none⟩) (n + 1) lc) L ∧ Pr W5 xb hb ob ∧ W5.rowIs tb 49 3 (wtF i k v) ∧ Fr hb ob W0.heap.size W W5) := ⟨Z5, P5, Q5, F5⟩
  obtain ⟨d0, d1⟩ := P5.cells
  obtain ⟨y0, y1, y2, y3, y5, ylt, yfr⟩ := Z5.order
  have v0 := Q5.cell (i := 0) (by omega)
  have v1 := Q5.cell (i := 1) (by omega)
  have v2 := Q5.cell (i := 2) (by omega)
  simp only [wtF] at v0 v1 v2
  simp at v0 v1 v2
  clear hW5 etb B5 Z5 P5 Q5 F5 B4 B04 CE HB3
  go_upto_region 7 with fail
  rw [HWz.out.1, HWz.out.2.1]
  go_upto_region 9 with fail
  rw [HWz.out.2.2]
  clear e0 e1 e2 f0 f1 f2 k0 k1 k2 c0 c1 o0 o1 o2 o3
  go_wp2_with fail
  go_ret
  exact ⟨rfl, N, (n + 1), T, _, L, H5.out.1, HZ.out.2.2.1, Nat.le_refl _, Nat.le_refl _, fun d _ => by omega, H5.out.2.2.2⟩
end Go.Proofs.Ytjnfcihichaonaa
