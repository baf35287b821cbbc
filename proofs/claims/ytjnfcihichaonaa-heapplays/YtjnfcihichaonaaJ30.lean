/- Contracts of the program's functions, part 30: own work, joined in build order. -/
import Derived.Test.YtjnfcihichaonaaJ29
import Derived.Deep.RegionWith
namespace Go.Proofs.Ytjnfcihichaonaa
open Go.RowKit
set_option maxRecDepth 100000
set_option linter.unusedVariables false
/-- What stands behind a call of either: the same on both sides, and how often the order was asked. -/
def Aft (W0 W : World) (hb ob : Nat) (md : Int) (tur : Bool) (lies : Int) (N n : Nat) (pu nx : Int) (w' : World) : Prop :=
  ∃ N' n' T' lv' L', Lz W0 w' hb ob md tur lies N' n' pu T' nx lv' L' ∧ Syn T' L' n' ∧ n' ≤ n ∧ N ≤ N' ∧ (∀ d, n < 2 ^ d → N' ≤ N + (12 * d + 12)) ∧ Fr hb ob W0.heap.size W w'
theorem few_pop {M N n d : Nat} (h : 2 ^ (M - N) ≤ 4 * (n + 1) * (n + 1)) (hN : N ≤ M) (hd : n + 1 < 2 ^ d) : M ≤ N + (12 * d + 12) := by
  have := few_asked h (d := d) (by omega)
  omega
theorem few_upd {M N n d : Nat} (h : 2 ^ (M - N) ≤ 4 * (n + 1) * (n + 1)) (hN : N ≤ M) (hd : n < 2 ^ d) : M ≤ N + (12 * d + 12) := by
  have := few_asked h (d := d) hd
  omega
theorem Lz.slice {W0 W : World} {hb ob : Nat} {md : Int} {tur : Bool} {lies : Int} {N n : Nat} {pu : Int} {T : Int → Option (Int × Int)} {nx : Int} {lv : Value} {L : List Th} (h : Lz W0 W hb ob md tur lies N n pu T nx lv L) : ∃ a c, lv = .slice a L.length c := by
  obtain ⟨a, c, e, _⟩ := h.tr.sl
  exact ⟨a, c, e⟩
set_option maxHeartbeats 1000000 in
theorem some1_none {W0 W : World} {hb ob : Nat} {md : Int} {tur : Bool} {lies : Int} {N : Nat} {pu : Int} {T : Int → Option (Int × Int)} {nx : Int} {lv : Value} {L : List Th} (h : Lz W0 W hb ob md tur lies N 0 pu T nx lv L) (hs : Syn T L 0) :
    Calls Try.prog 24 #[.agg #[.pointer (some ⟨hb, 0, none⟩), .pointer (some ⟨ob, 0, none⟩)], .int .i64 1] W fun e w' => e = .returned (.bool true) ∧ Aft W0 W hb ob md tur lies N 0 pu nx w' := by
  obtain ⟨la, lc, e9⟩ := h.slice
  rw [hs.len] at e9
  subst e9
  obtain ⟨Wb, hWb⟩ : ∃ Wb, Wb = W.alloc (.cells #[.pointer (some ⟨hb, 0, none⟩), .pointer (some ⟨ob, 0, none⟩)] 26) := ⟨_, rfl⟩
  obtain ⟨xb, exb⟩ : ∃ xb, xb = W.heap.size := ⟨_, rfl⟩
  have Bb : Below W.heap.size W Wb := by rw [hWb]; exact (Below.refl _ _).alloc (Nat.le_refl _) _
  have Pb : Pr Wb xb hb ob := by rw [hWb, exb]; exact (MapKept.heap_alloc _ _).1
  have Zb := h.mono Bb
  have CA : Hid (Calls Try.prog 46 #[.pointer (some ⟨hb, 0, none⟩)] Wb fun e w' => e = .returned (.tuple #[.int .i64 0, .int .i64 0, .int .i64 0, .bool false]) ∧ ∃ m, w' = Wb.drewN m) := Zb.hp.minNo
  have FI : Hid (∀ W', Below Wb.heap.size Wb W' → Calls Try.prog 48 #[.agg #[.slice la 0 lc, .int .i64 nx, .int .i64 md, .bool tur], .int .i64 0] W' fun e w' => e = .returned (.int .i64 (-1)) ∧ Below W'.heap.size W' w') := fun W' hB => by
    refine (find_any nx md tur 0 W' (Zb.mono hB).tr (by rw [hs.len]; omega)).mono ?_
    rintro e w' ⟨h1 | h1, hB'⟩
    · obtain ⟨p, q1, _⟩ := h1
      have := hs.len
      omega
    · exact ⟨h1.1, hB'⟩
  obtain ⟨c0, c1⟩ := Pb.cells
  obtain ⟨o0, o1, o2, o3, o5, olt, ofr⟩ := Zb.order
  have HZ : Hid (Lz W0 Wb hb ob md tur lies N 0 pu T nx (.slice la 0 lc) L ∧ Pr Wb xb hb ob ∧ Syn T L 0 ∧ Below W.heap.size W Wb ∧ Fr hb ob W0.heap.size W Wb) := ⟨Zb, Pb, hs, Bb, Fr.of_below Bb h.hp⟩
  have HW : Hid (W.alloc (.cells #[.pointer (some ⟨hb, 0, none⟩), .pointer (some ⟨ob, 0, none⟩)] 26) = Wb ∧ W.heap.size = xb) := ⟨hWb.symm, exb.symm⟩
  clear h hs hWb exb Bb Pb Zb ofr olt
  go_enter Try.func24, Try.ntmps24
  go_wp2_with fail
  rw [HW.out.1, HW.out.2]
  go_wp2_with fail
  refine Calls.mono CA.out ?_
  rintro e w2 ⟨rfl, m, rfl⟩
  obtain ⟨W2, hW2⟩ : ∃ W2, W2 = Wb.drewN m := ⟨_, rfl⟩
  have B2 : Below Wb.heap.size Wb W2 := by rw [hW2]; exact bel_drewN (Below.refl _ _) _
  have HB2 : Hid (Below Wb.heap.size Wb W2) := B2
  have c0' := cell_later B2 c0
  have c1' := cell_later B2 c1
  have o0' := cell_later B2 o0
  have o1' := cell_later B2 o1
  have o2' := cell_later B2 o2
  have o3' := cell_later B2 o3
  rw [← hW2]
  clear hW2 B2 c0 c1 o0 o1 o2 o3 o5 CA
  go_wp2_with fail
  refine Calls.mono (FI.out W2 HB2.out) ?_
  rintro e W3 ⟨rfl, B3⟩
  have HB03 : Hid (Below Wb.heap.size Wb W3) := HB2.out.trans (B3.mono HB2.out.size)
  have HB3 : Hid (Below W.heap.size W W3) := HZ.out.2.2.2.1.trans ((HB2.out.trans (B3.mono HB2.out.size)).mono HZ.out.2.2.2.1.size)
  have HZ3 : Hid (Lz W0 W3 hb ob md tur lies N 0 pu T nx (.slice la 0 lc) L) := (HZ.out.1.mono HB2.out).mono B3
  have c0'' := cell_later B3 c0'
  have c1'' := cell_later B3 c1'
  have o0'' := cell_later B3 o0'
  clear B3 c0' c1' o0' o1' o2' o3' FI
  go_wp2_with fail
  go_ret
  exact ⟨rfl, N, 0, T, _, L, HZ3.out, HZ.out.2.2.1, Nat.le_refl _, Nat.le_refl _, fun d _ => by omega, HZ.out.2.2.2.2.trans (Fr.of_below HB03.out HZ.out.1.hp)⟩
set_option maxHeartbeats 2000000 in
theorem some1_some {W0 W : World} {hb ob : Nat} {md : Int} {tur : Bool} {lies : Int} {N n : Nat} {pu : Int} {T : Int → Option (Int × Int)} {nx : Int} {lv : Value} {L : List Th} (h : Lz W0 W hb ob md tur lies N (n + 1) pu T nx lv L) (hs : Syn T L (n + 1)) (hN : N < 999999999) (hn : n < 1000) :
    Calls Try.prog 24 #[.agg #[.pointer (some ⟨hb, 0, none⟩), .pointer (some ⟨ob, 0, none⟩)], .int .i64 1] W fun e w' => e = .returned (.bool true) ∧ Aft W0 W hb ob md tur lies N (n + 1) pu nx w' := by
  obtain ⟨la, lc, e9⟩ := h.slice
  rw [hs.len] at e9
  subst e9
  obtain ⟨Wb, hWb⟩ : ∃ Wb, Wb = W.alloc (.cells #[.pointer (some ⟨hb, 0, none⟩), .pointer (some ⟨ob, 0, none⟩)] 26) := ⟨_, rfl⟩
  obtain ⟨xb, exb⟩ : ∃ xb, xb = W.heap.size := ⟨_, rfl⟩
  have Bb : Below W.heap.size W Wb := by rw [hWb]; exact (Below.refl _ _).alloc (Nat.le_refl _) _
  have Pb : Pr Wb xb hb ob := by rw [hWb, exb]; exact (MapKept.heap_alloc _ _).1
  have Zb := h.mono Bb
  have CA : Hid (Calls Try.prog 46 #[.pointer (some ⟨hb, 0, none⟩)] Wb fun e w' => ∃ (p : Nat) (i k v : Int) (M : Nat), e = .returned (.tuple #[.int .i64 i, .int .i64 k, .int .i64 v, .bool true]) ∧ p < n + 1 ∧ L.getD p th0 = (i, k, v) ∧ (∀ q, q < L.length → (L.getD q th0).1 = i → q = p) ∧ Lz W0 w' hb ob md tur lies M (n + 1) pu T nx (.slice la (n + 1) lc) L ∧ N ≤ M ∧ (∀ d, n + 1 < 2 ^ d → M ≤ N + (12 * d + 12)) ∧ Fr hb ob W0.heap.size Wb w') := by
    refine (Zb.hp.min).mono ?_
    rintro e w' ⟨⟨i, k, v, rfl, q1, _⟩, m, rfl⟩
    obtain ⟨p, hp, e1, e2⟩ := hs.found q1
    have B9 : Below Wb.heap.size Wb (Wb.drewN m) := bel_drewN (Below.refl _ _) _
    exact ⟨p, i, k, v, N, rfl, by rw [← hs.len]; exact hp, e1, e2, Zb.mono B9, Nat.le_refl _, fun d hd => by omega, Fr.of_below B9 Zb.hp⟩
  have HZ : Hid (Pr Wb xb hb ob ∧ Syn T L (n + 1) ∧ Below W.heap.size W Wb ∧ Fr hb ob W0.heap.size W Wb) := ⟨Pb, hs, Bb, Fr.of_below Bb h.hp⟩
  have HW : Hid (W.alloc (.cells #[.pointer (some ⟨hb, 0, none⟩), .pointer (some ⟨ob, 0, none⟩)] 26) = Wb ∧ W.heap.size = xb) := ⟨hWb.symm, exb.symm⟩
  obtain ⟨c0, c1⟩ := Pb.cells
  clear h hs hWb exb Bb Pb Zb
  go_enter Try.func24, Try.ntmps24
  go_wp2_with fail
  rw [HW.out.1, HW.out.2]
  go_wp2_with fail
  refine Calls.mono CA.out ?_
  rintro e W2 ⟨p, i, k, v, M, rfl, hp, ex, huq, Z2, hM, hfew, F2⟩
  have P2 := HZ.out.1.fr F2
  obtain ⟨c0', c1'⟩ := P2.cells
  obtain ⟨o0, o1, o2, o3, o5, olt, ofr⟩ := Z2.order
  have FI : Hid (Calls Try.prog 48 #[.agg #[.slice la (n + 1) lc, .int .i64 nx, .int .i64 md, .bool tur], .int .i64 i] W2 fun e w' => e = .returned (.int .i64 (p : Int)) ∧ Below W2.heap.size W2 w') := by
    refine (find_any nx md tur i W2 Z2.tr (by rw [HZ.out.2.1.len]; omega)).mono ?_
    rintro e w' ⟨h1 | h1, hB'⟩
    · obtain ⟨q, q1, q2, q3⟩ := h1
      have := huq q q1 q3
      subst this
      exact ⟨q2, hB'⟩
    · exact absurd (by rw [ex]) (h1.2 p (by rw [HZ.out.2.1.len]; exact hp))
  have H2 : Hid (Lz W0 W2 hb ob md tur lies M (n + 1) pu T nx (.slice la (n + 1) lc) L ∧ Pr W2 xb hb ob ∧ L.getD p th0 = (i, k, v) ∧ N ≤ M ∧ (∀ d, n + 1 < 2 ^ d → M ≤ N + (12 * d + 12)) ∧ Fr hb ob W0.heap.size W W2) := ⟨Z2, P2, ex, hM, hfew, HZ.out.2.2.2.trans F2⟩
  clear Z2 P2 ex huq hM hfew F2 c0 c1 CA olt ofr
  go_wp2_with fail
  refine Calls.mono FI.out ?_
  rintro e W3 ⟨rfl, B3⟩
  have Z3 := H2.out.1.mono B3
  have P3 := H2.out.2.1.below B3
  obtain ⟨y0, y1⟩ := P3.cells
  obtain ⟨r0, r1, r2, r3, r5, rlt, rfr⟩ := Z3.order
  obtain ⟨a9, c9, e9, hat, _⟩ := Z3.tr.sl
  rw [HZ.out.2.1.len] at e9 hat
  injection e9 with e91 e92 e93
  subst e91
  obtain ⟨g, rfl, _, _, hc⟩ := hat (by omega)
  obtain ⟨k0, k1, k2⟩ := hc p hp
  rw [H2.out.2.2.1] at k0 k1 k2
  have H3 : Hid (Lz W0 W3 hb ob md tur lies M (n + 1) pu T nx (.slice (some ⟨g, 0, none⟩) (n + 1) lc) L ∧ Pr W3 xb hb ob ∧ Fr hb ob W0.heap.size W W3) := ⟨Z3, P3, H2.out.2.2.2.2.2.trans (Fr.of_below B3 H2.out.1.hp)⟩
  have hp' : (p : Int) < ((n + 1 : Nat) : Int) := by omega
  have hlt : decide ((p : Int) < 0) = false := decide_eq_false (by omega)
  clear e92 e93 hat hc B3 Z3 P3 c0' c1' o0 o1 o2 o3 o5 FI
  go_wp2_with fail
  go_ret
  exact ⟨rfl, M, n + 1, T, _, L, H3.out.1, HZ.out.2.1, Nat.le_refl _, H2.out.2.2.2.1, H2.out.2.2.2.2.1, H3.out.2.2⟩
set_option maxHeartbeats 1000000 in
theorem some2_none {W0 W : World} {hb ob : Nat} {md : Int} {tur : Bool} {lies : Int} {N : Nat} {pu : Int} {T : Int → Option (Int × Int)} {nx : Int} {lv : Value} {L : List Th} (h : Lz W0 W hb ob md tur lies N 0 pu T nx lv L) (hs : Syn T L 0) :
    Calls Try.prog 24 #[.agg #[.pointer (some ⟨hb, 0, none⟩), .pointer (some ⟨ob, 0, none⟩)], .int .i64 2] W fun e w' => e = .returned (.bool true) ∧ Aft W0 W hb ob md tur lies N 0 pu nx w' := by
  obtain ⟨la, lc, e9⟩ := h.slice
  rw [hs.len] at e9
  subst e9
  obtain ⟨Wb, hWb⟩ : ∃ Wb, Wb = W.alloc (.cells #[.pointer (some ⟨hb, 0, none⟩), .pointer (some ⟨ob, 0, none⟩)] 26) := ⟨_, rfl⟩
  obtain ⟨xb, exb⟩ : ∃ xb, xb = W.heap.size := ⟨_, rfl⟩
  have Bb : Below W.heap.size W Wb := by rw [hWb]; exact (Below.refl _ _).alloc (Nat.le_refl _) _
  have Pb : Pr Wb xb hb ob := by rw [hWb, exb]; exact (MapKept.heap_alloc _ _).1
  have Zb := h.mono Bb
  have CA : Hid (Calls Try.prog 47 #[.pointer (some ⟨hb, 0, none⟩)] Wb fun e w' => e = .returned (.tuple #[.int .i64 0, .int .i64 0, .int .i64 0, .bool false]) ∧ ∃ m, w' = Wb.drewN m) := Zb.hp.maxNo
  have FI : Hid (∀ W', Below Wb.heap.size Wb W' → Calls Try.prog 48 #[.agg #[.slice la 0 lc, .int .i64 nx, .int .i64 md, .bool tur], .int .i64 0] W' fun e w' => e = .returned (.int .i64 (-1)) ∧ Below W'.heap.size W' w') := fun W' hB => by
    refine (find_any nx md tur 0 W' (Zb.mono hB).tr (by rw [hs.len]; omega)).mono ?_
    rintro e w' ⟨h1 | h1, hB'⟩
    · obtain ⟨p, q1, _⟩ := h1
      have := hs.len
      omega
    · exact ⟨h1.1, hB'⟩
  obtain ⟨c0, c1⟩ := Pb.cells
  obtain ⟨o0, o1, o2, o3, o5, olt, ofr⟩ := Zb.order
  have HZ : Hid (Lz W0 Wb hb ob md tur lies N 0 pu T nx (.slice la 0 lc) L ∧ Pr Wb xb hb ob ∧ Syn T L 0 ∧ Below W.heap.size W Wb ∧ Fr hb ob W0.heap.size W Wb) := ⟨Zb, Pb, hs, Bb, Fr.of_below Bb h.hp⟩
  have HW : Hid (W.alloc (.cells #[.pointer (some ⟨hb, 0, none⟩), .pointer (some ⟨ob, 0, none⟩)] 26) = Wb ∧ W.heap.size = xb) := ⟨hWb.symm, exb.symm⟩
  clear h hs hWb exb Bb Pb Zb ofr olt
  go_enter Try.func24, Try.ntmps24
  go_wp2_with fail
  rw [HW.out.1, HW.out.2]
  go_wp2_with fail
  refine Calls.mono CA.out ?_
  rintro e w2 ⟨rfl, m, rfl⟩
  obtain ⟨W2, hW2⟩ : ∃ W2, W2 = Wb.drewN m := ⟨_, rfl⟩
  have B2 : Below Wb.heap.size Wb W2 := by rw [hW2]; exact bel_drewN (Below.refl _ _) _
  have HB2 : Hid (Below Wb.heap.size Wb W2) := B2
  have c0' := cell_later B2 c0
  have c1' := cell_later B2 c1
  have o0' := cell_later B2 o0
  have o1' := cell_later B2 o1
  have o2' := cell_later B2 o2
  have o3' := cell_later B2 o3
  rw [← hW2]
  clear hW2 B2 c0 c1 o0 o1 o2 o3 o5 CA
  go_wp2_with fail
  refine Calls.mono (FI.out W2 HB2.out) ?_
  rintro e W3 ⟨rfl, B3⟩
  have HB03 : Hid (Below Wb.heap.size Wb W3) := HB2.out.trans (B3.mono HB2.out.size)
  have HB3 : Hid (Below W.heap.size W W3) := HZ.out.2.2.2.1.trans ((HB2.out.trans (B3.mono HB2.out.size)).mono HZ.out.2.2.2.1.size)
  have HZ3 : Hid (Lz W0 W3 hb ob md tur lies N 0 pu T nx (.slice la 0 lc) L) := (HZ.out.1.mono HB2.out).mono B3
  have c0'' := cell_later B3 c0'
  have c1'' := cell_later B3 c1'
  have o0'' := cell_later B3 o0'
  clear B3 c0' c1' o0' o1' o2' o3' FI
  go_wp2_with fail
  go_ret
  exact ⟨rfl, N, 0, T, _, L, HZ3.out, HZ.out.2.2.1, Nat.le_refl _, Nat.le_refl _, fun d _ => by omega, HZ.out.2.2.2.2.trans (Fr.of_below HB03.out HZ.out.1.hp)⟩
set_option maxHeartbeats 2000000 in
theorem some2_some {W0 W : World} {hb ob : Nat} {md : Int} {tur : Bool} {lies : Int} {N n : Nat} {pu : Int} {T : Int → Option (Int × Int)} {nx : Int} {lv : Value} {L : List Th} (h : Lz W0 W hb ob md tur lies N (n + 1) pu T nx lv L) (hs : Syn T L (n + 1)) (hN : N < 999999999) (hn : n < 1000) :
    Calls Try.prog 24 #[.agg #[.pointer (some ⟨hb, 0, none⟩), .pointer (some ⟨ob, 0, none⟩)], .int .i64 2] W fun e w' => e = .returned (.bool true) ∧ Aft W0 W hb ob md tur lies N (n + 1) pu nx w' := by
  obtain ⟨la, lc, e9⟩ := h.slice
  rw [hs.len] at e9
  subst e9
  obtain ⟨Wb, hWb⟩ : ∃ Wb, Wb = W.alloc (.cells #[.pointer (some ⟨hb, 0, none⟩), .pointer (some ⟨ob, 0, none⟩)] 26) := ⟨_, rfl⟩
  obtain ⟨xb, exb⟩ : ∃ xb, xb = W.heap.size := ⟨_, rfl⟩
  have Bb : Below W.heap.size W Wb := by rw [hWb]; exact (Below.refl _ _).alloc (Nat.le_refl _) _
  have Pb : Pr Wb xb hb ob := by rw [hWb, exb]; exact (MapKept.heap_alloc _ _).1
  have Zb := h.mono Bb
  have CA : Hid (Calls Try.prog 47 #[.pointer (some ⟨hb, 0, none⟩)] Wb fun e w' => ∃ (p : Nat) (i k v : Int) (M : Nat), e = .returned (.tuple #[.int .i64 i, .int .i64 k, .int .i64 v, .bool true]) ∧ p < n + 1 ∧ L.getD p th0 = (i, k, v) ∧ (∀ q, q < L.length → (L.getD q th0).1 = i → q = p) ∧ Lz W0 w' hb ob md tur lies M (n + 1) pu T nx (.slice la (n + 1) lc) L ∧ N ≤ M ∧ (∀ d, n + 1 < 2 ^ d → M ≤ N + (12 * d + 12)) ∧ Fr hb ob W0.heap.size Wb w') := by
    refine (Zb.hp.max).mono ?_
    rintro e w' ⟨⟨i, k, v, rfl, q1, _⟩, m, rfl⟩
    obtain ⟨p, hp, e1, e2⟩ := hs.found q1
    have B9 : Below Wb.heap.size Wb (Wb.drewN m) := bel_drewN (Below.refl _ _) _
    exact ⟨p, i, k, v, N, rfl, by rw [← hs.len]; exact hp, e1, e2, Zb.mono B9, Nat.le_refl _, fun d hd => by omega, Fr.of_below B9 Zb.hp⟩
  have HZ : Hid (Pr Wb xb hb ob ∧ Syn T L (n + 1) ∧ Below W.heap.size W Wb ∧ Fr hb ob W0.heap.size W Wb) := ⟨Pb, hs, Bb, Fr.of_below Bb h.hp⟩
  have HW : Hid (W.alloc (.cells #[.pointer (some ⟨hb, 0, none⟩), .pointer (some ⟨ob, 0, none⟩)] 26) = Wb ∧ W.heap.size = xb) := ⟨hWb.symm, exb.symm⟩
  obtain ⟨c0, c1⟩ := Pb.cells
  clear h hs hWb exb Bb Pb Zb
  go_enter Try.func24, Try.ntmps24
  go_wp2_with fail
  rw [HW.out.1, HW.out.2]
  go_wp2_with fail
  refine Calls.mono CA.out ?_
  rintro e W2 ⟨p, i, k, v, M, rfl, hp, ex, huq, Z2, hM, hfew, F2⟩
  have P2 := HZ.out.1.fr F2
  obtain ⟨c0', c1'⟩ := P2.cells
  obtain ⟨o0, o1, o2, o3, o5, olt, ofr⟩ := Z2.order
  have FI : Hid (Calls Try.prog 48 #[.agg #[.slice la (n + 1) lc, .int .i64 nx, .int .i64 md, .bool tur], .int .i64 i] W2 fun e w' => e = .returned (.int .i64 (p : Int)) ∧ Below W2.heap.size W2 w') := by
    refine (find_any nx md tur i W2 Z2.tr (by rw [HZ.out.2.1.len]; omega)).mono ?_
    rintro e w' ⟨h1 | h1, hB'⟩
    · obtain ⟨q, q1, q2, q3⟩ := h1
      have := huq q q1 q3
      subst this
      exact ⟨q2, hB'⟩
    · exact absurd (by rw [ex]) (h1.2 p (by rw [HZ.out.2.1.len]; exact hp))
  have H2 : Hid (Lz W0 W2 hb ob md tur lies M (n + 1) pu T nx (.slice la (n + 1) lc) L ∧ Pr W2 xb hb ob ∧ L.getD p th0 = (i, k, v) ∧ N ≤ M ∧ (∀ d, n + 1 < 2 ^ d → M ≤ N + (12 * d + 12)) ∧ Fr hb ob W0.heap.size W W2) := ⟨Z2, P2, ex, hM, hfew, HZ.out.2.2.2.trans F2⟩
  clear Z2 P2 ex huq hM hfew F2 c0 c1 CA olt ofr
  go_wp2_with fail
  refine Calls.mono FI.out ?_
  rintro e W3 ⟨rfl, B3⟩
  have Z3 := H2.out.1.mono B3
  have P3 := H2.out.2.1.below B3
  obtain ⟨y0, y1⟩ := P3.cells
  obtain ⟨r0, r1, r2, r3, r5, rlt, rfr⟩ := Z3.order
  obtain ⟨a9, c9, e9, hat, _⟩ := Z3.tr.sl
  rw [HZ.out.2.1.len] at e9 hat
  injection e9 with e91 e92 e93
  subst e91
  obtain ⟨g, rfl, _, _, hc⟩ := hat (by omega)
  obtain ⟨k0, k1, k2⟩ := hc p hp
  rw [H2.out.2.2.1] at k0 k1 k2
  have H3 : Hid (Lz W0 W3 hb ob md tur lies M (n + 1) pu T nx (.slice (some ⟨g, 0, none⟩) (n + 1) lc) L ∧ Pr W3 xb hb ob ∧ Fr hb ob W0.heap.size W W3) := ⟨Z3, P3, H2.out.2.2.2.2.2.trans (Fr.of_below B3 H2.out.1.hp)⟩
  have hp' : (p : Int) < ((n + 1 : Nat) : Int) := by omega
  have hlt : decide ((p : Int) < 0) = false := decide_eq_false (by omega)
  clear e92 e93 hat hc B3 Z3 P3 c0' c1' o0 o1 o2 o3 o5 FI
  go_wp2_with fail
  go_ret
  exact ⟨rfl, M, n + 1, T, _, L, H3.out.1, HZ.out.2.1, Nat.le_refl _, H2.out.2.2.2.1, H2.out.2.2.2.2.1, H3.out.2.2⟩
set_option maxHeartbeats 1000000 in
theorem some3_none {W0 W : World} {hb ob : Nat} {md : Int} {tur : Bool} {lies : Int} {N : Nat} {pu : Int} {T : Int → Option (Int × Int)} {nx : Int} {lv : Value} {L : List Th} (h : Lz W0 W hb ob md tur lies N 0 pu T nx lv L) (hs : Syn T L 0) :
    Calls Try.prog 24 #[.agg #[.pointer (some ⟨hb, 0, none⟩), .pointer (some ⟨ob, 0, none⟩)], .int .i64 3] W fun e w' => e = .returned (.bool true) ∧ Aft W0 W hb ob md tur lies N 0 pu nx w' := by
  obtain ⟨la, lc, e9⟩ := h.slice
  rw [hs.len] at e9
  subst e9
  obtain ⟨Wb, hWb⟩ : ∃ Wb, Wb = W.alloc (.cells #[.pointer (some ⟨hb, 0, none⟩), .pointer (some ⟨ob, 0, none⟩)] 26) := ⟨_, rfl⟩
  obtain ⟨xb, exb⟩ : ∃ xb, xb = W.heap.size := ⟨_, rfl⟩
  have Bb : Below W.heap.size W Wb := by rw [hWb]; exact (Below.refl _ _).alloc (Nat.le_refl _) _
  have Pb : Pr Wb xb hb ob := by rw [hWb, exb]; exact (MapKept.heap_alloc _ _).1
  have Zb := h.mono Bb
  have CA : Hid (Calls Try.prog 19 #[.pointer (some ⟨hb, 0, none⟩)] Wb fun e w' => e = .returned (.tuple #[.int .i64 0, .int .i64 0, .int .i64 0, .bool false]) ∧ ∃ m, w' = Wb.drewN m) := Zb.hp.noMin
  have FI : Hid (∀ W', Below Wb.heap.size Wb W' → Calls Try.prog 48 #[.agg #[.slice la 0 lc, .int .i64 nx, .int .i64 md, .bool tur], .int .i64 0] W' fun e w' => e = .returned (.int .i64 (-1)) ∧ Below W'.heap.size W' w') := fun W' hB => by
    refine (find_any nx md tur 0 W' (Zb.mono hB).tr (by rw [hs.len]; omega)).mono ?_
    rintro e w' ⟨h1 | h1, hB'⟩
    · obtain ⟨p, q1, _⟩ := h1
      have := hs.len
      omega
    · exact ⟨h1.1, hB'⟩
  obtain ⟨c0, c1⟩ := Pb.cells
  obtain ⟨o0, o1, o2, o3, o5, olt, ofr⟩ := Zb.order
  have HZ : Hid (Lz W0 Wb hb ob md tur lies N 0 pu T nx (.slice la 0 lc) L ∧ Pr Wb xb hb ob ∧ Syn T L 0 ∧ Below W.heap.size W Wb ∧ Fr hb ob W0.heap.size W Wb) := ⟨Zb, Pb, hs, Bb, Fr.of_below Bb h.hp⟩
  have HW : Hid (W.alloc (.cells #[.pointer (some ⟨hb, 0, none⟩), .pointer (some ⟨ob, 0, none⟩)] 26) = Wb ∧ W.heap.size = xb) := ⟨hWb.symm, exb.symm⟩
  clear h hs hWb exb Bb Pb Zb ofr olt
  go_enter Try.func24, Try.ntmps24
  go_wp2_with fail
  rw [HW.out.1, HW.out.2]
  go_wp2_with fail
  refine Calls.mono CA.out ?_
  rintro e w2 ⟨rfl, m, rfl⟩
  obtain ⟨W2, hW2⟩ : ∃ W2, W2 = Wb.drewN m := ⟨_, rfl⟩
  have B2 : Below Wb.heap.size Wb W2 := by rw [hW2]; exact bel_drewN (Below.refl _ _) _
  have HB2 : Hid (Below Wb.heap.size Wb W2) := B2
  have c0' := cell_later B2 c0
  have c1' := cell_later B2 c1
  have o0' := cell_later B2 o0
  have o1' := cell_later B2 o1
  have o2' := cell_later B2 o2
  have o3' := cell_later B2 o3
  rw [← hW2]
  clear hW2 B2 c0 c1 o0 o1 o2 o3 o5 CA
  go_wp2_with fail
  refine Calls.mono (FI.out W2 HB2.out) ?_
  rintro e W3 ⟨rfl, B3⟩
  have HB03 : Hid (Below Wb.heap.size Wb W3) := HB2.out.trans (B3.mono HB2.out.size)
  have HB3 : Hid (Below W.heap.size W W3) := HZ.out.2.2.2.1.trans ((HB2.out.trans (B3.mono HB2.out.size)).mono HZ.out.2.2.2.1.size)
  have HZ3 : Hid (Lz W0 W3 hb ob md tur lies N 0 pu T nx (.slice la 0 lc) L) := (HZ.out.1.mono HB2.out).mono B3
  have c0'' := cell_later B3 c0'
  have c1'' := cell_later B3 c1'
  have o0'' := cell_later B3 o0'
  clear B3 c0' c1' o0' o1' o2' o3' FI
  go_wp2_with fail
  go_ret
  exact ⟨rfl, N, 0, T, _, L, HZ3.out, HZ.out.2.2.1, Nat.le_refl _, Nat.le_refl _, fun d _ => by omega, HZ.out.2.2.2.2.trans (Fr.of_below HB03.out HZ.out.1.hp)⟩
set_option maxHeartbeats 2000000 in
theorem some3_some {W0 W : World} {hb ob : Nat} {md : Int} {tur : Bool} {lies : Int} {N n : Nat} {pu : Int} {T : Int → Option (Int × Int)} {nx : Int} {lv : Value} {L : List Th} (h : Lz W0 W hb ob md tur lies N (n + 1) pu T nx lv L) (hs : Syn T L (n + 1)) (hN : N < 999999999) (hn : n < 1000) :
    Calls Try.prog 24 #[.agg #[.pointer (some ⟨hb, 0, none⟩), .pointer (some ⟨ob, 0, none⟩)], .int .i64 3] W fun e w' => e = .returned (.bool true) ∧ Aft W0 W hb ob md tur lies N (n + 1) pu nx w' := by
  obtain ⟨la, lc, e9⟩ := h.slice
  rw [hs.len] at e9
  subst e9
  obtain ⟨Wb, hWb⟩ : ∃ Wb, Wb = W.alloc (.cells #[.pointer (some ⟨hb, 0, none⟩), .pointer (some ⟨ob, 0, none⟩)] 26) := ⟨_, rfl⟩
  obtain ⟨xb, exb⟩ : ∃ xb, xb = W.heap.size := ⟨_, rfl⟩
  have Bb : Below W.heap.size W Wb := by rw [hWb]; exact (Below.refl _ _).alloc (Nat.le_refl _) _
  have Pb : Pr Wb xb hb ob := by rw [hWb, exb]; exact (MapKept.heap_alloc _ _).1
  have Zb := h.mono Bb
  have CA : Hid (Calls Try.prog 19 #[.pointer (some ⟨hb, 0, none⟩)] Wb fun e w' => ∃ (p : Nat) (i k v : Int) (M : Nat), e = .returned (.tuple #[.int .i64 i, .int .i64 k, .int .i64 v, .bool true]) ∧ p < n + 1 ∧ L.getD p th0 = (i, k, v) ∧ (∀ q, q < L.length → (L.getD q th0).1 = i → q = p) ∧ Lz W0 w' hb ob md tur lies M n pu (updT T i none) nx (.slice la (n + 1) lc) L ∧ N ≤ M ∧ (∀ d, n + 1 < 2 ^ d → M ≤ N + (12 * d + 12)) ∧ Fr hb ob W0.heap.size Wb w') := by
    refine (Zb.hp.popMin hN).mono ?_
    rintro e w' ⟨i, k, v, M, rfl, q1, q2, q3, q4, q5, q6⟩
    obtain ⟨p, hp, e1, e2⟩ := hs.found q1
    exact ⟨p, i, k, v, M, rfl, by rw [← hs.len]; exact hp, e1, e2, Zb.step q5 q2, q3, fun d hd => few_pop q4 q3 hd, q5⟩
  have HZ : Hid (Pr Wb xb hb ob ∧ Syn T L (n + 1) ∧ Below W.heap.size W Wb ∧ Fr hb ob W0.heap.size W Wb) := ⟨Pb, hs, Bb, Fr.of_below Bb h.hp⟩
  have HW : Hid (W.alloc (.cells #[.pointer (some ⟨hb, 0, none⟩), .pointer (some ⟨ob, 0, none⟩)] 26) = Wb ∧ W.heap.size = xb) := ⟨hWb.symm, exb.symm⟩
  obtain ⟨c0, c1⟩ := Pb.cells
  clear h hs hWb exb Bb Pb Zb
  go_enter Try.func24, Try.ntmps24
  go_wp2_with fail
  rw [HW.out.1, HW.out.2]
  go_wp2_with fail
  refine Calls.mono CA.out ?_
  rintro e W2 ⟨p, i, k, v, M, rfl, hp, ex, huq, Z2, hM, hfew, F2⟩
  have P2 := HZ.out.1.fr F2
  obtain ⟨c0', c1'⟩ := P2.cells
  obtain ⟨o0, o1, o2, o3, o5, olt, ofr⟩ := Z2.order
  have FI : Hid (Calls Try.prog 48 #[.agg #[.slice la (n + 1) lc, .int .i64 nx, .int .i64 md, .bool tur], .int .i64 i] W2 fun e w' => e = .returned (.int .i64 (p : Int)) ∧ Below W2.heap.size W2 w') := by
    refine (find_any nx md tur i W2 Z2.tr (by rw [HZ.out.2.1.len]; omega)).mono ?_
    rintro e w' ⟨h1 | h1, hB'⟩
    · obtain ⟨q, q1, q2, q3⟩ := h1
      have := huq q q1 q3
      subst this
      exact ⟨q2, hB'⟩
    · exact absurd (by rw [ex]) (h1.2 p (by rw [HZ.out.2.1.len]; exact hp))
  have H2 : Hid (Lz W0 W2 hb ob md tur lies M n pu (updT T i none) nx (.slice la (n + 1) lc) L ∧ Pr W2 xb hb ob ∧ L.getD p th0 = (i, k, v) ∧ N ≤ M ∧ (∀ d, n + 1 < 2 ^ d → M ≤ N + (12 * d + 12)) ∧ Fr hb ob W0.heap.size W W2) := ⟨Z2, P2, ex, hM, hfew, HZ.out.2.2.2.trans F2⟩
  clear Z2 P2 ex huq hM hfew F2 c0 c1 CA olt ofr
  go_wp2_with fail
  refine Calls.mono FI.out ?_
  rintro e W3 ⟨rfl, B3⟩
  have Z3 := H2.out.1.mono B3
  have P3 := H2.out.2.1.below B3
  obtain ⟨y0, y1⟩ := P3.cells
  obtain ⟨r0, r1, r2, r3, r5, rlt, rfr⟩ := Z3.order
  obtain ⟨a9, c9, e9, hat, _⟩ := Z3.tr.sl
  rw [HZ.out.2.1.len] at e9 hat
  injection e9 with e91 e92 e93
  subst e91
  obtain ⟨g, rfl, _, _, hc⟩ := hat (by omega)
  obtain ⟨k0, k1, k2⟩ := hc p hp
  rw [H2.out.2.2.1] at k0 k1 k2
  have H3 : Hid (Lz W0 W3 hb ob md tur lies M n pu (updT T i none) nx (.slice (some ⟨g, 0, none⟩) (n + 1) lc) L ∧ Pr W3 xb hb ob ∧ Fr hb ob W0.heap.size W W3) := ⟨Z3, P3, H2.out.2.2.2.2.2.trans (Fr.of_below B3 H2.out.1.hp)⟩
  have hp' : (p : Int) < ((n + 1 : Nat) : Int) := by omega
  have hlt : decide ((p : Int) < 0) = false := decide_eq_false (by omega)
  clear e92 e93 hat hc B3 Z3 P3 c0' c1' o0 o1 o2 o3 o5 FI
  have OU : Hid (∀ W', W' = W3 ∨ W' = W3.drew → Calls Try.prog 49 #[.agg #[.slice (some ⟨g, 0, none⟩) (n + 1) lc, .int .i64 nx, .int .i64 md, .bool tur], .int .i64 (p : Int)] W' fun e w' => ∃ a' m' c', e = .returned (.agg #[.slice a' m' c', .int .i64 nx, .int .i64 md, .bool tur]) ∧ Tr W0.heap.size w' (.slice a' m' c') (L.eraseIdx p) ∧ Lz W0 w' hb ob md tur lies M n pu (updT T i none) nx (.slice (some ⟨g, 0, none⟩) (n + 1) lc) L ∧ Pr w' xb hb ob ∧ Fr hb ob W0.heap.size W w') := fun W' hW' => by
    have B9 : Below W3.heap.size W3 W' := by rcases hW' with rfl | rfl; exact Below.refl _ _; exact bel_drew (Below.refl _ _)
    have Z9 := H3.out.1.mono B9
    refine (refOut_any nx md tur p W' Z9.tr (by rw [HZ.out.2.1.len]; omega) (by rw [HZ.out.2.1.len]; omega)).mono ?_
    rintro e w' ⟨lv', rfl, t1, t2⟩
    obtain ⟨a', c', e', _⟩ := t1.sl
    subst e'
    exact ⟨_, _, _, rfl, t1.weak Z9.hp.le, Z9.mono t2, (H3.out.2.1.below B9).below t2, (H3.out.2.2.trans (Fr.of_below B9 H3.out.1.hp)).trans (Fr.of_below t2 Z9.hp)⟩
  have nxo : ¬ xb = ob := fun e => by
    have e1 := H3.out.2.1
    unfold Pr at e1
    rw [e, H3.out.1.hp.od.at'] at e1
    cases e1
  have nxo' : ¬ ob = xb := fun e => nxo e.symm
  go_wp2_with fail
  have FIN : Hid (∀ (w8 : World) (a' : Option Addr) (m' c' : Nat), (Tr W0.heap.size w8 (.slice a' m' c') (L.eraseIdx p) ∧ Lz W0 w8 hb ob md tur lies M n pu (updT T i none) nx (.slice (some ⟨g, 0, none⟩) (n + 1) lc) L ∧ Pr w8 xb hb ob ∧ Fr hb ob W0.heap.size W w8) → ∀ W9, Below (((((w8.setCell ⟨ob, 0, none⟩ (.slice a' m' c')).setCell ⟨ob, 1, none⟩ (.int .i64 nx)).setCell ⟨ob, 2, none⟩ (.int .i64 md)).setCell ⟨ob, 3, none⟩ (.bool tur)).heap.size) ((((w8.setCell ⟨ob, 0, none⟩ (.slice a' m' c')).setCell ⟨ob, 1, none⟩ (.int .i64 nx)).setCell ⟨ob, 2, none⟩ (.int .i64 md)).setCell ⟨ob, 3, none⟩ (.bool tur)) W9 → Aft W0 W hb ob md tur lies N (n + 1) pu nx W9) := by
    rintro w8 a' m' c' ⟨t1, Z8, P8, F8⟩ W9 hB9
    obtain ⟨Z9, F9⟩ := Z8.store (W' := _) ⟨_, _, _, rfl⟩ t1 rfl
    have Sy := HZ.out.2.1.out (p := p) (by rw [HZ.out.2.1.len]; omega)
    rw [H2.out.2.2.1] at Sy
    exact ⟨M, n, _, _, _, Z9.mono hB9, Sy, by omega, H2.out.2.2.2.1, H2.out.2.2.2.2.1, (F8.trans F9).trans (Fr.of_below hB9 Z9.hp)⟩
  go_region_with (first
      | (go_at_call 49; refine Calls.mono (OU.out _ (by first | exact .inl rfl | exact .inr rfl)) ?_; rintro e w8 ⟨a', m', c', rfl, t1, Z8, P8, F8⟩; obtain ⟨u0, u1⟩ := P8.cells; obtain ⟨s0, s1, s2, s3, s5, slt, sfr⟩ := Z8.order; have HM : Hid _ := (⟨t1, Z8, P8, F8⟩ : _ ∧ _ ∧ _ ∧ _); clear t1 Z8 P8 F8))
  all_goals (go_wp2_with fail; go_ret; exact ⟨rfl, FIN.out _ _ _ _ HM.out _ (by first | exact Below.refl _ _ | exact bel_drew (Below.refl _ _))⟩)
set_option maxHeartbeats 1000000 in
theorem some4_none {W0 W : World} {hb ob : Nat} {md : Int} {tur : Bool} {lies : Int} {N : Nat} {pu : Int} {T : Int → Option (Int × Int)} {nx : Int} {lv : Value} {L : List Th} (h : Lz W0 W hb ob md tur lies N 0 pu T nx lv L) (hs : Syn T L 0) :
    Calls Try.prog 24 #[.agg #[.pointer (some ⟨hb, 0, none⟩), .pointer (some ⟨ob, 0, none⟩)], .int .i64 4] W fun e w' => e = .returned (.bool true) ∧ Aft W0 W hb ob md tur lies N 0 pu nx w' := by
  obtain ⟨la, lc, e9⟩ := h.slice
  rw [hs.len] at e9
  subst e9
  obtain ⟨Wb, hWb⟩ : ∃ Wb, Wb = W.alloc (.cells #[.pointer (some ⟨hb, 0, none⟩), .pointer (some ⟨ob, 0, none⟩)] 26) := ⟨_, rfl⟩
  obtain ⟨xb, exb⟩ : ∃ xb, xb = W.heap.size := ⟨_, rfl⟩
  have Bb : Below W.heap.size W Wb := by rw [hWb]; exact (Below.refl _ _).alloc (Nat.le_refl _) _
  have Pb : Pr Wb xb hb ob := by rw [hWb, exb]; exact (MapKept.heap_alloc _ _).1
  have Zb := h.mono Bb
  have CA : Hid (Calls Try.prog 21 #[.pointer (some ⟨hb, 0, none⟩)] Wb fun e w' => e = .returned (.tuple #[.int .i64 0, .int .i64 0, .int .i64 0, .bool false]) ∧ ∃ m, w' = Wb.drewN m) := Zb.hp.noMax
  have FI : Hid (∀ W', Below Wb.heap.size Wb W' → Calls Try.prog 48 #[.agg #[.slice la 0 lc, .int .i64 nx, .int .i64 md, .bool tur], .int .i64 0] W' fun e w' => e = .returned (.int .i64 (-1)) ∧ Below W'.heap.size W' w') := fun W' hB => by
    refine (find_any nx md tur 0 W' (Zb.mono hB).tr (by rw [hs.len]; omega)).mono ?_
    rintro e w' ⟨h1 | h1, hB'⟩
    · obtain ⟨p, q1, _⟩ := h1
      have := hs.len
      omega
    · exact ⟨h1.1, hB'⟩
  obtain ⟨c0, c1⟩ := Pb.cells
  obtain ⟨o0, o1, o2, o3, o5, olt, ofr⟩ := Zb.order
  have HZ : Hid (Lz W0 Wb hb ob md tur lies N 0 pu T nx (.slice la 0 lc) L ∧ Pr Wb xb hb ob ∧ Syn T L 0 ∧ Below W.heap.size W Wb ∧ Fr hb ob W0.heap.size W Wb) := ⟨Zb, Pb, hs, Bb, Fr.of_below Bb h.hp⟩
  have HW : Hid (W.alloc (.cells #[.pointer (some ⟨hb, 0, none⟩), .pointer (some ⟨ob, 0, none⟩)] 26) = Wb ∧ W.heap.size = xb) := ⟨hWb.symm, exb.symm⟩
  clear h hs hWb exb Bb Pb Zb ofr olt
  go_enter Try.func24, Try.ntmps24
  go_wp2_with fail
  rw [HW.out.1, HW.out.2]
  go_wp2_with fail
  refine Calls.mono CA.out ?_
  rintro e w2 ⟨rfl, m, rfl⟩
  obtain ⟨W2, hW2⟩ : ∃ W2, W2 = Wb.drewN m := ⟨_, rfl⟩
  have B2 : Below Wb.heap.size Wb W2 := by rw [hW2]; exact bel_drewN (Below.refl _ _) _
  have HB2 : Hid (Below Wb.heap.size Wb W2) := B2
  have c0' := cell_later B2 c0
  have c1' := cell_later B2 c1
  have o0' := cell_later B2 o0
  have o1' := cell_later B2 o1
  have o2' := cell_later B2 o2
  have o3' := cell_later B2 o3
  rw [← hW2]
  clear hW2 B2 c0 c1 o0 o1 o2 o3 o5 CA
  go_wp2_with fail
  refine Calls.mono (FI.out W2 HB2.out) ?_
  rintro e W3 ⟨rfl, B3⟩
  have HB03 : Hid (Below Wb.heap.size Wb W3) := HB2.out.trans (B3.mono HB2.out.size)
  have HB3 : Hid (Below W.heap.size W W3) := HZ.out.2.2.2.1.trans ((HB2.out.trans (B3.mono HB2.out.size)).mono HZ.out.2.2.2.1.size)
  have HZ3 : Hid (Lz W0 W3 hb ob md tur lies N 0 pu T nx (.slice la 0 lc) L) := (HZ.out.1.mono HB2.out).mono B3
  have c0'' := cell_later B3 c0'
  have c1'' := cell_later B3 c1'
  have o0'' := cell_later B3 o0'
  clear B3 c0' c1' o0' o1' o2' o3' FI
  go_wp2_with fail
  go_ret
  exact ⟨rfl, N, 0, T, _, L, HZ3.out, HZ.out.2.2.1, Nat.le_refl _, Nat.le_refl _, fun d _ => by omega, HZ.out.2.2.2.2.trans (Fr.of_below HB03.out HZ.out.1.hp)⟩
set_option maxHeartbeats 2000000 in
theorem some4_some {W0 W : World} {hb ob : Nat} {md : Int} {tur : Bool} {lies : Int} {N n : Nat} {pu : Int} {T : Int → Option (Int × Int)} {nx : Int} {lv : Value} {L : List Th} (h : Lz W0 W hb ob md tur lies N (n + 1) pu T nx lv L) (hs : Syn T L (n + 1)) (hN : N < 999999999) (hn : n < 1000) :
    Calls Try.prog 24 #[.agg #[.pointer (some ⟨hb, 0, none⟩), .pointer (some ⟨ob, 0, none⟩)], .int .i64 4] W fun e w' => e = .returned (.bool true) ∧ Aft W0 W hb ob md tur lies N (n + 1) pu nx w' := by
  obtain ⟨la, lc, e9⟩ := h.slice
  rw [hs.len] at e9
  subst e9
  obtain ⟨Wb, hWb⟩ : ∃ Wb, Wb = W.alloc (.cells #[.pointer (some ⟨hb, 0, none⟩), .pointer (some ⟨ob, 0, none⟩)] 26) := ⟨_, rfl⟩
  obtain ⟨xb, exb⟩ : ∃ xb, xb = W.heap.size := ⟨_, rfl⟩
  have Bb : Below W.heap.size W Wb := by rw [hWb]; exact (Below.refl _ _).alloc (Nat.le_refl _) _
  have Pb : Pr Wb xb hb ob := by rw [hWb, exb]; exact (MapKept.heap_alloc _ _).1
  have Zb := h.mono Bb
  have CA : Hid (Calls Try.prog 21 #[.pointer (some ⟨hb, 0, none⟩)] Wb fun e w' => ∃ (p : Nat) (i k v : Int) (M : Nat), e = .returned (.tuple #[.int .i64 i, .int .i64 k, .int .i64 v, .bool true]) ∧ p < n + 1 ∧ L.getD p th0 = (i, k, v) ∧ (∀ q, q < L.length → (L.getD q th0).1 = i → q = p) ∧ Lz W0 w' hb ob md tur lies M n pu (updT T i none) nx (.slice la (n + 1) lc) L ∧ N ≤ M ∧ (∀ d, n + 1 < 2 ^ d → M ≤ N + (12 * d + 12)) ∧ Fr hb ob W0.heap.size Wb w') := by
    refine (Zb.hp.popMax hN).mono ?_
    rintro e w' ⟨i, k, v, M, rfl, q1, q2, q3, q4, q5, q6⟩
    obtain ⟨p, hp, e1, e2⟩ := hs.found q1
    exact ⟨p, i, k, v, M, rfl, by rw [← hs.len]; exact hp, e1, e2, Zb.step q5 q2, q3, fun d hd => few_pop q4 q3 hd, q5⟩
  have HZ : Hid (Pr Wb xb hb ob ∧ Syn T L (n + 1) ∧ Below W.heap.size W Wb ∧ Fr hb ob W0.heap.size W Wb) := ⟨Pb, hs, Bb, Fr.of_below Bb h.hp⟩
  have HW : Hid (W.alloc (.cells #[.pointer (some ⟨hb, 0, none⟩), .pointer (some ⟨ob, 0, none⟩)] 26) = Wb ∧ W.heap.size = xb) := ⟨hWb.symm, exb.symm⟩
  obtain ⟨c0, c1⟩ := Pb.cells
  clear h hs hWb exb Bb Pb Zb
  go_enter Try.func24, Try.ntmps24
  go_wp2_with fail
  rw [HW.out.1, HW.out.2]
  go_wp2_with fail
  refine Calls.mono CA.out ?_
  rintro e W2 ⟨p, i, k, v, M, rfl, hp, ex, huq, Z2, hM, hfew, F2⟩
  have P2 := HZ.out.1.fr F2
  obtain ⟨c0', c1'⟩ := P2.cells
  obtain ⟨o0, o1, o2, o3, o5, olt, ofr⟩ := Z2.order
  have FI : Hid (Calls Try.prog 48 #[.agg #[.slice la (n + 1) lc, .int .i64 nx, .int .i64 md, .bool tur], .int .i64 i] W2 fun e w' => e = .returned (.int .i64 (p : Int)) ∧ Below W2.heap.size W2 w') := by
    refine (find_any nx md tur i W2 Z2.tr (by rw [HZ.out.2.1.len]; omega)).mono ?_
    rintro e w' ⟨h1 | h1, hB'⟩
    · obtain ⟨q, q1, q2, q3⟩ := h1
      have := huq q q1 q3
      subst this
      exact ⟨q2, hB'⟩
    · exact absurd (by rw [ex]) (h1.2 p (by rw [HZ.out.2.1.len]; exact hp))
  have H2 : Hid (Lz W0 W2 hb ob md tur lies M n pu (updT T i none) nx (.slice la (n + 1) lc) L ∧ Pr W2 xb hb ob ∧ L.getD p th0 = (i, k, v) ∧ N ≤ M ∧ (∀ d, n + 1 < 2 ^ d → M ≤ N + (12 * d + 12)) ∧ Fr hb ob W0.heap.size W W2) := ⟨Z2, P2, ex, hM, hfew, HZ.out.2.2.2.trans F2⟩
  clear Z2 P2 ex huq hM hfew F2 c0 c1 CA olt ofr
  go_wp2_with fail
  refine Calls.mono FI.out ?_
  rintro e W3 ⟨rfl, B3⟩
  have Z3 := H2.out.1.mono B3
  have P3 := H2.out.2.1.below B3
  obtain ⟨y0, y1⟩ := P3.cells
  obtain ⟨r0, r1, r2, r3, r5, rlt, rfr⟩ := Z3.order
  obtain ⟨a9, c9, e9, hat, _⟩ := Z3.tr.sl
  rw [HZ.out.2.1.len] at e9 hat
  injection e9 with e91 e92 e93
  subst e91
  obtain ⟨g, rfl, _, _, hc⟩ := hat (by omega)
  obtain ⟨k0, k1, k2⟩ := hc p hp
  rw [H2.out.2.2.1] at k0 k1 k2
  have H3 : Hid (Lz W0 W3 hb ob md tur lies M n pu (updT T i none) nx (.slice (some ⟨g, 0, none⟩) (n + 1) lc) L ∧ Pr W3 xb hb ob ∧ Fr hb ob W0.heap.size W W3) := ⟨Z3, P3, H2.out.2.2.2.2.2.trans (Fr.of_below B3 H2.out.1.hp)⟩
  have hp' : (p : Int) < ((n + 1 : Nat) : Int) := by omega
  have hlt : decide ((p : Int) < 0) = false := decide_eq_false (by omega)
  clear e92 e93 hat hc B3 Z3 P3 c0' c1' o0 o1 o2 o3 o5 FI
  have OU : Hid (∀ W', W' = W3 ∨ W' = W3.drew → Calls Try.prog 49 #[.agg #[.slice (some ⟨g, 0, none⟩) (n + 1) lc, .int .i64 nx, .int .i64 md, .bool tur], .int .i64 (p : Int)] W' fun e w' => ∃ a' m' c', e = .returned (.agg #[.slice a' m' c', .int .i64 nx, .int .i64 md, .bool tur]) ∧ Tr W0.heap.size w' (.slice a' m' c') (L.eraseIdx p) ∧ Lz W0 w' hb ob md tur lies M n pu (updT T i none) nx (.slice (some ⟨g, 0, none⟩) (n + 1) lc) L ∧ Pr w' xb hb ob ∧ Fr hb ob W0.heap.size W w') := fun W' hW' => by
    have B9 : Below W3.heap.size W3 W' := by rcases hW' with rfl | rfl; exact Below.refl _ _; exact bel_drew (Below.refl _ _)
    have Z9 := H3.out.1.mono B9
    refine (refOut_any nx md tur p W' Z9.tr (by rw [HZ.out.2.1.len]; omega) (by rw [HZ.out.2.1.len]; omega)).mono ?_
    rintro e w' ⟨lv', rfl, t1, t2⟩
    obtain ⟨a', c', e', _⟩ := t1.sl
    subst e'
    exact ⟨_, _, _, rfl, t1.weak Z9.hp.le, Z9.mono t2, (H3.out.2.1.below B9).below t2, (H3.out.2.2.trans (Fr.of_below B9 H3.out.1.hp)).trans (Fr.of_below t2 Z9.hp)⟩
  have nxo : ¬ xb = ob := fun e => by
    have e1 := H3.out.2.1
    unfold Pr at e1
    rw [e, H3.out.1.hp.od.at'] at e1
    cases e1
  have nxo' : ¬ ob = xb := fun e => nxo e.symm
  go_wp2_with fail
  have FIN : Hid (∀ (w8 : World) (a' : Option Addr) (m' c' : Nat), (Tr W0.heap.size w8 (.slice a' m' c') (L.eraseIdx p) ∧ Lz W0 w8 hb ob md tur lies M n pu (updT T i none) nx (.slice (some ⟨g, 0, none⟩) (n + 1) lc) L ∧ Pr w8 xb hb ob ∧ Fr hb ob W0.heap.size W w8) → ∀ W9, Below (((((w8.setCell ⟨ob, 0, none⟩ (.slice a' m' c')).setCell ⟨ob, 1, none⟩ (.int .i64 nx)).setCell ⟨ob, 2, none⟩ (.int .i64 md)).setCell ⟨ob, 3, none⟩ (.bool tur)).heap.size) ((((w8.setCell ⟨ob, 0, none⟩ (.slice a' m' c')).setCell ⟨ob, 1, none⟩ (.int .i64 nx)).setCell ⟨ob, 2, none⟩ (.int .i64 md)).setCell ⟨ob, 3, none⟩ (.bool tur)) W9 → Aft W0 W hb ob md tur lies N (n + 1) pu nx W9) := by
    rintro w8 a' m' c' ⟨t1, Z8, P8, F8⟩ W9 hB9
    obtain ⟨Z9, F9⟩ := Z8.store (W' := _) ⟨_, _, _, rfl⟩ t1 rfl
    have Sy := HZ.out.2.1.out (p := p) (by rw [HZ.out.2.1.len]; omega)
    rw [H2.out.2.2.1] at Sy
    exact ⟨M, n, _, _, _, Z9.mono hB9, Sy, by omega, H2.out.2.2.2.1, H2.out.2.2.2.2.1, (F8.trans F9).trans (Fr.of_below hB9 Z9.hp)⟩
  go_region_with (first
      | (go_at_call 49; refine Calls.mono (OU.out _ (by first | exact .inl rfl | exact .inr rfl)) ?_; rintro e w8 ⟨a', m', c', rfl, t1, Z8, P8, F8⟩; obtain ⟨u0, u1⟩ := P8.cells; obtain ⟨s0, s1, s2, s3, s5, slt, sfr⟩ := Z8.order; have HM : Hid _ := (⟨t1, Z8, P8, F8⟩ : _ ∧ _ ∧ _ ∧ _); clear t1 Z8 P8 F8))
  all_goals (go_wp2_with fail; go_ret; exact ⟨rfl, FIN.out _ _ _ _ HM.out _ (by first | exact Below.refl _ _ | exact bel_drew (Below.refl _ _))⟩)
end Go.Proofs.Ytjnfcihichaonaa
