/- Contracts of the program's functions, part 42: own work, joined in build order. -/
import Derived.Test.YtjnfcihichaonaaJ41
namespace Go.Proofs.Ytjnfcihichaonaa
open Go.RowKit
set_option maxRecDepth 100000
set_option linter.unusedVariables false
theorem end1_any {W0 W : World} {hb ob : Nat} {md : Int} {tur : Bool} {N n : Nat} {T : Int → Option (Int × Int)} {nx : Int} {lv : Value} {L : List Th} (h : Lz W0 W hb ob md tur 0 N n nx T nx lv L) (hs : Syn T L n) (hN : N < 999999999) (hn : n ≤ 1000) :
    Calls Try.prog 29 #[.agg #[.pointer (some ⟨hb, 0, none⟩), .pointer (some ⟨ob, 0, none⟩)], .int .i64 1] W fun e w' => e = .returned (.bool true) ∧ Aft W0 W hb ob md tur 0 N n nx nx w' := by
  rcases n with _ | n
  · exact end1_none h hs hN
  · exact end1_some h hs hN (by omega)
theorem end2_any {W0 W : World} {hb ob : Nat} {md : Int} {tur : Bool} {N n : Nat} {T : Int → Option (Int × Int)} {nx : Int} {lv : Value} {L : List Th} (h : Lz W0 W hb ob md tur 0 N n nx T nx lv L) (hs : Syn T L n) (hN : N < 999999999) (hn : n ≤ 1000) :
    Calls Try.prog 29 #[.agg #[.pointer (some ⟨hb, 0, none⟩), .pointer (some ⟨ob, 0, none⟩)], .int .i64 2] W fun e w' => e = .returned (.bool true) ∧ Aft W0 W hb ob md tur 0 N n nx nx w' := by
  rcases n with _ | n
  · exact end2_none h hs hN
  · exact end2_some h hs hN (by omega)
theorem end3_any {W0 W : World} {hb ob : Nat} {md : Int} {tur : Bool} {N n : Nat} {T : Int → Option (Int × Int)} {nx : Int} {lv : Value} {L : List Th} (h : Lz W0 W hb ob md tur 0 N n nx T nx lv L) (hs : Syn T L n) (hN : N < 999999999) (hn : n ≤ 1000) :
    Calls Try.prog 29 #[.agg #[.pointer (some ⟨hb, 0, none⟩), .pointer (some ⟨ob, 0, none⟩)], .int .i64 3] W fun e w' => e = .returned (.bool true) ∧ Aft W0 W hb ob md tur 0 N n nx nx w' := by
  rcases n with _ | n
  · exact end3_none h hs hN
  · exact end3_some h hs hN (by omega)
theorem end4_any {W0 W : World} {hb ob : Nat} {md : Int} {tur : Bool} {N n : Nat} {T : Int → Option (Int × Int)} {nx : Int} {lv : Value} {L : List Th} (h : Lz W0 W hb ob md tur 0 N n nx T nx lv L) (hs : Syn T L n) (hN : N < 999999999) (hn : n ≤ 1000) :
    Calls Try.prog 29 #[.agg #[.pointer (some ⟨hb, 0, none⟩), .pointer (some ⟨ob, 0, none⟩)], .int .i64 4] W fun e w' => e = .returned (.bool true) ∧ Aft W0 W hb ob md tur 0 N n nx nx w' := by
  rcases n with _ | n
  · exact end4_none h hs hN
  · exact end4_some h hs hN (by omega)
theorem digs_le : ∀ n, digs n ≤ n := by
  intro n
  induction n using Nat.strongRecOn with
  | _ n ih =>
    rw [digs]
    split
    · omega
    · have := ih (n / 2) (by omega)
      omega
theorem one5_same {W0 W : World} {hb ob : Nat} {md : Int} {tur : Bool} {N n : Nat} {T : Int → Option (Int × Int)} {nx : Int} {lv : Value} {L : List Th} (oj K V It : Int) (h : Lz W0 W hb ob md tur 0 N n nx T nx lv L) (hs : Syn T L n) (hN : N < 999999999) (hn : n < 1000) (hx : nx ≤ 100000) (hK : -9223372036854775808 ≤ K ∧ K ≤ 9223372036854775807) (hI1 : -9223372036854775808 ≤ It) (hI2 : It ≤ 9223372036854775807) :
    Calls Try.prog 25 #[.agg #[.pointer (some ⟨hb, 0, none⟩), .pointer (some ⟨ob, 0, none⟩)], .agg #[.int .i64 oj, .int .i64 5, .int .i64 K, .int .i64 V, .int .i64 It]] W fun e w' => e = .returned (.bool true) ∧ ∃ T' lv' L', Lz W0 w' hb ob md tur 0 N n nx T' nx lv' L' ∧ Syn T' L' n ∧ Fr hb ob W0.heap.size W w' := by
  rcases Int.lt_or_le It 0 with c | c
  · exact one5_neg oj K V It h hs hN hn hx hK hI1 hI2 c
  · have h0 := h.hp.pus.1
    rcases Int.lt_or_le 0 nx with c2 | c2
    · cases e : T (It.tmod (nx + 2)) with
      | none => exact one5_pos oj K V It h hs hN hn hx hK hI1 hI2 c c2 e
      | some p => exact one5_hit oj K V It h hs hN hn hx hK hI1 hI2 c c2 (k := p.1) (v := p.2) e
    · exact one5_zero oj K V It h hs hN hn hx hK hI1 hI2 c (by omega)
/-- Behind a call. -/
def Plq (W0 W : World) (hb ob : Nat) (md : Int) (tur : Bool) (c : Nat) (w' : World) : Prop :=
  ∃ N n nx T lv L, Lz W0 w' hb ob md tur 0 N n nx T nx lv L ∧ Syn T L n ∧ n ≤ c ∧ nx ≤ (c : Int) ∧ Fr hb ob W0.heap.size W w'
/-- .. within it. -/
def Plr (W0 W W5 : World) (xb pb hb ob : Nat) (md : Int) (tur : Bool) (c M N n : Nat) (la : Option Addr) (lc : Nat) (oj kd K V It : Int) : Prop :=
  ∃ nx T L, Lz W0 W5 hb ob md tur 0 N n nx T nx (.slice la n lc) L ∧ Syn T L n ∧ n ≤ c ∧ nx ≤ (c : Int) ∧ N ≤ M ∧ Pr W5 xb hb ob ∧ W5.rowIs pb 32 5 (opF oj kd K V It) ∧ Fr hb ob W0.heap.size W W5
theorem Plr.cells {W0 W W5 : World} {xb pb hb ob : Nat} {md : Int} {tur : Bool} {c M N n : Nat} {la : Option Addr} {lc : Nat} {oj kd K V It : Int} (h : Plr W0 W W5 xb pb hb ob md tur c M N n la lc oj kd K V It) : (W5.cell? ⟨xb, 0, none⟩ = some (.pointer (some ⟨hb, 0, none⟩)) ∧ W5.cell? ⟨xb, 1, none⟩ = some (.pointer (some ⟨ob, 0, none⟩)) ∧ W5.cell? ⟨ob, 0, none⟩ = some (.slice la n lc) ∧ W5.cell? ⟨ob, 5, none⟩ = some (.int .i64 (N : Int)) ∧ W5.cell? ⟨pb, 1, none⟩ = some (.int .i64 kd) ∧ N ≤ M) ∧ (∀ m, Calls Try.prog 17 #[.pointer (some ⟨hb, 0, none⟩)] (W5.drewN m) fun e w' => e = .returned (.int .i64 (n : Int)) ∧ ∃ q, w' = (W5.drewN m).drewN q) ∧ ∀ m, Plq W0 W hb ob md tur c (W5.drewN m) := by
  obtain ⟨nx, T, L, h1, h2, h3, h4, h5, h6, h7, h8⟩ := h
  obtain ⟨c0, c1⟩ := h6.cells
  obtain ⟨o0, _, _, _, o5, _⟩ := h1.order
  refine ⟨⟨c0, c1, o0, o5, (op_cells h7).2.1, h5⟩, fun m => ?_, fun m => ?_⟩
  · exact ((h1.hp.keep (W' := W5.drewN m) (bel_drewN (Below.refl _ _) _)).len).mono fun e w' ⟨e1, e2⟩ => ⟨e1, 0, by rw [e2]; rfl⟩
  · have B : Below W5.heap.size W5 (W5.drewN m) := bel_drewN (Below.refl _ _) _
    exact ⟨N, n, nx, T, _, L, h1.mono B, h2, h3, h4, h8.trans (Fr.of_below B h1.hp)⟩
theorem aft_plr {W0 W W3 w' : World} {xb pb hb ob : Nat} {md : Int} {tur : Bool} {c n : Nat} {nx : Int} {oj kd K V It : Int} (hp : Pr W3 xb hb ob) (ho : W3.rowIs pb 32 5 (opF oj kd K V It)) (hF : Fr hb ob W0.heap.size W W3) (hn : n ≤ c) (hx : nx ≤ (c : Int)) (h : Aft W0 W3 hb ob md tur 0 0 n nx nx w') : ∃ N' n' la lc, Plr W0 W w' xb pb hb ob md tur (c + 1) (12 * digs n + 16) N' n' la lc oj kd K V It := by
  obtain ⟨N', n', T', lv', L', h1, h2, h3, h4, h5, h6⟩ := h
  obtain ⟨la, lc, e⟩ := h1.slice
  rw [h2.len] at e
  subst e
  have := h5 (digs n) (digs_lt n)
  exact ⟨N', n', la, lc, nx, T', L', h1, h2, by omega, by omega, by omega, hp.fr h6, op_fr ho h6, hF.trans h6⟩
set_option maxHeartbeats 8000000 in
theorem plays_any {W0 W : World} {hb ob : Nat} {md : Int} {tur : Bool} {N n : Nat} {T : Int → Option (Int × Int)} {nx : Int} {lv : Value} {L : List Th} {c : Nat} (oj kd K V It : Int) (h : Lz W0 W hb ob md tur 0 N n nx T nx lv L) (hs : Syn T L n) (hnc : n ≤ c) (hxc : nx ≤ (c : Int)) (hc : c ≤ 400) (rK : -9223372036854775808 ≤ K ∧ K ≤ 9223372036854775807) (rI : -9223372036854775808 ≤ It ∧ It ≤ 9223372036854775807) :
    Calls Try.prog 11 #[.agg #[.pointer (some ⟨hb, 0, none⟩), .pointer (some ⟨ob, 0, none⟩)], .agg #[.int .i64 oj, .int .i64 kd, .int .i64 K, .int .i64 V, .int .i64 It]] W fun e w' => e = .returned (.bool true) ∧ Plq W0 W hb ob md tur (c + 1) w' := by
  obtain ⟨la, lc, e9⟩ := h.slice
  rw [hs.len] at e9
  subst e9
  obtain ⟨q, eq, hq⟩ := mask7 kd
  obtain ⟨W1, hW1⟩ : ∃ W1, W1 = (W.alloc (.cells #[.pointer (some ⟨hb, 0, none⟩), .pointer (some ⟨ob, 0, none⟩)] 26)).alloc (.cells #[.int .i64 oj, .int .i64 kd, .int .i64 K, .int .i64 V, .int .i64 It] 32) := ⟨_, rfl⟩
  obtain ⟨xb, exb⟩ : ∃ xb, xb = W.heap.size := ⟨_, rfl⟩
  have B1 : Below W.heap.size W W1 := by rw [hW1]; exact ((Below.refl _ _).alloc (Nat.le_refl _) _).alloc (by simp) _
  have P1 : Pr W1 xb hb ob := by rw [hW1, exb]; exact (Below.heap_alloc _ _ _ (by simp)).trans (MapKept.heap_alloc _ _).1
  have O1 : W1.rowIs (xb + 1) 32 5 (opF oj kd K V It) := by
    have := op_box (W.alloc (.cells #[.pointer (some ⟨hb, 0, none⟩), .pointer (some ⟨ob, 0, none⟩)] 26)) oj kd K V It
    rw [hW1, exb]
    simpa using this
  have Z1 := h.mono B1
  obtain ⟨pb, epb⟩ : ∃ pb, pb = xb + 1 := ⟨_, rfl⟩
  rw [← epb] at O1
  obtain ⟨c0, c1⟩ := P1.cells
  obtain ⟨p0, p1, p2, p3, p4⟩ := op_cells O1
  obtain ⟨o0, o1, o2, o3, o5, olt, ofr⟩ := Z1.order
  obtain ⟨W2, hW2⟩ : ∃ W2, W2 = W1.setCell ⟨ob, 5, none⟩ (.int .i64 0) := ⟨_, rfl⟩
  have Z2 : Lz W0 W2 hb ob md tur 0 0 n nx T nx (.slice la n lc) L := by
    have h9 := Z1.hp.zero 0
    have e0 : (((0 : Nat) : Int)) = 0 := rfl
    rw [e0, ← hW2] at h9
    refine ⟨h9, Z1.tr.kept fun k hk => ?_, by rw [hW2]; exact Z1.bel.setCell Z1.ge _, Z1.ge⟩
    obtain ⟨_, cs, e⟩ := Z1.tr.own hk
    rw [hW2]
    exact Below.heap_setCell _ _ _ k (ne_of_type e Z1.hp.od.at' (by decide))
  have P2 : Pr W2 xb hb ob := by rw [hW2]; exact (Below.heap_setCell _ _ _ xb (ne_of_type P1 Z1.hp.od.at' (by decide))).trans P1
  have O2 : W2.rowIs pb 32 5 (opF oj kd K V It) := by
    obtain ⟨cs, e, r⟩ := O1
    exact ⟨cs, by rw [hW2]; exact (Below.heap_setCell _ _ _ pb (ne_of_type e Z1.hp.od.at' (by decide))).trans e, r⟩
  have F2 : Fr hb ob W0.heap.size W W2 := by
    have kp : ∀ k, k ≠ ob → W2.heap[k]? = W1.heap[k]? := fun k hk => by rw [hW2]; exact Below.heap_setCell _ _ _ k hk
    refine (Fr.of_below B1 h.hp).trans ⟨by rw [hW2]; exact (Below.refl _ _).setCell Z1.ge _, fun k o e ht => ?_, fun k _ hn => kp k fun e => hn (.inr (.inl e)), fun k hk => .inl ((Z1.hp.bk_keep (fun k o e n1 _ => kp k fun e2 => ?_) k).1 hk)⟩
    rotate_left
    · rw [e2, Z1.hp.od.at'] at e
      cases e
      exact n1 _ rfl
    rw [hW2]
    refine (Below.heap_setCell _ _ _ k fun e2 => ?_).trans e
    have e3 : k = ob := e2
    rw [e3, Z1.hp.od.at'] at e
    cases e
    obtain ⟨cs, t, z, e, _, t2, _⟩ := ht
    cases e
    exact t2 rfl
  have hpb : W0.heap.size ≤ pb := by have := h.hp.le; omega
  have HW : Hid ((W.alloc (.cells #[.pointer (some ⟨hb, 0, none⟩), .pointer (some ⟨ob, 0, none⟩)] 26)).alloc (.cells #[.int .i64 oj, .int .i64 kd, .int .i64 K, .int .i64 V, .int .i64 It] 32) = W1 ∧ W.heap.size = xb ∧ xb + 1 = pb ∧ W1.setCell ⟨ob, 5, none⟩ (.int .i64 0) = W2) := ⟨hW1.symm, exb.symm, epb.symm, hW2.symm⟩
  have H2 : Hid (Lz W0 W2 hb ob md tur 0 0 n nx T nx (.slice la n lc) L ∧ Pr W2 xb hb ob ∧ W2.rowIs pb 32 5 (opF oj kd K V It) ∧ Syn T L n ∧ Fr hb ob W0.heap.size W W2) := ⟨Z2, P2, O2, hs, F2⟩
  obtain ⟨e0, e1⟩ := P2.cells
  obtain ⟨s0, s1, s2, s3, s4⟩ := op_cells O2
  obtain ⟨y0, y1, y2, y3, y5, ylt, yfr⟩ := Z2.order
  have f1 := O2.frozen 1
  clear h hs hW1 exb B1 P1 O1 Z1 hW2 Z2 P2 O2 F2 epb
  go_enter Try.func11, Try.ntmps11
  go_upto_region 1 with fail
  rw [HW.out.1, HW.out.2.1, HW.out.2.2.1]
  go_upto_region 3 with fail
  rw [HW.out.2.2.2]
  clear c0 c1 p0 p1 p2 p3 p4 o0 o1 o2 o3 o5 olt ofr
  have hcase : q = 0 ∨ q = 1 ∨ q = 2 ∨ q = 3 ∨ q = 4 ∨ q = 5 ∨ q = 6 ∨ q = 7 := by omega
  rcases hcase with rfl | rfl | rfl | rfl | rfl | rfl | rfl | rfl
  · have eq' : bits .and .i64 kd 7 = 0 := eq
    clear eq hq
    have hx0 := H2.out.1.hp.pus.1
    have RP : Hid (Calls Try.prog 23 #[.agg #[.slice la n lc, .int .i64 nx, .int .i64 md, .bool tur], .int .i64 K, .int .i64 V] W2.drew fun e w' => ∃ a' m' c', e = .returned (.agg #[.slice a' m' c', .int .i64 (nx + 1), .int .i64 md, .bool tur]) ∧ Hid (Tr W0.heap.size w' (.slice a' m' c') (L ++ [(nx + 1, K, V)]) ∧ Lz W0 w' hb ob md tur 0 0 n nx T nx (.slice la n lc) L ∧ Pr w' xb hb ob ∧ w'.rowIs pb 32 5 (opF oj kd K V It) ∧ Fr hb ob W0.heap.size W w') ∧ w'.cell? ⟨xb, 1, none⟩ = some (.pointer (some ⟨ob, 0, none⟩)) ∧ w'.cell? ⟨ob, 0, none⟩ = some (.slice la n lc) ∧ w'.cell? ⟨ob, 1, none⟩ = some (.int .i64 nx) ∧ w'.cell? ⟨ob, 2, none⟩ = some (.int .i64 md) ∧ w'.cell? ⟨ob, 3, none⟩ = some (.bool tur) ∧ (∀ i, w'.frozen? ⟨ob, i, none⟩ = false) ∧ w'.cell? ⟨pb, 2, none⟩ = some (.int .i64 K) ∧ w'.cell? ⟨pb, 3, none⟩ = some (.int .i64 V)) := by
      have B9 : Below W2.heap.size W2 W2.drew := bel_drew (Below.refl _ _)
      have Z9 := H2.out.1.mono B9
      refine (refPush_any nx md tur K V W2.drew Z9.tr (by rw [H2.out.2.2.2.1.len]; omega) hx0 (by omega)).mono ?_
      rintro e w' ⟨lv', rfl, t1, t2⟩
      obtain ⟨a', c', e', _⟩ := t1.sl
      subst e'
      have Z10 := Z9.mono t2
      have F10 := (Fr.of_below B9 H2.out.1.hp).trans (Fr.of_below t2 Z9.hp)
      have P10 := H2.out.2.1.fr F10
      have O10 := op_fr H2.out.2.2.1 F10
      obtain ⟨r0, r1, r2, r3, r5, rlt, rfr⟩ := Z10.order
      exact ⟨_, _, _, rfl, ⟨t1.weak Z9.hp.le, Z10, P10, O10, H2.out.2.2.2.2.trans F10⟩, P10.cells.2, r0, r1, r2, r3, rfr, (op_cells O10).2.2.1, (op_cells O10).2.2.2.1⟩
    have nxo : ¬ xb = ob := fun e => by
      have e1 := H2.out.2.1
      unfold Pr at e1
      rw [e, H2.out.1.hp.od.at'] at e1
      cases e1
    have nxo' : ¬ ob = xb := fun e => nxo e.symm
    have npo : ¬ pb = ob := by
      obtain ⟨cs, e, _⟩ := H2.out.2.2.1
      exact ne_of_type e H2.out.1.hp.od.at' (by decide)
    have npo' : ¬ ob = pb := fun e => npo e.symm
    go_wp2_with fail
    rename_i hGo
    have HGO : Hid _ := hGo
    clear hGo
    refine wp_region_held_drew (S := (fun w9 => w9.cell? ⟨xb, 1, none⟩ = some (.pointer (some ⟨ob, 0, none⟩)) ∧ w9.cell? ⟨pb, 2, none⟩ = some (.int .i64 K) ∧ w9.cell? ⟨pb, 3, none⟩ = some (.int .i64 V))) (by kernel_rfl) ⟨e1, s2, s3⟩ (fun hHeld => ?_)
    refine wpAnyH_take (i := 0) (v := .pointer (some ⟨xb, 1, none⟩)) rfl (by kernel_rfl) (by kernel_rfl) (by kernel_rfl) (fun _ _ _ h => h) (Or.inl ⟨by rfl, ?_⟩) (by assumption) ?_
    · intro w hSw
      obtain ⟨g1, g2, g3⟩ := hSw
      go_simp
    refine wpAnyH_take (i := 1) (v := .pointer (some ⟨ob, 0, none⟩)) rfl (by kernel_rfl) (by kernel_rfl) (by kernel_rfl) (fun _ _ _ h => h) (Or.inl ⟨by rfl, ?_⟩) (by assumption) ?_
    · intro w hSw
      obtain ⟨g1, g2, g3⟩ := hSw
      go_simp
    refine wpAnyH_take (i := 2) (v := .pointer (some ⟨xb, 1, none⟩)) rfl (by kernel_rfl) (by kernel_rfl) (by kernel_rfl) (fun _ _ _ h => h) (Or.inl ⟨by rfl, ?_⟩) (by assumption) ?_
    · intro w hSw
      obtain ⟨g1, g2, g3⟩ := hSw
      go_simp
    refine wpAnyH_take (i := 3) (v := .pointer (some ⟨ob, 0, none⟩)) rfl (by kernel_rfl) (by kernel_rfl) (by kernel_rfl) (fun _ _ _ h => h) (Or.inl ⟨by rfl, ?_⟩) (by assumption) ?_
    · intro w hSw
      obtain ⟨g1, g2, g3⟩ := hSw
      go_simp
    refine wpAnyH_take (i := 4) (v := .pointer (some ⟨ob, 0, none⟩)) rfl (by kernel_rfl) (by kernel_rfl) (by kernel_rfl) (fun _ _ _ h => h) (Or.inl ⟨by rfl, ?_⟩) (by assumption) ?_
    · intro w hSw
      obtain ⟨g1, g2, g3⟩ := hSw
      go_simp
    refine wpAnyH_take (i := 5) (v := .pointer (some ⟨ob, 0, none⟩)) rfl (by kernel_rfl) (by kernel_rfl) (by kernel_rfl) (fun _ _ _ h => h) (Or.inl ⟨by rfl, ?_⟩) (by assumption) ?_
    · intro w hSw
      obtain ⟨g1, g2, g3⟩ := hSw
      go_simp
    refine wpAnyH_take (i := 7) (v := .pointer (some ⟨pb, 2, none⟩)) rfl (by kernel_rfl) (by kernel_rfl) (by kernel_rfl) (fun _ _ _ h => h) (Or.inl ⟨by rfl, ?_⟩) (by assumption) ?_
    · intro w hSw
      obtain ⟨g1, g2, g3⟩ := hSw
      go_simp
    refine wpAnyH_take (i := 8) (v := .int .i64 K) rfl (by kernel_rfl) (by kernel_rfl) (by kernel_rfl) (fun _ _ _ h => h) (Or.inl ⟨by rfl, ?_⟩) (by assumption) ?_
    · intro w hSw
      obtain ⟨g1, g2, g3⟩ := hSw
      go_simp
    refine wpAnyH_take (i := 9) (v := .pointer (some ⟨pb, 3, none⟩)) rfl (by kernel_rfl) (by kernel_rfl) (by kernel_rfl) (fun _ _ _ h => h) (Or.inl ⟨by rfl, ?_⟩) (by assumption) ?_
    · intro w hSw
      obtain ⟨g1, g2, g3⟩ := hSw
      go_simp
    refine wpAnyH_take (i := 10) (v := .int .i64 V) rfl (by kernel_rfl) (by kernel_rfl) (by kernel_rfl) (fun _ _ _ h => h) (Or.inl ⟨by rfl, ?_⟩) (by assumption) ?_
    · intro w hSw
      obtain ⟨g1, g2, g3⟩ := hSw
      go_simp
    refine wpAnyH_ready (rs := [6]) (by kernel_rfl) (by simp) ?_
    refine AllReadyH.cons rfl (fun K9 hK9 => ?_) AllReadyH.nil
    go_simp
    refine hK9.out _ _ hHeld (fun hH2 => ?_)
    clear hK9 K9 hH2
    refine wpAnyH_ready (rs := [11]) (by kernel_rfl) (by simp) ?_
    refine AllReadyH.cons rfl (fun K9 hK9 => ?_) AllReadyH.nil
    go_simp
    refine Calls.mono RP.out ?_
    rintro e w8 ⟨a', m', c', rfl, HM, u1, r0, r1, r2, r3, rfr, v2, v3⟩
    refine hK9.out _ _ ⟨u1, v2, v3⟩ (fun hHeld2 => ?_)
    clear hK9 K9 hHeld
    refine wpAnyH_take (i := 12) (v := .pointer (some ⟨ob, 0, none⟩)) rfl (by kernel_rfl) (by kernel_rfl) (by kernel_rfl) (fun _ _ _ h => h) (Or.inl ⟨by rfl, ?_⟩) (by assumption) ?_
    · intro w hSw
      obtain ⟨g1, g2, g3⟩ := hSw
      go_simp
    refine wpAnyH_take (i := 13) (v := .pointer (some ⟨ob, 0, none⟩)) rfl (by kernel_rfl) (by kernel_rfl) (by kernel_rfl) (fun _ _ _ h => h) (Or.inl ⟨by rfl, ?_⟩) (by assumption) ?_
    · intro w hSw
      obtain ⟨g1, g2, g3⟩ := hSw
      go_simp
    refine wpAnyH_ready (rs := [14]) (by kernel_rfl) (by simp) ?_
    refine AllReadyH.cons rfl (fun K9 hK9 => ?_) AllReadyH.nil
    go_simp
    refine hK9.out _ _ (by simp [go_sem, *]) (fun hH3 => ?_)
    clear hK9 K9 hH3
    refine wpAnyH_done (by kernel_rfl) ?_ _
    refine HGO.out _ _ ?_
    obtain ⟨wc, ewc⟩ : ∃ wc, wc = ((((w8.setCell ⟨ob, 0, none⟩ (.slice a' m' c')).setCell ⟨ob, 1, none⟩ (.int .i64 (nx + 1))).setCell ⟨ob, 2, none⟩ (.int .i64 md)).setCell ⟨ob, 3, none⟩ (.bool tur)) := ⟨_, rfl⟩
    have HC : Hid (Lz W0 wc hb ob md tur 0 0 n nx T (nx + 1) (.slice a' m' c') (L ++ [(nx + 1, K, V)]) ∧ Pr wc xb hb ob ∧ wc.rowIs pb 32 5 (opF oj kd K V It) ∧ Fr hb ob W0.heap.size W wc) := by
      obtain ⟨t1, Z8, P8, Q8, F8⟩ := HM.out
      obtain ⟨Z9, F9⟩ := Z8.store (W' := _) ⟨_, _, _, rfl⟩ t1 ewc
      exact ⟨Z9, P8.fr F9, op_fr Q8 F9, F8.trans F9⟩
    rw [← ewc]
    clear ewc HM HGO hHeld2 u1 r0 r1 r2 r3 rfr v2 v3
    have hT : T (nx + 1) = none := HC.out.1.nobody (by omega)
    have PU : Hid (∀ W', (W' = wc ∨ W' = wc.drew) → Calls Try.prog 13 #[.pointer (some ⟨hb, 0, none⟩), .int .i64 K, .int .i64 V] W' fun e w' => e = .returned (.int .i64 (nx + 1)) ∧ Hid (∃ N' n' la lc, Plr W0 W w' xb pb hb ob md tur (c + 1) (12 * digs n + 16) N' n' la lc oj kd K V It) ∧ w'.cell? ⟨xb, 0, none⟩ = some (.pointer (some ⟨hb, 0, none⟩)) ∧ w'.cell? ⟨xb, 1, none⟩ = some (.pointer (some ⟨ob, 0, none⟩)) ∧ w'.cell? ⟨ob, 1, none⟩ = some (.int .i64 (nx + 1)) ∧ w'.cell? ⟨pb, 2, none⟩ = some (.int .i64 K) ∧ w'.cell? ⟨pb, 3, none⟩ = some (.int .i64 V)) := fun W' hW' => by
      have B9 : Below wc.heap.size wc W' := by rcases hW' with rfl | rfl; exact Below.refl _ _; exact bel_drew (Below.refl _ _)
      have Z9 := HC.out.1.mono B9
      refine (Z9.hp.push K V (by omega) (by omega) (by omega) rK.1 rK.2).mono ?_
      rintro e w' ⟨rfl, M, q1, q2, q3, q4⟩
      have Z10 := Z9.step q4 q1
      have F10 := (Fr.of_below B9 HC.out.1.hp).trans q4
      have P10 := HC.out.2.1.fr F10
      have O10 := op_fr HC.out.2.2.1 F10
      have hl := (H2.out.2.2.2.1.push K V hT).len
      have hM := few_pushed (M := M) (n := n) (by simpa using q3) (digs_lt n)
      obtain ⟨la3, lc3, e3⟩ := Z10.slice
      rw [hl] at e3
      rw [e3] at Z10
      exact ⟨rfl, ⟨M, n + 1, la3, lc3, nx + 1, _, _, Z10, H2.out.2.2.2.1.push K V hT, by omega, by omega, by omega, P10, O10, HC.out.2.2.2.trans F10⟩, P10.cells.1, P10.cells.2, Z10.order.2.1, (op_cells O10).2.2.1, (op_cells O10).2.2.2.1⟩
    obtain ⟨z0, z1⟩ := HC.out.2.1.cells
    obtain ⟨x0, x1, x2, x3, x4⟩ := op_cells HC.out.2.2.1
    have zz := HC.out.1.order.2.1
    clear HC hT RP H2 e0 e1 s0 s1 s2 s3 s4 y0 y1 y2 y3 y5 ylt yfr f1
    go_wp2_with fail
    go_region_held3 (fun w9 => w9.cell? ⟨xb, 0, none⟩ = some (.pointer (some ⟨hb, 0, none⟩)) ∧ w9.cell? ⟨xb, 1, none⟩ = some (.pointer (some ⟨ob, 0, none⟩)) ∧ w9.cell? ⟨ob, 1, none⟩ = some (.int .i64 (nx + 1)) ∧ w9.cell? ⟨pb, 2, none⟩ = some (.int .i64 K) ∧ w9.cell? ⟨pb, 3, none⟩ = some (.int .i64 V)) (first | (simp [go_sem, *]; done) | (trace_state; fail))
      (first
        | (go_at_call 13; refine Calls.mono (PU.out _ ?hb) ?_; (case hb => first | exact .inl rfl | exact .inr rfl); rintro e W5 ⟨rfl, hR', v0, v1, v2, v3, v4⟩))
    have hR := hR'.out
    clear hR' v0 v1 v2 v3 v4 z0 z1 x0 x1 x2 x3 x4 zz PU
    obtain ⟨N', n', la', lc', hL⟩ := hR
    obtain ⟨⟨t0, t1, t2, t3, t4, hfew⟩, LQ', HP'⟩ := hL.cells
    have LQ : Hid _ := LQ'
    have HP : Hid _ := HP'
    obtain ⟨A, eA⟩ : ∃ A : Int, A = ((12 * digs n + 12 : Nat) : Int) := ⟨_, rfl⟩
    have hle : decide ((N' : Int) ≤ A + 4) = true := decide_eq_true (by omega)
    have wA : IntKind.i64.wrap (A + 4) = A + 4 := by rw [IntKind.wrap_i64]; have := digs_le n; omega
    have AQ : Hid (Calls Try.prog 26 #[.int .i64 (n : Int)] W5 fun e w' => e = .returned (.int .i64 A) ∧ w' = W5) := by
      rw [eA]
      exact asked_is n (by omega) _
    clear hL LQ' HP' hfew eA
    go_wp2_with fail
    refine Calls.mono AQ.out ?_
    rintro e w6 ⟨rfl, rfl⟩
    go_wp2_with fail
    go_quiet (first | (go_at_call 17; exact Calls.quiet_of (LQ.out _)))
    go_wp2_with fail
    go_ret
    exact ⟨rfl, HP.out _⟩
  · have eq' : bits .and .i64 kd 7 = 1 := eq
    clear eq hq
    have SO : Hid _ := end1_any H2.out.1 H2.out.2.2.2.1 (by omega) (by omega)
    go_wp2_with fail
    refine Calls.mono SO.out ?_
    rintro e W5 ⟨rfl, hA⟩
    have hR := aft_plr H2.out.2.1 H2.out.2.2.1 H2.out.2.2.2.2 hnc hxc hA
    clear hA SO H2 e0 e1 s0 s1 s2 s3 s4 y0 y1 y2 y3 y5 ylt yfr f1
    obtain ⟨N', n', la', lc', hL⟩ := hR
    obtain ⟨⟨t0, t1, t2, t3, t4, hfew⟩, LQ', HP'⟩ := hL.cells
    have LQ : Hid _ := LQ'
    have HP : Hid _ := HP'
    obtain ⟨A, eA⟩ : ∃ A : Int, A = ((12 * digs n + 12 : Nat) : Int) := ⟨_, rfl⟩
    have hle : decide ((N' : Int) ≤ A + 4) = true := decide_eq_true (by omega)
    have wA : IntKind.i64.wrap (A + 4) = A + 4 := by rw [IntKind.wrap_i64]; have := digs_le n; omega
    have AQ : Hid (Calls Try.prog 26 #[.int .i64 (n : Int)] W5 fun e w' => e = .returned (.int .i64 A) ∧ w' = W5) := by
      rw [eA]
      exact asked_is n (by omega) _
    clear hL LQ' HP' hfew eA
    go_wp2_with fail
    refine Calls.mono AQ.out ?_
    rintro e w6 ⟨rfl, rfl⟩
    go_wp2_with fail
    go_quiet (first | (go_at_call 17; exact Calls.quiet_of (LQ.out _)))
    go_wp2_with fail
    go_ret
    exact ⟨rfl, HP.out _⟩
  · have eq' : bits .and .i64 kd 7 = 2 := eq
    clear eq hq
    have SO : Hid _ := end2_any H2.out.1 H2.out.2.2.2.1 (by omega) (by omega)
    go_wp2_with fail
    refine Calls.mono SO.out ?_
    rintro e W5 ⟨rfl, hA⟩
    have hR := aft_plr H2.out.2.1 H2.out.2.2.1 H2.out.2.2.2.2 hnc hxc hA
    clear hA SO H2 e0 e1 s0 s1 s2 s3 s4 y0 y1 y2 y3 y5 ylt yfr f1
    obtain ⟨N', n', la', lc', hL⟩ := hR
    obtain ⟨⟨t0, t1, t2, t3, t4, hfew⟩, LQ', HP'⟩ := hL.cells
    have LQ : Hid _ := LQ'
    have HP : Hid _ := HP'
    obtain ⟨A, eA⟩ : ∃ A : Int, A = ((12 * digs n + 12 : Nat) : Int) := ⟨_, rfl⟩
    have hle : decide ((N' : Int) ≤ A + 4) = true := decide_eq_true (by omega)
    have wA : IntKind.i64.wrap (A + 4) = A + 4 := by rw [IntKind.wrap_i64]; have := digs_le n; omega
    have AQ : Hid (Calls Try.prog 26 #[.int .i64 (n : Int)] W5 fun e w' => e = .returned (.int .i64 A) ∧ w' = W5) := by
      rw [eA]
      exact asked_is n (by omega) _
    clear hL LQ' HP' hfew eA
    go_wp2_with fail
    refine Calls.mono AQ.out ?_
    rintro e w6 ⟨rfl, rfl⟩
    go_wp2_with fail
    go_quiet (first | (go_at_call 17; exact Calls.quiet_of (LQ.out _)))
    go_wp2_with fail
    go_ret
    exact ⟨rfl, HP.out _⟩
  · have eq' : bits .and .i64 kd 7 = 3 := eq
    clear eq hq
    have SO : Hid _ := end3_any H2.out.1 H2.out.2.2.2.1 (by omega) (by omega)
    go_wp2_with fail
    refine Calls.mono SO.out ?_
    rintro e W5 ⟨rfl, hA⟩
    have hR := aft_plr H2.out.2.1 H2.out.2.2.1 H2.out.2.2.2.2 hnc hxc hA
    clear hA SO H2 e0 e1 s0 s1 s2 s3 s4 y0 y1 y2 y3 y5 ylt yfr f1
    obtain ⟨N', n', la', lc', hL⟩ := hR
    obtain ⟨⟨t0, t1, t2, t3, t4, hfew⟩, LQ', HP'⟩ := hL.cells
    have LQ : Hid _ := LQ'
    have HP : Hid _ := HP'
    obtain ⟨A, eA⟩ : ∃ A : Int, A = ((12 * digs n + 12 : Nat) : Int) := ⟨_, rfl⟩
    have hle : decide ((N' : Int) ≤ A + 4) = true := decide_eq_true (by omega)
    have wA : IntKind.i64.wrap (A + 4) = A + 4 := by rw [IntKind.wrap_i64]; have := digs_le n; omega
    have AQ : Hid (Calls Try.prog 26 #[.int .i64 (n : Int)] W5 fun e w' => e = .returned (.int .i64 A) ∧ w' = W5) := by
      rw [eA]
      exact asked_is n (by omega) _
    clear hL LQ' HP' hfew eA
    go_wp2_with fail
    refine Calls.mono AQ.out ?_
    rintro e w6 ⟨rfl, rfl⟩
    go_wp2_with fail
    go_quiet (first | (go_at_call 17; exact Calls.quiet_of (LQ.out _)))
    go_wp2_with fail
    go_ret
    exact ⟨rfl, HP.out _⟩
  · have eq' : bits .and .i64 kd 7 = 4 := eq
    clear eq hq
    have SO : Hid _ := end4_any H2.out.1 H2.out.2.2.2.1 (by omega) (by omega)
    go_wp2_with fail
    refine Calls.mono SO.out ?_
    rintro e W5 ⟨rfl, hA⟩
    have hR := aft_plr H2.out.2.1 H2.out.2.2.1 H2.out.2.2.2.2 hnc hxc hA
    clear hA SO H2 e0 e1 s0 s1 s2 s3 s4 y0 y1 y2 y3 y5 ylt yfr f1
    obtain ⟨N', n', la', lc', hL⟩ := hR
    obtain ⟨⟨t0, t1, t2, t3, t4, hfew⟩, LQ', HP'⟩ := hL.cells
    have LQ : Hid _ := LQ'
    have HP : Hid _ := HP'
    obtain ⟨A, eA⟩ : ∃ A : Int, A = ((12 * digs n + 12 : Nat) : Int) := ⟨_, rfl⟩
    have hle : decide ((N' : Int) ≤ A + 4) = true := decide_eq_true (by omega)
    have wA : IntKind.i64.wrap (A + 4) = A + 4 := by rw [IntKind.wrap_i64]; have := digs_le n; omega
    have AQ : Hid (Calls Try.prog 26 #[.int .i64 (n : Int)] W5 fun e w' => e = .returned (.int .i64 A) ∧ w' = W5) := by
      rw [eA]
      exact asked_is n (by omega) _
    clear hL LQ' HP' hfew eA
    go_wp2_with fail
    refine Calls.mono AQ.out ?_
    rintro e w6 ⟨rfl, rfl⟩
    go_wp2_with fail
    go_quiet (first | (go_at_call 17; exact Calls.quiet_of (LQ.out _)))
    go_wp2_with fail
    go_ret
    exact ⟨rfl, HP.out _⟩
  · have eq' : bits .and .i64 kd 7 = 5 := eq
    clear eq hq
    obtain ⟨W3, hW3⟩ : ∃ W3, W3 = W2.setCell ⟨pb, 1, none⟩ (.int .i64 5) := ⟨_, rfl⟩
    have Z3 : Lz W0 W3 hb ob md tur 0 0 n nx T nx (.slice la n lc) L := by
      obtain ⟨cs, e, _⟩ := H2.out.2.2.1
      refine ⟨H2.out.1.hp.other (fun k o e2 ho => ?_) (by rw [hW3]; simpa using H2.out.1.hp.le), H2.out.1.tr.kept fun k hk => ?_, by rw [hW3]; exact H2.out.1.bel.setCell hpb _, H2.out.1.ge⟩
      · rw [hW3]
        refine (Below.heap_setCell _ _ _ k fun e3 => ?_).trans e2
        have e4 : k = pb := e3
        rw [e4, e] at e2
        cases e2
        exact ho (oth_op _)
      · obtain ⟨_, cs2, e2⟩ := H2.out.1.tr.own hk
        rw [hW3]
        exact Below.heap_setCell _ _ _ k (ne_of_type e2 e (by decide))
    have P3 : Pr W3 xb hb ob := by
      obtain ⟨cs, e, _⟩ := H2.out.2.2.1
      rw [hW3]
      exact (Below.heap_setCell _ _ _ xb (ne_of_type H2.out.2.1 e (by decide))).trans H2.out.2.1
    have O3 : W3.rowIs pb 32 5 (opF oj 5 K V It) := by
      rw [hW3]
      refine (H2.out.2.2.1.set 1 _).congr fun j hj => ?_
      match j, hj with
      | 0, _ => rfl
      | 1, _ => rfl
      | 2, _ => rfl
      | 3, _ => rfl
      | 4, _ => rfl
    have F3 : Fr hb ob W0.heap.size W W3 := by rw [hW3]; exact H2.out.2.2.2.2.set H2.out.1 H2.out.2.2.1 oth_op (by have h1 := HW.out.2.1; have h2 := HW.out.2.2.1; omega) hpb
    have SO : Hid _ := one5_same oj K V It Z3 H2.out.2.2.2.1 (by omega) (by omega) (by omega) rK rI.1 rI.2
    have H3 : Hid (Pr W3 xb hb ob ∧ W3.rowIs pb 32 5 (opF oj 5 K V It) ∧ Fr hb ob W0.heap.size W W3) := ⟨P3, O3, F3⟩
    have HW3 : Hid (W2.setCell ⟨pb, 1, none⟩ (.int .i64 5) = W3) := hW3.symm
    obtain ⟨z0, z1⟩ := P3.cells
    obtain ⟨x0, x1, x2, x3, x4⟩ := op_cells O3
    clear hW3 Z3 P3 O3 F3
    go_upto_region 6 with fail
    rw [HW3.out]
    go_wp2_with fail
    refine Calls.mono SO.out ?_
    rintro e W5 ⟨rfl, hA⟩
    have hR : ∃ N' n' la lc, Plr W0 W W5 xb pb hb ob md tur (c + 1) 0 N' n' la lc oj 5 K V It := by
      obtain ⟨T', lv', L', h1, h2, h3⟩ := hA
      obtain ⟨la, lc, e⟩ := h1.slice
      rw [h2.len] at e
      subst e
      exact ⟨0, n, la, lc, nx, T', L', h1, h2, by omega, by omega, by omega, H3.out.1.fr h3, op_fr H3.out.2.1 h3, H3.out.2.2.trans h3⟩
    clear hA SO H2 H3 e0 e1 s0 s1 s2 s3 s4 y0 y1 y2 y3 y5 ylt yfr f1 z0 z1 x0 x1 x2 x3 x4
    obtain ⟨N', n', la', lc', hL⟩ := hR
    obtain ⟨⟨t0, t1, t2, t3, t4, hfew⟩, LQ', HP'⟩ := hL.cells
    have LQ : Hid _ := LQ'
    have HP : Hid _ := HP'
    obtain ⟨A, eA⟩ : ∃ A : Int, A = ((12 * digs n + 12 : Nat) : Int) := ⟨_, rfl⟩
    obtain rfl : N' = 0 := by omega
    have wA : IntKind.i64.wrap (A + 4) = A + 4 := by rw [IntKind.wrap_i64]; have := digs_le n; omega
    have AQ : Hid (Calls Try.prog 26 #[.int .i64 (n : Int)] W5 fun e w' => e = .returned (.int .i64 A) ∧ w' = W5) := by
      rw [eA]
      exact asked_is n (by omega) _
    have bq : bits .and .i64 5 7 = 5 := mask7' 5 (by omega)
    clear hL LQ' HP' hfew eA
    go_wp2_with fail
    refine Calls.mono AQ.out ?_
    rintro e w6 ⟨rfl, rfl⟩
    go_wp2_with fail
    go_quiet (first | (go_at_call 17; exact Calls.quiet_of (LQ.out _)))
    go_wp2_with fail
    go_ret
    exact ⟨rfl, HP.out _⟩
  · have eq' : bits .and .i64 kd 7 = 6 := eq
    clear eq hq
    obtain ⟨W3, hW3⟩ : ∃ W3, W3 = W2.setCell ⟨pb, 1, none⟩ (.int .i64 6) := ⟨_, rfl⟩
    have Z3 : Lz W0 W3 hb ob md tur 0 0 n nx T nx (.slice la n lc) L := by
      obtain ⟨cs, e, _⟩ := H2.out.2.2.1
      refine ⟨H2.out.1.hp.other (fun k o e2 ho => ?_) (by rw [hW3]; simpa using H2.out.1.hp.le), H2.out.1.tr.kept fun k hk => ?_, by rw [hW3]; exact H2.out.1.bel.setCell hpb _, H2.out.1.ge⟩
      · rw [hW3]
        refine (Below.heap_setCell _ _ _ k fun e3 => ?_).trans e2
        have e4 : k = pb := e3
        rw [e4, e] at e2
        cases e2
        exact ho (oth_op _)
      · obtain ⟨_, cs2, e2⟩ := H2.out.1.tr.own hk
        rw [hW3]
        exact Below.heap_setCell _ _ _ k (ne_of_type e2 e (by decide))
    have P3 : Pr W3 xb hb ob := by
      obtain ⟨cs, e, _⟩ := H2.out.2.2.1
      rw [hW3]
      exact (Below.heap_setCell _ _ _ xb (ne_of_type H2.out.2.1 e (by decide))).trans H2.out.2.1
    have O3 : W3.rowIs pb 32 5 (opF oj 6 K V It) := by
      rw [hW3]
      refine (H2.out.2.2.1.set 1 _).congr fun j hj => ?_
      match j, hj with
      | 0, _ => rfl
      | 1, _ => rfl
      | 2, _ => rfl
      | 3, _ => rfl
      | 4, _ => rfl
    have F3 : Fr hb ob W0.heap.size W W3 := by rw [hW3]; exact H2.out.2.2.2.2.set H2.out.1 H2.out.2.2.1 oth_op (by have h1 := HW.out.2.1; have h2 := HW.out.2.2.1; omega) hpb
    have SO : Hid _ := one6_any oj K V It Z3 H2.out.2.2.2.1 (by omega) (by omega) (by omega) rK rI.1 rI.2
    have H3 : Hid (Pr W3 xb hb ob ∧ W3.rowIs pb 32 5 (opF oj 6 K V It) ∧ Fr hb ob W0.heap.size W W3) := ⟨P3, O3, F3⟩
    have HW3 : Hid (W2.setCell ⟨pb, 1, none⟩ (.int .i64 6) = W3) := hW3.symm
    obtain ⟨z0, z1⟩ := P3.cells
    obtain ⟨x0, x1, x2, x3, x4⟩ := op_cells O3
    clear hW3 Z3 P3 O3 F3
    go_upto_region 6 with fail
    rw [HW3.out]
    go_wp2_with fail
    refine Calls.mono SO.out ?_
    rintro e W5 ⟨rfl, hA⟩
    have hR := aft_plr H3.out.1 H3.out.2.1 H3.out.2.2 hnc hxc hA
    clear hA SO H2 H3 e0 e1 s0 s1 s2 s3 s4 y0 y1 y2 y3 y5 ylt yfr f1 z0 z1 x0 x1 x2 x3 x4
    obtain ⟨N', n', la', lc', hL⟩ := hR
    obtain ⟨⟨t0, t1, t2, t3, t4, hfew⟩, LQ', HP'⟩ := hL.cells
    have LQ : Hid _ := LQ'
    have HP : Hid _ := HP'
    obtain ⟨A, eA⟩ : ∃ A : Int, A = ((12 * digs n + 12 : Nat) : Int) := ⟨_, rfl⟩
    have hle : decide ((N' : Int) ≤ A + 4) = true := decide_eq_true (by omega)
    have wA : IntKind.i64.wrap (A + 4) = A + 4 := by rw [IntKind.wrap_i64]; have := digs_le n; omega
    have AQ : Hid (Calls Try.prog 26 #[.int .i64 (n : Int)] W5 fun e w' => e = .returned (.int .i64 A) ∧ w' = W5) := by
      rw [eA]
      exact asked_is n (by omega) _
    have bq : bits .and .i64 6 7 = 6 := mask7' 6 (by omega)
    clear hL LQ' HP' hfew eA
    go_wp2_with fail
    refine Calls.mono AQ.out ?_
    rintro e w6 ⟨rfl, rfl⟩
    go_wp2_with fail
    go_quiet (first | (go_at_call 17; exact Calls.quiet_of (LQ.out _)))
    go_wp2_with fail
    go_ret
    exact ⟨rfl, HP.out _⟩
  · have eq' : bits .and .i64 kd 7 = 7 := eq
    clear eq hq
    obtain ⟨W3, hW3⟩ : ∃ W3, W3 = W2.setCell ⟨pb, 1, none⟩ (.int .i64 7) := ⟨_, rfl⟩
    have Z3 : Lz W0 W3 hb ob md tur 0 0 n nx T nx (.slice la n lc) L := by
      obtain ⟨cs, e, _⟩ := H2.out.2.2.1
      refine ⟨H2.out.1.hp.other (fun k o e2 ho => ?_) (by rw [hW3]; simpa using H2.out.1.hp.le), H2.out.1.tr.kept fun k hk => ?_, by rw [hW3]; exact H2.out.1.bel.setCell hpb _, H2.out.1.ge⟩
      · rw [hW3]
        refine (Below.heap_setCell _ _ _ k fun e3 => ?_).trans e2
        have e4 : k = pb := e3
        rw [e4, e] at e2
        cases e2
        exact ho (oth_op _)
      · obtain ⟨_, cs2, e2⟩ := H2.out.1.tr.own hk
        rw [hW3]
        exact Below.heap_setCell _ _ _ k (ne_of_type e2 e (by decide))
    have P3 : Pr W3 xb hb ob := by
      obtain ⟨cs, e, _⟩ := H2.out.2.2.1
      rw [hW3]
      exact (Below.heap_setCell _ _ _ xb (ne_of_type H2.out.2.1 e (by decide))).trans H2.out.2.1
    have O3 : W3.rowIs pb 32 5 (opF oj 7 K V It) := by
      rw [hW3]
      refine (H2.out.2.2.1.set 1 _).congr fun j hj => ?_
      match j, hj with
      | 0, _ => rfl
      | 1, _ => rfl
      | 2, _ => rfl
      | 3, _ => rfl
      | 4, _ => rfl
    have F3 : Fr hb ob W0.heap.size W W3 := by rw [hW3]; exact H2.out.2.2.2.2.set H2.out.1 H2.out.2.2.1 oth_op (by have h1 := HW.out.2.1; have h2 := HW.out.2.2.1; omega) hpb
    have SO : Hid _ := one7_any oj K V It Z3 H2.out.2.2.2.1 (by omega) (by omega) (by omega) rK rI.1 rI.2
    have H3 : Hid (Pr W3 xb hb ob ∧ W3.rowIs pb 32 5 (opF oj 7 K V It) ∧ Fr hb ob W0.heap.size W W3) := ⟨P3, O3, F3⟩
    have HW3 : Hid (W2.setCell ⟨pb, 1, none⟩ (.int .i64 7) = W3) := hW3.symm
    obtain ⟨z0, z1⟩ := P3.cells
    obtain ⟨x0, x1, x2, x3, x4⟩ := op_cells O3
    clear hW3 Z3 P3 O3 F3
    go_upto_region 6 with fail
    rw [HW3.out]
    go_wp2_with fail
    refine Calls.mono SO.out ?_
    rintro e W5 ⟨rfl, hA⟩
    have hR := aft_plr H3.out.1 H3.out.2.1 H3.out.2.2 hnc hxc hA
    clear hA SO H2 H3 e0 e1 s0 s1 s2 s3 s4 y0 y1 y2 y3 y5 ylt yfr f1 z0 z1 x0 x1 x2 x3 x4
    obtain ⟨N', n', la', lc', hL⟩ := hR
    obtain ⟨⟨t0, t1, t2, t3, t4, hfew⟩, LQ', HP'⟩ := hL.cells
    have LQ : Hid _ := LQ'
    have HP : Hid _ := HP'
    obtain ⟨A, eA⟩ : ∃ A : Int, A = ((12 * digs n + 12 : Nat) : Int) := ⟨_, rfl⟩
    have hle : decide ((N' : Int) ≤ A + 4) = true := decide_eq_true (by omega)
    have wA : IntKind.i64.wrap (A + 4) = A + 4 := by rw [IntKind.wrap_i64]; have := digs_le n; omega
    have AQ : Hid (Calls Try.prog 26 #[.int .i64 (n : Int)] W5 fun e w' => e = .returned (.int .i64 A) ∧ w' = W5) := by
      rw [eA]
      exact asked_is n (by omega) _
    have bq : bits .and .i64 7 7 = 7 := mask7' 7 (by omega)
    clear hL LQ' HP' hfew eA
    go_wp2_with fail
    refine Calls.mono AQ.out ?_
    rintro e w6 ⟨rfl, rfl⟩
    go_wp2_with fail
    go_quiet (first | (go_at_call 17; exact Calls.quiet_of (LQ.out _)))
    go_wp2_with fail
    go_ret
    exact ⟨rfl, HP.out _⟩
end Go.Proofs.Ytjnfcihichaonaa
