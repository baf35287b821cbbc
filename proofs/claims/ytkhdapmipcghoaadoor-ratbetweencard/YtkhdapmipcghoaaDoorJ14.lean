/- Contracts of the program's functions, part 14: own work, joined in build order. -/
import Derived.Test.YtkhdapmipcghoaaDoorJ13
import Derived.Deep.LoopGhost
namespace Go.Proofs.YtkhdapmipcghoaaDoor
open Go.RowKit
set_option maxRecDepth 100000
set_option linter.unusedVariables false
/-- Four cells of a box take the answer. -/
def Sto4 (R : Nat) (w : World) (v : Value) (w' : World) : Prop := ∃ u0 u1 u2 u3, v = .agg #[u0, u1, u2, u3] ∧ w' = (((w.setCell ⟨R, 0, none⟩ u0).setCell ⟨R, 1, none⟩ u1).setCell ⟨R, 2, none⟩ u2).setCell ⟨R, 3, none⟩ u3
set_option maxHeartbeats 8000000 in
theorem with_any (v u : Value) (g1 g2 g3 g4 m : Nat) (w : World) (h : IsTm w v g1 g2 g3 g4) (k : IsNat w u m) (ha : RS g1) (hb : RS g2) (hc : RS g3) (hd : RS g4) (hm : RS m) :
    Calls Tryd.prog 68 #[v, u] w (MakesTm w (g1 * m + g2) g1 (g3 * m + g4) g3) := by
  obtain ⟨t0, e0, k0, t1, e1, k1, t2, e2, k2, t3, e3, k3, ev, h1, h2, h3, h4⟩ := h
  subst ev
  obtain ⟨p3, m3, d3, rfl⟩ := k.isAgg
  obtain ⟨wt, hwt⟩ : ∃ wt, wt = w.alloc (.cells #[.slice t0 e0 k0, .slice t1 e1 k1, .slice t2 e2 k2, .slice t3 e3 k3] 98) := ⟨_, rfl⟩
  have bt1 : Below w.heap.size w wt := by rw [hwt]; exact bel_al (bel_refl w)
  have hs : wt.heap.size = w.heap.size + 1 := by rw [hwt]; simp
  obtain ⟨wu, hwu⟩ : ∃ wu, wu = wt.alloc (.cells #[.slice p3 m3 d3] 27) := ⟨_, rfl⟩
  have hsu : wu.heap.size = w.heap.size + 1 + 1 := by rw [hwu]; simp [hs]
  obtain ⟨w0, hw0⟩ : ∃ w0, w0 = wu.alloc (.cells #[.slice none 0 0, .slice none 0 0, .slice none 0 0, .slice none 0 0] 98) := ⟨_, rfl⟩
  have bt2 : Below wu.heap.size wu w0 := by rw [hw0]; exact bel_al (bel_refl wu)
  have SA := (((((((((((sx_start w).addN h1).addN h2).addN h3).addN h4).addN k).go bt1).addC (b := w.heap.size) (i := 0) (v := .slice t0 e0 k0) (by rw [hwt]; simp [go_sem])).addC (b := w.heap.size) (i := 1) (v := .slice t1 e1 k1) (by rw [hwt]; simp [go_sem])).addC (b := w.heap.size) (i := 2) (v := .slice t2 e2 k2) (by rw [hwt]; simp [go_sem])).addC (b := w.heap.size) (i := 3) (v := .slice t3 e3 k3) (by rw [hwt]; simp [go_sem])).box1 (.slice p3 m3 d3) 27 (w.heap.size + 1) hs.symm
  rw [← hwu] at SA
  have S1 : Hid _ := ((((SA.go bt2).addC (b := w.heap.size + 1 + 1) (i := 0) (v := .slice none 0 0) (by rw [hw0, ← hsu]; simp [go_sem])).addC (b := w.heap.size + 1 + 1) (i := 1) (v := .slice none 0 0) (by rw [hw0, ← hsu]; simp [go_sem])).addC (b := w.heap.size + 1 + 1) (i := 2) (v := .slice none 0 0) (by rw [hw0, ← hsu]; simp [go_sem])).addC (b := w.heap.size + 1 + 1) (i := 3) (v := .slice none 0 0) (by rw [hw0, ← hsu]; simp [go_sem])
  have f0 : w0.frozen? ⟨w.heap.size + 1 + 1, 0, none⟩ = false := by rw [hw0, ← hsu]; simp [go_sem]
  have f1 : w0.frozen? ⟨w.heap.size + 1 + 1, 1, none⟩ = false := by rw [hw0, ← hsu]; simp [go_sem]
  have f2 : w0.frozen? ⟨w.heap.size + 1 + 1, 2, none⟩ = false := by rw [hw0, ← hsu]; simp [go_sem]
  have f3 : w0.frozen? ⟨w.heap.size + 1 + 1, 3, none⟩ = false := by rw [hw0, ← hsu]; simp [go_sem]
  have HH : Hid (RS g1 ∧ RS g2 ∧ RS g3 ∧ RS g4 ∧ RS m) := ⟨ha, hb, hc, hd, hm⟩
  have HF : Hid (Fits (g1 * m) ∧ Fits (g3 * m)) := ⟨fits_P (ha.mul hm) (by omega), fits_P (hc.mul hm) (by omega)⟩
  clear h1 h2 h3 h4 k ha hb hc hd hm bt1 bt2 hs hsu SA
  go_enter Tryd.func68, Tryd.ntmps68
  go_wp2_with fail
  rw [← hwt, ← hwu, ← hw0]
  obtain ⟨b2, hb2⟩ : ∃ b2, b2 = w.heap.size := ⟨_, rfl⟩
  have HB : Hid (w.heap.size ≤ b2 + 1 + 1) := by show _ ≤ _; omega
  rw [← hb2] at S1 f0 f1 f2 f3
  rw [← hb2]
  clear hw0 hb2 hwt hwu
  have e10 := S1.out.cel (b2 + 1 + 1) 0 (.slice none 0 0)
  have e11 := S1.out.cel (b2 + 1 + 1) 1 (.slice none 0 0)
  have e12 := S1.out.cel (b2 + 1 + 1) 2 (.slice none 0 0)
  have e13 := S1.out.cel (b2 + 1 + 1) 3 (.slice none 0 0)
  refine wp_region_inv (JD w0 [sEq (.pointer (some ⟨b2, 0, none⟩)), sNat (g1), sNat (m), sNat (g1 * m), sEq (.pointer (some ⟨b2, 1, none⟩)), sNat (g2), sNat (g1 * m + g2), sEq (.pointer (some ⟨b2, 0, none⟩)), sNat (g1), sEq (.pointer (some ⟨b2, 2, none⟩)), sNat (g3), sNat (m), sNat (g3 * m), sEq (.pointer (some ⟨b2, 3, none⟩)), sNat (g4), sNat (g3 * m + g4), sEq (.pointer (some ⟨b2, 2, none⟩)), sNat (g3), sTm (g1 * m + g2) g1 (g3 * m + g4) g3, sAny] [[], [0], [], [1, 2], [], [4], [3, 5], [], [7], [], [9], [], [10, 11], [], [13], [12, 14], [], [16], [6, 8, 15, 17], [18]] 19 18 [0, 1, 2, 3, 4, 5, 6, 7, 8, 9, 10, 11, 12, 13, 14, 15, 16, 17, 18] (Sto4 (b2 + 1 + 1))) 24 (by kernel_rfl) rfl (by kernel_rfl) (JD.start _ _ _ _ _ _ _) (fun HG HN => ⟨?_, ?_, ?_, ?_, ?_, ?_, ?_, ?_, ?_, ?_, ?_, ?_, ?_, ?_, ?_, ?_, ?_, ?_, ?_, ?_, trivial⟩) ?_
  · intro L vs a w' hJ hF hP hL
    have hK := hJ
    have hJ := hK.open hL (by decide)
    have q2 : (a.tmps[2]?).getD undef = .pointer (some ⟨b2, 0, none⟩) := hF.old 2 rfl
    exact run_val (v := .pointer (some ⟨b2, 0, none⟩)) rfl (by simp [execOp, go_sem, q2]) ⟨_, rfl, hK.step hL (by decide) (by decide) rfl (nd_nil) <| hJ.step hL rfl (Below.refl _ _) (by exact rfl)⟩
  · intro L vs a w' hJ hF hP hL
    have hK := hJ
    have hJ := hK.open hL (by decide)
    have p0 : L 0 = true := hP ⟨0, .data⟩ (by simp) rfl
    have s0 : vs 0 = .pointer (some ⟨b2, 0, none⟩) := hJ.sp 0 p0
    have q5 := hF.slot 0 5 rfl p0
    have cb := cell_later hJ.bel (S1.out.cel (b2) 0 (.slice t0 e0 k0))
    exact run_val (v := .agg #[.slice t0 e0 k0]) rfl (by simp [execOp, go_sem, q5, s0, cb]) ⟨_, rfl, hK.step hL (by decide) (by decide) rfl (nd_cons p0 (nd_nil)) <| hJ.step hL rfl (Below.refl _ _) (by exact ((S1.out.at (.agg #[.slice t0 e0 k0]) (g1)).mono hJ.bel))⟩
  · intro L vs a w' hJ hF hP hL
    have hK := hJ
    have hJ := hK.open hL (by decide)
    have q3 : (a.tmps[3]?).getD undef = .pointer (some ⟨b2 + 1, 0, none⟩) := hF.old 3 rfl
    have cb := cell_later hJ.bel (S1.out.cell (b2 + 1) (.slice p3 m3 d3))
    exact run_val (v := .agg #[.slice p3 m3 d3]) rfl (by simp [execOp, go_sem, q3, cb]) ⟨_, rfl, hK.step hL (by decide) (by decide) rfl (nd_nil) <| hJ.step hL rfl (Below.refl _ _) (by exact ((S1.out.at (.agg #[.slice p3 m3 d3]) (m)).mono hJ.bel))⟩
  · intro L vs a w' hJ hF hP hL
    have hK := hJ
    have hJ := hK.open hL (by decide)
    have p1 : L 1 = true := hP ⟨1, .data⟩ (by simp) rfl
    have s1 : IsNat w' (vs 1) (g1) := hJ.sp 1 p1
    have q6 := hF.slot 1 6 rfl p1
    have p2 : L 2 = true := hP ⟨2, .data⟩ (by simp) rfl
    have s2 : IsNat w' (vs 2) (m) := hJ.sp 2 p2
    have q7 := hF.slot 2 7 rfl p2
    refine run_call (f := 61) (args := #[vs 1, vs 2]) rfl (by simp [go_sem, q6, q7]) (mul_short _ _ g1 m _ s1 s2 HH.out.1.fits HH.out.2.2.2.2.fits (.inl HH.out.1.p99)) ?_
    rintro e w2 ⟨v, rfl, hv, hb⟩
    exact ⟨_, rfl, _, rfl, hK.step hL (by decide) (by decide) rfl (nd_cons p1 (nd_cons p2 (nd_nil))) <| hJ.step hL rfl hb (by exact hv)⟩
  · intro L vs a w' hJ hF hP hL
    have hK := hJ
    have hJ := hK.open hL (by decide)
    have q2 : (a.tmps[2]?).getD undef = .pointer (some ⟨b2, 0, none⟩) := hF.old 2 rfl
    exact run_val (v := .pointer (some ⟨b2, 1, none⟩)) rfl (by simp [execOp, go_sem, q2]) ⟨_, rfl, hK.step hL (by decide) (by decide) rfl (nd_nil) <| hJ.step hL rfl (Below.refl _ _) (by exact rfl)⟩
  · intro L vs a w' hJ hF hP hL
    have hK := hJ
    have hJ := hK.open hL (by decide)
    have p4 : L 4 = true := hP ⟨4, .data⟩ (by simp) rfl
    have s4 : vs 4 = .pointer (some ⟨b2, 1, none⟩) := hJ.sp 4 p4
    have q9 := hF.slot 4 9 rfl p4
    have cb := cell_later hJ.bel (S1.out.cel (b2) 1 (.slice t1 e1 k1))
    exact run_val (v := .agg #[.slice t1 e1 k1]) rfl (by simp [execOp, go_sem, q9, s4, cb]) ⟨_, rfl, hK.step hL (by decide) (by decide) rfl (nd_cons p4 (nd_nil)) <| hJ.step hL rfl (Below.refl _ _) (by exact ((S1.out.at (.agg #[.slice t1 e1 k1]) (g2)).mono hJ.bel))⟩
  · intro L vs a w' hJ hF hP hL
    have hK := hJ
    have hJ := hK.open hL (by decide)
    have p3 : L 3 = true := hP ⟨3, .data⟩ (by simp) rfl
    have s3 : IsNat w' (vs 3) (g1 * m) := hJ.sp 3 p3
    have q8 := hF.slot 3 8 rfl p3
    have p5 : L 5 = true := hP ⟨5, .data⟩ (by simp) rfl
    have s5 : IsNat w' (vs 5) (g2) := hJ.sp 5 p5
    have q10 := hF.slot 5 10 rfl p5
    refine run_call (f := 57) (args := #[vs 3, vs 5]) rfl (by simp [go_sem, q8, q10]) (add_any _ _ (g1 * m) g2 _ s3 s5 HF.out.1 HH.out.2.1.fits) ?_
    rintro e w2 ⟨v, rfl, hv, hb⟩
    exact ⟨_, rfl, _, rfl, hK.step hL (by decide) (by decide) rfl (nd_cons p3 (nd_cons p5 (nd_nil))) <| hJ.step hL rfl hb (by exact hv)⟩
  · intro L vs a w' hJ hF hP hL
    have hK := hJ
    have hJ := hK.open hL (by decide)
    have q2 : (a.tmps[2]?).getD undef = .pointer (some ⟨b2, 0, none⟩) := hF.old 2 rfl
    exact run_val (v := .pointer (some ⟨b2, 0, none⟩)) rfl (by simp [execOp, go_sem, q2]) ⟨_, rfl, hK.step hL (by decide) (by decide) rfl (nd_nil) <| hJ.step hL rfl (Below.refl _ _) (by exact rfl)⟩
  · intro L vs a w' hJ hF hP hL
    have hK := hJ
    have hJ := hK.open hL (by decide)
    have p7 : L 7 = true := hP ⟨7, .data⟩ (by simp) rfl
    have s7 : vs 7 = .pointer (some ⟨b2, 0, none⟩) := hJ.sp 7 p7
    have q12 := hF.slot 7 12 rfl p7
    have cb := cell_later hJ.bel (S1.out.cel (b2) 0 (.slice t0 e0 k0))
    exact run_val (v := .agg #[.slice t0 e0 k0]) rfl (by simp [execOp, go_sem, q12, s7, cb]) ⟨_, rfl, hK.step hL (by decide) (by decide) rfl (nd_cons p7 (nd_nil)) <| hJ.step hL rfl (Below.refl _ _) (by exact ((S1.out.at (.agg #[.slice t0 e0 k0]) (g1)).mono hJ.bel))⟩
  · intro L vs a w' hJ hF hP hL
    have hK := hJ
    have hJ := hK.open hL (by decide)
    have q2 : (a.tmps[2]?).getD undef = .pointer (some ⟨b2, 0, none⟩) := hF.old 2 rfl
    exact run_val (v := .pointer (some ⟨b2, 2, none⟩)) rfl (by simp [execOp, go_sem, q2]) ⟨_, rfl, hK.step hL (by decide) (by decide) rfl (nd_nil) <| hJ.step hL rfl (Below.refl _ _) (by exact rfl)⟩
  · intro L vs a w' hJ hF hP hL
    have hK := hJ
    have hJ := hK.open hL (by decide)
    have p9 : L 9 = true := hP ⟨9, .data⟩ (by simp) rfl
    have s9 : vs 9 = .pointer (some ⟨b2, 2, none⟩) := hJ.sp 9 p9
    have q14 := hF.slot 9 14 rfl p9
    have cb := cell_later hJ.bel (S1.out.cel (b2) 2 (.slice t2 e2 k2))
    exact run_val (v := .agg #[.slice t2 e2 k2]) rfl (by simp [execOp, go_sem, q14, s9, cb]) ⟨_, rfl, hK.step hL (by decide) (by decide) rfl (nd_cons p9 (nd_nil)) <| hJ.step hL rfl (Below.refl _ _) (by exact ((S1.out.at (.agg #[.slice t2 e2 k2]) (g3)).mono hJ.bel))⟩
  · intro L vs a w' hJ hF hP hL
    have hK := hJ
    have hJ := hK.open hL (by decide)
    have q3 : (a.tmps[3]?).getD undef = .pointer (some ⟨b2 + 1, 0, none⟩) := hF.old 3 rfl
    have cb := cell_later hJ.bel (S1.out.cell (b2 + 1) (.slice p3 m3 d3))
    exact run_val (v := .agg #[.slice p3 m3 d3]) rfl (by simp [execOp, go_sem, q3, cb]) ⟨_, rfl, hK.step hL (by decide) (by decide) rfl (nd_nil) <| hJ.step hL rfl (Below.refl _ _) (by exact ((S1.out.at (.agg #[.slice p3 m3 d3]) (m)).mono hJ.bel))⟩
  · intro L vs a w' hJ hF hP hL
    have hK := hJ
    have hJ := hK.open hL (by decide)
    have p10 : L 10 = true := hP ⟨10, .data⟩ (by simp) rfl
    have s10 : IsNat w' (vs 10) (g3) := hJ.sp 10 p10
    have q15 := hF.slot 10 15 rfl p10
    have p11 : L 11 = true := hP ⟨11, .data⟩ (by simp) rfl
    have s11 : IsNat w' (vs 11) (m) := hJ.sp 11 p11
    have q16 := hF.slot 11 16 rfl p11
    refine run_call (f := 61) (args := #[vs 10, vs 11]) rfl (by simp [go_sem, q15, q16]) (mul_short _ _ g3 m _ s10 s11 HH.out.2.2.1.fits HH.out.2.2.2.2.fits (.inl HH.out.2.2.1.p99)) ?_
    rintro e w2 ⟨v, rfl, hv, hb⟩
    exact ⟨_, rfl, _, rfl, hK.step hL (by decide) (by decide) rfl (nd_cons p10 (nd_cons p11 (nd_nil))) <| hJ.step hL rfl hb (by exact hv)⟩
  · intro L vs a w' hJ hF hP hL
    have hK := hJ
    have hJ := hK.open hL (by decide)
    have q2 : (a.tmps[2]?).getD undef = .pointer (some ⟨b2, 0, none⟩) := hF.old 2 rfl
    exact run_val (v := .pointer (some ⟨b2, 3, none⟩)) rfl (by simp [execOp, go_sem, q2]) ⟨_, rfl, hK.step hL (by decide) (by decide) rfl (nd_nil) <| hJ.step hL rfl (Below.refl _ _) (by exact rfl)⟩
  · intro L vs a w' hJ hF hP hL
    have hK := hJ
    have hJ := hK.open hL (by decide)
    have p13 : L 13 = true := hP ⟨13, .data⟩ (by simp) rfl
    have s13 : vs 13 = .pointer (some ⟨b2, 3, none⟩) := hJ.sp 13 p13
    have q18 := hF.slot 13 18 rfl p13
    have cb := cell_later hJ.bel (S1.out.cel (b2) 3 (.slice t3 e3 k3))
    exact run_val (v := .agg #[.slice t3 e3 k3]) rfl (by simp [execOp, go_sem, q18, s13, cb]) ⟨_, rfl, hK.step hL (by decide) (by decide) rfl (nd_cons p13 (nd_nil)) <| hJ.step hL rfl (Below.refl _ _) (by exact ((S1.out.at (.agg #[.slice t3 e3 k3]) (g4)).mono hJ.bel))⟩
  · intro L vs a w' hJ hF hP hL
    have hK := hJ
    have hJ := hK.open hL (by decide)
    have p12 : L 12 = true := hP ⟨12, .data⟩ (by simp) rfl
    have s12 : IsNat w' (vs 12) (g3 * m) := hJ.sp 12 p12
    have q17 := hF.slot 12 17 rfl p12
    have p14 : L 14 = true := hP ⟨14, .data⟩ (by simp) rfl
    have s14 : IsNat w' (vs 14) (g4) := hJ.sp 14 p14
    have q19 := hF.slot 14 19 rfl p14
    refine run_call (f := 57) (args := #[vs 12, vs 14]) rfl (by simp [go_sem, q17, q19]) (add_any _ _ (g3 * m) g4 _ s12 s14 HF.out.2 HH.out.2.2.2.1.fits) ?_
    rintro e w2 ⟨v, rfl, hv, hb⟩
    exact ⟨_, rfl, _, rfl, hK.step hL (by decide) (by decide) rfl (nd_cons p12 (nd_cons p14 (nd_nil))) <| hJ.step hL rfl hb (by exact hv)⟩
  · intro L vs a w' hJ hF hP hL
    have hK := hJ
    have hJ := hK.open hL (by decide)
    have q2 : (a.tmps[2]?).getD undef = .pointer (some ⟨b2, 0, none⟩) := hF.old 2 rfl
    exact run_val (v := .pointer (some ⟨b2, 2, none⟩)) rfl (by simp [execOp, go_sem, q2]) ⟨_, rfl, hK.step hL (by decide) (by decide) rfl (nd_nil) <| hJ.step hL rfl (Below.refl _ _) (by exact rfl)⟩
  · intro L vs a w' hJ hF hP hL
    have hK := hJ
    have hJ := hK.open hL (by decide)
    have p16 : L 16 = true := hP ⟨16, .data⟩ (by simp) rfl
    have s16 : vs 16 = .pointer (some ⟨b2, 2, none⟩) := hJ.sp 16 p16
    have q21 := hF.slot 16 21 rfl p16
    have cb := cell_later hJ.bel (S1.out.cel (b2) 2 (.slice t2 e2 k2))
    exact run_val (v := .agg #[.slice t2 e2 k2]) rfl (by simp [execOp, go_sem, q21, s16, cb]) ⟨_, rfl, hK.step hL (by decide) (by decide) rfl (nd_cons p16 (nd_nil)) <| hJ.step hL rfl (Below.refl _ _) (by exact ((S1.out.at (.agg #[.slice t2 e2 k2]) (g3)).mono hJ.bel))⟩
  · intro L vs a w' hJ hF hP hL
    have hK := hJ
    have hJ := hK.open hL (by decide)
    have p6 : L 6 = true := hP ⟨6, .data⟩ (by simp) rfl
    have s6 : IsNat w' (vs 6) (g1 * m + g2) := hJ.sp 6 p6
    have q11 := hF.slot 6 11 rfl p6
    have p8 : L 8 = true := hP ⟨8, .data⟩ (by simp) rfl
    have s8 : IsNat w' (vs 8) (g1) := hJ.sp 8 p8
    have q13 := hF.slot 8 13 rfl p8
    have p15 : L 15 = true := hP ⟨15, .data⟩ (by simp) rfl
    have s15 : IsNat w' (vs 15) (g3 * m + g4) := hJ.sp 15 p15
    have q20 := hF.slot 15 20 rfl p15
    have p17 : L 17 = true := hP ⟨17, .data⟩ (by simp) rfl
    have s17 : IsNat w' (vs 17) (g3) := hJ.sp 17 p17
    have q22 := hF.slot 17 22 rfl p17
    obtain ⟨x0, y0, z0, ea0⟩ := s6.isAgg
    obtain ⟨x1, y1, z1, ea1⟩ := s8.isAgg
    obtain ⟨x2, y2, z2, ea2⟩ := s15.isAgg
    obtain ⟨x3, y3, z3, ea3⟩ := s17.isAgg
    exact run_val (v := .agg #[.slice x0 y0 z0, .slice x1 y1 z1, .slice x2 y2 z2, .slice x3 y3 z3]) rfl (by simp [execOp, go_sem, q11, q13, q20, q22, ea0, ea1, ea2, ea3]) ⟨_, rfl, hK.step hL (by decide) (by decide) rfl (nd_cons p6 (nd_cons p8 (nd_cons p15 (nd_cons p17 (nd_nil))))) <| hJ.step hL rfl (Below.refl _ _) (by exact ⟨_, _, _, _, _, _, _, _, _, _, _, _, rfl, ea0 ▸ s6, ea1 ▸ s8, ea2 ▸ s15, ea3 ▸ s17⟩)⟩
  · intro L vs a w' hJ hF hP hL
    have hK := hJ
    have hJ := hK.core hL
    have q4 : (a.tmps[4]?).getD undef = .pointer (some ⟨b2 + 1 + 1, 0, none⟩) := hF.old 4 rfl
    have p18 : L 18 = true := hP ⟨18, .data⟩ (by simp) rfl
    have s18 : IsTm w' (vs 18) (g1 * m + g2) g1 (g3 * m + g4) g3 := hJ.sp 18 p18
    have q23 := hF.slot 18 23 rfl p18
    have p6 : L 6 = true := hK.cl 18 p18 6 (by simp)
    have p3 : L 3 = true := hK.cl 6 p6 3 (by simp)
    have p1 : L 1 = true := hK.cl 3 p3 1 (by simp)
    have p0 : L 0 = true := hK.cl 1 p1 0 (by simp)
    have p2 : L 2 = true := hK.cl 3 p3 2 (by simp)
    have p5 : L 5 = true := hK.cl 6 p6 5 (by simp)
    have p4 : L 4 = true := hK.cl 5 p5 4 (by simp)
    have p8 : L 8 = true := hK.cl 18 p18 8 (by simp)
    have p7 : L 7 = true := hK.cl 8 p8 7 (by simp)
    have p15 : L 15 = true := hK.cl 18 p18 15 (by simp)
    have p12 : L 12 = true := hK.cl 15 p15 12 (by simp)
    have p10 : L 10 = true := hK.cl 12 p12 10 (by simp)
    have p9 : L 9 = true := hK.cl 10 p10 9 (by simp)
    have p11 : L 11 = true := hK.cl 12 p12 11 (by simp)
    have p14 : L 14 = true := hK.cl 15 p15 14 (by simp)
    have p13 : L 13 = true := hK.cl 14 p14 13 (by simp)
    have p17 : L 17 = true := hK.cl 18 p18 17 (by simp)
    have p16 : L 16 = true := hK.cl 17 p17 16 (by simp)
    have x0 := cell_later hJ.bel e10
    have y0 := (hJ.bel.frozen (World.block_lt_of_cell? _ _ e10)).trans f0
    have x1 := cell_later hJ.bel e11
    have y1 := (hJ.bel.frozen (World.block_lt_of_cell? _ _ e11)).trans f1
    have x2 := cell_later hJ.bel e12
    have y2 := (hJ.bel.frozen (World.block_lt_of_cell? _ _ e12)).trans f2
    have x3 := cell_later hJ.bel e13
    have y3 := (hJ.bel.frozen (World.block_lt_of_cell? _ _ e13)).trans f3
    obtain ⟨q0, r0, o0, q1, r1, o1, q2, r2, o2, q3, r3, o3, e8, _, _, _, _⟩ := s18
    exact run_unit (w' := ((((w'.setCell ⟨b2 + 1 + 1, 0, none⟩ (.slice q0 r0 o0)).setCell ⟨b2 + 1 + 1, 1, none⟩ (.slice q1 r1 o1)).setCell ⟨b2 + 1 + 1, 2, none⟩ (.slice q2 r2 o2)).setCell ⟨b2 + 1 + 1, 3, none⟩ (.slice q3 r3 o3))) rfl (by simp [execOp, go_sem, q4, q23, e8, x0, y0, x1, y1, x2, y2, x3, y3]) ⟨undef, rfl, hK.put hL (by decide) rfl (nd_cons p18 nd_nil) (nd_cons p0 (nd_cons p1 (nd_cons p2 (nd_cons p3 (nd_cons p4 (nd_cons p5 (nd_cons p6 (nd_cons p7 (nd_cons p8 (nd_cons p9 (nd_cons p10 (nd_cons p11 (nd_cons p12 (nd_cons p13 (nd_cons p14 (nd_cons p15 (nd_cons p16 (nd_cons p17 (nd_cons p18 (nd_nil)))))))))))))))))))) p18 ⟨_, _, _, _, e8, rfl⟩⟩
  intro L vs w' hA hK
  obtain ⟨_, w1, hb1, sv, u1, u2, u3, u4, ev, ew⟩ := hK.fin (hA 19 (by simp))
  replace sv : IsTm w1 (vs 18) (g1 * m + g2) g1 (g3 * m + g4) g3 := sv
  have sv' := sv
  obtain ⟨q0, r0, o0, q1, r1, o1, q2, r2, o2, q3, r3, o3, e8, _, _, _, _⟩ := sv'
  rw [e8] at ev sv
  obtain ⟨rfl, rfl, rfl, rfl⟩ : u1 = .slice q0 r0 o0 ∧ u2 = .slice q1 r1 o1 ∧ u3 = .slice q2 r2 o2 ∧ u4 = .slice q3 r3 o3 := by simpa [eq_comm] using ev
  have F4 : Four w1 (b2 + 1 + 1) := fun i hi => by
    match i, hi with
    | 0, _ => exact ⟨⟨_, _, _, cell_later hb1 e10⟩, (hb1.frozen (World.block_lt_of_cell? _ _ e10)).trans f0⟩
    | 1, _ => exact ⟨⟨_, _, _, cell_later hb1 e11⟩, (hb1.frozen (World.block_lt_of_cell? _ _ e11)).trans f1⟩
    | 2, _ => exact ⟨⟨_, _, _, cell_later hb1 e12⟩, (hb1.frozen (World.block_lt_of_cell? _ _ e12)).trans f2⟩
    | 3, _ => exact ⟨⟨_, _, _, cell_later hb1 e13⟩, (hb1.frozen (World.block_lt_of_cell? _ _ e13)).trans f3⟩
  have Z : Hid _ := tm_put (w0 := w) F4 (s0 := .slice q0 r0 o0) (s1 := .slice q1 r1 o1) (s2 := .slice q2 r2 o2) (s3 := .slice q3 r3 o3) sv (bel_go S1.out.bel hb1) HB.out
  rw [← ew] at Z
  obtain ⟨_, l0, l1, l2, l3⟩ := Z.out
  clear ew sv ev hb1 e8 hK hA F4 e10 e11 e12 e13 f0 f1 f2 f3 S1
  simp only [putL, Act.put, List.setIfInBounds_toArray, List.set_cons_zero, List.set_cons_succ, Nat.reduceAdd]
  go_wp2_with fail
  exact bodyPost_ret (v := .agg #[.slice q0 r0 o0, .slice q1 r1 o1, .slice q2 r2 o2, .slice q3 r3 o3]) (by simp [results, Tryd.results68, go_sem, l0, l1, l2, l3]) rfl ⟨_, rfl, Z.out.1.1, Z.out.1.2⟩
end Go.Proofs.YtkhdapmipcghoaaDoor
namespace Go.Proofs.YtkhdapmipcghoaaDoor
open Go.RowKit
set_option maxRecDepth 100000
set_option linter.unusedVariables false
theorem ceil_rs {p q : Nat} (hp : RS p) : ceilN p q < P 91 := by
  have h3 : ceilN p q ≤ p / q + 1 := by unfold ceilN; split <;> omega
  have h4 : p / q < P 90 := Nat.lt_of_le_of_lt (Nat.div_le_self _ _) hp.lt
  have h5 : P 90 < P 91 := P_lt (by omega)
  omega
set_option maxHeartbeats 8000000 in
theorem leastWhole_any (v u : Value) (p q x y : Nat) (w : World) (h : Rt w v p q) (k : Rt w u x y) (hp : RS p) (hq : RS q) (hx : RS x) (hy : RS y) :
    Calls Tryd.prog 67 #[v, u] w (MakesR w (Min.min (ceilN p q) (ceilN x y)) 1) := by
  obtain ⟨p1, m1, d1, p2, m2, d2, e0, _, _⟩ := h.raw
  subst e0
  obtain ⟨p3, m3, d3, p4, m4, d4, e1, _, _⟩ := k.raw
  subst e1
  have S0 : Hid _ := ((((sx_start w).addF h).addF k).box (.slice p1 m1 d1) (.slice p2 m2 d2) 29 _ rfl).box (.slice p3 m3 d3) (.slice p4 m4 d4) 29 _ rfl
  simp only [World.size_alloc] at S0
  have S1 : Hid _ := S0.out.box (.slice none 0 0) (.slice none 0 0) 29 _ rfl
  simp only [World.size_alloc] at S1
  obtain ⟨w0, hw0⟩ : ∃ w0, w0 = ((w.alloc (.cells #[.slice p1 m1 d1, .slice p2 m2 d2] 29)).alloc (.cells #[.slice p3 m3 d3, .slice p4 m4 d4] 29)).alloc (.cells #[.slice none 0 0, .slice none 0 0] 29) := ⟨_, rfl⟩
  have f6 : w0.frozen? ⟨w.heap.size + 1 + 1, 0, none⟩ = false := by rw [hw0]; simp [go_sem]
  have f7 : w0.frozen? ⟨w.heap.size + 1 + 1, 1, none⟩ = false := by rw [hw0]; simp [go_sem]
  have C1 : Hid (∀ v w, Rt w v p q → Calls Tryd.prog 23 #[v] w (Makes w (ceilN p q))) := fun v w h => ceil_any v p q w h hp hq
  have C2 : Hid (∀ v w, Rt w v x y → Calls Tryd.prog 23 #[v] w (Makes w (ceilN x y))) := fun v w h => ceil_any v x y w h hx hy
  have HF : Hid (Fits (ceilN p q) ∧ Fits (ceilN x y)) := ⟨fits_P (ceil_rs hp) (by omega), fits_P (ceil_rs hx) (by omega)⟩
  clear h k hp hq hx hy S0
  generalize ceilN p q = N1 at C1 HF
  generalize ceilN x y = N2 at C2 HF
  go_enter Tryd.func67, Tryd.ntmps67
  go_wp2_with fail
  rw [← hw0] at S1
  rw [← hw0]
  obtain ⟨b2, hb2⟩ : ∃ b2, b2 = w.heap.size := ⟨_, rfl⟩
  have HB : Hid (w.heap.size ≤ b2 + 1 + 1) := by show _ ≤ _; omega
  rw [← hb2] at S1 f6 f7
  rw [← hb2]
  clear hw0 hb2
  have FZ : Hid (w0.frozen? ⟨b2 + 1 + 1, 0, none⟩ = false ∧ w0.frozen? ⟨b2 + 1 + 1, 1, none⟩ = false) := ⟨f6, f7⟩
  clear f6 f7
  refine wp_region_inv (JB w0 [sRt (p) (q), sNat (N1), sRt (x) (y), sNat (N2), sAny, sAny, sAny, sAny] [(4, 6, 1), (5, 7, 3)]) 19 (by kernel_rfl) rfl (by kernel_rfl) (JB.start _ _ _) (fun HG HN => ⟨?_, ?_, ?_, ?_, ?_, ?_, ?_, ?_, trivial⟩) ?_
  · intro L vs a w' hJ hF hP hL
    have q2 : (a.tmps[2]?).getD undef = .pointer (some ⟨b2, 0, none⟩) := hF.old 2 rfl
    have cb := cell_later hJ.bel (S1.out.cel (b2) 0 (.slice p1 m1 d1))
    have cc := cell_later hJ.bel (S1.out.cel (b2) 1 (.slice p2 m2 d2))
    exact run_val (v := .agg #[.slice p1 m1 d1, .slice p2 m2 d2]) rfl (by simp [execOp, go_sem, q2, cb, cc]) ⟨_, rfl, hJ.step hL rfl (Below.refl _ _) (by exact ((S1.out.fr (.agg #[.slice p1 m1 d1, .slice p2 m2 d2]) (p) (q)).mono hJ.bel))⟩
  · intro L vs a w' hJ hF hP hL
    have p0 : L 0 = true := hP ⟨0, .data⟩ (by simp) rfl
    have s0 : Rt w' (vs 0) (p) (q) := hJ.sp 0 p0
    have q7 := hF.slot 0 7 rfl p0
    refine run_call (f := 23) (args := #[vs 0]) rfl (by simp [go_sem, q7]) (C1.out _ _ s0) ?_
    rintro e w2 ⟨v, rfl, hv, hb⟩
    exact ⟨_, rfl, _, rfl, hJ.step hL rfl hb (by exact hv)⟩
  · intro L vs a w' hJ hF hP hL
    have q3 : (a.tmps[3]?).getD undef = .pointer (some ⟨b2 + 1, 0, none⟩) := hF.old 3 rfl
    have cb := cell_later hJ.bel (S1.out.cel (b2 + 1) 0 (.slice p3 m3 d3))
    have cc := cell_later hJ.bel (S1.out.cel (b2 + 1) 1 (.slice p4 m4 d4))
    exact run_val (v := .agg #[.slice p3 m3 d3, .slice p4 m4 d4]) rfl (by simp [execOp, go_sem, q3, cb, cc]) ⟨_, rfl, hJ.step hL rfl (Below.refl _ _) (by exact ((S1.out.fr (.agg #[.slice p3 m3 d3, .slice p4 m4 d4]) (x) (y)).mono hJ.bel))⟩
  · intro L vs a w' hJ hF hP hL
    have p2 : L 2 = true := hP ⟨2, .data⟩ (by simp) rfl
    have s2 : Rt w' (vs 2) (x) (y) := hJ.sp 2 p2
    have q9 := hF.slot 2 9 rfl p2
    refine run_call (f := 23) (args := #[vs 2]) rfl (by simp [go_sem, q9]) (C2.out _ _ s2) ?_
    rintro e w2 ⟨v, rfl, hv, hb⟩
    exact ⟨_, rfl, _, rfl, hJ.step hL rfl hb (by exact hv)⟩
  · intro L vs a w' hJ hF hP hL
    exact run_val (v := .pointer (some ⟨w'.heap.size, 0, none⟩)) (w' := w'.alloc (.cells #[.slice none 0 0] 27)) rfl (by simp [execOp, go_sem]) ⟨_, rfl, hJ.alloc hL rfl rfl _⟩
  · intro L vs a w' hJ hF hP hL
    exact run_val (v := .pointer (some ⟨w'.heap.size, 0, none⟩)) (w' := w'.alloc (.cells #[.slice none 0 0] 27)) rfl (by simp [execOp, go_sem]) ⟨_, rfl, hJ.alloc hL rfl rfl _⟩
  · intro L vs a w' hJ hF hP hL
    have p4 : L 4 = true := hP ⟨4, .data⟩ (by simp) rfl
    have q5 := hF.slot 4 5 rfl p4
    have p1 : L 1 = true := hP ⟨1, .data⟩ (by simp) rfl
    have s1 : IsNat w' (vs 1) (N1) := hJ.sp 1 p1
    have q8 := hF.slot 1 8 rfl p1
    obtain ⟨bk, e1, e2, e3, e4, e5, e6⟩ := hJ.bx (4, 6, 1) (by simp) p4
    have e7 := e5 hL
    obtain ⟨aa, nn, cc, e8⟩ := s1.isAgg
    exact run_unit (w' := w'.setCell ⟨bk, 0, none⟩ (.slice aa nn cc)) rfl (by simp [execOp, go_sem, q5, q8, e1, e8, e7, e4]) ⟨undef, rfl, hJ.store (b := (4, 6, 1)) (by simp) hL p4 p1 (by decide) rfl e1 e8⟩
  · intro L vs a w' hJ hF hP hL
    have p5 : L 5 = true := hP ⟨5, .data⟩ (by simp) rfl
    have q6 := hF.slot 5 6 rfl p5
    have p3 : L 3 = true := hP ⟨3, .data⟩ (by simp) rfl
    have s3 : IsNat w' (vs 3) (N2) := hJ.sp 3 p3
    have q10 := hF.slot 3 10 rfl p3
    obtain ⟨bk, e1, e2, e3, e4, e5, e6⟩ := hJ.bx (5, 7, 3) (by simp) p5
    have e7 := e5 hL
    obtain ⟨aa, nn, cc, e8⟩ := s3.isAgg
    exact run_unit (w' := w'.setCell ⟨bk, 0, none⟩ (.slice aa nn cc)) rfl (by simp [execOp, go_sem, q6, q10, e1, e8, e7, e4]) ⟨undef, rfl, hJ.store (b := (5, 7, 3)) (by simp) hL p5 p3 (by decide) rfl e1 e8⟩
  intro L vs w' hA hJ
  have s1 : IsNat w' (vs 1) (N1) := hJ.sp 1 (hA 1 (by simp))
  have s3 : IsNat w' (vs 3) (N2) := hJ.sp 3 (hA 3 (by simp))
  obtain ⟨bk4, eb4, ge4, lt4, fz4, _, e6⟩ := hJ.bx (4, 6, 1) (by simp) (hA 4 (by simp))
  obtain ⟨_, u4, eu4, ce4⟩ := e6 (hA 6 (by simp))
  clear e6
  obtain ⟨bk5, eb5, ge5, lt5, fz5, _, e6⟩ := hJ.bx (5, 7, 3) (by simp) (hA 5 (by simp))
  obtain ⟨_, u5, eu5, ce5⟩ := e6 (hA 7 (by simp))
  clear e6
  simp only [putL, Act.put, List.setIfInBounds_toArray, List.set_cons_zero, List.set_cons_succ, Nat.reduceAdd]
  obtain ⟨a5, n5, c5, q1⟩ := s1.isAgg
  obtain ⟨a6, n6, c6, q2⟩ := s3.isAgg
  rw [q1] at s1 eu4
  rw [q2] at s3 eu5
  obtain rfl : u4 = .slice a5 n5 c5 := by simpa using eu4.symm
  obtain rfl : u5 = .slice a6 n6 c6 := by simpa using eu5.symm
  simp only [eb4, eb5]
  obtain ⟨w5, ew⟩ : ∃ w5, w5 = w' := ⟨_, rfl⟩
  obtain ⟨b5, e1⟩ : ∃ b5, b5 = bk4 := ⟨_, rfl⟩
  obtain ⟨b6, e2⟩ : ∃ b6, b6 = bk5 := ⟨_, rfl⟩
  have FZ : Hid (w'.frozen? ⟨b2 + 1 + 1, 0, none⟩ = false ∧ w'.frozen? ⟨b2 + 1 + 1, 1, none⟩ = false) := ⟨(hJ.bel.frozen (World.block_lt_of_cell? _ _ (S1.out.cel (b2 + 1 + 1) 0 (.slice none 0 0)))).trans FZ.out.1, (hJ.bel.frozen (World.block_lt_of_cell? _ _ (S1.out.cel (b2 + 1 + 1) 1 (.slice none 0 0)))).trans FZ.out.2⟩
  have ND : Hid (b2 + 1 + 1 ≠ bk4 ∧ w.heap.size ≤ bk4) := by
    have l5 := World.block_lt_of_cell? _ _ (S1.out.cel (b2 + 1 + 1) 0 (.slice none 0 0))
    have := S1.out.bel.size
    exact ⟨by simp at l5; omega, by omega⟩
  have FX : Hid (w'.frozen? ⟨bk4, 0, none⟩ = false) := fz4
  have S2 : Hid _ := ((((S1.out.go hJ.bel).addN s1).addN s3).addC ce4).addC ce5
  rw [← ew, ← e1, ← e2] at S2
  rw [← ew] at FZ
  rw [← e1] at ND
  rw [← ew, ← e1] at FX
  rw [← ew, ← e1, ← e2]
  clear ew e1 e2 q1 q2 s1 s3 eu4 eu5 eb4 eb5 ce4 ce5 ge4 ge5 lt4 lt5 fz4 fz5 hJ hA S1
  have z5 := S2.out.cell b5 (.slice a5 n5 c5)
  have z6 := S2.out.cell b6 (.slice a6 n6 c6)
  go_wp2_with fail
  refine (cmp_any _ _ N2 N1 _ (S2.out.at (.agg #[.slice a6 n6 c6]) N2) (S2.out.at (.agg #[.slice a5 n5 c5]) N1) HF.out.2 HF.out.1).mono ?_
  rintro e w7 ⟨rfl, hb⟩
  have FZ : Hid (w7.frozen? ⟨b2 + 1 + 1, 0, none⟩ = false ∧ w7.frozen? ⟨b2 + 1 + 1, 1, none⟩ = false) := ⟨(hb.frozen (World.block_lt_of_cell? _ _ (S2.out.cel (b2 + 1 + 1) 0 (.slice none 0 0)))).trans FZ.out.1, (hb.frozen (World.block_lt_of_cell? _ _ (S2.out.cel (b2 + 1 + 1) 1 (.slice none 0 0)))).trans FZ.out.2⟩
  have FX : Hid (w7.frozen? ⟨b5, 0, none⟩ = false) := (hb.frozen (World.block_lt_of_cell? _ _ z5)).trans FX.out
  have S3 : Hid _ := S2.out.go hb
  clear hb S2 z5 z6
  obtain ⟨kk, hkk⟩ : ∃ kk, kk = cmpI N2 N1 := ⟨_, rfl⟩
  rw [← hkk]
  by_cases hlt : N2 < N1
  · have hd : decide (kk < 0) = true := decide_eq_true (by rw [hkk]; unfold cmpI; rw [if_pos hlt]; omega)
    have HM : Hid (Min.min N1 N2 = N2) := by show _ = _; omega
    have HX : Hid (Fits N2) := HF.out.2
    have z5 := S3.out.cell b5 (.slice a5 n5 c5)
    have z6 := S3.out.cell b6 (.slice a6 n6 c6)
    have fx := FX.out
    have S4 : Hid _ := (S3.out.set (b := b5) (i := 0) z5 ND.out.2 [(b2 + 1 + 1, 0, .slice none 0 0), (b2 + 1 + 1, 1, .slice none 0 0)] (fun p hp => by
      simp only [List.mem_cons, List.not_mem_nil, or_false] at hp
      rcases hp with rfl | rfl <;> exact ⟨by simp, ND.out.1⟩) (.slice a6 n6 c6)).addC (b := b5) (i := 0) (v := .slice a6 n6 c6) (by simp [go_sem, z5])
    have FZ : Hid ((w7.setCell ⟨b5, 0, none⟩ (.slice a6 n6 c6)).frozen? ⟨b2 + 1 + 1, 0, none⟩ = false ∧ (w7.setCell ⟨b5, 0, none⟩ (.slice a6 n6 c6)).frozen? ⟨b2 + 1 + 1, 1, none⟩ = false) := ⟨by simp [World.frozen?_setCell, FZ.out.1], by simp [World.frozen?_setCell, FZ.out.2]⟩
    clear hlt hkk S3 HF
    go_wp2_with fail
    clear z5 z6 fx hd
    obtain ⟨w8, hw⟩ : ∃ w8, w8 = w7.setCell ⟨b5, 0, none⟩ (.slice a6 n6 c6) := ⟨_, rfl⟩
    rw [← hw] at S4 FZ
    rw [← hw]
    clear hw
    have e6 := S4.out.cel (b2 + 1 + 1) 0 (.slice none 0 0)
    have e7 := S4.out.cel (b2 + 1 + 1) 1 (.slice none 0 0)
    have f6 := FZ.out.1
    have f7 := FZ.out.2
    refine wp_region_inv (JD w8 [sNat (N2), sNat (1), sRt (N2) (1), sAny] [[], [], [0, 1], [2]] 3 2 [0, 1, 2] (Sto2 (b2 + 1 + 1))) 19 (by kernel_rfl) rfl (by kernel_rfl) (JD.start _ _ _ _ _ _ _) (fun HG HN => ⟨?_, ?_, ?_, ?_, trivial⟩) ?_
    · intro L vs a w' hJ hF hP hL
      have hK := hJ
      have hJ := hK.open hL (by decide)
      have q5 : (a.tmps[5]?).getD undef = .pointer (some ⟨b5, 0, none⟩) := hF.old 5 rfl
      have cb := cell_later hJ.bel (S4.out.cell (b5) (.slice a6 n6 c6))
      exact run_val (v := .agg #[.slice a6 n6 c6]) rfl (by simp [execOp, go_sem, q5, cb]) ⟨_, rfl, hK.step hL (by decide) (by decide) rfl (nd_nil) <| hJ.step hL rfl (Below.refl _ _) (by exact ((S4.out.at (.agg #[.slice a6 n6 c6]) (N2)).mono hJ.bel))⟩
    · intro L vs a w' hJ hF hP hL
      have hK := hJ
      have hJ := hK.open hL (by decide)
      refine run_call (f := 40) (args := #[.int .u64 1]) rfl (by simp [go_sem]) (of_any 1 _ (by omega)) ?_
      rintro e w2 ⟨v, rfl, hv, hb⟩
      exact ⟨_, rfl, _, rfl, hK.step hL (by decide) (by decide) rfl (nd_nil) <| hJ.step hL rfl hb (by exact hv)⟩
    · intro L vs a w' hJ hF hP hL
      have hK := hJ
      have hJ := hK.open hL (by decide)
      have p0 : L 0 = true := hP ⟨0, .data⟩ (by simp) rfl
      have s0 : IsNat w' (vs 0) (N2) := hJ.sp 0 p0
      have q16 := hF.slot 0 16 rfl p0
      have p1 : L 1 = true := hP ⟨1, .data⟩ (by simp) rfl
      have s1 : IsNat w' (vs 1) (1) := hJ.sp 1 p1
      have q17 := hF.slot 1 17 rfl p1
      refine run_call (f := 47) (args := #[vs 0, vs 1]) rfl (by simp [go_sem, q16, q17]) (inLowest_any _ _ N2 1 _ s0 s1 HX.out (by omega) (Nat.gcd_one_right _)) ?_
      rintro e w2 ⟨v, rfl, hv, hb⟩
      exact ⟨_, rfl, _, rfl, hK.step hL (by decide) (by decide) rfl (nd_cons p0 (nd_cons p1 (nd_nil))) <| hJ.step hL rfl hb (by exact hv)⟩
    · intro L vs a w' hJ hF hP hL
      have hK := hJ
      have hJ := hK.core hL
      have q4 : (a.tmps[4]?).getD undef = .pointer (some ⟨b2 + 1 + 1, 0, none⟩) := hF.old 4 rfl
      have p2 : L 2 = true := hP ⟨2, .data⟩ (by simp) rfl
      have s2 : Rt w' (vs 2) (N2) (1) := hJ.sp 2 p2
      have q18 := hF.slot 2 18 rfl p2
      have p0 : L 0 = true := hK.cl 2 p2 0 (by simp)
      have p1 : L 1 = true := hK.cl 2 p2 1 (by simp)
      have x0 := cell_later hJ.bel e6
      have y0 := (hJ.bel.frozen (World.block_lt_of_cell? _ _ e6)).trans f6
      have x1 := cell_later hJ.bel e7
      have y1 := (hJ.bel.frozen (World.block_lt_of_cell? _ _ e7)).trans f7
      obtain ⟨aa, nn, cc, a2, n2, c2, e8, _, _⟩ := s2.raw
      exact run_unit (w' := ((w'.setCell ⟨b2 + 1 + 1, 0, none⟩ (.slice aa nn cc)).setCell ⟨b2 + 1 + 1, 1, none⟩ (.slice a2 n2 c2))) rfl (by simp [execOp, go_sem, q4, q18, e8, x0, y0, x1, y1]) ⟨undef, rfl, hK.put hL (by decide) rfl (nd_cons p2 nd_nil) (nd_cons p0 (nd_cons p1 (nd_cons p2 (nd_nil)))) p2 ⟨_, _, e8, rfl⟩⟩
    intro L vs w' hA hK
    obtain ⟨_, w1, hb1, sv, u1, u2, ev, ew⟩ := hK.fin (hA 3 (by simp))
    replace sv : Rt w1 (vs 2) (N2) (1) := sv
    obtain ⟨a8, n8, k8, a9, n9, k9, e8, _, _⟩ := sv.raw
    rw [e8] at ev sv
    obtain ⟨rfl, rfl⟩ : u1 = .slice a8 n8 k8 ∧ u2 = .slice a9 n9 k9 := by simpa [eq_comm] using ev
    have x0 := cell_later hb1 e6
    have x1 := cell_later hb1 e7
    have Z : Hid _ := rat_put (w0 := w) (v := .slice a8 n8 k8) (u := .slice a9 n9 k9) x0 x1 sv (bel_go S4.out.bel hb1) HB.out
    obtain ⟨l6, l7⟩ := radd_parts (w0 := w) (p := 0) (q := 0) (a6 := a8) (n6 := n8) (k6 := k8) (a7 := a9) (n7 := n9) (k7 := k9) x0 x1
    rw [← ew] at Z l6 l7
    clear ew x0 x1 sv ev hb1 e8 hK hA e6 e7 f6 f7 S4
    simp only [putL, Act.put, List.setIfInBounds_toArray, List.set_cons_zero, List.set_cons_succ, Nat.reduceAdd]
    go_wp2_with fail
    rw [HM.out]
    exact bodyPost_ret (v := .agg #[.slice a8 n8 k8, .slice a9 n9 k9]) (by simp [results, Tryd.results67, go_sem, l6, l7]) rfl ⟨_, rfl, Z.out.1, Z.out.2⟩
  · have hd : decide (kk < 0) = false := decide_eq_false (by
      rw [hkk]
      unfold cmpI
      rw [if_neg hlt]
      split <;> omega)
    have HM : Hid (Min.min N1 N2 = N1) := by show _ = _; omega
    have HX : Hid (Fits N1) := HF.out.1
    clear hlt hkk HF
    go_wp2_with fail
    clear hd
    have e6 := S3.out.cel (b2 + 1 + 1) 0 (.slice none 0 0)
    have e7 := S3.out.cel (b2 + 1 + 1) 1 (.slice none 0 0)
    have f6 := FZ.out.1
    have f7 := FZ.out.2
    refine wp_region_inv (JD w7 [sNat (N1), sNat (1), sRt (N1) (1), sAny] [[], [], [0, 1], [2]] 3 2 [0, 1, 2] (Sto2 (b2 + 1 + 1))) 19 (by kernel_rfl) rfl (by kernel_rfl) (JD.start _ _ _ _ _ _ _) (fun HG HN => ⟨?_, ?_, ?_, ?_, trivial⟩) ?_
    · intro L vs a w' hJ hF hP hL
      have hK := hJ
      have hJ := hK.open hL (by decide)
      have q5 : (a.tmps[5]?).getD undef = .pointer (some ⟨b5, 0, none⟩) := hF.old 5 rfl
      have cb := cell_later hJ.bel (S3.out.cell (b5) (.slice a5 n5 c5))
      exact run_val (v := .agg #[.slice a5 n5 c5]) rfl (by simp [execOp, go_sem, q5, cb]) ⟨_, rfl, hK.step hL (by decide) (by decide) rfl (nd_nil) <| hJ.step hL rfl (Below.refl _ _) (by exact ((S3.out.at (.agg #[.slice a5 n5 c5]) (N1)).mono hJ.bel))⟩
    · intro L vs a w' hJ hF hP hL
      have hK := hJ
      have hJ := hK.open hL (by decide)
      refine run_call (f := 40) (args := #[.int .u64 1]) rfl (by simp [go_sem]) (of_any 1 _ (by omega)) ?_
      rintro e w2 ⟨v, rfl, hv, hb⟩
      exact ⟨_, rfl, _, rfl, hK.step hL (by decide) (by decide) rfl (nd_nil) <| hJ.step hL rfl hb (by exact hv)⟩
    · intro L vs a w' hJ hF hP hL
      have hK := hJ
      have hJ := hK.open hL (by decide)
      have p0 : L 0 = true := hP ⟨0, .data⟩ (by simp) rfl
      have s0 : IsNat w' (vs 0) (N1) := hJ.sp 0 p0
      have q16 := hF.slot 0 16 rfl p0
      have p1 : L 1 = true := hP ⟨1, .data⟩ (by simp) rfl
      have s1 : IsNat w' (vs 1) (1) := hJ.sp 1 p1
      have q17 := hF.slot 1 17 rfl p1
      refine run_call (f := 47) (args := #[vs 0, vs 1]) rfl (by simp [go_sem, q16, q17]) (inLowest_any _ _ N1 1 _ s0 s1 HX.out (by omega) (Nat.gcd_one_right _)) ?_
      rintro e w2 ⟨v, rfl, hv, hb⟩
      exact ⟨_, rfl, _, rfl, hK.step hL (by decide) (by decide) rfl (nd_cons p0 (nd_cons p1 (nd_nil))) <| hJ.step hL rfl hb (by exact hv)⟩
    · intro L vs a w' hJ hF hP hL
      have hK := hJ
      have hJ := hK.core hL
      have q4 : (a.tmps[4]?).getD undef = .pointer (some ⟨b2 + 1 + 1, 0, none⟩) := hF.old 4 rfl
      have p2 : L 2 = true := hP ⟨2, .data⟩ (by simp) rfl
      have s2 : Rt w' (vs 2) (N1) (1) := hJ.sp 2 p2
      have q18 := hF.slot 2 18 rfl p2
      have p0 : L 0 = true := hK.cl 2 p2 0 (by simp)
      have p1 : L 1 = true := hK.cl 2 p2 1 (by simp)
      have x0 := cell_later hJ.bel e6
      have y0 := (hJ.bel.frozen (World.block_lt_of_cell? _ _ e6)).trans f6
      have x1 := cell_later hJ.bel e7
      have y1 := (hJ.bel.frozen (World.block_lt_of_cell? _ _ e7)).trans f7
      obtain ⟨aa, nn, cc, a2, n2, c2, e8, _, _⟩ := s2.raw
      exact run_unit (w' := ((w'.setCell ⟨b2 + 1 + 1, 0, none⟩ (.slice aa nn cc)).setCell ⟨b2 + 1 + 1, 1, none⟩ (.slice a2 n2 c2))) rfl (by simp [execOp, go_sem, q4, q18, e8, x0, y0, x1, y1]) ⟨undef, rfl, hK.put hL (by decide) rfl (nd_cons p2 nd_nil) (nd_cons p0 (nd_cons p1 (nd_cons p2 (nd_nil)))) p2 ⟨_, _, e8, rfl⟩⟩
    intro L vs w' hA hK
    obtain ⟨_, w1, hb1, sv, u1, u2, ev, ew⟩ := hK.fin (hA 3 (by simp))
    replace sv : Rt w1 (vs 2) (N1) (1) := sv
    obtain ⟨a8, n8, k8, a9, n9, k9, e8, _, _⟩ := sv.raw
    rw [e8] at ev sv
    obtain ⟨rfl, rfl⟩ : u1 = .slice a8 n8 k8 ∧ u2 = .slice a9 n9 k9 := by simpa [eq_comm] using ev
    have x0 := cell_later hb1 e6
    have x1 := cell_later hb1 e7
    have Z : Hid _ := rat_put (w0 := w) (v := .slice a8 n8 k8) (u := .slice a9 n9 k9) x0 x1 sv (bel_go S3.out.bel hb1) HB.out
    obtain ⟨l6, l7⟩ := radd_parts (w0 := w) (p := 0) (q := 0) (a6 := a8) (n6 := n8) (k6 := k8) (a7 := a9) (n7 := n9) (k7 := k9) x0 x1
    rw [← ew] at Z l6 l7
    clear ew x0 x1 sv ev hb1 e8 hK hA e6 e7 f6 f7 S3
    simp only [putL, Act.put, List.setIfInBounds_toArray, List.set_cons_zero, List.set_cons_succ, Nat.reduceAdd]
    go_wp2_with fail
    rw [HM.out]
    exact bodyPost_ret (v := .agg #[.slice a8 n8 k8, .slice a9 n9 k9]) (by simp [results, Tryd.results67, go_sem, l6, l7]) rfl ⟨_, rfl, Z.out.1, Z.out.2⟩
end Go.Proofs.YtkhdapmipcghoaaDoor
namespace Go.Proofs.YtkhdapmipcghoaaDoor
open Go.RowKit
set_option maxRecDepth 100000
set_option linter.unusedVariables false
def MakesNR (w : World) (n p q : Nat) (e : Ending) (w' : World) : Prop := ∃ v u, e = .returned (.tuple #[v, u]) ∧ IsNat w' v n ∧ Rt w' u p q ∧ Below w.heap.size w w'
theorem nr_put {w0 w : World} {r : Nat} {n p q : Nat} {v s u V U : Value} (c0 : w.cell? ⟨r, 0, none⟩ = some (.slice none 0 0)) (c1 : w.cell? ⟨r + 1, 0, none⟩ = some (.slice none 0 0)) (c2 : w.cell? ⟨r + 1, 1, none⟩ = some (.slice none 0 0)) (h : IsNat w V n) (k : Rt w U p q) (hb : Below w0.heap.size w0 w) (hr : w0.heap.size ≤ r) :
    (IsNat (((w.setCell ⟨r, 0, none⟩ v).setCell ⟨r + 1, 0, none⟩ s).setCell ⟨r + 1, 1, none⟩ u) V n ∧ Rt (((w.setCell ⟨r, 0, none⟩ v).setCell ⟨r + 1, 0, none⟩ s).setCell ⟨r + 1, 1, none⟩ u) U p q ∧ Below w0.heap.size w0 (((w.setCell ⟨r, 0, none⟩ v).setCell ⟨r + 1, 0, none⟩ s).setCell ⟨r + 1, 1, none⟩ u)) ∧ (((w.setCell ⟨r, 0, none⟩ v).setCell ⟨r + 1, 0, none⟩ s).setCell ⟨r + 1, 1, none⟩ u).cell? ⟨r, 0, none⟩ = some v ∧ (((w.setCell ⟨r, 0, none⟩ v).setCell ⟨r + 1, 0, none⟩ s).setCell ⟨r + 1, 1, none⟩ u).cell? ⟨r + 1, 0, none⟩ = some s ∧ (((w.setCell ⟨r, 0, none⟩ v).setCell ⟨r + 1, 0, none⟩ s).setCell ⟨r + 1, 1, none⟩ u).cell? ⟨r + 1, 1, none⟩ = some u := by
  have j1 : (w.setCell ⟨r, 0, none⟩ v).cell? ⟨r + 1, 0, none⟩ = some (.slice none 0 0) := (World.cell?_setCell_other (h := by simp) ..).trans c1
  have j2 : (w.setCell ⟨r, 0, none⟩ v).cell? ⟨r + 1, 1, none⟩ = some (.slice none 0 0) := (World.cell?_setCell_other (h := by simp) ..).trans c2
  have j3 : ((w.setCell ⟨r, 0, none⟩ v).setCell ⟨r + 1, 0, none⟩ s).cell? ⟨r + 1, 1, none⟩ = some (.slice none 0 0) := (World.cell?_setCell_other (h := by simp) ..).trans j2
  have i0 : (w.setCell ⟨r, 0, none⟩ v).cell? ⟨r, 0, none⟩ = some v := by simp [go_sem, c0]
  have i1 : ((w.setCell ⟨r, 0, none⟩ v).setCell ⟨r + 1, 0, none⟩ s).cell? ⟨r + 1, 0, none⟩ = some s := by simp [go_sem, j1]
  refine ⟨⟨((h.setCell (no_int_slice c0) _).setCell (no_int_slice j1) _).setCell (no_int_slice j3) _, ((k.setCell (no_int_slice c0) _).setCell (no_int_slice j1) _).setCell (no_int_slice j3) _, ((hb.setCell hr _).setCell (by show _ ≤ r + 1; omega) _).setCell (by show _ ≤ r + 1; omega) _⟩, ?_, ?_, ?_⟩
  · exact (World.cell?_setCell_other (h := by simp) ..).trans ((World.cell?_setCell_other (h := by simp) ..).trans i0)
  · exact (World.cell?_setCell_other (h := by simp) ..).trans i1
  · simp [go_sem, j3]
set_option maxHeartbeats 8000000 in
theorem turned_whole (v : Value) (p q : Nat) (w : World) (h : Rt w v p q) (hp : RS p) (hq : RS q) (h0 : p % q = 0) :
    Calls Tryd.prog 65 #[v] w (MakesNR w (p / q) 0 1) := by
  obtain ⟨p1, m1, d1, p2, m2, d2, e0, _, hsnd⟩ := h.raw
  subst e0
  have HD : Hid (decide (p % q = 0) = true) := decide_eq_true h0
  have S0 : Hid _ := (((sx_start w).addF h).box (.slice p1 m1 d1) (.slice p2 m2 d2) 29 _ rfl).box1 (.slice none 0 0) 27 _ rfl
  simp only [World.size_alloc] at S0
  have S1 : Hid _ := S0.out.box (.slice none 0 0) (.slice none 0 0) 29 _ rfl
  simp only [World.size_alloc] at S1
  obtain ⟨w0, hw0⟩ : ∃ w0, w0 = ((w.alloc (.cells #[.slice p1 m1 d1, .slice p2 m2 d2] 29)).alloc (.cells #[.slice none 0 0] 27)).alloc (.cells #[.slice none 0 0, .slice none 0 0] 29) := ⟨_, rfl⟩
  have FZ : Hid (w0.frozen? ⟨w.heap.size + 1, 0, none⟩ = false ∧ w0.frozen? ⟨w.heap.size + 1 + 1, 0, none⟩ = false ∧ w0.frozen? ⟨w.heap.size + 1 + 1, 1, none⟩ = false) := by
    rw [hw0]
    exact ⟨by simp [go_sem], by simp [go_sem], by simp [go_sem]⟩
  have HH : Hid (RS p ∧ RS q ∧ RS (p % q)) := ⟨hp, hq, hp.le (Nat.mod_le _ _)⟩
  clear h hp hq h0 hsnd S0
  go_enter Tryd.func65, Tryd.ntmps65
  go_wp2_with fail
  rw [← hw0] at S1
  rw [← hw0]
  obtain ⟨b2, hb2⟩ : ∃ b2, b2 = w.heap.size := ⟨_, rfl⟩
  have HB : Hid (w.heap.size ≤ b2 + 1) := by show _ ≤ _; omega
  rw [← hb2] at S1 FZ
  rw [← hb2]
  clear hw0 hb2
  refine (split_any _ p q _ (S1.out.fr (.agg #[.slice p1 m1 d1, .slice p2 m2 d2]) p q) HH.out.1 HH.out.2.1).mono ?_
  rintro e v4w ⟨v4, v5, rfl, hv, hu, hb⟩
  obtain ⟨a4, n4, c4, rfl⟩ := hv.isAgg
  obtain ⟨a5, n5, c5, rfl⟩ := hu.isAgg
  have hbb := bel_go hb (bel_al (o := .cells #[.slice a5 n5 c5] 27) (bel_al (o := .cells #[.slice a4 n4 c4] 27) (bel_refl _)))
  have FZ : Hid (((v4w.alloc (.cells #[.slice a4 n4 c4] 27)).alloc (.cells #[.slice a5 n5 c5] 27)).frozen? ⟨b2 + 1, 0, none⟩ = false ∧ ((v4w.alloc (.cells #[.slice a4 n4 c4] 27)).alloc (.cells #[.slice a5 n5 c5] 27)).frozen? ⟨b2 + 1 + 1, 0, none⟩ = false ∧ ((v4w.alloc (.cells #[.slice a4 n4 c4] 27)).alloc (.cells #[.slice a5 n5 c5] 27)).frozen? ⟨b2 + 1 + 1, 1, none⟩ = false) := ⟨(hbb.frozen (World.block_lt_of_cell? _ _ (S1.out.cel (b2 + 1) 0 (.slice none 0 0)))).trans FZ.out.1, (hbb.frozen (World.block_lt_of_cell? _ _ (S1.out.cel (b2 + 1 + 1) 0 (.slice none 0 0)))).trans FZ.out.2.1, (hbb.frozen (World.block_lt_of_cell? _ _ (S1.out.cel (b2 + 1 + 1) 1 (.slice none 0 0)))).trans FZ.out.2.2⟩
  have S2 : Hid _ := ((((S1.out.go hb).addN hv).addN hu).box1 (.slice a4 n4 c4) 27 _ rfl).box1 (.slice a5 n5 c5) 27 _ rfl
  have hlb : b2 + 1 + 1 < v4w.heap.size := World.block_lt_of_cell? _ _ (cell_later hb (S1.out.cel (b2 + 1 + 1) 0 (.slice none 0 0)))
  clear hv hu hb hbb S1
  simp only [World.size_alloc] at S2
  go_wp2_with fail
  obtain ⟨w4, hw⟩ : ∃ w4, w4 = (v4w.alloc (.cells #[.slice a4 n4 c4] 27)).alloc (.cells #[.slice a5 n5 c5] 27) := ⟨_, rfl⟩
  obtain ⟨b4, hb⟩ : ∃ b4, b4 = v4w.heap.size := ⟨_, rfl⟩
  rw [← hw, ← hb] at S2
  rw [← hb] at hlb
  rw [← hw] at FZ
  rw [← hw, ← hb]
  clear hw hb
  have IZ := isZero_any _ (p % q) _ (S2.out.at (.agg #[.slice a5 n5 c5]) (p % q)) HH.out.2.2.fits
  rw [HD.out] at IZ
  refine IZ.mono ?_
  clear IZ
  rintro e w9 ⟨rfl, hb⟩
  have FZ : Hid (w9.frozen? ⟨b2 + 1, 0, none⟩ = false ∧ w9.frozen? ⟨b2 + 1 + 1, 0, none⟩ = false ∧ w9.frozen? ⟨b2 + 1 + 1, 1, none⟩ = false) := ⟨(hb.frozen (World.block_lt_of_cell? _ _ (S2.out.cel (b2 + 1) 0 (.slice none 0 0)))).trans FZ.out.1, (hb.frozen (World.block_lt_of_cell? _ _ (S2.out.cel (b2 + 1 + 1) 0 (.slice none 0 0)))).trans FZ.out.2.1, (hb.frozen (World.block_lt_of_cell? _ _ (S2.out.cel (b2 + 1 + 1) 1 (.slice none 0 0)))).trans FZ.out.2.2⟩
  have S3 : Hid _ := S2.out.go hb
  clear hb S2
  have x0 := S3.out.cel (b2 + 1) 0 (.slice none 0 0)
  have x1 := S3.out.cel (b2 + 1 + 1) 0 (.slice none 0 0)
  have x2 := S3.out.cel (b2 + 1 + 1) 1 (.slice none 0 0)
  have f0 := FZ.out.1
  have f1 := FZ.out.2.1
  have f2 := FZ.out.2.2
  have z4 := S3.out.cell b4 (.slice a4 n4 c4)
  have Z : Hid _ := nr_put (w0 := w) (v := .slice a4 n4 c4) (s := .slice none 0 0) (u := .slice none 0 0) x0 x1 x2 (S3.out.at (.agg #[.slice a4 n4 c4]) (p / q)) (rt_zero _) S3.out.bel HB.out
  obtain ⟨_, l0, l1, l2⟩ := Z.out
  clear S3 FZ hlb
  go_wp2_with fail
  exact bodyPost_ret (v := .tuple #[.agg #[.slice a4 n4 c4], .agg #[.slice none 0 0, .slice none 0 0]]) (by simp [results, Tryd.results65, go_sem, l0, l1, l2]) rfl ⟨_, _, rfl, Z.out.1.1, Z.out.1.2.1, Z.out.1.2.2⟩
set_option maxHeartbeats 8000000 in
theorem turned_rest (v : Value) (p q : Nat) (w : World) (h : Rt w v p q) (hp : RS p) (hq : RS q) (h0 : p % q ≠ 0) :
    Calls Tryd.prog 65 #[v] w (MakesNR w (p / q) q (p % q)) := by
  obtain ⟨p1, m1, d1, p2, m2, d2, e0, _, hsnd⟩ := h.raw
  subst e0
  have p0 : p ≠ 0 := fun e => h0 (by rw [e]; exact Nat.zero_mod _)
  rw [if_neg p0] at hsnd
  have HG : Hid (Nat.gcd q (p % q) = 1 ∧ 0 < p % q ∧ q ≠ 0) := ⟨by rw [Nat.gcd_comm, ← Nat.gcd_rec, Nat.gcd_comm]; exact h.low, Nat.pos_of_ne_zero h0, by have := h.pos; omega⟩
  have HD : Hid (decide (p % q = 0) = false) := decide_eq_false h0
  have S0 : Hid _ := ((((sx_start w).addF h).addN hsnd).box (.slice p1 m1 d1) (.slice p2 m2 d2) 29 _ rfl).box1 (.slice none 0 0) 27 _ rfl
  simp only [World.size_alloc] at S0
  have S1 : Hid _ := S0.out.box (.slice none 0 0) (.slice none 0 0) 29 _ rfl
  simp only [World.size_alloc] at S1
  obtain ⟨w0, hw0⟩ : ∃ w0, w0 = ((w.alloc (.cells #[.slice p1 m1 d1, .slice p2 m2 d2] 29)).alloc (.cells #[.slice none 0 0] 27)).alloc (.cells #[.slice none 0 0, .slice none 0 0] 29) := ⟨_, rfl⟩
  have FZ : Hid (w0.frozen? ⟨w.heap.size + 1, 0, none⟩ = false ∧ w0.frozen? ⟨w.heap.size + 1 + 1, 0, none⟩ = false ∧ w0.frozen? ⟨w.heap.size + 1 + 1, 1, none⟩ = false) := by
    rw [hw0]
    exact ⟨by simp [go_sem], by simp [go_sem], by simp [go_sem]⟩
  have HH : Hid (RS p ∧ RS q ∧ RS (p % q)) := ⟨hp, hq, hp.le (Nat.mod_le _ _)⟩
  clear h hp hq h0 hsnd S0 p0
  go_enter Tryd.func65, Tryd.ntmps65
  go_wp2_with fail
  rw [← hw0] at S1
  rw [← hw0]
  obtain ⟨b2, hb2⟩ : ∃ b2, b2 = w.heap.size := ⟨_, rfl⟩
  have HB : Hid (w.heap.size ≤ b2 + 1) := by show _ ≤ _; omega
  rw [← hb2] at S1 FZ
  rw [← hb2]
  clear hw0 hb2
  refine (split_any _ p q _ (S1.out.fr (.agg #[.slice p1 m1 d1, .slice p2 m2 d2]) p q) HH.out.1 HH.out.2.1).mono ?_
  rintro e v4w ⟨v4, v5, rfl, hv, hu, hb⟩
  obtain ⟨a4, n4, c4, rfl⟩ := hv.isAgg
  obtain ⟨a5, n5, c5, rfl⟩ := hu.isAgg
  have hbb := bel_go hb (bel_al (o := .cells #[.slice a5 n5 c5] 27) (bel_al (o := .cells #[.slice a4 n4 c4] 27) (bel_refl _)))
  have FZ : Hid (((v4w.alloc (.cells #[.slice a4 n4 c4] 27)).alloc (.cells #[.slice a5 n5 c5] 27)).frozen? ⟨b2 + 1, 0, none⟩ = false ∧ ((v4w.alloc (.cells #[.slice a4 n4 c4] 27)).alloc (.cells #[.slice a5 n5 c5] 27)).frozen? ⟨b2 + 1 + 1, 0, none⟩ = false ∧ ((v4w.alloc (.cells #[.slice a4 n4 c4] 27)).alloc (.cells #[.slice a5 n5 c5] 27)).frozen? ⟨b2 + 1 + 1, 1, none⟩ = false) := ⟨(hbb.frozen (World.block_lt_of_cell? _ _ (S1.out.cel (b2 + 1) 0 (.slice none 0 0)))).trans FZ.out.1, (hbb.frozen (World.block_lt_of_cell? _ _ (S1.out.cel (b2 + 1 + 1) 0 (.slice none 0 0)))).trans FZ.out.2.1, (hbb.frozen (World.block_lt_of_cell? _ _ (S1.out.cel (b2 + 1 + 1) 1 (.slice none 0 0)))).trans FZ.out.2.2⟩
  have S2 : Hid _ := ((((S1.out.go hb).addN hv).addN hu).box1 (.slice a4 n4 c4) 27 _ rfl).box1 (.slice a5 n5 c5) 27 _ rfl
  have hlb : b2 + 1 + 1 < v4w.heap.size := World.block_lt_of_cell? _ _ (cell_later hb (S1.out.cel (b2 + 1 + 1) 0 (.slice none 0 0)))
  clear hv hu hb hbb S1
  simp only [World.size_alloc] at S2
  go_wp2_with fail
  obtain ⟨w4, hw⟩ : ∃ w4, w4 = (v4w.alloc (.cells #[.slice a4 n4 c4] 27)).alloc (.cells #[.slice a5 n5 c5] 27) := ⟨_, rfl⟩
  obtain ⟨b4, hb⟩ : ∃ b4, b4 = v4w.heap.size := ⟨_, rfl⟩
  rw [← hw, ← hb] at S2
  rw [← hb] at hlb
  rw [← hw] at FZ
  rw [← hw, ← hb]
  clear hw hb
  have IZ := isZero_any _ (p % q) _ (S2.out.at (.agg #[.slice a5 n5 c5]) (p % q)) HH.out.2.2.fits
  rw [HD.out] at IZ
  refine IZ.mono ?_
  clear IZ
  rintro e w9 ⟨rfl, hb⟩
  have FZ : Hid (w9.frozen? ⟨b2 + 1, 0, none⟩ = false ∧ w9.frozen? ⟨b2 + 1 + 1, 0, none⟩ = false ∧ w9.frozen? ⟨b2 + 1 + 1, 1, none⟩ = false) := ⟨(hb.frozen (World.block_lt_of_cell? _ _ (S2.out.cel (b2 + 1) 0 (.slice none 0 0)))).trans FZ.out.1, (hb.frozen (World.block_lt_of_cell? _ _ (S2.out.cel (b2 + 1 + 1) 0 (.slice none 0 0)))).trans FZ.out.2.1, (hb.frozen (World.block_lt_of_cell? _ _ (S2.out.cel (b2 + 1 + 1) 1 (.slice none 0 0)))).trans FZ.out.2.2⟩
  have S3 : Hid _ := S2.out.go hb
  clear hb S2
  have x0 := S3.out.cel (b2 + 1) 0 (.slice none 0 0)
  have x1 := S3.out.cel (b2 + 1 + 1) 0 (.slice none 0 0)
  have x2 := S3.out.cel (b2 + 1 + 1) 1 (.slice none 0 0)
  have f0 := FZ.out.1
  have f1 := FZ.out.2.1
  have f2 := FZ.out.2.2
  have z4 := S3.out.cell b4 (.slice a4 n4 c4)
  have z5 := S3.out.cell (b4 + 1) (.slice a5 n5 c5)
  have z1 := S3.out.cel b2 0 (.slice p1 m1 d1)
  have z2 := S3.out.cel b2 1 (.slice p2 m2 d2)
  have TU : Rt w9 (.agg #[.slice p2 m2 d2, .slice a5 n5 c5]) q (p % q) := ⟨⟨_, _, _, _, _, _, rfl, S3.out.at (.agg #[.slice p2 m2 d2]) q, by
    rw [if_neg HG.out.2.2]
    exact S3.out.at (.agg #[.slice a5 n5 c5]) (p % q)⟩, HG.out.2.1, HG.out.1⟩
  have Z : Hid _ := nr_put (w0 := w) (v := .slice a4 n4 c4) (s := .slice p2 m2 d2) (u := .slice a5 n5 c5) x0 x1 x2 (S3.out.at (.agg #[.slice a4 n4 c4]) (p / q)) TU S3.out.bel HB.out
  obtain ⟨_, l0, l1, l2⟩ := Z.out
  have nb1 : ¬ b2 + 1 = b4 := by omega
  have nb2 : ¬ b2 + 1 + 1 = b4 := by omega
  have nb3 : ¬ b2 + 1 = b4 + 1 := by omega
  have nb4 : ¬ b2 + 1 + 1 = b4 + 1 := by omega
  have nb5 : ¬ b4 = b2 + 1 := by omega
  have nb6 : ¬ b4 = b2 + 1 + 1 := by omega
  have nb7 : ¬ b4 + 1 = b2 + 1 := by omega
  have nb8 : ¬ b4 + 1 = b2 + 1 + 1 := by omega
  clear S3 FZ hlb TU
  go_wp2_with fail
  go_region
  go_wp2_with fail
  refine bodyPost_ret (v := .tuple #[.agg #[.slice a4 n4 c4], .agg #[.slice p2 m2 d2, .slice a5 n5 c5]]) (by simp [results, Tryd.results65, go_sem, l0, l1, l2]) rfl ?_
  exact ⟨_, _, rfl, Z.out.1.1.mono (bel_dr (bel_refl _)), Z.out.1.2.1.mono (bel_dr (bel_refl _)), bel_dr Z.out.1.2.2⟩
end Go.Proofs.YtkhdapmipcghoaaDoor
namespace Go.Proofs.YtkhdapmipcghoaaDoor
open Go.RowKit
set_option maxRecDepth 100000
set_option linter.unusedVariables false
/-- m / n lies from p / q to x / y, or the other way round. -/
def Btw (p q x y m n : Nat) : Prop := (p * n ≤ m * q ∧ m * y ≤ x * n) ∨ (x * n ≤ m * y ∧ m * q ≤ p * n)
/-- a / b lies there, and each other fraction there has no lesser part. -/
structure Best (p q x y a b : Nat) : Prop where
  mem : Btw p q x y a b
  least : ∀ m n, 0 < n → Btw p q x y m n → a ≤ m ∧ b ≤ n
theorem best_same {p q x y : Nat} (hq : 0 < q) (hg : Nat.gcd p q = 1) (he : p * y = x * q) (hy : 0 < y) : Best p q x y p q := by
  refine ⟨.inl ⟨Nat.le_refl _, by rw [he]; exact Nat.le_refl _⟩, fun m n hn h => ?_⟩
  have e : p * n = m * q := by
    rcases h with ⟨h1, h2⟩ | ⟨h1, h2⟩
    · refine Nat.le_antisymm h1 (Nat.le_of_mul_le_mul_right (c := y) ?_ hy)
      have h3 := Nat.mul_le_mul_right q h2
      have e1 : m * q * y = m * y * q := by grind
      have e2 : p * n * y = x * n * q := by
        have : p * n * y = p * y * n := by grind
        rw [this, he]
        grind
      rw [e1, e2]
      exact h3
    · refine Nat.le_antisymm (Nat.le_of_mul_le_mul_right (c := y) ?_ hy) h2
      have h3 := Nat.mul_le_mul_right q h1
      have e1 : m * q * y = m * y * q := by grind
      have e2 : p * n * y = x * n * q := by
        have : p * n * y = p * y * n := by grind
        rw [this, he]
        grind
      rw [e1, e2]
      exact h3
  have hg' : Nat.Coprime p q := hg
  obtain ⟨t, ht⟩ : q ∣ n := hg'.symm.dvd_of_dvd_mul_left ⟨m, by rw [e, Nat.mul_comm]⟩
  have t0 : 0 < t := by
    rcases Nat.eq_zero_or_pos t with e0 | e0
    · rw [e0] at ht; omega
    · exact e0
  have em : m = p * t := by
    refine Nat.eq_of_mul_eq_mul_right hq ?_
    rw [← e, ht]
    grind
  rw [em, ht]
  exact ⟨Nat.le_mul_of_pos_right _ t0, Nat.le_mul_of_pos_right _ t0⟩
theorem ceil_le {p q m : Nat} (hq : 0 < q) : p ≤ m * q ↔ ceilN p q ≤ m := by
  have hdm := Nat.div_add_mod p q
  have hml := Nat.mod_lt p hq
  unfold ceilN
  constructor
  · intro h
    split
    · exact Nat.div_le_of_le_mul (by rw [Nat.mul_comm]; exact h)
    · rename_i h0
      refine Nat.succ_le_of_lt (Nat.lt_of_mul_lt_mul_left (a := q) ?_)
      rw [Nat.mul_comm q m]
      omega
  · intro h
    split at h
    · have := Nat.mul_le_mul_left q h
      rw [Nat.mul_comm q m] at this
      omega
    · have := Nat.mul_le_mul_left q h
      rw [Nat.mul_comm q m, Nat.mul_add, Nat.mul_one] at this
      omega
theorem ceil_up (p q : Nat) (hq : 0 < q) : p ≤ ceilN p q * q := (ceil_le hq).2 (Nat.le_refl _)
theorem leaf_one {p q x y : Nat} (hq : 0 < q) (hy : 0 < y) (hle : p * y ≤ x * q) (h : p / q ≠ x / y ∨ p % q = 0 ∨ x % y = 0) : ceilN p q * y ≤ x := by
  have hf : p / q ≤ x / y := by
    rw [Nat.le_div_iff_mul_le hy]
    refine Nat.le_of_mul_le_mul_right (c := q) ?_ hq
    have h1 : p / q * y * q = p / q * q * y := by grind
    rw [h1]
    exact Nat.le_trans (Nat.mul_le_mul_right y (Nat.div_mul_le_self p q)) hle
  have hx : x / y * y ≤ x := Nat.div_mul_le_self x y
  unfold ceilN
  split
  · exact Nat.le_trans (Nat.mul_le_mul_right y hf) hx
  · rename_i h0
    by_cases hlt : p / q < x / y
    · exact Nat.le_trans (Nat.mul_le_mul_right y hlt) hx
    · have he : p / q = x / y := by omega
      have hx0 : x % y = 0 := by
        rcases h with h | h | h
        · exact absurd he h
        · exact absurd h h0
        · exact h
      exfalso
      have d1 := Nat.div_add_mod p q
      have d2 := Nat.div_add_mod x y
      rw [hx0, Nat.add_zero] at d2
      rw [he] at d1
      have h3 : p * y = (q * (x / y) + p % q) * y := by rw [d1]
      have h4 : x * q = y * (x / y) * q := by rw [d2]
      rw [h3, h4, Nat.add_mul, show y * (x / y) * q = q * (x / y) * y by grind] at hle
      have h5 : 0 < p % q * y := Nat.mul_pos (Nat.pos_of_ne_zero h0) hy
      omega
theorem Btw.swap {p q x y m n : Nat} (h : Btw p q x y m n) : Btw x y p q m n := h.symm
theorem Best.swap {p q x y a b : Nat} (h : Best p q x y a b) : Best x y p q a b := ⟨h.mem.swap, fun m n hn hb => h.least m n hn hb.swap⟩
theorem best_leaf {p q x y : Nat} (hq : 0 < q) (hy : 0 < y) (h : p / q ≠ x / y ∨ p % q = 0 ∨ x % y = 0) : Best p q x y (Min.min (ceilN p q) (ceilN x y)) 1 := by
  have key : ∀ {p q x y : Nat}, 0 < q → 0 < y → p * y ≤ x * q → (p / q ≠ x / y ∨ p % q = 0 ∨ x % y = 0) → Min.min (ceilN p q) (ceilN x y) = ceilN p q ∧ Btw p q x y (ceilN p q) 1 := by
    intro p q x y hq hy hle h
    have h1 := leaf_one hq hy hle h
    have h2 : ceilN p q ≤ ceilN x y := by
      refine Nat.le_of_mul_le_mul_right (c := y) ?_ hy
      exact Nat.le_trans h1 (ceil_up x y hy)
    exact ⟨Nat.min_eq_left h2, .inl ⟨by rw [Nat.mul_one]; exact ceil_up p q hq, by rw [Nat.mul_one]; exact h1⟩⟩
  refine ⟨?_, fun m n hn hb => ⟨?_, hn⟩⟩
  · rcases Nat.le_total (p * y) (x * q) with hle | hle
    · obtain ⟨e, hb⟩ := key hq hy hle h
      rw [e]
      exact hb
    · obtain ⟨e, hb⟩ := key hy hq hle (by
        rcases h with h | h | h
        · exact .inl (Ne.symm h)
        · exact .inr (.inr h)
        · exact .inr (.inl h))
      rw [Nat.min_comm, e]
      exact hb.swap
  · have up : ∀ {p q : Nat}, 0 < q → p * n ≤ m * q → ceilN p q ≤ m := fun {p q} hq h1 => (ceil_le hq).1 (Nat.le_trans (Nat.le_mul_of_pos_right _ hn) h1)
    rcases hb with ⟨h1, _⟩ | ⟨h1, _⟩
    · exact Nat.le_trans (Nat.min_le_left _ _) (up hq h1)
    · exact Nat.le_trans (Nat.min_le_right _ _) (up hy h1)
theorem best_step {p q x y a b : Nat} (hq : 0 < q) (hy : 0 < y) (hf : p / q = x / y) (hu : p % q ≠ 0) (hv : x % y ≠ 0) (h : Best q (p % q) y (x % y) a b) : Best p q x y (p / q * a + b) a := by
  have d1 := Nat.div_add_mod p q
  have d2 := Nat.div_add_mod x y
  rw [← hf] at d2
  generalize p / q = f at *
  generalize p % q = u at *
  generalize x % y = v at *
  have e1 : p = f * q + u := by rw [← d1, Nat.mul_comm]
  have e2 : x = f * y + v := by rw [← d2, Nat.mul_comm]
  subst e1 e2
  refine ⟨?_, fun m n hn hb => ?_⟩
  · rcases h.mem with ⟨h1, h2⟩ | ⟨h1, h2⟩
    · refine .inr ⟨?_, ?_⟩
      · rw [Nat.add_mul, Nat.add_mul, show f * y * a = f * a * y by grind, show v * a = a * v by grind, show b * y = y * b by grind]
        omega
      · rw [Nat.add_mul, Nat.add_mul, show f * q * a = f * a * q by grind, show u * a = a * u by grind, show b * q = q * b by grind]
        omega
    · refine .inl ⟨?_, ?_⟩
      · rw [Nat.add_mul, Nat.add_mul, show f * q * a = f * a * q by grind, show u * a = a * u by grind, show b * q = q * b by grind]
        omega
      · rw [Nat.add_mul, Nat.add_mul, show f * y * a = f * a * y by grind, show v * a = a * v by grind, show b * y = y * b by grind]
        omega
  · have low : ∀ {q u : Nat}, 0 < q → u ≠ 0 → (f * q + u) * n ≤ m * q → f * n ≤ m := fun {q u} hq hu h1 => by
      refine Nat.le_of_mul_le_mul_right (c := q) ?_ hq
      rw [Nat.add_mul, show f * q * n = f * n * q by grind] at h1
      omega
    have hm : f * n ≤ m := by
      rcases hb with ⟨h1, _⟩ | ⟨h1, _⟩
      · exact low hq hu h1
      · exact low hy hv h1
    obtain ⟨k, hk⟩ : ∃ k, m = f * n + k := ⟨m - f * n, by omega⟩
    subst hk
    have flip : ∀ {q u : Nat}, ((f * q + u) * n ≤ (f * n + k) * q ↔ n * u ≤ q * k) ∧ ((f * n + k) * q ≤ (f * q + u) * n ↔ q * k ≤ n * u) := fun {q u} => by
      rw [Nat.add_mul, Nat.add_mul, show f * q * n = f * n * q by grind, show u * n = n * u by grind, show k * q = q * k by grind]
      omega
    have k0 : 0 < k := by
      rcases Nat.eq_zero_or_pos k with e | e
      · exfalso
        subst e
        have p1 : 0 < n * u := Nat.mul_pos hn (Nat.pos_of_ne_zero hu)
        have p2 : 0 < n * v := Nat.mul_pos hn (Nat.pos_of_ne_zero hv)
        rcases hb with ⟨h1, _⟩ | ⟨h1, _⟩
        · have := flip.1.1 h1
          omega
        · have := flip.1.1 h1
          omega
      · exact e
    have hB : Btw q u y v n k := by
      rcases hb with ⟨h1, h2⟩ | ⟨h1, h2⟩
      · exact .inr ⟨flip.2.1 h2, flip.1.1 h1⟩
      · exact .inl ⟨flip.2.1 h2, flip.1.1 h1⟩
    obtain ⟨g1, g2⟩ := h.least n k k0 hB
    exact ⟨Nat.add_le_add (Nat.mul_le_mul_left f g1) g2, g1⟩
end Go.Proofs.YtkhdapmipcghoaaDoor
namespace Go.Proofs.YtkhdapmipcghoaaDoor
open Go.RowKit
set_option maxRecDepth 100000
set_option linter.unusedVariables false
/-- What the terms ahead are good for: what is best behind them is best of all. -/
structure Ahead (p0 q0 x0 y0 p q x y a b c d : Nat) : Prop where
  q1 : 0 < q
  y1 : 0 < y
  back : ∀ m n, 0 < n → Nat.gcd m n = 1 → Best p q x y m n → Best p0 q0 x0 y0 (a * m + b * n) (c * m + d * n) ∧ Nat.gcd (a * m + b * n) (c * m + d * n) = 1 ∧ 0 < c * m + d * n
  num : a * p + b * q = p0
  den : c * p + d * q = q0
  sz : a ≤ p0 + 1 ∧ b ≤ p0 + 1 ∧ c ≤ q0 + 1 ∧ d ≤ q0 + 1
theorem Ahead.start {p q x y : Nat} (hq : 0 < q) (hy : 0 < y) : Ahead p q x y p q x y 1 0 0 1 := by
  refine ⟨hq, hy, fun m n hn hg hb => ?_, by omega, by omega, by omega⟩
  rw [show 1 * m + 0 * n = m by omega, show 0 * m + 1 * n = n by omega]
  exact ⟨hb, hg, hn⟩
theorem Ahead.step {p0 q0 x0 y0 p q x y a b c d : Nat} (h : Ahead p0 q0 x0 y0 p q x y a b c d) (hf : p / q = x / y) (hu : p % q ≠ 0) (hv : x % y ≠ 0) : Ahead p0 q0 x0 y0 q (p % q) y (x % y) (a * (p / q) + b) a (c * (p / q) + d) c := by
  have d1 := Nat.div_add_mod p q
  have hn : (a * (p / q) + b) * q + a * (p % q) = p0 := by
    rw [← h.num]
    have : a * p = a * (q * (p / q) + p % q) := by rw [d1]
    rw [this]
    grind
  have hd : (c * (p / q) + d) * q + c * (p % q) = q0 := by
    rw [← h.den]
    have : c * p = c * (q * (p / q) + p % q) := by rw [d1]
    rw [this]
    grind
  have up : ∀ s t : Nat, 0 < t → s ≤ s * t := fun s t ht => Nat.le_mul_of_pos_right _ ht
  refine ⟨Nat.pos_of_ne_zero hu, Nat.pos_of_ne_zero hv, fun m n hn0 hg hb => ?_, hn, hd, ?_⟩
  · have m0 : 0 < m := by
      rcases Nat.eq_zero_or_pos m with e | e
      · exfalso
        subst e
        have k1 := Nat.mul_pos h.q1 hn0
        have k2 := Nat.mul_pos h.y1 hn0
        rcases hb.mem with ⟨h1, _⟩ | ⟨h1, _⟩ <;> rw [Nat.zero_mul] at h1 <;> omega
      · exact e
    have hs := best_step h.q1 h.y1 hf hu hv hb
    have hg2 : Nat.gcd (p / q * m + n) m = 1 := by
      rw [Nat.add_comm, Nat.gcd_add_mul_right_left, Nat.gcd_comm]
      exact hg
    obtain ⟨r1, r2, r3⟩ := h.back _ _ m0 hg2 hs
    have e1 : a * (p / q * m + n) + b * m = (a * (p / q) + b) * m + a * n := by grind
    have e2 : c * (p / q * m + n) + d * m = (c * (p / q) + d) * m + c * n := by grind
    rw [e1, e2] at r1 r2
    rw [e2] at r3
    exact ⟨r1, r2, r3⟩
  · have k1 := up (a * (p / q) + b) q h.q1
    have k2 := up a (p % q) (Nat.pos_of_ne_zero hu)
    have k3 := up (c * (p / q) + d) q h.q1
    have k4 := up c (p % q) (Nat.pos_of_ne_zero hu)
    omega
/-- A fraction lies in a box that may be written. -/
def RAt (w : World) (r p q : Nat) : Prop := ∃ a n c a' n' c', w.cell? ⟨r, 0, none⟩ = some (.slice a n c) ∧ w.cell? ⟨r, 1, none⟩ = some (.slice a' n' c') ∧ w.frozen? ⟨r, 0, none⟩ = false ∧ w.frozen? ⟨r, 1, none⟩ = false ∧ Rt w (.agg #[.slice a n c, .slice a' n' c']) p q
def NAt (w : World) (r x : Nat) : Prop := ∃ a n c, w.cell? ⟨r, 0, none⟩ = some (.slice a n c) ∧ w.frozen? ⟨r, 0, none⟩ = false ∧ IsNat w (.agg #[.slice a n c]) x
def TAt (w : World) (r a b c d : Nat) : Prop := ∃ t0 e0 k0 t1 e1 k1 t2 e2 k2 t3 e3 k3, (w.cell? ⟨r, 0, none⟩ = some (.slice t0 e0 k0) ∧ w.cell? ⟨r, 1, none⟩ = some (.slice t1 e1 k1) ∧ w.cell? ⟨r, 2, none⟩ = some (.slice t2 e2 k2) ∧ w.cell? ⟨r, 3, none⟩ = some (.slice t3 e3 k3)) ∧ (w.frozen? ⟨r, 0, none⟩ = false ∧ w.frozen? ⟨r, 1, none⟩ = false ∧ w.frozen? ⟨r, 2, none⟩ = false ∧ w.frozen? ⟨r, 3, none⟩ = false) ∧ IsTm w (.agg #[.slice t0 e0 k0, .slice t1 e1 k1, .slice t2 e2 k2, .slice t3 e3 k3]) a b c d
theorem fz_later {w w' : World} {p : Addr} {v : Value} (hb : Below w.heap.size w w') (hc : w.cell? p = some v) (hf : w.frozen? p = false) : w'.frozen? p = false := (hb.frozen (World.block_lt_of_cell? _ _ hc)).trans hf
theorem RAt.go {w w' : World} {r p q : Nat} (h : RAt w r p q) (hb : Below w.heap.size w w') : RAt w' r p q := by
  obtain ⟨a, n, c, a', n', c', c0, c1, f0, f1, hr⟩ := h
  exact ⟨a, n, c, a', n', c', cell_later hb c0, cell_later hb c1, fz_later hb c0 f0, fz_later hb c1 f1, hr.mono hb⟩
theorem NAt.go {w w' : World} {r x : Nat} (h : NAt w r x) (hb : Below w.heap.size w w') : NAt w' r x := by
  obtain ⟨a, n, c, c0, f0, hr⟩ := h
  exact ⟨a, n, c, cell_later hb c0, fz_later hb c0 f0, hr.mono hb⟩
theorem TAt.go {w w' : World} {r a b c d : Nat} (h : TAt w r a b c d) (hb : Below w.heap.size w w') : TAt w' r a b c d := by
  obtain ⟨t0, e0, k0, t1, e1, k1, t2, e2, k2, t3, e3, k3, ⟨c0, c1, c2, c3⟩, ⟨f0, f1, f2, f3⟩, hr⟩ := h
  exact ⟨_, _, _, _, _, _, _, _, _, _, _, _, ⟨cell_later hb c0, cell_later hb c1, cell_later hb c2, cell_later hb c3⟩, ⟨fz_later hb c0 f0, fz_later hb c1 f1, fz_later hb c2 f2, fz_later hb c3 f3⟩, hr.mono hb⟩
theorem far_at {w : World} {g r i j : Nat} {u v : Value} (h : w.cell? ⟨r, i, none⟩ = some v) (hg : r ≠ g) : (w.setCell ⟨g, j, none⟩ u).cell? ⟨r, i, none⟩ = some v := by
  rw [World.cell?_setCell_far _ _ _ _ (by simpa using Ne.symm hg)]
  exact h
/-- A slice in another box is written over. -/
theorem RAt.far {w : World} {r p q g i : Nat} (h : RAt w r p q) (hg : r ≠ g) {a : Option Addr} {n c : Nat} (hc : w.cell? ⟨g, i, none⟩ = some (.slice a n c)) (u : Value) : RAt (w.setCell ⟨g, i, none⟩ u) r p q := by
  obtain ⟨a, n, c, a', n', c', c0, c1, f0, f1, hr⟩ := h
  exact ⟨a, n, c, a', n', c', far_at c0 hg, far_at c1 hg, by simp [World.frozen?_setCell, f0], by simp [World.frozen?_setCell, f1], hr.setCell (no_int_slice hc) u⟩
theorem NAt.far {w : World} {r x g i : Nat} (h : NAt w r x) (hg : r ≠ g) {a : Option Addr} {n c : Nat} (hc : w.cell? ⟨g, i, none⟩ = some (.slice a n c)) (u : Value) : NAt (w.setCell ⟨g, i, none⟩ u) r x := by
  obtain ⟨a, n, c, c0, f0, hr⟩ := h
  exact ⟨a, n, c, far_at c0 hg, by simp [World.frozen?_setCell, f0], hr.setCell (no_int_slice hc) u⟩
theorem TAt.far {w : World} {r a b c d g i : Nat} (h : TAt w r a b c d) (hg : r ≠ g) {s : Option Addr} {n m : Nat} (hc : w.cell? ⟨g, i, none⟩ = some (.slice s n m)) (u : Value) : TAt (w.setCell ⟨g, i, none⟩ u) r a b c d := by
  obtain ⟨t0, e0, k0, t1, e1, k1, t2, e2, k2, t3, e3, k3, ⟨c0, c1, c2, c3⟩, ⟨f0, f1, f2, f3⟩, hr⟩ := h
  exact ⟨_, _, _, _, _, _, _, _, _, _, _, _, ⟨far_at c0 hg, far_at c1 hg, far_at c2 hg, far_at c3 hg⟩, ⟨by simp [World.frozen?_setCell, f0], by simp [World.frozen?_setCell, f1], by simp [World.frozen?_setCell, f2], by simp [World.frozen?_setCell, f3]⟩, hr.setCell (no_int_slice hc) u⟩
/-- A fraction is laid into its box. -/
theorem RAt.put {w : World} {r p q : Nat} (h : RAt w r p q) {a : Option Addr} {n c : Nat} {a' : Option Addr} {n' c' : Nat} {p' q' : Nat} (hv : Rt w (.agg #[.slice a n c, .slice a' n' c']) p' q') : RAt ((w.setCell ⟨r, 0, none⟩ (.slice a n c)).setCell ⟨r, 1, none⟩ (.slice a' n' c')) r p' q' := by
  obtain ⟨b, m, d, b', m', d', c0, c1, f0, f1, _⟩ := h
  obtain ⟨n1, n2⟩ := two_set c0 c1 (.slice a n c)
  have hd : (w.setCell ⟨r, 0, none⟩ (.slice a n c)).cell? ⟨r, 1, none⟩ = some (.slice b' m' d') := by rw [World.cell?_setCell_other (h := by simp), c1]
  refine ⟨a, n, c, a', n', c', ?_, by simp [go_sem, hd], by simp [World.frozen?_setCell, f0], by simp [World.frozen?_setCell, f1], (hv.setCell n1 _).setCell n2 _⟩
  rw [World.cell?_setCell_other (h := by simp)]
  simp [go_sem, c0]
theorem NAt.put {w : World} {r x : Nat} (h : NAt w r x) {a : Option Addr} {n c y : Nat} (hv : IsNat w (.agg #[.slice a n c]) y) : NAt (w.setCell ⟨r, 0, none⟩ (.slice a n c)) r y := by
  obtain ⟨b, m, d, c0, f0, _⟩ := h
  exact ⟨a, n, c, by simp [go_sem, c0], by simp [World.frozen?_setCell, f0], hv.setCell (no_int_slice c0) _⟩
theorem TAt.four {w : World} {r a b c d : Nat} (h : TAt w r a b c d) : Four w r := by
  obtain ⟨t0, e0, k0, t1, e1, k1, t2, e2, k2, t3, e3, k3, ⟨c0, c1, c2, c3⟩, ⟨f0, f1, f2, f3⟩, hr⟩ := h
  intro i hi
  match i, hi with
  | 0, _ => exact ⟨⟨_, _, _, c0⟩, f0⟩
  | 1, _ => exact ⟨⟨_, _, _, c1⟩, f1⟩
  | 2, _ => exact ⟨⟨_, _, _, c2⟩, f2⟩
  | 3, _ => exact ⟨⟨_, _, _, c3⟩, f3⟩
theorem TAt.put {w w0 : World} {r a b c d : Nat} (h : TAt w r a b c d) {t0 t1 t2 t3 : Option Addr} {e0 k0 e1 k1 e2 k2 e3 k3 a' b' c' d' : Nat} (hv : IsTm w (.agg #[.slice t0 e0 k0, .slice t1 e1 k1, .slice t2 e2 k2, .slice t3 e3 k3]) a' b' c' d') (hb : Below w0.heap.size w0 w) (hr : w0.heap.size ≤ r) : TAt ((((w.setCell ⟨r, 0, none⟩ (.slice t0 e0 k0)).setCell ⟨r, 1, none⟩ (.slice t1 e1 k1)).setCell ⟨r, 2, none⟩ (.slice t2 e2 k2)).setCell ⟨r, 3, none⟩ (.slice t3 e3 k3)) r a' b' c' d' := by
  have h4 := h.four
  obtain ⟨⟨z1, _⟩, l0, l1, l2, l3⟩ := tm_put (w0 := w0) (s0 := .slice t0 e0 k0) (s1 := .slice t1 e1 k1) (s2 := .slice t2 e2 k2) (s3 := .slice t3 e3 k3) h4 hv hb hr
  have f0 := (h4 0 (by omega)).2
  have f1 := (h4 1 (by omega)).2
  have f2 := (h4 2 (by omega)).2
  have f3 := (h4 3 (by omega)).2
  exact ⟨_, _, _, _, _, _, _, _, _, _, _, _, ⟨l0, l1, l2, l3⟩, ⟨by simp [World.frozen?_setCell, f0], by simp [World.frozen?_setCell, f1], by simp [World.frozen?_setCell, f2], by simp [World.frozen?_setCell, f3]⟩, z1⟩
end Go.Proofs.YtkhdapmipcghoaaDoor
namespace Go.Proofs.YtkhdapmipcghoaaDoor
open Go.RowKit
set_option maxRecDepth 100000
set_option linter.unusedVariables false
theorem best_one {p q x y a b a' b' : Nat} (h : Best p q x y a b) (k : Best p q x y a' b') (hb : 0 < b) (hb' : 0 < b') : a = a' ∧ b = b' := by
  obtain ⟨h1, h2⟩ := h.least _ _ hb' k.mem
  obtain ⟨k1, k2⟩ := k.least _ _ hb h.mem
  omega
theorem best_ex : ∀ (N p q x y : Nat), q ≤ N → 0 < q → 0 < y → Nat.gcd p q = 1 → Nat.gcd x y = 1 → ∃ a b, 0 < b ∧ Nat.gcd a b = 1 ∧ Best p q x y a b
  | 0, p, q, x, y, hN, hq, hy, h1, h2 => by omega
  | N + 1, p, q, x, y, hN, hq, hy, h1, h2 => by
    by_cases h : p / q ≠ x / y ∨ p % q = 0 ∨ x % y = 0
    · exact ⟨_, 1, by omega, Nat.gcd_one_right _, best_leaf hq hy h⟩
    · have hf : p / q = x / y := Decidable.byContradiction fun e => h (.inl e)
      have hu : p % q ≠ 0 := fun e => h (.inr (.inl e))
      have hv : x % y ≠ 0 := fun e => h (.inr (.inr e))
      have l1 := Nat.mod_lt p hq
      obtain ⟨a, b, hb, hg, hB⟩ := best_ex N q (p % q) y (x % y) (by omega) (Nat.pos_of_ne_zero hu) (Nat.pos_of_ne_zero hv) (by rw [Nat.gcd_comm, ← Nat.gcd_rec, Nat.gcd_comm]; exact h1) (by rw [Nat.gcd_comm, ← Nat.gcd_rec, Nat.gcd_comm]; exact h2)
      have a0 : 0 < a := by
        rcases Nat.eq_zero_or_pos a with e | e
        · exfalso
          subst e
          have k1 := Nat.mul_pos hq hb
          have k2 := Nat.mul_pos hy hb
          rcases hB.mem with ⟨h1, _⟩ | ⟨h1, _⟩ <;> rw [Nat.zero_mul] at h1 <;> omega
        · exact e
      refine ⟨p / q * a + b, a, a0, ?_, best_step hq hy hf hu hv hB⟩
      rw [Nat.add_comm, Nat.gcd_add_mul_right_left, Nat.gcd_comm]
      exact hg
/-- The simplest fraction between two has parts no greater than theirs. -/
theorem best_sz {p q x y a b : Nat} (h : Best p q x y a b) (hq : 0 < q) (hle : p * y ≤ x * q ∨ x * q ≤ p * y) : a ≤ p ∧ b ≤ q := by
  refine h.least p q hq ?_
  rcases hle with e | e
  · exact .inl ⟨Nat.le_refl _, e⟩
  · exact .inr ⟨e, Nat.le_refl _⟩
end Go.Proofs.YtkhdapmipcghoaaDoor
namespace Go.Proofs.YtkhdapmipcghoaaDoor
open Go.RowKit
set_option maxRecDepth 100000
set_option linter.unusedVariables false
/-- What is left beside the whole part, turned round; 0, if nothing is left. -/
def tP (p q : Nat) : Nat := if p % q = 0 then 0 else q
def tQ (p q : Nat) : Nat := if p % q = 0 then 1 else p % q
theorem turned_any (v : Value) (p q : Nat) (w : World) (h : Rt w v p q) (hp : RS p) (hq : RS q) : Calls Tryd.prog 65 #[v] w (MakesNR w (p / q) (tP p q) (tQ p q)) := by
  unfold tP tQ
  by_cases h0 : p % q = 0
  · rw [if_pos h0, if_pos h0]
    exact turned_whole v p q w h hp hq h0
  · rw [if_neg h0, if_neg h0]
    exact turned_rest v p q w h hp hq h0
theorem tP_zero {p q : Nat} (hq : 0 < q) : tP p q = 0 ↔ p % q = 0 := by
  unfold tP
  split
  · rename_i h
    exact ⟨fun _ => h, fun _ => rfl⟩
  · rename_i h
    exact ⟨fun e => by omega, fun e => absurd e h⟩
structure BSt (w0 w : World) (b b5 b7 p0 q0 x0 y0 p q x y g1 g2 g3 g4 : Nat) : Prop where
  r : RAt w b p q
  s : RAt w (b + 1) x y
  o : RAt w (b + 1 + 1) 0 1
  t : TAt w b5 g1 g2 g3 g4
  n : NAt w b7 q
  ah : Ahead p0 q0 x0 y0 p q x y g1 g2 g3 g4
  sz : p < P 15 ∧ q < P 15 ∧ x < P 15 ∧ y < P 15
  bel : Below w0.heap.size w0 w
  ne : w0.heap.size ≤ b ∧ b + 1 + 1 < b5 ∧ b5 < b7
theorem BSt.go {w0 w w' : World} {b b5 b7 p0 q0 x0 y0 p q x y g1 g2 g3 g4 : Nat} (h : BSt w0 w b b5 b7 p0 q0 x0 y0 p q x y g1 g2 g3 g4) (hb : Below w.heap.size w w') : BSt w0 w' b b5 b7 p0 q0 x0 y0 p q x y g1 g2 g3 g4 :=
  ⟨h.r.go hb, h.s.go hb, h.o.go hb, h.t.go hb, h.n.go hb, h.ah, h.sz, bel_go h.bel hb, h.ne⟩
/-- The terms ahead are small. -/
theorem BSt.small {w0 w : World} {b b5 b7 p0 q0 x0 y0 p q x y g1 g2 g3 g4 : Nat} (h : BSt w0 w b b5 b7 p0 q0 x0 y0 p q x y g1 g2 g3 g4) (hp : p0 < P 15) (hq : q0 < P 15) : RS g1 ∧ RS g2 ∧ RS g3 ∧ RS g4 := by
  have h1 : P 15 < P 90 := P_lt (by omega)
  have := h.ah.sz
  exact ⟨⟨by omega⟩, ⟨by omega⟩, ⟨by omega⟩, ⟨by omega⟩⟩
end Go.Proofs.YtkhdapmipcghoaaDoor
