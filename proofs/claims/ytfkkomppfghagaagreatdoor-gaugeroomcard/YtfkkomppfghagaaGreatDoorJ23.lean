/- Contracts of the program's functions, part 23: own work, joined in build order. -/
import Derived.Test.YtfkkomppfghagaaGreatDoorJ22
namespace Go.Proofs.YtfkkomppfghagaaGreatDoor
open Go.RowKit
set_option maxRecDepth 100000
set_option linter.unusedVariables false
theorem Fc.rmulG {p q N1 D1 n x y N2 D2 m : Nat} (h : Fc p q N1 D1 n) (k : Fc x y N2 D2 m) (hn : n ≤ 90) (hm : m ≤ 90) : ∃ A B, Fc A B (N1 * N2) (D1 * D2) (n + m) ∧ ∀ v u w, RRt w v p q → RRt w u x y → Calls Tryz.prog 41 #[v, u] w (MakesRR w A B) := by
  have low := low_terms (p * x) (q * y) (Nat.mul_pos h.pos k.pos)
  exact ⟨_, _, ⟨low.1, low.2.2, Nat.mul_pos h.dpos k.dpos, val_mul h.pos k.pos h.val k.val low.2.1, Nat.lt_of_le_of_lt (Nat.div_le_self _ _) (mulP_lt h.s1 k.s1), Nat.lt_of_le_of_lt (Nat.div_le_self _ _) (mulP_lt h.s2 k.s2)⟩, fun v u w e1 e2 => rmul2_any v u p q x y w e1 e2 (h.rs1 hn) (h.rs2 hn) (k.rs1 hm) (k.rs2 hm) h.pos k.pos⟩
theorem Fq.rsum {n : Nat} {X Y N D : Nat → Nat} (h : Fq n X Y N D) {i : Nat} (hi : i < n) {p q : Nat} (f : Fc p q (nu1 N D i) (pr1 D i) 16) : ∃ A B, Fc A B (nu1 N D (i + 1)) (pr1 D (i + 1)) 16 ∧ ∀ v u w, RRt w v p q → RRt w u (X i) (Y i) → Calls Tryz.prog 40 #[v, u] w (MakesRR w A B) := by
  obtain ⟨A, B, f2, c⟩ := f.radd (h.fc i hi) (by omega) (by omega)
  have hs := h.size (show i + 1 ≤ n by omega)
  exact ⟨A, B, f2.norm (m := 16) hs.1 hs.2.1, c⟩
theorem Fq.rsquare {n : Nat} {X Y N D : Nat → Nat} (h : Fq n X Y N D) {i : Nat} (hi : i < n) {p q : Nat} (f : Fc p q (nu2 N D i) (pr1 D i * pr1 D i) 31) :
    ∃ A B p' q', Fc p' q' (nu2 N D (i + 1)) (pr1 D (i + 1) * pr1 D (i + 1)) 31 ∧ (∀ v u w, RRt w v (X i) (Y i) → RRt w u (X i) (Y i) → Calls Tryz.prog 41 #[v, u] w (MakesRR w A B)) ∧ (∀ v u w, RRt w v p q → RRt w u A B → Calls Tryz.prog 40 #[v, u] w (MakesRR w p' q')) := by
  obtain ⟨A, B, f1, c1⟩ := (h.fc i hi).rmulG (h.fc i hi) (by omega) (by omega)
  obtain ⟨p', q', f2, c2⟩ := f.radd f1 (by omega) (by omega)
  have hs := h.size (show i + 1 ≤ n by omega)
  have e1 : nu2 N D i * (D i * D i) + N i * N i * (pr1 D i * pr1 D i) = nu2 N D (i + 1) := rfl
  have e2 : pr1 D i * pr1 D i * (D i * D i) = pr1 D (i + 1) * pr1 D (i + 1) := by rw [pr1]; grind
  rw [e1, e2] at f2
  exact ⟨A, B, p', q', f2.norm hs.2.2.1 hs.2.2.2.1, c1, c2⟩
theorem Fq.rlast {n : Nat} {X Y N D : Nat → Nat} (h : Fq n X Y N D) (hn0 : 0 < n) {p q p' q' : Nat} (f : Fc p q (nu1 N D n) (pr1 D n) 16) (f' : Fc p' q' (nu2 N D n) (pr1 D n * pr1 D n) 31) (h0 : 0 < nu2 N D n) :
    ∃ A B a b x y, Fc x y (nu1 N D n * nu1 N D n) (nu2 N D n * n) 64 ∧ (∀ v u w, RRt w v p q → RRt w u p q → Calls Tryz.prog 41 #[v, u] w (MakesRR w A B)) ∧
      (∀ v u w, RRt w v p' q' → RRt w u n 1 → Calls Tryz.prog 41 #[v, u] w (MakesRR w a b)) ∧
      (∀ v u w, RRt w v A B → RRt w u a b → Calls Tryz.prog 43 #[v, u] w (MakesRRB w x y true)) := by
  have hf := h.few
  have hs := h.size (Nat.le_refl n)
  have fn : Fc n 1 n 1 1 := ⟨Nat.gcd_one_right _, by omega, by omega, rfl, by rw [P_one]; omega, by rw [P_one]; omega⟩
  obtain ⟨A, B, f1, c1⟩ := f.rmulG f (by omega) (by omega)
  obtain ⟨a, b, f2, c2⟩ := f'.rmulG fn (by omega) (by omega)
  obtain ⟨x, y, f3, c3⟩ := f1.rdiv f2 (by omega) (by omega) (Nat.mul_pos h0 hn0)
  exact ⟨A, B, a, b, x, y, f3.scale (k := pr1 D n * pr1 D n) (by rw [Nat.mul_one]) (Nat.mul_comm _ _) (Nat.mul_pos hs.2.2.2.2 hs.2.2.2.2), c1, c2, c3⟩
theorem SY.putG {w0 w : World} {N M : List (Value × Nat)} {F G : List (Value × Nat × Nat)} {C : List (Nat × Nat × Value)} {Z : List Nat} (h : SY w0 w N M F G C Z) {b : Nat} {a a' r r' : Option Addr} {n c n' c' k j k' j' p q : Nat} (c0 : w.cell? ⟨b, 0, none⟩ = some (.slice r k j)) (c1 : w.cell? ⟨b, 1, none⟩ = some (.slice r' k' j')) (hlo : w0.heap.size ≤ b) (hv : RRt w (.agg #[.slice a n c, .slice a' n' c']) p q) (C' : List (Nat × Nat × Value)) (hC : ∀ p ∈ C', p ∈ C ∧ p.1 ≠ b) :
    SY w0 ((w.setCell ⟨b, 0, none⟩ (.slice a n c)).setCell ⟨b, 1, none⟩ (.slice a' n' c')) N M F ((.agg #[.slice a n c, .slice a' n' c'], p, q) :: G) ((b, 0, .slice a n c) :: (b, 1, .slice a' n' c') :: C') Z := by
  have hd : (w.setCell ⟨b, 0, none⟩ (.slice a n c)).cell? ⟨b, 1, none⟩ = some (.slice r' k' j') := by rw [World.cell?_setCell_other (h := by simp), c1]
  have h1 := (h.addG hv).set c0 hlo C' hC (.slice a n c)
  have h2 := h1.set hd hlo C' (fun p hp => ⟨hp, (hC p hp).2⟩) (.slice a' n' c')
  obtain ⟨g0, g1⟩ := box_put (a := a) (n := n) (c := c) (a' := a') (n' := n') (c' := c') c0 c1
  exact (h2.addC g1).addC g0
set_option maxHeartbeats 16000000 in
theorem rjain_any (s0 : Option Addr) (g n cap : Nat) (E E' : Nat → Value) (X Y N D : Nat → Nat) (w : World) (F : Fq n X Y N D) (hc : n ≤ cap) (hc2 : cap ≤ 9223372036854775807) (ha : 0 < n → s0 = some ⟨g, 0, none⟩) (he : ∀ i, i < n → w.cell? ⟨g, i * 2, none⟩ = some (E i) ∧ w.cell? ⟨g, i * 2 + 1, none⟩ = some (E' i) ∧ RRt w (.agg #[E i, E' i]) (X i) (Y i)) :
    Calls Tryz.prog 14 #[.slice s0 n cap] w fun e w' => ∃ x y ok, JnP N D n x y ok ∧ MakesRRB w x y ok e w' := by
  have S0 : Hid _ := (sy_start w).box (.slice none 0 0) (.slice none 0 0) 53 _ rfl
  obtain ⟨w0, hw⟩ : ∃ w0, w0 = w.alloc (.cells #[.slice none 0 0, .slice none 0 0] 53) := ⟨_, rfl⟩
  obtain ⟨b2, hb⟩ : ∃ b2, b2 = w.heap.size := ⟨_, rfl⟩
  have Lb2 : Hid (w.heap.size ≤ b2) := by show _ ≤ _; omega
  have Lw0 : Hid (b2 < w0.heap.size) := by rw [hw, hb]; show _ < (w.heap.push _).size; rw [Array.size_push]; omega
  rw [← hw, ← hb] at S0
  have FF : Hid (Fq n X Y N D) := F
  have HE : Hid (∀ i, i < n → w.cell? ⟨g, i * 2, none⟩ = some (E i) ∧ w.cell? ⟨g, i * 2 + 1, none⟩ = some (E' i) ∧ RRt w (.agg #[E i, E' i]) (X i) (Y i)) := he
  have HA : Hid (0 < n → s0 = some ⟨g, 0, none⟩) := ha
  have hn15 : n ≤ 15 := F.few
  clear F he ha
  go_enter Tryz.func14, Tryz.ntmps14
  go_upto_region 1 with fail
  rw [← hw, ← hb]
  clear hw hb
  go_upto_region 2 with (go_at_call 39; refine Calls.mono (rzero2_any _) ?_; rintro e w1 ⟨v1, rfl, hv1, hb1⟩; have hv1' := hv1; obtain ⟨a1, n1, c1, a2, n2, c2, rfl, _, _⟩ := hv1')
  have S1 : Hid _ := ((S0.out.go hb1).addG hv1).box (.slice a1 n1 c1) (.slice a2 n2 c2) 53 _ rfl
  obtain ⟨w2, hw⟩ : ∃ w2, w2 = w1.alloc (.cells #[.slice a1 n1 c1, .slice a2 n2 c2] 53) := ⟨_, rfl⟩
  obtain ⟨b4, hb⟩ : ∃ b4, b4 = w1.heap.size := ⟨_, rfl⟩
  have Lb4 : Hid (w0.heap.size ≤ b4) := by rw [hb]; exact hb1.size
  rw [← hw, ← hb] at S1
  rw [← hw, ← hb]
  clear hw hb hv1 hb1 S0
  go_upto_region 3 with (go_at_call 39; refine Calls.mono (rzero2_any _) ?_; rintro e w3 ⟨v1, rfl, hv1, hb1⟩; have hv1' := hv1; obtain ⟨a3, n3, c3, a4, n4, c4, rfl, _, _⟩ := hv1')
  have S3 : Hid _ := ((S1.out.go hb1).addG hv1).box (.slice a3 n3 c3) (.slice a4 n4 c4) 53 _ rfl
  obtain ⟨w4, hw⟩ : ∃ w4, w4 = w3.alloc (.cells #[.slice a3 n3 c3, .slice a4 n4 c4] 53) := ⟨_, rfl⟩
  obtain ⟨b5, hb⟩ : ∃ b5, b5 = w3.heap.size := ⟨_, rfl⟩
  have LB : Hid (w2.cell? ⟨b4, 0, none⟩ = some (.slice a1 n1 c1)) := S1.out.cel b4 0 (.slice a1 n1 c1)
  have Lb5 : Hid (w2.heap.size ≤ b5) := by rw [hb]; exact hb1.size
  rw [← hw, ← hb] at S3
  rw [← hw, ← hb]
  clear hw hb hv1 hb1 S1
  have HLT : Hid (b2 < b4 ∧ b4 < b5 ∧ w.heap.size ≤ b2) := ⟨Nat.lt_of_lt_of_le Lw0.out Lb4.out, Nat.lt_of_lt_of_le (World.block_lt_of_cell? w2 ⟨b4, 0, none⟩ LB.out) Lb5.out, Lb2.out⟩
  have S4 : Hid (SY w w4 [] [] [] [(.agg #[.slice a1 n1 c1, .slice a2 n2 c2], 0, 1), (.agg #[.slice a3 n3 c3, .slice a4 n4 c4], 0, 1)] [(b4, 0, .slice a1 n1 c1), (b4, 1, .slice a2 n2 c2), (b5, 0, .slice a3 n3 c3), (b5, 1, .slice a4 n4 c4), (b2, 0, .slice none 0 0), (b2, 1, .slice none 0 0)] [b5, b4, b2]) := S3.out.sub _ _ _ _ _ _ (by simp) (by simp) (by simp) (by simp) (by simp) (by simp)
  have F0 : Hid (Fc 0 1 (nu1 N D 0) (pr1 D 0) 16 ∧ Fc 0 1 (nu2 N D 0) (pr1 D 0 * pr1 D 0) 31) := ⟨fc_nought 16 (by omega), fc_nought 31 (by omega)⟩
  clear S3 Lb2 Lw0 Lb4 Lb5 LB
  go_wp2_with fail
  go_loopw [6] (fun t wr => ∃ (i p q p' q' : Nat) (a1 : Option Addr) (n1 c1 : Nat) (a2 : Option Addr) (n2 c2 : Nat) (a3 : Option Addr) (n3 c3 : Nat) (a4 : Option Addr) (n4 c4 : Nat), i ≤ n ∧ t = .int .i64 (i : Int) ∧ Fc p q (nu1 N D i) (pr1 D i) 16 ∧ Fc p' q' (nu2 N D i) (pr1 D i * pr1 D i) 31 ∧ SY w wr [] [] [] [(.agg #[.slice a1 n1 c1, .slice a2 n2 c2], p, q), (.agg #[.slice a3 n3 c3, .slice a4 n4 c4], p', q')] [(b4, 0, .slice a1 n1 c1), (b4, 1, .slice a2 n2 c2), (b5, 0, .slice a3 n3 c3), (b5, 1, .slice a4 n4 c4), (b2, 0, .slice none 0 0), (b2, 1, .slice none 0 0)] [b5, b4, b2]) (fun t _ => n - (RowKit.intOf t).toNat)
  case atStart => exact ⟨0, 0, 1, 0, 1, _, _, _, _, _, _, _, _, _, _, _, _, by omega, rfl, F0.out.1, F0.out.2, S4.out⟩
  case round =>
    clear S4 F0
    obtain ⟨i, p, q, p', q', a1, n1, c1, a2, n2, c2, a3, n3, c3, a4, n4, c4, hi, rfl, hF1, hF2, hS⟩ := hrel
    have S1 : Hid (SY w wr [] [] [] [(.agg #[.slice a1 n1 c1, .slice a2 n2 c2], p, q), (.agg #[.slice a3 n3 c3, .slice a4 n4 c4], p', q')] [(b4, 0, .slice a1 n1 c1), (b4, 1, .slice a2 n2 c2), (b5, 0, .slice a3 n3 c3), (b5, 1, .slice a4 n4 c4), (b2, 0, .slice none 0 0), (b2, 1, .slice none 0 0)] [b5, b4, b2]) := hS
    have HF : Hid (Fc p q (nu1 N D i) (pr1 D i) 16 ∧ Fc p' q' (nu2 N D i) (pr1 D i * pr1 D i) 31) := ⟨hF1, hF2⟩
    clear hS hF1 hF2
    by_cases hin : i < n
    · obtain rfl := HA.out (by omega)
      obtain ⟨c0, c1', hR⟩ := HE.out i hin
      have hR' := hR
      obtain ⟨aE, nE, cE, aG, nG, cG, ey, _, _⟩ := hR'
      obtain ⟨e1, e2⟩ : E i = .slice aE nE cE ∧ E' i = .slice aG nG cG := by simpa using ey
      rw [e1] at c0 hR
      rw [e2] at c1' hR
      have K0 := c0
      have K1 := c1'
      have HR : Hid (RRt w (.agg #[.slice aE nE cE, .slice aG nG cG]) (X i) (Y i)) := hR
      clear c0 c1' hR ey e1 e2
      obtain ⟨A, B, fA, cA⟩ := FF.out.rsum hin HF.out.1
      obtain ⟨M1, M2, p2, q2, fB, cM, cB⟩ := FF.out.rsquare hin HF.out.2
      have CA : Hid (∀ v u w, RRt w v p q → RRt w u (X i) (Y i) → Calls Tryz.prog 40 #[v, u] w (MakesRR w A B)) := cA
      have CM : Hid (∀ v u w, RRt w v (X i) (Y i) → RRt w u (X i) (Y i) → Calls Tryz.prog 41 #[v, u] w (MakesRR w M1 M2)) := cM
      have CB : Hid (∀ v u w, RRt w v p' q' → RRt w u M1 M2 → Calls Tryz.prog 40 #[v, u] w (MakesRR w p2 q2)) := cB
      have FN : Hid (Fc A B (nu1 N D (i + 1)) (pr1 D (i + 1)) 16 ∧ Fc p2 q2 (nu2 N D (i + 1)) (pr1 D (i + 1) * pr1 D (i + 1)) 31) := ⟨fA, fB⟩
      have HI2 : Hid ((i : Int) < (n : Int)) := by show (i : Int) < (n : Int); omega
      clear cA cM cB fA fB HF
      go_upto_region 6 with fail
      have e0 := S1.out.cel b4 0 (.slice a1 n1 c1)
      have e1 := S1.out.cel b4 1 (.slice a2 n2 c2)
      have f0 := S1.out.fz b4 0
      have f1 := S1.out.fz b4 1
      refine wp_region_inv (JD wr [sRRt (p) (q), sEq (.slice (some ⟨g, 0, none⟩) n cap), sEq (.int .i64 (i : Int)), sEq (.pointer (some ⟨g, i * 2, none⟩)), sRRt (X i) (Y i), sRRt (A) (B), sAny] [[], [], [], [1, 2], [3], [0, 4], [5]] 6 5 [0, 1, 2, 3, 4, 5] (Sto2 (b4))) 52 (by kernel_rfl) rfl (by kernel_rfl) (JD.start _ _ _ _ _ _ _) (fun HG HN => ⟨?_, ?_, ?_, ?_, ?_, ?_, ?_, trivial⟩) ?_
      · intro L vs a w' hJ hF hP hL
        have hK := hJ
        have hJ := hK.open hL (by decide)
        have q4 : (a.tmps[4]?).getD undef = .pointer (some ⟨b4, 0, none⟩) := hF.old 4 rfl
        have cb := cell_later hJ.bel (S1.out.cel (b4) 0 (.slice a1 n1 c1))
        have cc := cell_later hJ.bel (S1.out.cel (b4) 1 (.slice a2 n2 c2))
        exact run_val (v := .agg #[.slice a1 n1 c1, .slice a2 n2 c2]) rfl (by simp [execOp, go_sem, q4, cb, cc]) ⟨_, rfl, hK.step hL (by decide) (by decide) rfl (nd_nil) <| hJ.step hL rfl (Below.refl _ _) (by exact ((S1.out.rfr (.agg #[.slice a1 n1 c1, .slice a2 n2 c2]) (p) (q)).mono hJ.bel))⟩
      · intro L vs a w' hJ hF hP hL
        have hK := hJ
        have hJ := hK.open hL (by decide)
        have q0 : (a.tmps[0]?).getD undef = .slice (some ⟨g, 0, none⟩) n cap := hF.old 0 rfl
        exact run_val (v := .slice (some ⟨g, 0, none⟩) n cap) rfl (by simp [execOp, go_sem, q0]) ⟨_, rfl, hK.step hL (by decide) (by decide) rfl (nd_nil) <| hJ.step hL rfl (Below.refl _ _) (by exact rfl)⟩
      · intro L vs a w' hJ hF hP hL
        have hK := hJ
        have hJ := hK.open hL (by decide)
        have q6 : (a.tmps[6]?).getD undef = .int .i64 (i : Int) := hF.old 6 rfl
        exact run_val (v := .int .i64 (i : Int)) rfl (by simp [execOp, go_sem, q6]) ⟨_, rfl, hK.step hL (by decide) (by decide) rfl (nd_nil) <| hJ.step hL rfl (Below.refl _ _) (by exact rfl)⟩
      · intro L vs a w' hJ hF hP hL
        have hK := hJ
        have hJ := hK.open hL (by decide)
        have p1 : L 1 = true := hP ⟨1, .data⟩ (by simp) rfl
        have s1 : vs 1 = .slice (some ⟨g, 0, none⟩) n cap := hJ.sp 1 p1
        have q18 := hF.slot 1 18 rfl p1
        have p2 : L 2 = true := hP ⟨2, .data⟩ (by simp) rfl
        have s2 : vs 2 = .int .i64 (i : Int) := hJ.sp 2 p2
        have q19 := hF.slot 2 19 rfl p2
        exact run_val (v := .pointer (some ⟨g, i * 2, none⟩)) rfl (by simp [execOp, go_sem, q18, s1, q19, s2, HI2.out]) ⟨_, rfl, hK.step hL (by decide) (by decide) rfl (nd_cons p1 (nd_cons p2 (nd_nil))) <| hJ.step hL rfl (Below.refl _ _) (by exact rfl)⟩
      · intro L vs a w' hJ hF hP hL
        have hK := hJ
        have hJ := hK.open hL (by decide)
        have p3 : L 3 = true := hP ⟨3, .data⟩ (by simp) rfl
        have s3 : vs 3 = .pointer (some ⟨g, i * 2, none⟩) := hJ.sp 3 p3
        have q20 := hF.slot 3 20 rfl p3
        have cb := cell_later (bel_go S1.out.bel hJ.bel) K0
        have cc := cell_later (bel_go S1.out.bel hJ.bel) K1
        exact run_val (v := .agg #[.slice aE nE cE, .slice aG nG cG]) rfl (by simp [execOp, go_sem, q20, s3, cb, cc]) ⟨_, rfl, hK.step hL (by decide) (by decide) rfl (nd_cons p3 (nd_nil)) <| hJ.step hL rfl (Below.refl _ _) (by exact (HR.out.mono (bel_go S1.out.bel hJ.bel)))⟩
      · intro L vs a w' hJ hF hP hL
        have hK := hJ
        have hJ := hK.open hL (by decide)
        have p0 : L 0 = true := hP ⟨0, .data⟩ (by simp) rfl
        have s0 : RRt w' (vs 0) (p) (q) := hJ.sp 0 p0
        have q17 := hF.slot 0 17 rfl p0
        have p4 : L 4 = true := hP ⟨4, .data⟩ (by simp) rfl
        have s4 : RRt w' (vs 4) (X i) (Y i) := hJ.sp 4 p4
        have q21 := hF.slot 4 21 rfl p4
        refine run_call (f := 40) (args := #[vs 0, vs 4]) rfl (by simp [go_sem, q17, q21]) (CA.out _ _ _ s0 s4) ?_
        rintro e w2 ⟨v, rfl, hv, hb⟩
        exact ⟨_, rfl, _, rfl, hK.step hL (by decide) (by decide) rfl (nd_cons p0 (nd_cons p4 (nd_nil))) <| hJ.step hL rfl hb (by exact hv)⟩
      · intro L vs a w' hJ hF hP hL
        have hK := hJ
        have hJ := hK.core hL
        have q4 : (a.tmps[4]?).getD undef = .pointer (some ⟨b4, 0, none⟩) := hF.old 4 rfl
        have p5 : L 5 = true := hP ⟨5, .data⟩ (by simp) rfl
        have s5 : RRt w' (vs 5) (A) (B) := hJ.sp 5 p5
        have q22 := hF.slot 5 22 rfl p5
        have p0 : L 0 = true := hK.cl 5 p5 0 (by simp)
        have p4 : L 4 = true := hK.cl 5 p5 4 (by simp)
        have p3 : L 3 = true := hK.cl 4 p4 3 (by simp)
        have p1 : L 1 = true := hK.cl 3 p3 1 (by simp)
        have p2 : L 2 = true := hK.cl 3 p3 2 (by simp)
        have x0 := cell_later hJ.bel e0
        have y0 := (hJ.bel.frozen (World.block_lt_of_cell? _ _ e0)).trans f0
        have x1 := cell_later hJ.bel e1
        have y1 := (hJ.bel.frozen (World.block_lt_of_cell? _ _ e1)).trans f1
        have s5' := s5
        obtain ⟨aa, nn, cc, a2, n2, c2, e8, _, _⟩ := s5'
        exact run_unit (w' := ((w'.setCell ⟨b4, 0, none⟩ (.slice aa nn cc)).setCell ⟨b4, 1, none⟩ (.slice a2 n2 c2))) rfl (by simp [execOp, go_sem, q4, q22, e8, x0, y0, x1, y1]) ⟨undef, rfl, hK.put hL (by decide) rfl (nd_cons p5 (nd_nil)) (nd_cons p0 (nd_cons p1 (nd_cons p2 (nd_cons p3 (nd_cons p4 (nd_cons p5 (nd_nil))))))) p5 ⟨_, _, e8, rfl⟩⟩
      intro L vs w' hA hK
      obtain ⟨_, w1, hb1, sv, u1, u2, ev, ew⟩ := hK.fin (hA 6 (by simp))
      replace sv : RRt w1 (vs 5) (A) (B) := sv
      have sv' := sv
      obtain ⟨a5, n5, c5, a6, n6, c6, e8, _, _⟩ := sv'
      rw [e8] at ev sv
      obtain ⟨rfl, rfl⟩ : u1 = .slice a5 n5 c5 ∧ u2 = .slice a6 n6 c6 := by simpa [eq_comm] using ev
      have SN := (S1.out.go hb1).putG (cell_later hb1 e0) (cell_later hb1 e1) (S1.out.lo b4) sv [(b5, 0, .slice a3 n3 c3), (b5, 1, .slice a4 n4 c4), (b2, 0, .slice none 0 0), (b2, 1, .slice none 0 0)] (by have := HLT.out; simp; omega)
      rw [← ew] at SN
      obtain ⟨w6, eW⟩ : ∃ w6, w6 = w' := ⟨_, rfl⟩
      rw [← eW] at SN
      have S2 : Hid (SY w w6 [] [] [] [(.agg #[.slice a5 n5 c5, .slice a6 n6 c6], A, B), (.agg #[.slice a3 n3 c3, .slice a4 n4 c4], p', q')] [(b4, 0, .slice a5 n5 c5), (b4, 1, .slice a6 n6 c6), (b5, 0, .slice a3 n3 c3), (b5, 1, .slice a4 n4 c4), (b2, 0, .slice none 0 0), (b2, 1, .slice none 0 0)] [b5, b4, b2]) := SN.sub _ _ _ _ _ _ (by simp) (by simp) (by simp) (by simp) (by simp) (by simp)
      rw [← eW]
      clear SN eW ew ev sv e8 hb1 hK hA e0 e1 f0 f1 S1
      simp only [putL, Act.put, List.setIfInBounds_toArray, List.set_cons_zero, List.set_cons_succ, Nat.reduceAdd]
      go_upto_region 7 with fail
      have e0 := S2.out.cel b5 0 (.slice a3 n3 c3)
      have e1 := S2.out.cel b5 1 (.slice a4 n4 c4)
      have f0 := S2.out.fz b5 0
      have f1 := S2.out.fz b5 1
      refine wp_region_inv (JD w6 [sRRt (p') (q'), sEq (.slice (some ⟨g, 0, none⟩) n cap), sEq (.int .i64 (i : Int)), sEq (.pointer (some ⟨g, i * 2, none⟩)), sRRt (X i) (Y i), sEq (.slice (some ⟨g, 0, none⟩) n cap), sEq (.int .i64 (i : Int)), sEq (.pointer (some ⟨g, i * 2, none⟩)), sRRt (X i) (Y i), sRRt (M1) (M2), sRRt (p2) (q2), sAny] [[], [], [], [1, 2], [3], [], [], [5, 6], [7], [4, 8], [0, 9], [10]] 11 10 [0, 1, 2, 3, 4, 5, 6, 7, 8, 9, 10] (Sto2 (b5))) 52 (by kernel_rfl) rfl (by kernel_rfl) (JD.start _ _ _ _ _ _ _) (fun HG HN => ⟨?_, ?_, ?_, ?_, ?_, ?_, ?_, ?_, ?_, ?_, ?_, ?_, trivial⟩) ?_
      · intro L vs a w' hJ hF hP hL
        have hK := hJ
        have hJ := hK.open hL (by decide)
        have q5 : (a.tmps[5]?).getD undef = .pointer (some ⟨b5, 0, none⟩) := hF.old 5 rfl
        have cb := cell_later hJ.bel (S2.out.cel (b5) 0 (.slice a3 n3 c3))
        have cc := cell_later hJ.bel (S2.out.cel (b5) 1 (.slice a4 n4 c4))
        exact run_val (v := .agg #[.slice a3 n3 c3, .slice a4 n4 c4]) rfl (by simp [execOp, go_sem, q5, cb, cc]) ⟨_, rfl, hK.step hL (by decide) (by decide) rfl (nd_nil) <| hJ.step hL rfl (Below.refl _ _) (by exact ((S2.out.rfr (.agg #[.slice a3 n3 c3, .slice a4 n4 c4]) (p') (q')).mono hJ.bel))⟩
      · intro L vs a w' hJ hF hP hL
        have hK := hJ
        have hJ := hK.open hL (by decide)
        have q0 : (a.tmps[0]?).getD undef = .slice (some ⟨g, 0, none⟩) n cap := hF.old 0 rfl
        exact run_val (v := .slice (some ⟨g, 0, none⟩) n cap) rfl (by simp [execOp, go_sem, q0]) ⟨_, rfl, hK.step hL (by decide) (by decide) rfl (nd_nil) <| hJ.step hL rfl (Below.refl _ _) (by exact rfl)⟩
      · intro L vs a w' hJ hF hP hL
        have hK := hJ
        have hJ := hK.open hL (by decide)
        have q6 : (a.tmps[6]?).getD undef = .int .i64 (i : Int) := hF.old 6 rfl
        exact run_val (v := .int .i64 (i : Int)) rfl (by simp [execOp, go_sem, q6]) ⟨_, rfl, hK.step hL (by decide) (by decide) rfl (nd_nil) <| hJ.step hL rfl (Below.refl _ _) (by exact rfl)⟩
      · intro L vs a w' hJ hF hP hL
        have hK := hJ
        have hJ := hK.open hL (by decide)
        have p1 : L 1 = true := hP ⟨1, .data⟩ (by simp) rfl
        have s1 : vs 1 = .slice (some ⟨g, 0, none⟩) n cap := hJ.sp 1 p1
        have q24 := hF.slot 1 24 rfl p1
        have p2 : L 2 = true := hP ⟨2, .data⟩ (by simp) rfl
        have s2 : vs 2 = .int .i64 (i : Int) := hJ.sp 2 p2
        have q25 := hF.slot 2 25 rfl p2
        exact run_val (v := .pointer (some ⟨g, i * 2, none⟩)) rfl (by simp [execOp, go_sem, q24, s1, q25, s2, HI2.out]) ⟨_, rfl, hK.step hL (by decide) (by decide) rfl (nd_cons p1 (nd_cons p2 (nd_nil))) <| hJ.step hL rfl (Below.refl _ _) (by exact rfl)⟩
      · intro L vs a w' hJ hF hP hL
        have hK := hJ
        have hJ := hK.open hL (by decide)
        have p3 : L 3 = true := hP ⟨3, .data⟩ (by simp) rfl
        have s3 : vs 3 = .pointer (some ⟨g, i * 2, none⟩) := hJ.sp 3 p3
        have q26 := hF.slot 3 26 rfl p3
        have cb := cell_later (bel_go S2.out.bel hJ.bel) K0
        have cc := cell_later (bel_go S2.out.bel hJ.bel) K1
        exact run_val (v := .agg #[.slice aE nE cE, .slice aG nG cG]) rfl (by simp [execOp, go_sem, q26, s3, cb, cc]) ⟨_, rfl, hK.step hL (by decide) (by decide) rfl (nd_cons p3 (nd_nil)) <| hJ.step hL rfl (Below.refl _ _) (by exact (HR.out.mono (bel_go S2.out.bel hJ.bel)))⟩
      · intro L vs a w' hJ hF hP hL
        have hK := hJ
        have hJ := hK.open hL (by decide)
        have q0 : (a.tmps[0]?).getD undef = .slice (some ⟨g, 0, none⟩) n cap := hF.old 0 rfl
        exact run_val (v := .slice (some ⟨g, 0, none⟩) n cap) rfl (by simp [execOp, go_sem, q0]) ⟨_, rfl, hK.step hL (by decide) (by decide) rfl (nd_nil) <| hJ.step hL rfl (Below.refl _ _) (by exact rfl)⟩
      · intro L vs a w' hJ hF hP hL
        have hK := hJ
        have hJ := hK.open hL (by decide)
        have q6 : (a.tmps[6]?).getD undef = .int .i64 (i : Int) := hF.old 6 rfl
        exact run_val (v := .int .i64 (i : Int)) rfl (by simp [execOp, go_sem, q6]) ⟨_, rfl, hK.step hL (by decide) (by decide) rfl (nd_nil) <| hJ.step hL rfl (Below.refl _ _) (by exact rfl)⟩
      · intro L vs a w' hJ hF hP hL
        have hK := hJ
        have hJ := hK.open hL (by decide)
        have p5 : L 5 = true := hP ⟨5, .data⟩ (by simp) rfl
        have s5 : vs 5 = .slice (some ⟨g, 0, none⟩) n cap := hJ.sp 5 p5
        have q28 := hF.slot 5 28 rfl p5
        have p6 : L 6 = true := hP ⟨6, .data⟩ (by simp) rfl
        have s6 : vs 6 = .int .i64 (i : Int) := hJ.sp 6 p6
        have q29 := hF.slot 6 29 rfl p6
        exact run_val (v := .pointer (some ⟨g, i * 2, none⟩)) rfl (by simp [execOp, go_sem, q28, s5, q29, s6, HI2.out]) ⟨_, rfl, hK.step hL (by decide) (by decide) rfl (nd_cons p5 (nd_cons p6 (nd_nil))) <| hJ.step hL rfl (Below.refl _ _) (by exact rfl)⟩
      · intro L vs a w' hJ hF hP hL
        have hK := hJ
        have hJ := hK.open hL (by decide)
        have p7 : L 7 = true := hP ⟨7, .data⟩ (by simp) rfl
        have s7 : vs 7 = .pointer (some ⟨g, i * 2, none⟩) := hJ.sp 7 p7
        have q30 := hF.slot 7 30 rfl p7
        have cb := cell_later (bel_go S2.out.bel hJ.bel) K0
        have cc := cell_later (bel_go S2.out.bel hJ.bel) K1
        exact run_val (v := .agg #[.slice aE nE cE, .slice aG nG cG]) rfl (by simp [execOp, go_sem, q30, s7, cb, cc]) ⟨_, rfl, hK.step hL (by decide) (by decide) rfl (nd_cons p7 (nd_nil)) <| hJ.step hL rfl (Below.refl _ _) (by exact (HR.out.mono (bel_go S2.out.bel hJ.bel)))⟩
      · intro L vs a w' hJ hF hP hL
        have hK := hJ
        have hJ := hK.open hL (by decide)
        have p4 : L 4 = true := hP ⟨4, .data⟩ (by simp) rfl
        have s4 : RRt w' (vs 4) (X i) (Y i) := hJ.sp 4 p4
        have q27 := hF.slot 4 27 rfl p4
        have p8 : L 8 = true := hP ⟨8, .data⟩ (by simp) rfl
        have s8 : RRt w' (vs 8) (X i) (Y i) := hJ.sp 8 p8
        have q31 := hF.slot 8 31 rfl p8
        refine run_call (f := 41) (args := #[vs 4, vs 8]) rfl (by simp [go_sem, q27, q31]) (CM.out _ _ _ s4 s8) ?_
        rintro e w2 ⟨v, rfl, hv, hb⟩
        exact ⟨_, rfl, _, rfl, hK.step hL (by decide) (by decide) rfl (nd_cons p4 (nd_cons p8 (nd_nil))) <| hJ.step hL rfl hb (by exact hv)⟩
      · intro L vs a w' hJ hF hP hL
        have hK := hJ
        have hJ := hK.open hL (by decide)
        have p0 : L 0 = true := hP ⟨0, .data⟩ (by simp) rfl
        have s0 : RRt w' (vs 0) (p') (q') := hJ.sp 0 p0
        have q23 := hF.slot 0 23 rfl p0
        have p9 : L 9 = true := hP ⟨9, .data⟩ (by simp) rfl
        have s9 : RRt w' (vs 9) (M1) (M2) := hJ.sp 9 p9
        have q32 := hF.slot 9 32 rfl p9
        refine run_call (f := 40) (args := #[vs 0, vs 9]) rfl (by simp [go_sem, q23, q32]) (CB.out _ _ _ s0 s9) ?_
        rintro e w2 ⟨v, rfl, hv, hb⟩
        exact ⟨_, rfl, _, rfl, hK.step hL (by decide) (by decide) rfl (nd_cons p0 (nd_cons p9 (nd_nil))) <| hJ.step hL rfl hb (by exact hv)⟩
      · intro L vs a w' hJ hF hP hL
        have hK := hJ
        have hJ := hK.core hL
        have q5 : (a.tmps[5]?).getD undef = .pointer (some ⟨b5, 0, none⟩) := hF.old 5 rfl
        have p10 : L 10 = true := hP ⟨10, .data⟩ (by simp) rfl
        have s10 : RRt w' (vs 10) (p2) (q2) := hJ.sp 10 p10
        have q33 := hF.slot 10 33 rfl p10
        have p0 : L 0 = true := hK.cl 10 p10 0 (by simp)
        have p9 : L 9 = true := hK.cl 10 p10 9 (by simp)
        have p4 : L 4 = true := hK.cl 9 p9 4 (by simp)
        have p3 : L 3 = true := hK.cl 4 p4 3 (by simp)
        have p1 : L 1 = true := hK.cl 3 p3 1 (by simp)
        have p2 : L 2 = true := hK.cl 3 p3 2 (by simp)
        have p8 : L 8 = true := hK.cl 9 p9 8 (by simp)
        have p7 : L 7 = true := hK.cl 8 p8 7 (by simp)
        have p5 : L 5 = true := hK.cl 7 p7 5 (by simp)
        have p6 : L 6 = true := hK.cl 7 p7 6 (by simp)
        have x0 := cell_later hJ.bel e0
        have y0 := (hJ.bel.frozen (World.block_lt_of_cell? _ _ e0)).trans f0
        have x1 := cell_later hJ.bel e1
        have y1 := (hJ.bel.frozen (World.block_lt_of_cell? _ _ e1)).trans f1
        have s10' := s10
        obtain ⟨aa, nn, cc, a2, n2, c2, e8, _, _⟩ := s10'
        exact run_unit (w' := ((w'.setCell ⟨b5, 0, none⟩ (.slice aa nn cc)).setCell ⟨b5, 1, none⟩ (.slice a2 n2 c2))) rfl (by simp [execOp, go_sem, q5, q33, e8, x0, y0, x1, y1]) ⟨undef, rfl, hK.put hL (by decide) rfl (nd_cons p10 (nd_nil)) (nd_cons p0 (nd_cons p1 (nd_cons p2 (nd_cons p3 (nd_cons p4 (nd_cons p5 (nd_cons p6 (nd_cons p7 (nd_cons p8 (nd_cons p9 (nd_cons p10 (nd_nil)))))))))))) p10 ⟨_, _, e8, rfl⟩⟩
      intro L vs w' hA hK
      obtain ⟨_, w1, hb1, sv, u1, u2, ev, ew⟩ := hK.fin (hA 11 (by simp))
      replace sv : RRt w1 (vs 10) (p2) (q2) := sv
      have sv' := sv
      obtain ⟨a7, n7, c7, a8, n8, c8, e8, _, _⟩ := sv'
      rw [e8] at ev sv
      obtain ⟨rfl, rfl⟩ : u1 = .slice a7 n7 c7 ∧ u2 = .slice a8 n8 c8 := by simpa [eq_comm] using ev
      have SN := (S2.out.go hb1).putG (cell_later hb1 e0) (cell_later hb1 e1) (S2.out.lo b5) sv [(b4, 0, .slice a5 n5 c5), (b4, 1, .slice a6 n6 c6), (b2, 0, .slice none 0 0), (b2, 1, .slice none 0 0)] (by have := HLT.out; simp; omega)
      rw [← ew] at SN
      obtain ⟨w7, eW⟩ : ∃ w7, w7 = w' := ⟨_, rfl⟩
      rw [← eW] at SN
      have S3 : Hid (SY w w7 [] [] [] [(.agg #[.slice a5 n5 c5, .slice a6 n6 c6], A, B), (.agg #[.slice a7 n7 c7, .slice a8 n8 c8], p2, q2)] [(b4, 0, .slice a5 n5 c5), (b4, 1, .slice a6 n6 c6), (b5, 0, .slice a7 n7 c7), (b5, 1, .slice a8 n8 c8), (b2, 0, .slice none 0 0), (b2, 1, .slice none 0 0)] [b5, b4, b2]) := SN.sub _ _ _ _ _ _ (by simp) (by simp) (by simp) (by simp) (by simp) (by simp)
      rw [← eW]
      clear SN eW ew ev sv e8 hb1 hK hA e0 e1 f0 f1 S2
      simp only [putL, Act.put, List.setIfInBounds_toArray, List.set_cons_zero, List.set_cons_succ, Nat.reduceAdd]
      go_wp2_with fail
      go_roundw
      case rel => exact ⟨i + 1, _, _, _, _, _, _, _, _, _, _, _, _, _, _, _, _, by omega, by go_num, FN.out.1, FN.out.2, S3.out⟩
      case measure => simp [RowKit.intOf]; omega
    obtain rfl : i = n := by omega
    have y2 := S1.out.cel b5 0 (.slice a3 n3 c3)
    have y3 := S1.out.cel b5 1 (.slice a4 n4 c4)
    have hf' : RFits p' := (HF.out.2.rs1 (by omega)).rfits
    by_cases h0 : nu2 N D i = 0
    · have hp0 : p' = 0 := HF.out.2.zero.2 h0
      have CG : Hid (Calls Tryz.prog 42 #[.agg #[.slice a3 n3 c3, .slice a4 n4 c4]] wr fun e w' => e = .returned (.int .i64 0) ∧ Below wr.heap.size wr w') := rsign2_any _ p' q' wr (S1.out.rfr (.agg #[.slice a3 n3 c3, .slice a4 n4 c4]) p' q') hf' 0 (by rw [if_pos hp0])
      have HJ : Hid (JnP N D i 0 1 false) := ⟨by simp [h0], rs_few (by omega), rs_few (by omega), fun _ => ⟨rfl, rfl⟩, fun h => by omega⟩
      clear HF h0 hp0 hf'
      go_wp2_with fail
      with_reducible refine Calls.mono CG.out ?_
      rintro e w8 ⟨rfl, hb8⟩
      have S8 := S1.out.go hb8
      have SH : Hid (SY w w8 [] [] [] [(.agg #[.slice a1 n1 c1, .slice a2 n2 c2], p, q), (.agg #[.slice a3 n3 c3, .slice a4 n4 c4], p', q')] [(b4, 0, .slice a1 n1 c1), (b4, 1, .slice a2 n2 c2), (b5, 0, .slice a3 n3 c3), (b5, 1, .slice a4 n4 c4), (b2, 0, .slice none 0 0), (b2, 1, .slice none 0 0)] [b5, b4, b2]) := S8
      clear hb8 S8 CG y2 y3
      go_wp2_with fail
      refine Calls.mono (rzero2_any w8) ?_
      rintro e w9 ⟨v9, rfl, hv9, hb9⟩
      have hv9' := hv9
      obtain ⟨a5, n5, c5, a6, n6, c6, rfl, _, _⟩ := hv9'
      have S9 := SH.out.go hb9
      have z0 := S9.cel b2 0 (.slice none 0 0)
      have z1 := S9.cel b2 1 (.slice none 0 0)
      have g0 := S9.fz b2 0
      have g1 := S9.fz b2 1
      have SN : Hid _ := S9.putG z0 z1 (S9.lo b2) hv9 [] (by simp)
      clear hv9 hb9 S9 SH S1
      go_wp2_with fail
      exact bodyPost_ret (v := .tuple #[.agg #[.slice a5 n5 c5, .slice a6 n6 c6], .bool false]) (by simp [results, Tryz.results14, go_sem, z0, z1]) rfl ⟨0, 1, false, HJ.out, _, rfl, SN.out.rfr (.agg #[.slice a5 n5 c5, .slice a6 n6 c6]) 0 1, SN.out.bel⟩
    have hp0 : ¬ p' = 0 := fun e => h0 (HF.out.2.zero.1 e)
    have hi0 : 0 < i := Nat.pos_of_ne_zero fun e => h0 (by rw [e]; rfl)
    have CG : Hid (Calls Tryz.prog 42 #[.agg #[.slice a3 n3 c3, .slice a4 n4 c4]] wr fun e w' => e = .returned (.int .i64 1) ∧ Below wr.heap.size wr w') := rsign2_any _ p' q' wr (S1.out.rfr (.agg #[.slice a3 n3 c3, .slice a4 n4 c4]) p' q') hf' 1 (by rw [if_neg hp0])
    obtain ⟨A, B, ca, cb', x, y, fx, k1, k2, k3⟩ := FF.out.rlast hi0 HF.out.1 HF.out.2 (by omega)
    have HJ : Hid (JnP N D i x y true) := ⟨by simp; omega, fx.rs1 (by omega), fx.rs2 (by omega), fun h => by omega, fun _ => fx⟩
    have C1 : Hid (∀ v u w, RRt w v p q → RRt w u p q → Calls Tryz.prog 41 #[v, u] w (MakesRR w A B)) := k1
    have C2 : Hid (∀ v u w, RRt w v p' q' → RRt w u i 1 → Calls Tryz.prog 41 #[v, u] w (MakesRR w ca cb')) := k2
    have C3 : Hid (∀ v u w, RRt w v A B → RRt w u ca cb' → Calls Tryz.prog 43 #[v, u] w (MakesRRB w x y true)) := k3
    have hcv : IntKind.u64.wrap (i : Int) = (i : Int) := by rw [IntKind.wrap_u64]; omega
    clear HF h0 hp0 hf' fx k1 k2 k3
    go_wp2_with fail
    with_reducible refine Calls.mono CG.out ?_
    rintro e w8 ⟨rfl, hb8⟩
    have SH : Hid (SY w w8 [] [] [] [(.agg #[.slice a1 n1 c1, .slice a2 n2 c2], p, q), (.agg #[.slice a3 n3 c3, .slice a4 n4 c4], p', q')] [(b4, 0, .slice a1 n1 c1), (b4, 1, .slice a2 n2 c2), (b5, 0, .slice a3 n3 c3), (b5, 1, .slice a4 n4 c4), (b2, 0, .slice none 0 0), (b2, 1, .slice none 0 0)] [b5, b4, b2]) := S1.out.go hb8
    clear hb8 CG y2 y3 S1
    go_upto_region 10 with fail
    refine wp_region_inv (JC w8 [sRRt (p) (q), sRRt (p) (q), sRRt (A) (B), sRRt (p') (q'), sEq (.slice s0 i cap), sEq (.int .i64 (i : Int)), sEq (.int .u64 (i : Int)), sRRt (i) (1), sRRt (ca) (cb'), sRRtB (x) (y) true, sRRtB (x) (y) true, sRRt (x) (y), sEq (.bool true), sAny, sAny, sEq (.bool true)] (13, 14, 11)) 52 (by kernel_rfl) rfl (by kernel_rfl) (JC.start _ _ _) (fun HG HN => ⟨?_, ?_, ?_, ?_, ?_, ?_, ?_, ?_, ?_, ?_, ?_, ?_, ?_, ?_, ?_, ?_, trivial⟩) ?_
    · intro L vs a w' hJ hF hP hL
      have q4 : (a.tmps[4]?).getD undef = .pointer (some ⟨b4, 0, none⟩) := hF.old 4 rfl
      have cb := cell_later hJ.bel (SH.out.cel (b4) 0 (.slice a1 n1 c1))
      have cc := cell_later hJ.bel (SH.out.cel (b4) 1 (.slice a2 n2 c2))
      exact run_val (v := .agg #[.slice a1 n1 c1, .slice a2 n2 c2]) rfl (by simp [execOp, go_sem, q4, cb, cc]) ⟨_, rfl, hJ.step hL rfl (Below.refl _ _) (by exact ((SH.out.rfr (.agg #[.slice a1 n1 c1, .slice a2 n2 c2]) (p) (q)).mono hJ.bel))⟩
    · intro L vs a w' hJ hF hP hL
      have q4 : (a.tmps[4]?).getD undef = .pointer (some ⟨b4, 0, none⟩) := hF.old 4 rfl
      have cb := cell_later hJ.bel (SH.out.cel (b4) 0 (.slice a1 n1 c1))
      have cc := cell_later hJ.bel (SH.out.cel (b4) 1 (.slice a2 n2 c2))
      exact run_val (v := .agg #[.slice a1 n1 c1, .slice a2 n2 c2]) rfl (by simp [execOp, go_sem, q4, cb, cc]) ⟨_, rfl, hJ.step hL rfl (Below.refl _ _) (by exact ((SH.out.rfr (.agg #[.slice a1 n1 c1, .slice a2 n2 c2]) (p) (q)).mono hJ.bel))⟩
    · intro L vs a w' hJ hF hP hL
      have p0 : L 0 = true := hP ⟨0, .data⟩ (by simp) rfl
      have s0 : RRt w' (vs 0) (p) (q) := hJ.sp 0 p0
      have q39 := hF.slot 0 39 rfl p0
      have p1 : L 1 = true := hP ⟨1, .data⟩ (by simp) rfl
      have s1 : RRt w' (vs 1) (p) (q) := hJ.sp 1 p1
      have q40 := hF.slot 1 40 rfl p1
      refine run_call (f := 41) (args := #[vs 0, vs 1]) rfl (by simp [go_sem, q39, q40]) (C1.out _ _ _ s0 s1) ?_
      rintro e w2 ⟨v, rfl, hv, hb⟩
      exact ⟨_, rfl, _, rfl, hJ.step hL rfl hb (by exact hv)⟩
    · intro L vs a w' hJ hF hP hL
      have q5 : (a.tmps[5]?).getD undef = .pointer (some ⟨b5, 0, none⟩) := hF.old 5 rfl
      have cb := cell_later hJ.bel (SH.out.cel (b5) 0 (.slice a3 n3 c3))
      have cc := cell_later hJ.bel (SH.out.cel (b5) 1 (.slice a4 n4 c4))
      exact run_val (v := .agg #[.slice a3 n3 c3, .slice a4 n4 c4]) rfl (by simp [execOp, go_sem, q5, cb, cc]) ⟨_, rfl, hJ.step hL rfl (Below.refl _ _) (by exact ((SH.out.rfr (.agg #[.slice a3 n3 c3, .slice a4 n4 c4]) (p') (q')).mono hJ.bel))⟩
    · intro L vs a w' hJ hF hP hL
      have q0 : (a.tmps[0]?).getD undef = .slice s0 i cap := hF.old 0 rfl
      exact run_val (v := .slice s0 i cap) rfl (by simp [execOp, go_sem, q0]) ⟨_, rfl, hJ.step hL rfl (Below.refl _ _) (by exact rfl)⟩
    · intro L vs a w' hJ hF hP hL
      have p4 : L 4 = true := hP ⟨4, .data⟩ (by simp) rfl
      have s4 : vs 4 = .slice s0 i cap := hJ.sp 4 p4
      have q43 := hF.slot 4 43 rfl p4
      exact run_val (v := .int .i64 (i : Int)) rfl (by simp [go_sem, q43, s4]) ⟨_, rfl, hJ.step hL rfl (Below.refl _ _) (by exact rfl)⟩
    · intro L vs a w' hJ hF hP hL
      have p5 : L 5 = true := hP ⟨5, .data⟩ (by simp) rfl
      have s5 : vs 5 = .int .i64 (i : Int) := hJ.sp 5 p5
      have q44 := hF.slot 5 44 rfl p5
      exact run_val (v := .int .u64 (i : Int)) rfl (by simp [execOp, go_sem, q44, s5, hcv]) ⟨_, rfl, hJ.step hL rfl (Below.refl _ _) (by exact rfl)⟩
    · intro L vs a w' hJ hF hP hL
      have p6 : L 6 = true := hP ⟨6, .data⟩ (by simp) rfl
      have s6 : vs 6 = .int .u64 (i : Int) := hJ.sp 6 p6
      have q45 := hF.slot 6 45 rfl p6
      refine run_call (f := 44) (args := #[.int .u64 (i : Int)]) rfl (by simp [go_sem, q45, s6]) (rwhole_any i _ (by omega)) ?_
      rintro e w2 ⟨v, rfl, hv, hb⟩
      exact ⟨_, rfl, _, rfl, hJ.step hL rfl hb (by exact hv)⟩
    · intro L vs a w' hJ hF hP hL
      have p3 : L 3 = true := hP ⟨3, .data⟩ (by simp) rfl
      have s3 : RRt w' (vs 3) (p') (q') := hJ.sp 3 p3
      have q42 := hF.slot 3 42 rfl p3
      have p7 : L 7 = true := hP ⟨7, .data⟩ (by simp) rfl
      have s7 : RRt w' (vs 7) (i) (1) := hJ.sp 7 p7
      have q46 := hF.slot 7 46 rfl p7
      refine run_call (f := 41) (args := #[vs 3, vs 7]) rfl (by simp [go_sem, q42, q46]) (C2.out _ _ _ s3 s7) ?_
      rintro e w2 ⟨v, rfl, hv, hb⟩
      exact ⟨_, rfl, _, rfl, hJ.step hL rfl hb (by exact hv)⟩
    · intro L vs a w' hJ hF hP hL
      have p2 : L 2 = true := hP ⟨2, .data⟩ (by simp) rfl
      have s2 : RRt w' (vs 2) (A) (B) := hJ.sp 2 p2
      have q41 := hF.slot 2 41 rfl p2
      have p8 : L 8 = true := hP ⟨8, .data⟩ (by simp) rfl
      have s8 : RRt w' (vs 8) (ca) (cb') := hJ.sp 8 p8
      have q47 := hF.slot 8 47 rfl p8
      refine run_call (f := 43) (args := #[vs 2, vs 8]) rfl (by simp [go_sem, q41, q47]) (C3.out _ _ _ s2 s8) ?_
      rintro e w2 ⟨v1, rfl, h1, hb⟩
      exact ⟨_, rfl, _, rfl, hJ.step hL rfl hb (by exact ⟨v1, rfl, h1⟩)⟩
    · intro L vs a w' hJ hF hP hL
      have p9 : L 9 = true := hP ⟨9, .data⟩ (by simp) rfl
      have s9 : ∃ p, vs 9 = .tuple #[p, .bool true] ∧ RRt w' p (x) (y) := hJ.sp 9 p9
      have q48 := hF.slot 9 48 rfl p9
      exact run_val (v := vs 9) rfl (by simp [execOp, go_sem, q48]) ⟨_, rfl, hJ.step hL rfl (Below.refl _ _) (by exact s9)⟩
    · intro L vs a w' hJ hF hP hL
      have p10 : L 10 = true := hP ⟨10, .data⟩ (by simp) rfl
      have s10 : ∃ p, vs 10 = .tuple #[p, .bool true] ∧ RRt w' p (x) (y) := hJ.sp 10 p10
      have q38 := hF.slot 10 38 rfl p10
      obtain ⟨vp, e1, e2⟩ := s10
      exact run_val (v := vp) rfl (by simp [execOp, go_sem, q38, e1]) ⟨_, rfl, hJ.step hL rfl (Below.refl _ _) (by exact e2)⟩
    · intro L vs a w' hJ hF hP hL
      have p10 : L 10 = true := hP ⟨10, .data⟩ (by simp) rfl
      have s10 : ∃ p, vs 10 = .tuple #[p, .bool true] ∧ RRt w' p (x) (y) := hJ.sp 10 p10
      have q38 := hF.slot 10 38 rfl p10
      obtain ⟨vp, e1, e2⟩ := s10
      exact run_val (v := .bool true) rfl (by simp [execOp, go_sem, q38, e1]) ⟨_, rfl, hJ.step hL rfl (Below.refl _ _) (by exact rfl)⟩
    · intro L vs a w' hJ hF hP hL
      exact run_val (v := .pointer (some ⟨w'.heap.size, 0, none⟩)) (w' := w'.alloc (.cells #[.slice none 0 0, .slice none 0 0] 53)) rfl (by simp [execOp, go_sem]) ⟨_, rfl, hJ.alloc hL rfl (by decide) rfl _⟩
    · intro L vs a w' hJ hF hP hL
      have p13 : L 13 = true := hP ⟨13, .data⟩ (by simp) rfl
      have q7 := hF.slot 13 7 rfl p13
      have p11 : L 11 = true := hP ⟨11, .data⟩ (by simp) rfl
      have s11 : RRt w' (vs 11) (x) (y) := hJ.sp 11 p11
      have q49 := hF.slot 11 49 rfl p11
      obtain ⟨bk, e1, e2, e3, e4, e4', e5, e6⟩ := hJ.bx p13
      obtain ⟨e7, e7'⟩ := e5 hL
      have s11' := s11
      obtain ⟨aa, nn, cc, a2, n2, c2, e8, _, _⟩ := s11'
      exact run_unit (w' := (w'.setCell ⟨bk, 0, none⟩ (.slice aa nn cc)).setCell ⟨bk, 1, none⟩ (.slice a2 n2 c2)) rfl (by simp [execOp, go_sem, q7, q49, e1, e8, e7, e4, e7', e4']) ⟨undef, rfl, hJ.store hL p13 p11 (by decide) rfl e1 e8⟩
    · intro L vs a w' hJ hF hP hL
      have p12 : L 12 = true := hP ⟨12, .data⟩ (by simp) rfl
      have s12 : vs 12 = .bool true := hJ.sp 12 p12
      have q50 := hF.slot 12 50 rfl p12
      exact run_val (v := .bool true) rfl (by simp [execOp, go_sem, q50, s12]) ⟨_, rfl, hJ.step hL rfl (Below.refl _ _) (by exact rfl)⟩
    intro L vs w' hA hJ
    have s11 : RRt w' (vs 11) (x) (y) := hJ.sp 11 (hA 11 (by simp))
    have s12 : vs 12 = .bool true := hJ.sp 12 (hA 12 (by simp))
    obtain ⟨bk13, eb13, ge13, lt13, fz13, fz13', _, e6⟩ := hJ.bx (hA 13 (by simp))
    obtain ⟨_, u13, u13', eu13, ce13, ce13'⟩ := e6 (hA 14 (by simp))
    clear e6
    simp only [putL, Act.put, List.setIfInBounds_toArray, List.set_cons_zero, List.set_cons_succ, Nat.reduceAdd]
    have s11' := s11
    obtain ⟨a5, n5, c5, a6, n6, c6, ev, _, _⟩ := s11'
    rw [ev] at s11 eu13
    obtain ⟨rfl, rfl⟩ : u13 = .slice a5 n5 c5 ∧ u13' = .slice a6 n6 c6 := by simpa [eq_comm] using eu13
    simp only [eb13, s12]
    have S9 := SH.out.go hJ.bel
    have z0 := S9.cel b2 0 (.slice none 0 0)
    have z1 := S9.cel b2 1 (.slice none 0 0)
    have g0 := S9.fz b2 0
    have g1 := S9.fz b2 1
    have SN : Hid _ := S9.putG z0 z1 (S9.lo b2) s11 [] (by simp)
    clear s11 s12 hJ hA S9 SH ev eu13 eb13
    go_wp2_with fail
    exact bodyPost_ret (v := .tuple #[.agg #[.slice a5 n5 c5, .slice a6 n6 c6], .bool true]) (by simp [results, Tryz.results14, go_sem, z0, z1]) rfl ⟨x, y, .inr ⟨HJ.out, _, rfl, SN.out.rfr (.agg #[.slice a5 n5 c5, .slice a6 n6 c6]) x y, SN.out.bel⟩⟩
theorem three_cells (w : World) (u v : Value) (t : TypeId) : ∀ j x, (fcs [(u, v), (u, v), (u, v)])[j]? = some x → (w.alloc (.cells #[u, v, u, v, u, v] t)).cell? ⟨w.heap.size, 0 + j, none⟩ = some x := by
  intro j x hj
  match j, hj with
  | 0, hj => cases hj; simp [go_sem]
  | 1, hj => cases hj; simp [go_sem]
  | 2, hj => cases hj; simp [go_sem]
  | 3, hj => cases hj; simp [go_sem]
  | 4, hj => cases hj; simp [go_sem]
  | 5, hj => cases hj; simp [go_sem]
  | j + 6, hj => simp [fcs] at hj
theorem three_sl {u v : Value} (hu : isSl u) (hv : isSl v) : ∀ x ∈ fcs [(u, v), (u, v), (u, v)], isSl x := fun x hx => by
  simp [fcs] at hx
  rcases hx with rfl | rfl | rfl | rfl | rfl | rfl <;> assumption
structure Gr (F : Nat → Nat → Int) (n i : Nat) (w0 w : World) (g cap b8 : Nat) (f : Nat → Value) (u v vb : Value) (Lb : List (Value × Value)) : Prop where
  rw : w.rowIs g 47 (cap * 2) f
  rb : Fo2 w0.heap.size w vb Lb
  lo : w0.heap.size ≤ g ∧ w0.heap.size ≤ b8 ∧ g ≠ b8
  cp : n + 3 ≤ cap ∧ cap ≤ 9223372036854775807
  sl : ∀ j, j < cap * 2 → isSl (f j)
  ea : ∀ j, i ≤ j → j < n → Rt w (.agg #[f (j * 2), f (j * 2 + 1)]) (shX F j) (shY F j)
  dn : ∀ j, j < i → f (j * 2) = u ∧ f (j * 2 + 1) = v
  be : ∀ j, n ≤ j → j < n + 3 → f (j * 2) = u ∧ f (j * 2 + 1) = v
  c0 : w.cell? ⟨b8, 0, none⟩ = some u
  c1 : w.cell? ⟨b8, 1, none⟩ = some v
  r7 : Rt w (.agg #[u, v]) 7 3
  lb : Lb.length = n
  eb : ∀ j, (h : j < Lb.length) → RRt w (.agg #[Lb[j].1, Lb[j].2]) (shX F j) (shY F j)
  bel : Below w0.heap.size w0 w
theorem Gr.go {F : Nat → Nat → Int} {n i : Nat} {w0 w w' : World} {g cap b8 : Nat} {f : Nat → Value} {u v vb : Value} {Lb : List (Value × Value)} (h : Gr F n i w0 w g cap b8 f u v vb Lb) (hb : Below w.heap.size w w') : Gr F n i w0 w' g cap b8 f u v vb Lb :=
  ⟨h.rw.of_block (hb.block g h.rw.lt), h.rb.below hb, h.lo, h.cp, h.sl, fun j h1 h2 => (h.ea j h1 h2).mono hb, h.dn, h.be, cell_later hb h.c0, cell_later hb h.c1, h.r7.mono hb, h.lb, fun j hj => (h.eb j hj).mono hb, bel_go h.bel hb⟩
theorem Gr.odd {F : Nat → Nat → Int} {n i : Nat} {w0 w : World} {g cap b8 : Nat} {f : Nat → Value} {u v vb : Value} {Lb : List (Value × Value)} (h : Gr F n i w0 w g cap b8 f u v vb Lb) : Odd w g := by
  intro j k m e
  obtain ⟨c, hc, hs, hf⟩ := h.rw
  have e2 : c[j]? = some (.int k m) := by simpa [World.cell?, hc] using e
  obtain ⟨hl, hv⟩ := Array.getElem?_eq_some_iff.1 e2
  have e3 := hf j (by omega)
  rw [e2] at e3
  injection e3 with e3
  obtain ⟨a, m', c', hm⟩ := h.sl j (by omega)
  rw [hm] at e3
  cases e3
theorem Gr.put {F : Nat → Nat → Int} {n i : Nat} {w0 w : World} {g cap b8 : Nat} {f : Nat → Value} {u v vb : Value} {Lb : List (Value × Value)} (h : Gr F n i w0 w g cap b8 f u v vb Lb) (hi : i < n) (hu : isSl u) (hv : isSl v) :
    ∃ f', Gr F n (i + 1) w0 ((w.setCell ⟨g, i * 2, none⟩ u).setCell ⟨g, i * 2 + 1, none⟩ v) g cap b8 f' u v vb Lb := by
  have FS : Fb (fun k => k = g) w ((w.setCell ⟨g, i * 2, none⟩ u).setCell ⟨g, i * 2 + 1, none⟩ v) := ((Fb.refl (fun k => k = g) w).set (x := ⟨g, i * 2, none⟩) rfl u).set (x := ⟨g, i * 2 + 1, none⟩) rfl v
  have HO : ∀ k, k = g → Odd w k := fun k e => by rw [e]; exact h.odd
  have hl := h.lo
  refine ⟨_, (h.rw.set (i * 2) u).set (i * 2 + 1) v, h.rb.kept fun b hb => FS.block b ?_ ?_, h.lo, h.cp, fun j hj => ?_, fun j h1 h2 => ?_, fun j hj => ?_, fun j h1 h2 => ?_, ?_, ?_, h.r7.fb FS HO, h.lb, fun j hj => (h.eb j hj).fb FS HO, h.bel.trans (FS.below h.bel.size fun k e => by rw [e]; exact hl.1)⟩
  · obtain ⟨_, cs, e⟩ := h.rb.row.own hb
    exact (Array.getElem?_eq_some_iff.1 e).1
  · rintro rfl
    obtain ⟨_, cs, e⟩ := h.rb.row.own hb
    obtain ⟨c, hc, _⟩ := h.rw
    rw [e] at hc
    injection hc with hc
    injection hc with _ e4
    exact absurd e4 (by decide)
  · show isSl (if _ then _ else _)
    split
    · exact hv
    split
    · exact hu
    exact h.sl j hj
  · have := (h.ea j (by omega) h2).fb FS HO
    rw [if_neg (by omega), if_neg (by omega), if_neg (by omega), if_neg (by omega)]
    exact this
  · rcases Nat.lt_or_ge j i with e | e
    · have := h.dn j e
      rw [if_neg (by omega), if_neg (by omega), if_neg (by omega), if_neg (by omega)]
      exact this
    obtain rfl : j = i := by omega
    rw [if_neg (by omega), if_pos rfl, if_pos rfl]
    exact ⟨rfl, rfl⟩
  · have := h.be j h1 h2
    rw [if_neg (by omega), if_neg (by omega), if_neg (by omega), if_neg (by omega)]
    exact this
  · exact FS.cell h.c0 fun e => absurd e.symm hl.2.2
  exact FS.cell h.c1 fun e => absurd e.symm hl.2.2
theorem Gr.make {F : Nat → Nat → Int} {n : Nat} {w0 w w' : World} {b8 : Nat} {va vb v' u v : Value} {La Lb : List (Value × Value)} (h : ShS w0 w (shX F) (shY F) n n va vb La Lb) (hr : Fo w0.heap.size w' v' (La ++ [(u, v), (u, v), (u, v)])) (hg : w.grownBy w' va.ownBlock)
    (hv : v'.ownBlock = va.ownBlock ∨ v'.ownBlock = some w.heap.size) (c0 : w.cell? ⟨b8, 0, none⟩ = some u) (c1 : w.cell? ⟨b8, 1, none⟩ = some v) (r7 : Rt w (.agg #[u, v]) 7 3) (lo : w0.heap.size ≤ b8) (ne : va.ownBlock ≠ some b8) :
    ∃ g cap f, v' = .slice (some ⟨g, 0, none⟩) (n + 3) cap ∧ Gr F n 0 w0 w' g cap b8 f u v vb Lb := by
  have f := fb_grown hg
  have ho := h.ra.oddK
  have hlen : (La ++ [(u, v), (u, v), (u, v)]).length = n + 3 := by rw [List.length_append, h.la]; rfl
  obtain ⟨g, cap, cur, e1, hbg, hcur, hnc, hcm, hcs, htake⟩ : ∃ g cap cur, v' = .slice (some ⟨g, 0, none⟩) (La ++ [(u, v), (u, v), (u, v)]).length cap ∧ w0.heap.size ≤ g ∧ w'.heap[g]? = some (.cells cur 47 (0, 0)) ∧ (La ++ [(u, v), (u, v), (u, v)]).length ≤ cap ∧ cap ≤ maxLen ∧ cur.size = cap * 2 ∧ cur.toList.take ((La ++ [(u, v), (u, v), (u, v)]).length * 2) = fcs (La ++ [(u, v), (u, v), (u, v)]) := by
    rcases hr.row.2 with ⟨_, e⟩ | e
    · omega
    exact e
  rw [hlen] at e1 hnc htake
  subst e1
  have hat : ∀ j, j < n + 3 → ∀ (hj : j < (La ++ [(u, v), (u, v), (u, v)]).length), cur[j * 2]? = some ((La ++ [(u, v), (u, v), (u, v)])[j].1) ∧ cur[j * 2 + 1]? = some ((La ++ [(u, v), (u, v), (u, v)])[j].2) := fun j h1 h2 => by
    obtain ⟨k1, k2⟩ := fcs_get _ j h2
    rw [← htake] at k1 k2
    rw [List.getElem?_take_of_lt (by omega)] at k1 k2
    rw [Array.getElem?_toList] at k1 k2
    exact ⟨k1, k2⟩
  have hsl : ∀ x ∈ cur.toList, isSl x := by
    obtain ⟨c2, hc2, hi2⟩ := hr.odd g rfl
    rw [hcur] at hc2
    injection hc2 with hc2
    injection hc2 with hc2
    subst hc2
    exact hi2
  have hge : ∀ j, j < cap * 2 → cur[j]? = some (cur[j]?.getD undef) := fun j hj => by
    rw [Array.getElem?_eq_getElem (by omega)]; rfl
  refine ⟨g, cap, fun j => cur[j]?.getD undef, rfl, ⟨cur, hcur, hcs, hge⟩, h.rb.kept fun b hb => ?_, ⟨hbg, lo, ?_⟩, ⟨hnc, by simpa [maxLen] using hcm⟩, fun j hj => ?_, fun j _ h2 => ?_, fun j hj => absurd hj (Nat.not_lt_zero _), fun j h1 h2 => ?_, ?_, ?_, r7.fb f ho, h.lb, fun j hj => (h.eb j hj).fb f ho, h.bel.trans (f.below h.bel.size fun b e => (h.ra.row.own e.symm).1)⟩
  · obtain ⟨_, cs, e⟩ := h.rb.row.own hb
    refine hg.block b (Array.getElem?_eq_some_iff.1 e).1 fun e2 => ?_
    obtain ⟨_, cs2, e3⟩ := h.ra.row.own e2.symm
    rw [e] at e3
    injection e3 with e3
    injection e3 with _ e4
    exact absurd e4 (by decide)
  · rintro rfl
    rcases hv with e | e
    · exact ne e.symm
    injection e with e
    have e : g = w.heap.size := e
    have := World.block_lt_of_cell? w ⟨g, 0, none⟩ c0
    have this : g < w.heap.size := this
    omega
  · have := hge j hj
    exact hsl _ (by
      have h3 : j < cur.size := by omega
      rw [Array.getElem?_eq_getElem h3]
      exact Array.getElem_mem_toList h3)
  · obtain ⟨k1, k2⟩ := hat j (by omega) (by omega)
    have hj : j < La.length := by rw [h.la]; exact h2
    rw [List.getElem_append_left hj] at k1 k2
    rw [k1, k2]
    exact (h.ea j hj).fb f ho
  · obtain ⟨k1, k2⟩ := hat j h2 (by omega)
    have hL := h.la
    have h3 : (La ++ [(u, v), (u, v), (u, v)])[j]'(by omega) = (u, v) := by
      rw [List.getElem_append_right (by omega)]
      have : j - La.length = 0 ∨ j - La.length = 1 ∨ j - La.length = 2 := by omega
      rcases this with e | e | e <;> simp [e]
    rw [h3] at k1 k2
    rw [k1, k2]
    exact ⟨rfl, rfl⟩
  · exact f.cell c0 fun e => ne e.symm
  exact f.cell c1 fun e => ne e.symm
theorem nu7_pos {n : Nat} (hn : 0 < n) : 0 < nu2 (fun _ => 7) (fun _ => 3) n := by
  obtain ⟨m, rfl⟩ : ∃ m, n = m + 1 := ⟨n - 1, by omega⟩
  have := pr1_pos (D := fun _ => 3) m fun i _ => by omega
  have := Nat.mul_pos this this
  rw [nu2]
  omega
theorem nu7_le (n : Nat) : nu1 (fun _ => 7) (fun _ => 3) n * nu1 (fun _ => 7) (fun _ => 3) n ≤ nu2 (fun _ => 7) (fun _ => 3) n * n := by
  obtain ⟨e1, e2⟩ := nu_whl (fun _ => 7) (fun _ => 3) n fun i _ => by omega
  rw [e1, e2, Nat.mul_comm (sm2 _ n) n]
  exact sq_le _ n
theorem fq7 (n : Nat) (hn : n ≤ 15) : Fq n (fun _ => 7) (fun _ => 3) (fun _ => 7) (fun _ => 3) := by
  have h := P_one
  exact ⟨hn, fun i _ => ⟨by decide, by omega, by omega, rfl, by omega, by omega⟩, fun i _ => ⟨by omega, by omega⟩⟩
theorem cmp7 {n : Nat} (hn : 0 < n) {x y : Nat} (f : Fc x y (nu1 (fun _ => 7) (fun _ => 3) n * nu1 (fun _ => 7) (fun _ => 3) n) (nu2 (fun _ => 7) (fun _ => 3) n * n) 64) (v u : Value) (w : World) (h : Rt w v x y) (k : Rt w u 7 3) : Calls Tryz.prog 21 #[v, u] w fun e w' => e = .returned (.int .i64 (-1)) ∧ Below w.heap.size w w' := by
  have f7 : Fc 7 3 7 3 1 := ⟨by decide, by omega, by omega, rfl, by rw [P_one]; omega, by rw [P_one]; omega⟩
  refine f.cmp f7 (by omega) (by omega) (z := -1) ?_ v u w h k
  have h1 := nu7_le n
  have h2 := Nat.mul_pos (nu7_pos hn) hn
  unfold cmpI
  rw [if_pos (by omega)]
theorem jnP_one {N D : Nat → Nat} {n x y x' y' : Nat} {ok ok' : Bool} (h : JnP N D n x y ok) (k : JnP N D n x' y' ok') : ok = ok' ∧ x = x' ∧ y = y' := by
  obtain ⟨a1, _, _, a2, a3⟩ := h
  obtain ⟨b1, _, _, b2, b3⟩ := k
  refine ⟨by rw [a1, b1], ?_⟩
  rcases Nat.eq_zero_or_pos (nu2 N D n) with e | e
  · obtain ⟨c1, c2⟩ := a2 e
    obtain ⟨d1, d2⟩ := b2 e
    exact ⟨by rw [c1, d1], by rw [c2, d2]⟩
  exact (a3 e).one (b3 e)
theorem Gr.rjain {F : Nat → Nat → Int} {n i : Nat} {w0 w : World} {g cap b8 : Nat} {f : Nat → Value} {u v : Value} {pb : Option Addr} {nb cb : Nat} {Lb : List (Value × Value)} (h : Gr F n i w0 w g cap b8 f u v (.slice pb nb cb) Lb) (hn : n ≤ 12) :
    Calls Tryz.prog 14 #[.slice pb nb cb] w fun e w' => ∃ x y ok, JnP (shN F) (shD F) n x y ok ∧ MakesRRB w x y ok e w' := by
  obtain ⟨pb', cb', e, hc, hc2, hcel⟩ := h.rb.row.sl
  injection e with e1 e2 e3
  subst e1 e2 e3
  have hl := h.lb
  obtain ⟨gb, hgb⟩ : ∃ gb, 0 < Lb.length → pb = some ⟨gb, 0, none⟩ ∧ ∀ i, (hi : i < Lb.length) → w.cell? ⟨gb, i * 2, none⟩ = some (Lb[i].1) ∧ w.cell? ⟨gb, i * 2 + 1, none⟩ = some (Lb[i].2) := by
    rcases Nat.eq_zero_or_pos Lb.length with e | e
    · exact ⟨0, fun h => by omega⟩
    obtain ⟨gb, h1, _, _, h2⟩ := hcel e
    exact ⟨gb, fun _ => ⟨h1, h2⟩⟩
  have := rjain_any pb gb Lb.length cb (fun j => (Lb[j]?.getD (undef, undef)).1) (fun j => (Lb[j]?.getD (undef, undef)).2) (shX F) (shY F) (shN F) (shD F) w (fq_sh F _ (by omega)) hc hc2 (fun h0 => (hgb h0).1) (fun j hj => by
    obtain ⟨k1, k2⟩ := (hgb (by omega)).2 j hj
    rw [List.getElem?_eq_getElem hj]
    exact ⟨k1, k2, h.eb j hj⟩)
  rw [hl] at this ⊢
  exact this
structure GrS (F : Nat → Nat → Int) (n i : Nat) (w0 w : World) (g cap b8 : Nat) (f : Nat → Value) (u v vb : Value) (Lb : List (Value × Value)) (L : List Nat) (gg mb b11 b13 x y : Nat) (X1 X2 : Value) : Prop where
  gr : Gr F n i w0 w g cap b8 f u v vb Lb
  ga : Gau w gg mb L L.length
  rx : Rt w (.agg #[X1, X2]) x y
  k0 : w.cell? ⟨b11, 0, none⟩ = some X1
  k1 : w.cell? ⟨b11, 1, none⟩ = some X2
  t1 : w.cell? ⟨b13, 1, none⟩ = some (.float .f64 4617315517961601024)
  t2 : w.cell? ⟨b13, 2, none⟩ = some (.float .f64 4613937818241073152)
  ne : g ≠ gg ∧ g ≠ mb ∧ g ≠ b11 ∧ g ≠ b13
theorem GrS.go {F : Nat → Nat → Int} {n i : Nat} {w0 w w' : World} {g cap b8 : Nat} {f : Nat → Value} {u v vb : Value} {Lb : List (Value × Value)} {L : List Nat} {gg mb b11 b13 x y : Nat} {X1 X2 : Value} (h : GrS F n i w0 w g cap b8 f u v vb Lb L gg mb b11 b13 x y X1 X2) (hb : Below w.heap.size w w') : GrS F n i w0 w' g cap b8 f u v vb Lb L gg mb b11 b13 x y X1 X2 :=
  ⟨h.gr.go hb, h.ga.go hb, h.rx.mono hb, cell_later hb h.k0, cell_later hb h.k1, cell_later hb h.t1, cell_later hb h.t2, h.ne⟩
theorem GrS.put {F : Nat → Nat → Int} {n i : Nat} {w0 w : World} {g cap b8 : Nat} {f : Nat → Value} {u v vb : Value} {Lb : List (Value × Value)} {L : List Nat} {gg mb b11 b13 x y : Nat} {X1 X2 : Value} (h : GrS F n i w0 w g cap b8 f u v vb Lb L gg mb b11 b13 x y X1 X2) (hi : i < n) (hu : isSl u) (hv : isSl v) :
    ∃ f', GrS F n (i + 1) w0 ((w.setCell ⟨g, i * 2, none⟩ u).setCell ⟨g, i * 2 + 1, none⟩ v) g cap b8 f' u v vb Lb L gg mb b11 b13 x y X1 X2 := by
  have FS : Fb (fun k => k = g) w ((w.setCell ⟨g, i * 2, none⟩ u).setCell ⟨g, i * 2 + 1, none⟩ v) := ((Fb.refl (fun k => k = g) w).set (x := ⟨g, i * 2, none⟩) rfl u).set (x := ⟨g, i * 2 + 1, none⟩) rfl v
  have HO : ∀ k, k = g → Odd w k := fun k e => by rw [e]; exact h.gr.odd
  obtain ⟨n1, n2, n3, n4⟩ := h.ne
  obtain ⟨f', hf'⟩ := h.gr.put hi hu hv
  exact ⟨f', hf', h.ga.fb FS HO (fun e => n1 e.symm) (fun e => n2 e.symm), h.rx.fb FS HO, FS.cell h.k0 fun e => n3 e.symm, FS.cell h.k1 fun e => n3 e.symm, FS.cell h.t1 fun e => n4 e.symm, FS.cell h.t2 fun e => n4 e.symm, h.ne⟩
structure GrE (B : Nat) (w0 w : World) (L : List Nat) (gg mb b8 b11 b13 b16 b18 x y xb yb : Nat) (u v X1 X2 Y1 Y2 Z1 Z2 : Value) : Prop where
  ga : Gau w gg mb L L.length
  r7 : Rt w (.agg #[u, v]) 7 3
  rx : Rt w (.agg #[X1, X2]) x y
  ry : Rt w (.agg #[Y1, Y2]) xb yb
  rz : RRt w (.agg #[Z1, Z2]) x y
  c0 : w.cell? ⟨b8, 0, none⟩ = some u
  c1 : w.cell? ⟨b8, 1, none⟩ = some v
  k0 : w.cell? ⟨b11, 0, none⟩ = some X1
  k1 : w.cell? ⟨b11, 1, none⟩ = some X2
  y0 : w.cell? ⟨b16, 0, none⟩ = some Y1
  y1 : w.cell? ⟨b16, 1, none⟩ = some Y2
  z0 : w.cell? ⟨b18, 0, none⟩ = some Z1
  z1 : w.cell? ⟨b18, 1, none⟩ = some Z2
  t1 : w.cell? ⟨b13, 1, none⟩ = some (.float .f64 4617315517961601024)
  t2 : w.cell? ⟨b13, 2, none⟩ = some (.float .f64 4613937818241073152)
  lt : gg < B ∧ mb < B ∧ b8 < B ∧ b11 < B ∧ b13 < B ∧ b16 < B ∧ b18 < B ∧ w0.heap.size ≤ B
  bel : Below w0.heap.size w0 w
theorem GrE.go {B : Nat} {w0 w w' : World} {L : List Nat} {gg mb b8 b11 b13 b16 b18 x y xb yb : Nat} {u v X1 X2 Y1 Y2 Z1 Z2 : Value} (h : GrE B w0 w L gg mb b8 b11 b13 b16 b18 x y xb yb u v X1 X2 Y1 Y2 Z1 Z2) (hb : Below w.heap.size w w') : GrE B w0 w' L gg mb b8 b11 b13 b16 b18 x y xb yb u v X1 X2 Y1 Y2 Z1 Z2 :=
  ⟨h.ga.go hb, h.r7.mono hb, h.rx.mono hb, h.ry.mono hb, h.rz.mono hb, cell_later hb h.c0, cell_later hb h.c1, cell_later hb h.k0, cell_later hb h.k1, cell_later hb h.y0, cell_later hb h.y1, cell_later hb h.z0, cell_later hb h.z1, cell_later hb h.t1, cell_later hb h.t2, h.lt, bel_go h.bel hb⟩
theorem GrE.fb {B : Nat} {w0 w w' : World} {L : List Nat} {gg mb b8 b11 b13 b16 b18 x y xb yb : Nat} {u v X1 X2 Y1 Y2 Z1 Z2 : Value} (h : GrE B w0 w L gg mb b8 b11 b13 b16 b18 x y xb yb u v X1 X2 Y1 Y2 Z1 Z2) {d : Nat} (hd : B ≤ d) (f : Fb (fun k => k = d) w w') (ho : Odd w d) : GrE B w0 w' L gg mb b8 b11 b13 b16 b18 x y xb yb u v X1 X2 Y1 Y2 Z1 Z2 := by
  have HO : ∀ k, k = d → Odd w k := fun k e => by rw [e]; exact ho
  obtain ⟨l1, l2, l3, l4, l5, l6, l7, l8⟩ := h.lt
  exact ⟨h.ga.fb f HO (by omega) (by omega), h.r7.fb f HO, h.rx.fb f HO, h.ry.fb f HO, h.rz.fb f HO, f.cell h.c0 (by show ¬ b8 = d; omega), f.cell h.c1 (by show ¬ b8 = d; omega), f.cell h.k0 (by show ¬ b11 = d; omega), f.cell h.k1 (by show ¬ b11 = d; omega), f.cell h.y0 (by show ¬ b16 = d; omega), f.cell h.y1 (by show ¬ b16 = d; omega), f.cell h.z0 (by show ¬ b18 = d; omega), f.cell h.z1 (by show ¬ b18 = d; omega), f.cell h.t1 (by show ¬ b13 = d; omega), f.cell h.t2 (by show ¬ b13 = d; omega), h.lt, h.bel.trans (f.below h.bel.size fun k e => by rw [e]; omega)⟩
theorem rowI_odd {w : World} {d n : Nat} {f : Nat → Int} (h : w.rowIs d 3 n fun j => .int .i64 (f j)) : Odd w d := by
  intro j k m e
  obtain ⟨c, hc, hs, hf⟩ := h
  have e2 : c[j]? = some (.int k m) := by simpa [World.cell?, hc] using e
  obtain ⟨hl, hv⟩ := Array.getElem?_eq_some_iff.1 e2
  have e3 := hf j (by omega)
  rw [e2] at e3
  injection e3 with e3
  injection e3
theorem rowI_ownsR {w : World} {d n cap : Nat} {f : Nat → Int} (h : w.rowIs d 3 cap fun j => .int .i64 (f j)) (hn : n ≤ cap) (hc : cap ≤ 100000) : w.ownsRow d 3 1 (.slice (some ⟨d, 0, none⟩) n cap) ((List.range n).map f).length (((List.range n).map f).map encZ) := by
  obtain ⟨cs, hb, hs, hc2⟩ := h
  refine ⟨by simp, .inr ⟨d, cap, cs, by simp, Nat.le_refl _, hb, by simp; omega, by simp only [maxLen]; omega, by omega, ?_⟩⟩
  apply List.ext_getElem?
  intro m
  by_cases hm : m < n
  · rw [List.getElem?_take_of_lt (by simp; omega), Array.getElem?_toList, hc2 m (by omega)]
    simp [hm, encZ]
  rw [List.getElem?_eq_none (by simp; omega), List.getElem?_eq_none (by simp; omega)]
end Go.Proofs.YtfkkomppfghagaaGreatDoor
