/- Contracts of the program's functions, part 11: own work, joined in build order. -/
import Derived.Test.YtajkjfblpomdpaaDoorJ10
namespace Go.Proofs.YtajkjfblpomdpaaDoor
open Go.RowKit
set_option maxRecDepth 100000
set_option linter.unusedVariables false
set_option maxHeartbeats 8000000 in
theorem pair_zero (va vb ux uy : Value) (x y : Nat) (w : World) (h1 : IsNat w va x) (h2 : IsNat w vb y) (h3 : RNat w ux x) (h4 : RNat w uy y) (hp : PairOk x y) (hT : Tab w) (hc : y ≤ x) (hy0 : y = 0) :
    Calls Tryd.prog 10 #[va, vb, ux, uy] w fun e w' => e = .returned (.bool true) ∧ Below w.heap.size w w' := by
  obtain ⟨ap, mp, cp, rfl⟩ := h1.isAgg
  obtain ⟨aq, mq, cq, rfl⟩ := h2.isAgg
  obtain ⟨ar, mr, cr, rfl⟩ := h3.isAgg
  obtain ⟨aS, ms, cs, rfl⟩ := h4.isAgg
  have HP : Hid (PairOk x y ∧ Tab w) := ⟨hp, hT⟩
  have S0 : Hid _ := (((((((((sr_start w).nat h1).nat h2).rnat h3).rnat h4).box (.slice ap mp cp) 26 _ rfl).box (.slice aq mq cq) 26 _ rfl).box (.slice ar mr cr) 29 _ rfl).box (.slice aS ms cs) 29 _ rfl)
  have HY0 : Hid (y = 0) := hy0
  clear hy0
  clear h1 h2 h3 h4 hp hT
  go_enter Tryd.func10, Tryd.ntmps10
  go_wp2_with fail
  simp only [World.size_alloc] at S0
  obtain ⟨w2, hw2⟩ : ∃ w2, w2 = (((w.alloc (Obj.cells #[Value.slice ap mp cp] 26)).alloc (Obj.cells #[Value.slice aq mq cq] 26)).alloc (Obj.cells #[Value.slice ar mr cr] 29)).alloc (Obj.cells #[Value.slice aS ms cs] 29) := ⟨_, rfl⟩
  obtain ⟨b, hb⟩ : ∃ b, b = w.heap.size := ⟨_, rfl⟩
  rw [← hw2, ← hb] at S0
  rw [← hw2, ← hb]
  clear hw2 hb
  refine wp_region_inv (JB w2 [sNat (x), sNat (y), sNat (x + y), sR (x), sR (y), sR (x + y), sEq (.bool true), sEq (.bool false), sEq (.bool false), sNat (x), sNat (y), sNat (x * y), sR (x), sR (y), sR (x * y), sEq (.bool true), sEq (.bool false), sEq (.bool false), sEq (.bool false), sNat (x), sNat (y), sEq (.int .i64 (cmpI x y)), sR (x), sR (y), sEq (.int .i64 (cmpI x y)), sEq (.bool false), sEq (.bool false), sEq (.bool false), sNat (x), sNat (y), sNat (Nat.gcd x y), sR (x), sR (y), sR (Nat.gcd x y), sEq (.bool true), sEq (.bool false), sEq (.bool false)] []) 118 (by kernel_rfl) rfl (by kernel_rfl) (JB.start _ _ _) (fun HG HN => ⟨?_, ?_, ?_, ?_, ?_, ?_, ?_, ?_, ?_, ?_, ?_, ?_, ?_, ?_, ?_, ?_, ?_, ?_, ?_, ?_, ?_, ?_, ?_, ?_, ?_, ?_, ?_, ?_, ?_, ?_, ?_, ?_, ?_, ?_, ?_, ?_, ?_, trivial⟩) ?_
  · intro L vs a w' hJ hF hP hL
    have q4 : (a.tmps[4]?).getD undef = .pointer (some ⟨b, 0, none⟩) := hF.old 4 rfl
    have cb := cell_later hJ.bel (S0.out.cell (b) (.slice ap mp cp))
    exact run_val (v := .agg #[.slice ap mp cp]) rfl (by simp [execOp, go_sem, q4, cb]) ⟨_, rfl, hJ.step hL rfl (Below.refl _ _) (by exact ((S0.out.at (.agg #[.slice ap mp cp]) (x)).mono hJ.bel))⟩
  · intro L vs a w' hJ hF hP hL
    have q5 : (a.tmps[5]?).getD undef = .pointer (some ⟨b + 1, 0, none⟩) := hF.old 5 rfl
    have cb := cell_later hJ.bel (S0.out.cell (b + 1) (.slice aq mq cq))
    exact run_val (v := .agg #[.slice aq mq cq]) rfl (by simp [execOp, go_sem, q5, cb]) ⟨_, rfl, hJ.step hL rfl (Below.refl _ _) (by exact ((S0.out.at (.agg #[.slice aq mq cq]) (y)).mono hJ.bel))⟩
  · intro L vs a w' hJ hF hP hL
    have p0 : L 0 = true := hP ⟨0, .data⟩ (by simp) rfl
    have s0 : IsNat w' (vs 0) (x) := hJ.sp 0 p0
    have q16 := hF.slot 0 16 rfl p0
    have p1 : L 1 = true := hP ⟨1, .data⟩ (by simp) rfl
    have s1 : IsNat w' (vs 1) (y) := hJ.sp 1 p1
    have q17 := hF.slot 1 17 rfl p1
    refine run_call (f := 22) (args := #[vs 0, vs 1]) rfl (by simp [go_sem, q16, q17]) (add_any _ _ x y _ s0 s1 HP.out.1.fx HP.out.1.fy) ?_
    rintro e w2 ⟨v, rfl, hv, hb⟩
    exact ⟨_, rfl, _, rfl, hJ.step hL rfl hb (by exact hv)⟩
  · intro L vs a w' hJ hF hP hL
    have q6 : (a.tmps[6]?).getD undef = .pointer (some ⟨b + 1 + 1, 0, none⟩) := hF.old 6 rfl
    have cb := cell_later hJ.bel (S0.out.cell (b + 1 + 1) (.slice ar mr cr))
    exact run_val (v := .agg #[.slice ar mr cr]) rfl (by simp [execOp, go_sem, q6, cb]) ⟨_, rfl, hJ.step hL rfl (Below.refl _ _) (by exact ((S0.out.rat (.agg #[.slice ar mr cr]) (x)).mono hJ.bel))⟩
  · intro L vs a w' hJ hF hP hL
    have q7 : (a.tmps[7]?).getD undef = .pointer (some ⟨b + 1 + 1 + 1, 0, none⟩) := hF.old 7 rfl
    have cb := cell_later hJ.bel (S0.out.cell (b + 1 + 1 + 1) (.slice aS ms cs))
    exact run_val (v := .agg #[.slice aS ms cs]) rfl (by simp [execOp, go_sem, q7, cb]) ⟨_, rfl, hJ.step hL rfl (Below.refl _ _) (by exact ((S0.out.rat (.agg #[.slice aS ms cs]) (y)).mono hJ.bel))⟩
  · intro L vs a w' hJ hF hP hL
    have p3 : L 3 = true := hP ⟨3, .data⟩ (by simp) rfl
    have s3 : RNat w' (vs 3) (x) := hJ.sp 3 p3
    have q19 := hF.slot 3 19 rfl p3
    have p4 : L 4 = true := hP ⟨4, .data⟩ (by simp) rfl
    have s4 : RNat w' (vs 4) (y) := hJ.sp 4 p4
    have q20 := hF.slot 4 20 rfl p4
    refine run_call (f := 48) (args := #[vs 3, vs 4]) rfl (by simp [go_sem, q19, q20]) (rplus_any _ _ x y _ s3 s4 HP.out.1.rx HP.out.1.ry) ?_
    rintro e w2 ⟨v, rfl, hv, hb⟩
    exact ⟨_, rfl, _, rfl, hJ.step hL rfl hb (by exact hv)⟩
  · intro L vs a w' hJ hF hP hL
    have p2 : L 2 = true := hP ⟨2, .data⟩ (by simp) rfl
    have s2 : IsNat w' (vs 2) (x + y) := hJ.sp 2 p2
    have q18 := hF.slot 2 18 rfl p2
    have p5 : L 5 = true := hP ⟨5, .data⟩ (by simp) rfl
    have s5 : RNat w' (vs 5) (x + y) := hJ.sp 5 p5
    have q21 := hF.slot 5 21 rfl p5
    refine run_call (f := 12) (args := #[vs 2, vs 5]) rfl (by simp [go_sem, q18, q21]) (same_true _ _ (x + y) _ s2 s5 HP.out.1.fa HP.out.1.ra) ?_
    rintro e w2 ⟨rfl, hb⟩
    exact ⟨_, rfl, _, rfl, hJ.step hL rfl hb (by exact rfl)⟩
  · intro L vs a w' hJ hF hP hL
    have p6 : L 6 = true := hP ⟨6, .data⟩ (by simp) rfl
    have s6 : vs 6 = .bool true := hJ.sp 6 p6
    have q22 := hF.slot 6 22 rfl p6
    exact run_val (v := .bool false) rfl (by simp [execOp, go_sem, q22, s6]) ⟨_, rfl, hJ.step hL rfl (Below.refl _ _) (by exact rfl)⟩
  · intro L vs a w' hJ hF hP hL
    have p7 : L 7 = true := hP ⟨7, .data⟩ (by simp) rfl
    have s7 : vs 7 = .bool false := hJ.sp 7 p7
    have q23 := hF.slot 7 23 rfl p7
    exact run_val (v := .bool false) rfl (by simp [execOp, go_sem, q23, s7]) ⟨_, rfl, hJ.step hL rfl (Below.refl _ _) (by exact rfl)⟩
  · intro L vs a w' hJ hF hP hL
    have q4 : (a.tmps[4]?).getD undef = .pointer (some ⟨b, 0, none⟩) := hF.old 4 rfl
    have cb := cell_later hJ.bel (S0.out.cell (b) (.slice ap mp cp))
    exact run_val (v := .agg #[.slice ap mp cp]) (hF.wants 118 HN HG _ 8 false false rfl rfl (hP ⟨8, .guard⟩ (by simp) rfl) (hJ.sp 8 (hP ⟨8, .guard⟩ (by simp) rfl))) (by simp [execOp, go_sem, q4, cb]) ⟨_, rfl, hJ.step hL rfl (Below.refl _ _) (by exact ((S0.out.at (.agg #[.slice ap mp cp]) (x)).mono hJ.bel))⟩
  · intro L vs a w' hJ hF hP hL
    have q5 : (a.tmps[5]?).getD undef = .pointer (some ⟨b + 1, 0, none⟩) := hF.old 5 rfl
    have cb := cell_later hJ.bel (S0.out.cell (b + 1) (.slice aq mq cq))
    exact run_val (v := .agg #[.slice aq mq cq]) (hF.wants 118 HN HG _ 8 false false rfl rfl (hP ⟨8, .guard⟩ (by simp) rfl) (hJ.sp 8 (hP ⟨8, .guard⟩ (by simp) rfl))) (by simp [execOp, go_sem, q5, cb]) ⟨_, rfl, hJ.step hL rfl (Below.refl _ _) (by exact ((S0.out.at (.agg #[.slice aq mq cq]) (y)).mono hJ.bel))⟩
  · intro L vs a w' hJ hF hP hL
    have p9 : L 9 = true := hP ⟨9, .data⟩ (by simp) rfl
    have s9 : IsNat w' (vs 9) (x) := hJ.sp 9 p9
    have q25 := hF.slot 9 25 rfl p9
    have p10 : L 10 = true := hP ⟨10, .data⟩ (by simp) rfl
    have s10 : IsNat w' (vs 10) (y) := hJ.sp 10 p10
    have q26 := hF.slot 10 26 rfl p10
    refine run_call (f := 23) (args := #[vs 9, vs 10]) (hF.wants 118 HN HG _ 8 false false rfl rfl (hP ⟨8, .guard⟩ (by simp) rfl) (hJ.sp 8 (hP ⟨8, .guard⟩ (by simp) rfl))) (by simp [go_sem, q25, q26]) (mul_short _ _ x y _ s9 s10 HP.out.1.fx HP.out.1.fy HP.out.1.sh) ?_
    rintro e w2 ⟨v, rfl, hv, hb⟩
    exact ⟨_, rfl, _, rfl, hJ.step hL rfl hb (by exact hv)⟩
  · intro L vs a w' hJ hF hP hL
    have q6 : (a.tmps[6]?).getD undef = .pointer (some ⟨b + 1 + 1, 0, none⟩) := hF.old 6 rfl
    have cb := cell_later hJ.bel (S0.out.cell (b + 1 + 1) (.slice ar mr cr))
    exact run_val (v := .agg #[.slice ar mr cr]) (hF.wants 118 HN HG _ 8 false false rfl rfl (hP ⟨8, .guard⟩ (by simp) rfl) (hJ.sp 8 (hP ⟨8, .guard⟩ (by simp) rfl))) (by simp [execOp, go_sem, q6, cb]) ⟨_, rfl, hJ.step hL rfl (Below.refl _ _) (by exact ((S0.out.rat (.agg #[.slice ar mr cr]) (x)).mono hJ.bel))⟩
  · intro L vs a w' hJ hF hP hL
    have q7 : (a.tmps[7]?).getD undef = .pointer (some ⟨b + 1 + 1 + 1, 0, none⟩) := hF.old 7 rfl
    have cb := cell_later hJ.bel (S0.out.cell (b + 1 + 1 + 1) (.slice aS ms cs))
    exact run_val (v := .agg #[.slice aS ms cs]) (hF.wants 118 HN HG _ 8 false false rfl rfl (hP ⟨8, .guard⟩ (by simp) rfl) (hJ.sp 8 (hP ⟨8, .guard⟩ (by simp) rfl))) (by simp [execOp, go_sem, q7, cb]) ⟨_, rfl, hJ.step hL rfl (Below.refl _ _) (by exact ((S0.out.rat (.agg #[.slice aS ms cs]) (y)).mono hJ.bel))⟩
  · intro L vs a w' hJ hF hP hL
    have p12 : L 12 = true := hP ⟨12, .data⟩ (by simp) rfl
    have s12 : RNat w' (vs 12) (x) := hJ.sp 12 p12
    have q28 := hF.slot 12 28 rfl p12
    have p13 : L 13 = true := hP ⟨13, .data⟩ (by simp) rfl
    have s13 : RNat w' (vs 13) (y) := hJ.sp 13 p13
    have q29 := hF.slot 13 29 rfl p13
    refine run_call (f := 49) (args := #[vs 12, vs 13]) (hF.wants 118 HN HG _ 8 false false rfl rfl (hP ⟨8, .guard⟩ (by simp) rfl) (hJ.sp 8 (hP ⟨8, .guard⟩ (by simp) rfl))) (by simp [go_sem, q28, q29]) (rtimes_any _ _ x y _ s12 s13 HP.out.1.rx HP.out.1.ry) ?_
    rintro e w2 ⟨v, rfl, hv, hb⟩
    exact ⟨_, rfl, _, rfl, hJ.step hL rfl hb (by exact hv)⟩
  · intro L vs a w' hJ hF hP hL
    have p11 : L 11 = true := hP ⟨11, .data⟩ (by simp) rfl
    have s11 : IsNat w' (vs 11) (x * y) := hJ.sp 11 p11
    have q27 := hF.slot 11 27 rfl p11
    have p14 : L 14 = true := hP ⟨14, .data⟩ (by simp) rfl
    have s14 : RNat w' (vs 14) (x * y) := hJ.sp 14 p14
    have q30 := hF.slot 14 30 rfl p14
    refine run_call (f := 12) (args := #[vs 11, vs 14]) (hF.wants 118 HN HG _ 8 false false rfl rfl (hP ⟨8, .guard⟩ (by simp) rfl) (hJ.sp 8 (hP ⟨8, .guard⟩ (by simp) rfl))) (by simp [go_sem, q27, q30]) (same_true _ _ (x * y) _ s11 s14 HP.out.1.fm HP.out.1.rm) ?_
    rintro e w2 ⟨rfl, hb⟩
    exact ⟨_, rfl, _, rfl, hJ.step hL rfl hb (by exact rfl)⟩
  · intro L vs a w' hJ hF hP hL
    have p15 : L 15 = true := hP ⟨15, .data⟩ (by simp) rfl
    have s15 : vs 15 = .bool true := hJ.sp 15 p15
    have q31 := hF.slot 15 31 rfl p15
    exact run_val (v := .bool false) (hF.wants 118 HN HG _ 8 false false rfl rfl (hP ⟨8, .guard⟩ (by simp) rfl) (hJ.sp 8 (hP ⟨8, .guard⟩ (by simp) rfl))) (by simp [execOp, go_sem, q31, s15]) ⟨_, rfl, hJ.step hL rfl (Below.refl _ _) (by exact rfl)⟩
  · intro L vs a w' hJ hF hP hL
    have p8 : L 8 = true := hP ⟨8, .data⟩ (by simp) rfl
    have s8 : vs 8 = .bool false := hJ.sp 8 p8
    have q24 := hF.slot 8 24 rfl p8
    have p16 : L 16 = true := hP ⟨16, .data⟩ (by simp) rfl
    have s16 : vs 16 = .bool false := hJ.sp 16 p16
    have q32 := hF.slot 16 32 rfl p16
    exact run_val (v := .bool false) rfl (by simp [execOp, go_sem, q24, s8, q32, s16]) ⟨_, rfl, hJ.step hL rfl (Below.refl _ _) (by exact rfl)⟩
  · intro L vs a w' hJ hF hP hL
    have p17 : L 17 = true := hP ⟨17, .data⟩ (by simp) rfl
    have s17 : vs 17 = .bool false := hJ.sp 17 p17
    have q33 := hF.slot 17 33 rfl p17
    exact run_val (v := .bool false) rfl (by simp [execOp, go_sem, q33, s17]) ⟨_, rfl, hJ.step hL rfl (Below.refl _ _) (by exact rfl)⟩
  · intro L vs a w' hJ hF hP hL
    have q4 : (a.tmps[4]?).getD undef = .pointer (some ⟨b, 0, none⟩) := hF.old 4 rfl
    have cb := cell_later hJ.bel (S0.out.cell (b) (.slice ap mp cp))
    exact run_val (v := .agg #[.slice ap mp cp]) (hF.wants 118 HN HG _ 18 false false rfl rfl (hP ⟨18, .guard⟩ (by simp) rfl) (hJ.sp 18 (hP ⟨18, .guard⟩ (by simp) rfl))) (by simp [execOp, go_sem, q4, cb]) ⟨_, rfl, hJ.step hL rfl (Below.refl _ _) (by exact ((S0.out.at (.agg #[.slice ap mp cp]) (x)).mono hJ.bel))⟩
  · intro L vs a w' hJ hF hP hL
    have q5 : (a.tmps[5]?).getD undef = .pointer (some ⟨b + 1, 0, none⟩) := hF.old 5 rfl
    have cb := cell_later hJ.bel (S0.out.cell (b + 1) (.slice aq mq cq))
    exact run_val (v := .agg #[.slice aq mq cq]) (hF.wants 118 HN HG _ 18 false false rfl rfl (hP ⟨18, .guard⟩ (by simp) rfl) (hJ.sp 18 (hP ⟨18, .guard⟩ (by simp) rfl))) (by simp [execOp, go_sem, q5, cb]) ⟨_, rfl, hJ.step hL rfl (Below.refl _ _) (by exact ((S0.out.at (.agg #[.slice aq mq cq]) (y)).mono hJ.bel))⟩
  · intro L vs a w' hJ hF hP hL
    have p19 : L 19 = true := hP ⟨19, .data⟩ (by simp) rfl
    have s19 : IsNat w' (vs 19) (x) := hJ.sp 19 p19
    have q35 := hF.slot 19 35 rfl p19
    have p20 : L 20 = true := hP ⟨20, .data⟩ (by simp) rfl
    have s20 : IsNat w' (vs 20) (y) := hJ.sp 20 p20
    have q36 := hF.slot 20 36 rfl p20
    refine run_call (f := 27) (args := #[vs 19, vs 20]) (hF.wants 118 HN HG _ 18 false false rfl rfl (hP ⟨18, .guard⟩ (by simp) rfl) (hJ.sp 18 (hP ⟨18, .guard⟩ (by simp) rfl))) (by simp [go_sem, q35, q36]) (cmp_any _ _ x y _ s19 s20 HP.out.1.fx HP.out.1.fy) ?_
    rintro e w2 ⟨rfl, hb⟩
    exact ⟨_, rfl, _, rfl, hJ.step hL rfl hb (by exact rfl)⟩
  · intro L vs a w' hJ hF hP hL
    have q6 : (a.tmps[6]?).getD undef = .pointer (some ⟨b + 1 + 1, 0, none⟩) := hF.old 6 rfl
    have cb := cell_later hJ.bel (S0.out.cell (b + 1 + 1) (.slice ar mr cr))
    exact run_val (v := .agg #[.slice ar mr cr]) (hF.wants 118 HN HG _ 18 false false rfl rfl (hP ⟨18, .guard⟩ (by simp) rfl) (hJ.sp 18 (hP ⟨18, .guard⟩ (by simp) rfl))) (by simp [execOp, go_sem, q6, cb]) ⟨_, rfl, hJ.step hL rfl (Below.refl _ _) (by exact ((S0.out.rat (.agg #[.slice ar mr cr]) (x)).mono hJ.bel))⟩
  · intro L vs a w' hJ hF hP hL
    have q7 : (a.tmps[7]?).getD undef = .pointer (some ⟨b + 1 + 1 + 1, 0, none⟩) := hF.old 7 rfl
    have cb := cell_later hJ.bel (S0.out.cell (b + 1 + 1 + 1) (.slice aS ms cs))
    exact run_val (v := .agg #[.slice aS ms cs]) (hF.wants 118 HN HG _ 18 false false rfl rfl (hP ⟨18, .guard⟩ (by simp) rfl) (hJ.sp 18 (hP ⟨18, .guard⟩ (by simp) rfl))) (by simp [execOp, go_sem, q7, cb]) ⟨_, rfl, hJ.step hL rfl (Below.refl _ _) (by exact ((S0.out.rat (.agg #[.slice aS ms cs]) (y)).mono hJ.bel))⟩
  · intro L vs a w' hJ hF hP hL
    have p22 : L 22 = true := hP ⟨22, .data⟩ (by simp) rfl
    have s22 : RNat w' (vs 22) (x) := hJ.sp 22 p22
    have q38 := hF.slot 22 38 rfl p22
    have p23 : L 23 = true := hP ⟨23, .data⟩ (by simp) rfl
    have s23 : RNat w' (vs 23) (y) := hJ.sp 23 p23
    have q39 := hF.slot 23 39 rfl p23
    refine run_call (f := 50) (args := #[vs 22, vs 23]) (hF.wants 118 HN HG _ 18 false false rfl rfl (hP ⟨18, .guard⟩ (by simp) rfl) (hJ.sp 18 (hP ⟨18, .guard⟩ (by simp) rfl))) (by simp [go_sem, q38, q39]) (rcmp_any _ _ x y _ s22 s23 HP.out.1.rx HP.out.1.ry) ?_
    rintro e w2 ⟨rfl, hb⟩
    exact ⟨_, rfl, _, rfl, hJ.step hL rfl hb (by exact rfl)⟩
  · intro L vs a w' hJ hF hP hL
    have p21 : L 21 = true := hP ⟨21, .data⟩ (by simp) rfl
    have s21 : vs 21 = .int .i64 (cmpI x y) := hJ.sp 21 p21
    have q37 := hF.slot 21 37 rfl p21
    have p24 : L 24 = true := hP ⟨24, .data⟩ (by simp) rfl
    have s24 : vs 24 = .int .i64 (cmpI x y) := hJ.sp 24 p24
    have q40 := hF.slot 24 40 rfl p24
    exact run_val (v := .bool false) (hF.wants 118 HN HG _ 18 false false rfl rfl (hP ⟨18, .guard⟩ (by simp) rfl) (hJ.sp 18 (hP ⟨18, .guard⟩ (by simp) rfl))) (by simp [execOp, go_sem, q37, s21, q40, s24]) ⟨_, rfl, hJ.step hL rfl (Below.refl _ _) (by exact rfl)⟩
  · intro L vs a w' hJ hF hP hL
    have p18 : L 18 = true := hP ⟨18, .data⟩ (by simp) rfl
    have s18 : vs 18 = .bool false := hJ.sp 18 p18
    have q34 := hF.slot 18 34 rfl p18
    have p25 : L 25 = true := hP ⟨25, .data⟩ (by simp) rfl
    have s25 : vs 25 = .bool false := hJ.sp 25 p25
    have q41 := hF.slot 25 41 rfl p25
    exact run_val (v := .bool false) rfl (by simp [execOp, go_sem, q34, s18, q41, s25]) ⟨_, rfl, hJ.step hL rfl (Below.refl _ _) (by exact rfl)⟩
  · intro L vs a w' hJ hF hP hL
    have p26 : L 26 = true := hP ⟨26, .data⟩ (by simp) rfl
    have s26 : vs 26 = .bool false := hJ.sp 26 p26
    have q42 := hF.slot 26 42 rfl p26
    exact run_val (v := .bool false) rfl (by simp [execOp, go_sem, q42, s26]) ⟨_, rfl, hJ.step hL rfl (Below.refl _ _) (by exact rfl)⟩
  · intro L vs a w' hJ hF hP hL
    have q4 : (a.tmps[4]?).getD undef = .pointer (some ⟨b, 0, none⟩) := hF.old 4 rfl
    have cb := cell_later hJ.bel (S0.out.cell (b) (.slice ap mp cp))
    exact run_val (v := .agg #[.slice ap mp cp]) (hF.wants 118 HN HG _ 27 false false rfl rfl (hP ⟨27, .guard⟩ (by simp) rfl) (hJ.sp 27 (hP ⟨27, .guard⟩ (by simp) rfl))) (by simp [execOp, go_sem, q4, cb]) ⟨_, rfl, hJ.step hL rfl (Below.refl _ _) (by exact ((S0.out.at (.agg #[.slice ap mp cp]) (x)).mono hJ.bel))⟩
  · intro L vs a w' hJ hF hP hL
    have q5 : (a.tmps[5]?).getD undef = .pointer (some ⟨b + 1, 0, none⟩) := hF.old 5 rfl
    have cb := cell_later hJ.bel (S0.out.cell (b + 1) (.slice aq mq cq))
    exact run_val (v := .agg #[.slice aq mq cq]) (hF.wants 118 HN HG _ 27 false false rfl rfl (hP ⟨27, .guard⟩ (by simp) rfl) (hJ.sp 27 (hP ⟨27, .guard⟩ (by simp) rfl))) (by simp [execOp, go_sem, q5, cb]) ⟨_, rfl, hJ.step hL rfl (Below.refl _ _) (by exact ((S0.out.at (.agg #[.slice aq mq cq]) (y)).mono hJ.bel))⟩
  · intro L vs a w' hJ hF hP hL
    have p28 : L 28 = true := hP ⟨28, .data⟩ (by simp) rfl
    have s28 : IsNat w' (vs 28) (x) := hJ.sp 28 p28
    have q44 := hF.slot 28 44 rfl p28
    have p29 : L 29 = true := hP ⟨29, .data⟩ (by simp) rfl
    have s29 : IsNat w' (vs 29) (y) := hJ.sp 29 p29
    have q45 := hF.slot 29 45 rfl p29
    refine run_call (f := 30) (args := #[vs 28, vs 29]) (hF.wants 118 HN HG _ 27 false false rfl rfl (hP ⟨27, .guard⟩ (by simp) rfl) (hJ.sp 27 (hP ⟨27, .guard⟩ (by simp) rfl))) (by simp [go_sem, q44, q45]) (gcd_any _ _ x y _ s28 s29 HP.out.1.gx HP.out.1.gy ((S0.out.tab HP.out.2).go hJ.bel)) ?_
    rintro e w2 ⟨v, rfl, hv, hb⟩
    exact ⟨_, rfl, _, rfl, hJ.step hL rfl hb (by exact hv)⟩
  · intro L vs a w' hJ hF hP hL
    have q6 : (a.tmps[6]?).getD undef = .pointer (some ⟨b + 1 + 1, 0, none⟩) := hF.old 6 rfl
    have cb := cell_later hJ.bel (S0.out.cell (b + 1 + 1) (.slice ar mr cr))
    exact run_val (v := .agg #[.slice ar mr cr]) (hF.wants 118 HN HG _ 27 false false rfl rfl (hP ⟨27, .guard⟩ (by simp) rfl) (hJ.sp 27 (hP ⟨27, .guard⟩ (by simp) rfl))) (by simp [execOp, go_sem, q6, cb]) ⟨_, rfl, hJ.step hL rfl (Below.refl _ _) (by exact ((S0.out.rat (.agg #[.slice ar mr cr]) (x)).mono hJ.bel))⟩
  · intro L vs a w' hJ hF hP hL
    have q7 : (a.tmps[7]?).getD undef = .pointer (some ⟨b + 1 + 1 + 1, 0, none⟩) := hF.old 7 rfl
    have cb := cell_later hJ.bel (S0.out.cell (b + 1 + 1 + 1) (.slice aS ms cs))
    exact run_val (v := .agg #[.slice aS ms cs]) (hF.wants 118 HN HG _ 27 false false rfl rfl (hP ⟨27, .guard⟩ (by simp) rfl) (hJ.sp 27 (hP ⟨27, .guard⟩ (by simp) rfl))) (by simp [execOp, go_sem, q7, cb]) ⟨_, rfl, hJ.step hL rfl (Below.refl _ _) (by exact ((S0.out.rat (.agg #[.slice aS ms cs]) (y)).mono hJ.bel))⟩
  · intro L vs a w' hJ hF hP hL
    have p31 : L 31 = true := hP ⟨31, .data⟩ (by simp) rfl
    have s31 : RNat w' (vs 31) (x) := hJ.sp 31 p31
    have q47 := hF.slot 31 47 rfl p31
    have p32 : L 32 = true := hP ⟨32, .data⟩ (by simp) rfl
    have s32 : RNat w' (vs 32) (y) := hJ.sp 32 p32
    have q48 := hF.slot 32 48 rfl p32
    refine run_call (f := 51) (args := #[vs 31, vs 32]) (hF.wants 118 HN HG _ 27 false false rfl rfl (hP ⟨27, .guard⟩ (by simp) rfl) (hJ.sp 27 (hP ⟨27, .guard⟩ (by simp) rfl))) (by simp [go_sem, q47, q48]) (rgcd_any _ _ x y _ s31 s32 HP.out.1.sx HP.out.1.sy) ?_
    rintro e w2 ⟨v, rfl, hv, hb⟩
    exact ⟨_, rfl, _, rfl, hJ.step hL rfl hb (by exact hv)⟩
  · intro L vs a w' hJ hF hP hL
    have p30 : L 30 = true := hP ⟨30, .data⟩ (by simp) rfl
    have s30 : IsNat w' (vs 30) (Nat.gcd x y) := hJ.sp 30 p30
    have q46 := hF.slot 30 46 rfl p30
    have p33 : L 33 = true := hP ⟨33, .data⟩ (by simp) rfl
    have s33 : RNat w' (vs 33) (Nat.gcd x y) := hJ.sp 33 p33
    have q49 := hF.slot 33 49 rfl p33
    refine run_call (f := 12) (args := #[vs 30, vs 33]) (hF.wants 118 HN HG _ 27 false false rfl rfl (hP ⟨27, .guard⟩ (by simp) rfl) (hJ.sp 27 (hP ⟨27, .guard⟩ (by simp) rfl))) (by simp [go_sem, q46, q49]) (same_true _ _ (Nat.gcd x y) _ s30 s33 HP.out.1.fg HP.out.1.rg) ?_
    rintro e w2 ⟨rfl, hb⟩
    exact ⟨_, rfl, _, rfl, hJ.step hL rfl hb (by exact rfl)⟩
  · intro L vs a w' hJ hF hP hL
    have p34 : L 34 = true := hP ⟨34, .data⟩ (by simp) rfl
    have s34 : vs 34 = .bool true := hJ.sp 34 p34
    have q50 := hF.slot 34 50 rfl p34
    exact run_val (v := .bool false) (hF.wants 118 HN HG _ 27 false false rfl rfl (hP ⟨27, .guard⟩ (by simp) rfl) (hJ.sp 27 (hP ⟨27, .guard⟩ (by simp) rfl))) (by simp [execOp, go_sem, q50, s34]) ⟨_, rfl, hJ.step hL rfl (Below.refl _ _) (by exact rfl)⟩
  · intro L vs a w' hJ hF hP hL
    have p27 : L 27 = true := hP ⟨27, .data⟩ (by simp) rfl
    have s27 : vs 27 = .bool false := hJ.sp 27 p27
    have q43 := hF.slot 27 43 rfl p27
    have p35 : L 35 = true := hP ⟨35, .data⟩ (by simp) rfl
    have s35 : vs 35 = .bool false := hJ.sp 35 p35
    have q51 := hF.slot 35 51 rfl p35
    exact run_val (v := .bool false) rfl (by simp [execOp, go_sem, q43, s27, q51, s35]) ⟨_, rfl, hJ.step hL rfl (Below.refl _ _) (by exact rfl)⟩
  intro L vs w' hA hJ
  have s36 : vs 36 = .bool false := hJ.sp 36 (hA 36 (by simp))
  simp only [putL, Act.put, List.setIfInBounds_toArray, List.set_cons_zero, List.set_cons_succ, Nat.reduceAdd]
  simp only [s36]
  have S1 : Hid _ := S0.out.go hJ.bel
  generalize vs = vs1
  clear hJ hA s36 S0
  have c0 := S1.out.cell b (.slice ap mp cp)
  have c1 := S1.out.cell (b + 1) (.slice aq mq cq)
  have c2 := S1.out.cell (b + 1 + 1) (.slice ar mr cr)
  have c3 := S1.out.cell (b + 1 + 1 + 1) (.slice aS ms cs)
  go_wp2_with fail
  refine (sub_any _ _ x y _ (S1.out.at (.agg #[.slice ap mp cp]) x) (S1.out.at (.agg #[.slice aq mq cq]) y) HP.out.1.fx HP.out.1.fy).mono ?_
  rintro e w3 ⟨v3, rfl, hv3, hb3⟩
  obtain ⟨a3, n3, k3, rfl⟩ := hv3.isAgg
  have ok : decide (y ≤ x) = true := decide_eq_true hc
  rw [ok]
  have S3 : Hid _ := ((S1.out.go hb3).nat hv3).box (.slice a3 n3 k3) 26 _ rfl
  clear hb3 hv3 S1 c0 c1 c2 c3 ok
  have c0 := S3.out.cell b (.slice ap mp cp)
  have c1 := S3.out.cell (b + 1) (.slice aq mq cq)
  have c2 := S3.out.cell (b + 1 + 1) (.slice ar mr cr)
  have c3 := S3.out.cell (b + 1 + 1 + 1) (.slice aS ms cs)
  go_wp2_with fail
  obtain ⟨w4, hw4⟩ : ∃ w4, w4 = w3.alloc (Obj.cells #[Value.slice a3 n3 k3] 26) := ⟨_, rfl⟩
  obtain ⟨b3, hb3⟩ : ∃ b3, b3 = w3.heap.size := ⟨_, rfl⟩
  rw [← hw4, ← hb3] at S3
  rw [← hw4, ← hb3]
  clear hw4 hb3 c0 c1 c2 c3
  refine (rcmp_any _ _ x y _ (S3.out.rat (.agg #[.slice ar mr cr]) x) (S3.out.rat (.agg #[.slice aS ms cs]) y) HP.out.1.rx HP.out.1.ry).mono ?_
  rintro e w5 ⟨rfl, hb5⟩
  have S5 : Hid _ := S3.out.go hb5
  clear hb5 S3
  obtain ⟨z, ez⟩ : ∃ z, z = cmpI x y := ⟨_, rfl⟩
  have hz : decide (z < 0) = false := by
    rw [ez]
    refine decide_eq_false ?_
    rcases Nat.lt_or_ge y x with e | e
    · rw [cmpI_gt e]; omega
    · rw [Nat.le_antisymm e hc, cmpI_eq]; omega
  rw [← ez]
  clear ez
  have c0 := S5.out.cell b (.slice ap mp cp)
  have c1 := S5.out.cell (b + 1) (.slice aq mq cq)
  have c2 := S5.out.cell (b + 1 + 1) (.slice ar mr cr)
  have c3 := S5.out.cell (b + 1 + 1 + 1) (.slice aS ms cs)
  have c4 := S5.out.cell b3 (.slice a3 n3 k3)
  go_wp2_with fail
  clear c0 c1 c2 c3 c4 hz
  have HM : Hid (Fits (x - y) ∧ RFits (x - y)) := ⟨⟨Nat.lt_of_le_of_lt (Nat.sub_le _ _) HP.out.1.fx.lt⟩, ⟨Nat.lt_of_le_of_lt (Nat.sub_le _ _) HP.out.1.rx.lt⟩⟩
  refine wp_region_inv (JB w5 [sEq (.bool true), sEq (.bool false), sEq (.bool false), sNat (x - y), sR (x), sR (y), sR (x - y), sEq (.bool true), sEq (.bool false), sEq (.bool false)] []) 118 (by kernel_rfl) rfl (by kernel_rfl) (JB.start _ _ _) (fun HG HN => ⟨?_, ?_, ?_, ?_, ?_, ?_, ?_, ?_, ?_, ?_, trivial⟩) ?_
  · intro L vs a w6 hJ hF hP hL
    have q10 : (a.tmps[10]?).getD undef = .bool true := hF.old 10 rfl
    exact run_val (v := .bool true) rfl (by simp [execOp, go_sem, q10]) ⟨_, rfl, hJ.step hL rfl (Below.refl _ _) (by exact rfl)⟩
  · intro L vs a w6 hJ hF hP hL
    have p0 : L 0 = true := hP ⟨0, .data⟩ (by simp) rfl
    have s0 : vs 0 = .bool true := hJ.sp 0 p0
    have q70 := hF.slot 0 70 rfl p0
    exact run_val (v := .bool false) rfl (by simp [execOp, go_sem, q70, s0]) ⟨_, rfl, hJ.step hL rfl (Below.refl _ _) (by exact rfl)⟩
  · intro L vs a w6 hJ hF hP hL
    have p1 : L 1 = true := hP ⟨1, .data⟩ (by simp) rfl
    have s1 : vs 1 = .bool false := hJ.sp 1 p1
    have q71 := hF.slot 1 71 rfl p1
    exact run_val (v := .bool false) rfl (by simp [execOp, go_sem, q71, s1]) ⟨_, rfl, hJ.step hL rfl (Below.refl _ _) (by exact rfl)⟩
  · intro L vs a w6 hJ hF hP hL
    have q9 : (a.tmps[9]?).getD undef = .pointer (some ⟨b3, 0, none⟩) := hF.old 9 rfl
    have cb := cell_later hJ.bel (S5.out.cell (b3) (.slice a3 n3 k3))
    exact run_val (v := .agg #[.slice a3 n3 k3]) (hF.wants 118 HN HG _ 2 false false rfl rfl (hP ⟨2, .guard⟩ (by simp) rfl) (hJ.sp 2 (hP ⟨2, .guard⟩ (by simp) rfl))) (by simp [execOp, go_sem, q9, cb]) ⟨_, rfl, hJ.step hL rfl (Below.refl _ _) (by exact ((S5.out.at (.agg #[.slice a3 n3 k3]) (x - y)).mono hJ.bel))⟩
  · intro L vs a w6 hJ hF hP hL
    have q6 : (a.tmps[6]?).getD undef = .pointer (some ⟨b + 1 + 1, 0, none⟩) := hF.old 6 rfl
    have cb := cell_later hJ.bel (S5.out.cell (b + 1 + 1) (.slice ar mr cr))
    exact run_val (v := .agg #[.slice ar mr cr]) (hF.wants 118 HN HG _ 2 false false rfl rfl (hP ⟨2, .guard⟩ (by simp) rfl) (hJ.sp 2 (hP ⟨2, .guard⟩ (by simp) rfl))) (by simp [execOp, go_sem, q6, cb]) ⟨_, rfl, hJ.step hL rfl (Below.refl _ _) (by exact ((S5.out.rat (.agg #[.slice ar mr cr]) (x)).mono hJ.bel))⟩
  · intro L vs a w6 hJ hF hP hL
    have q7 : (a.tmps[7]?).getD undef = .pointer (some ⟨b + 1 + 1 + 1, 0, none⟩) := hF.old 7 rfl
    have cb := cell_later hJ.bel (S5.out.cell (b + 1 + 1 + 1) (.slice aS ms cs))
    exact run_val (v := .agg #[.slice aS ms cs]) (hF.wants 118 HN HG _ 2 false false rfl rfl (hP ⟨2, .guard⟩ (by simp) rfl) (hJ.sp 2 (hP ⟨2, .guard⟩ (by simp) rfl))) (by simp [execOp, go_sem, q7, cb]) ⟨_, rfl, hJ.step hL rfl (Below.refl _ _) (by exact ((S5.out.rat (.agg #[.slice aS ms cs]) (y)).mono hJ.bel))⟩
  · intro L vs a w6 hJ hF hP hL
    have p4 : L 4 = true := hP ⟨4, .data⟩ (by simp) rfl
    have s4 : RNat w6 (vs 4) (x) := hJ.sp 4 p4
    have q74 := hF.slot 4 74 rfl p4
    have p5 : L 5 = true := hP ⟨5, .data⟩ (by simp) rfl
    have s5 : RNat w6 (vs 5) (y) := hJ.sp 5 p5
    have q75 := hF.slot 5 75 rfl p5
    refine run_call (f := 52) (args := #[vs 4, vs 5]) (hF.wants 118 HN HG _ 2 false false rfl rfl (hP ⟨2, .guard⟩ (by simp) rfl) (hJ.sp 2 (hP ⟨2, .guard⟩ (by simp) rfl))) (by simp [go_sem, q74, q75]) (rminus_any _ _ x y _ s4 s5 HP.out.1.rx hc) ?_
    rintro e w2 ⟨v, rfl, hv, hb⟩
    exact ⟨_, rfl, _, rfl, hJ.step hL rfl hb (by exact hv)⟩
  · intro L vs a w6 hJ hF hP hL
    have p3 : L 3 = true := hP ⟨3, .data⟩ (by simp) rfl
    have s3 : IsNat w6 (vs 3) (x - y) := hJ.sp 3 p3
    have q73 := hF.slot 3 73 rfl p3
    have p6 : L 6 = true := hP ⟨6, .data⟩ (by simp) rfl
    have s6 : RNat w6 (vs 6) (x - y) := hJ.sp 6 p6
    have q76 := hF.slot 6 76 rfl p6
    refine run_call (f := 12) (args := #[vs 3, vs 6]) (hF.wants 118 HN HG _ 2 false false rfl rfl (hP ⟨2, .guard⟩ (by simp) rfl) (hJ.sp 2 (hP ⟨2, .guard⟩ (by simp) rfl))) (by simp [go_sem, q73, q76]) (same_true _ _ (x - y) _ s3 s6 HM.out.1 HM.out.2) ?_
    rintro e w2 ⟨rfl, hb⟩
    exact ⟨_, rfl, _, rfl, hJ.step hL rfl hb (by exact rfl)⟩
  · intro L vs a w6 hJ hF hP hL
    have p7 : L 7 = true := hP ⟨7, .data⟩ (by simp) rfl
    have s7 : vs 7 = .bool true := hJ.sp 7 p7
    have q77 := hF.slot 7 77 rfl p7
    exact run_val (v := .bool false) (hF.wants 118 HN HG _ 2 false false rfl rfl (hP ⟨2, .guard⟩ (by simp) rfl) (hJ.sp 2 (hP ⟨2, .guard⟩ (by simp) rfl))) (by simp [execOp, go_sem, q77, s7]) ⟨_, rfl, hJ.step hL rfl (Below.refl _ _) (by exact rfl)⟩
  · intro L vs a w6 hJ hF hP hL
    have p2 : L 2 = true := hP ⟨2, .data⟩ (by simp) rfl
    have s2 : vs 2 = .bool false := hJ.sp 2 p2
    have q72 := hF.slot 2 72 rfl p2
    have p8 : L 8 = true := hP ⟨8, .data⟩ (by simp) rfl
    have s8 : vs 8 = .bool false := hJ.sp 8 p8
    have q78 := hF.slot 8 78 rfl p8
    exact run_val (v := .bool false) rfl (by simp [execOp, go_sem, q72, s2, q78, s8]) ⟨_, rfl, hJ.step hL rfl (Below.refl _ _) (by exact rfl)⟩
  intro L vs w6 hA hJ
  have s9 : vs 9 = .bool false := hJ.sp 9 (hA 9 (by simp))
  simp only [putL, Act.put, List.setIfInBounds_toArray, List.set_cons_zero, List.set_cons_succ, Nat.reduceAdd]
  simp only [s9]
  have S6 : Hid _ := S5.out.go hJ.bel
  generalize vs = vs2
  clear hJ hA s9 S5
  have c0 := S6.out.cell b (.slice ap mp cp)
  have c1 := S6.out.cell (b + 1) (.slice aq mq cq)
  have c2 := S6.out.cell (b + 1 + 1) (.slice ar mr cr)
  have c3 := S6.out.cell (b + 1 + 1 + 1) (.slice aS ms cs)
  go_wp2_with fail
  refine (divMod_zero _ _ x _ (S6.out.at (.agg #[.slice ap mp cp]) x) (HY0.out ▸ S6.out.at (.agg #[.slice aq mq cq]) y)).mono ?_
  rintro e w7 ⟨v7, u7, rfl, hv7, hu7, hb7⟩
  obtain ⟨a7, n7, c7, rfl⟩ := hv7.isAgg
  obtain ⟨a8, n8, c8, rfl⟩ := hu7.isAgg
  have S7 : Hid _ := ((((S6.out.go hb7).nat hv7).nat hu7).box (.slice a7 n7 c7) 26 _ rfl).box (.slice a8 n8 c8) 26 _ rfl
  clear hb7 hv7 hu7 S6 c0 c1 c2 c3
  simp only [World.size_alloc] at S7
  have c0 := S7.out.cell b (.slice ap mp cp)
  have c1 := S7.out.cell (b + 1) (.slice aq mq cq)
  have c2 := S7.out.cell (b + 1 + 1) (.slice ar mr cr)
  have c3 := S7.out.cell (b + 1 + 1 + 1) (.slice aS ms cs)
  go_wp2_with fail
  obtain ⟨w8, hw8⟩ : ∃ w8, w8 = (w7.alloc (Obj.cells #[Value.slice a7 n7 c7] 26)).alloc (Obj.cells #[Value.slice a8 n8 c8] 26) := ⟨_, rfl⟩
  obtain ⟨b7, hb7⟩ : ∃ b7, b7 = w7.heap.size := ⟨_, rfl⟩
  rw [← hw8, ← hb7] at S7
  rw [← hw8, ← hb7]
  clear hw8 hb7 c0 c1 c2 c3
  refine (rzero_any _ y _ (S7.out.rat (.agg #[.slice aS ms cs]) y) HP.out.1.ry).mono ?_
  rintro e w9 ⟨rfl, hb9⟩
  have S9 : Hid _ := S7.out.go hb9
  clear hb9 S7
  have hyz : decide (y = 0) = true := decide_eq_true HY0.out
  have c0 := S9.out.cell b (.slice ap mp cp)
  have c1 := S9.out.cell (b + 1) (.slice aq mq cq)
  have c2 := S9.out.cell (b + 1 + 1) (.slice ar mr cr)
  have c3 := S9.out.cell (b + 1 + 1 + 1) (.slice aS ms cs)
  have c4 := S9.out.cell b7 (.slice a7 n7 c7)
  have c5 := S9.out.cell (b7 + 1) (.slice a8 n8 c8)
  go_wp2_with fail
  refine (same_true _ _ 0 _ (S9.out.at (.agg #[.slice a7 n7 c7]) 0) (HY0.out ▸ S9.out.rat (.agg #[.slice aS ms cs]) y) (tx_word (by omega)).fits (rfits_of (n := 1) (by rw [B_one]; omega) (by omega))).mono ?_
  rintro e w10 ⟨rfl, hb10⟩
  have S10 : Hid _ := S9.out.go hb10
  clear hb10 S9 c0 c1 c2 c3 c4 c5 hyz
  have c0 := S10.out.cell b (.slice ap mp cp)
  have c1 := S10.out.cell (b + 1) (.slice aq mq cq)
  have c2 := S10.out.cell (b + 1 + 1) (.slice ar mr cr)
  have c3 := S10.out.cell (b + 1 + 1 + 1) (.slice aS ms cs)
  have c5 := S10.out.cell (b7 + 1) (.slice a8 n8 c8)
  go_wp2_with fail
  refine (same_true _ _ 0 _ (S10.out.at (.agg #[.slice a8 n8 c8]) 0) (HY0.out ▸ S10.out.rat (.agg #[.slice aS ms cs]) y) (tx_word (by omega)).fits (rfits_of (n := 1) (by rw [B_one]; omega) (by omega))).mono ?_
  rintro e w11 ⟨rfl, hb11⟩
  have S11 : Hid _ := S10.out.go hb11
  clear hb11 S10 c0 c1 c2 c3 c5
  go_wp2_with fail
  go_ret
  exact ⟨rfl, S11.out.bel⟩
end Go.Proofs.YtajkjfblpomdpaaDoor
namespace Go.Proofs.YtajkjfblpomdpaaDoor
open Go.RowKit
set_option maxRecDepth 100000
set_option linter.unusedVariables false
set_option maxHeartbeats 8000000 in
theorem pair_more (va vb ux uy : Value) (x y : Nat) (w : World) (h1 : IsNat w va x) (h2 : IsNat w vb y) (h3 : RNat w ux x) (h4 : RNat w uy y) (hp : PairOk x y) (hT : Tab w) (hc : y ≤ x) (hy0 : y ≠ 0) :
    Calls Tryd.prog 10 #[va, vb, ux, uy] w fun e w' => e = .returned (.bool true) ∧ Below w.heap.size w w' := by
  obtain ⟨ap, mp, cp, rfl⟩ := h1.isAgg
  obtain ⟨aq, mq, cq, rfl⟩ := h2.isAgg
  obtain ⟨ar, mr, cr, rfl⟩ := h3.isAgg
  obtain ⟨aS, ms, cs, rfl⟩ := h4.isAgg
  have HP : Hid (PairOk x y ∧ Tab w) := ⟨hp, hT⟩
  have S0 : Hid _ := (((((((((sr_start w).nat h1).nat h2).rnat h3).rnat h4).box (.slice ap mp cp) 26 _ rfl).box (.slice aq mq cq) 26 _ rfl).box (.slice ar mr cr) 29 _ rfl).box (.slice aS ms cs) 29 _ rfl)
  have HY0 : Hid (y ≠ 0) := hy0
  clear hy0
  clear h1 h2 h3 h4 hp hT
  go_enter Tryd.func10, Tryd.ntmps10
  go_wp2_with fail
  simp only [World.size_alloc] at S0
  obtain ⟨w2, hw2⟩ : ∃ w2, w2 = (((w.alloc (Obj.cells #[Value.slice ap mp cp] 26)).alloc (Obj.cells #[Value.slice aq mq cq] 26)).alloc (Obj.cells #[Value.slice ar mr cr] 29)).alloc (Obj.cells #[Value.slice aS ms cs] 29) := ⟨_, rfl⟩
  obtain ⟨b, hb⟩ : ∃ b, b = w.heap.size := ⟨_, rfl⟩
  rw [← hw2, ← hb] at S0
  rw [← hw2, ← hb]
  clear hw2 hb
  refine wp_region_inv (JB w2 [sNat (x), sNat (y), sNat (x + y), sR (x), sR (y), sR (x + y), sEq (.bool true), sEq (.bool false), sEq (.bool false), sNat (x), sNat (y), sNat (x * y), sR (x), sR (y), sR (x * y), sEq (.bool true), sEq (.bool false), sEq (.bool false), sEq (.bool false), sNat (x), sNat (y), sEq (.int .i64 (cmpI x y)), sR (x), sR (y), sEq (.int .i64 (cmpI x y)), sEq (.bool false), sEq (.bool false), sEq (.bool false), sNat (x), sNat (y), sNat (Nat.gcd x y), sR (x), sR (y), sR (Nat.gcd x y), sEq (.bool true), sEq (.bool false), sEq (.bool false)] []) 118 (by kernel_rfl) rfl (by kernel_rfl) (JB.start _ _ _) (fun HG HN => ⟨?_, ?_, ?_, ?_, ?_, ?_, ?_, ?_, ?_, ?_, ?_, ?_, ?_, ?_, ?_, ?_, ?_, ?_, ?_, ?_, ?_, ?_, ?_, ?_, ?_, ?_, ?_, ?_, ?_, ?_, ?_, ?_, ?_, ?_, ?_, ?_, ?_, trivial⟩) ?_
  · intro L vs a w' hJ hF hP hL
    have q4 : (a.tmps[4]?).getD undef = .pointer (some ⟨b, 0, none⟩) := hF.old 4 rfl
    have cb := cell_later hJ.bel (S0.out.cell (b) (.slice ap mp cp))
    exact run_val (v := .agg #[.slice ap mp cp]) rfl (by simp [execOp, go_sem, q4, cb]) ⟨_, rfl, hJ.step hL rfl (Below.refl _ _) (by exact ((S0.out.at (.agg #[.slice ap mp cp]) (x)).mono hJ.bel))⟩
  · intro L vs a w' hJ hF hP hL
    have q5 : (a.tmps[5]?).getD undef = .pointer (some ⟨b + 1, 0, none⟩) := hF.old 5 rfl
    have cb := cell_later hJ.bel (S0.out.cell (b + 1) (.slice aq mq cq))
    exact run_val (v := .agg #[.slice aq mq cq]) rfl (by simp [execOp, go_sem, q5, cb]) ⟨_, rfl, hJ.step hL rfl (Below.refl _ _) (by exact ((S0.out.at (.agg #[.slice aq mq cq]) (y)).mono hJ.bel))⟩
  · intro L vs a w' hJ hF hP hL
    have p0 : L 0 = true := hP ⟨0, .data⟩ (by simp) rfl
    have s0 : IsNat w' (vs 0) (x) := hJ.sp 0 p0
    have q16 := hF.slot 0 16 rfl p0
    have p1 : L 1 = true := hP ⟨1, .data⟩ (by simp) rfl
    have s1 : IsNat w' (vs 1) (y) := hJ.sp 1 p1
    have q17 := hF.slot 1 17 rfl p1
    refine run_call (f := 22) (args := #[vs 0, vs 1]) rfl (by simp [go_sem, q16, q17]) (add_any _ _ x y _ s0 s1 HP.out.1.fx HP.out.1.fy) ?_
    rintro e w2 ⟨v, rfl, hv, hb⟩
    exact ⟨_, rfl, _, rfl, hJ.step hL rfl hb (by exact hv)⟩
  · intro L vs a w' hJ hF hP hL
    have q6 : (a.tmps[6]?).getD undef = .pointer (some ⟨b + 1 + 1, 0, none⟩) := hF.old 6 rfl
    have cb := cell_later hJ.bel (S0.out.cell (b + 1 + 1) (.slice ar mr cr))
    exact run_val (v := .agg #[.slice ar mr cr]) rfl (by simp [execOp, go_sem, q6, cb]) ⟨_, rfl, hJ.step hL rfl (Below.refl _ _) (by exact ((S0.out.rat (.agg #[.slice ar mr cr]) (x)).mono hJ.bel))⟩
  · intro L vs a w' hJ hF hP hL
    have q7 : (a.tmps[7]?).getD undef = .pointer (some ⟨b + 1 + 1 + 1, 0, none⟩) := hF.old 7 rfl
    have cb := cell_later hJ.bel (S0.out.cell (b + 1 + 1 + 1) (.slice aS ms cs))
    exact run_val (v := .agg #[.slice aS ms cs]) rfl (by simp [execOp, go_sem, q7, cb]) ⟨_, rfl, hJ.step hL rfl (Below.refl _ _) (by exact ((S0.out.rat (.agg #[.slice aS ms cs]) (y)).mono hJ.bel))⟩
  · intro L vs a w' hJ hF hP hL
    have p3 : L 3 = true := hP ⟨3, .data⟩ (by simp) rfl
    have s3 : RNat w' (vs 3) (x) := hJ.sp 3 p3
    have q19 := hF.slot 3 19 rfl p3
    have p4 : L 4 = true := hP ⟨4, .data⟩ (by simp) rfl
    have s4 : RNat w' (vs 4) (y) := hJ.sp 4 p4
    have q20 := hF.slot 4 20 rfl p4
    refine run_call (f := 48) (args := #[vs 3, vs 4]) rfl (by simp [go_sem, q19, q20]) (rplus_any _ _ x y _ s3 s4 HP.out.1.rx HP.out.1.ry) ?_
    rintro e w2 ⟨v, rfl, hv, hb⟩
    exact ⟨_, rfl, _, rfl, hJ.step hL rfl hb (by exact hv)⟩
  · intro L vs a w' hJ hF hP hL
    have p2 : L 2 = true := hP ⟨2, .data⟩ (by simp) rfl
    have s2 : IsNat w' (vs 2) (x + y) := hJ.sp 2 p2
    have q18 := hF.slot 2 18 rfl p2
    have p5 : L 5 = true := hP ⟨5, .data⟩ (by simp) rfl
    have s5 : RNat w' (vs 5) (x + y) := hJ.sp 5 p5
    have q21 := hF.slot 5 21 rfl p5
    refine run_call (f := 12) (args := #[vs 2, vs 5]) rfl (by simp [go_sem, q18, q21]) (same_true _ _ (x + y) _ s2 s5 HP.out.1.fa HP.out.1.ra) ?_
    rintro e w2 ⟨rfl, hb⟩
    exact ⟨_, rfl, _, rfl, hJ.step hL rfl hb (by exact rfl)⟩
  · intro L vs a w' hJ hF hP hL
    have p6 : L 6 = true := hP ⟨6, .data⟩ (by simp) rfl
    have s6 : vs 6 = .bool true := hJ.sp 6 p6
    have q22 := hF.slot 6 22 rfl p6
    exact run_val (v := .bool false) rfl (by simp [execOp, go_sem, q22, s6]) ⟨_, rfl, hJ.step hL rfl (Below.refl _ _) (by exact rfl)⟩
  · intro L vs a w' hJ hF hP hL
    have p7 : L 7 = true := hP ⟨7, .data⟩ (by simp) rfl
    have s7 : vs 7 = .bool false := hJ.sp 7 p7
    have q23 := hF.slot 7 23 rfl p7
    exact run_val (v := .bool false) rfl (by simp [execOp, go_sem, q23, s7]) ⟨_, rfl, hJ.step hL rfl (Below.refl _ _) (by exact rfl)⟩
  · intro L vs a w' hJ hF hP hL
    have q4 : (a.tmps[4]?).getD undef = .pointer (some ⟨b, 0, none⟩) := hF.old 4 rfl
    have cb := cell_later hJ.bel (S0.out.cell (b) (.slice ap mp cp))
    exact run_val (v := .agg #[.slice ap mp cp]) (hF.wants 118 HN HG _ 8 false false rfl rfl (hP ⟨8, .guard⟩ (by simp) rfl) (hJ.sp 8 (hP ⟨8, .guard⟩ (by simp) rfl))) (by simp [execOp, go_sem, q4, cb]) ⟨_, rfl, hJ.step hL rfl (Below.refl _ _) (by exact ((S0.out.at (.agg #[.slice ap mp cp]) (x)).mono hJ.bel))⟩
  · intro L vs a w' hJ hF hP hL
    have q5 : (a.tmps[5]?).getD undef = .pointer (some ⟨b + 1, 0, none⟩) := hF.old 5 rfl
    have cb := cell_later hJ.bel (S0.out.cell (b + 1) (.slice aq mq cq))
    exact run_val (v := .agg #[.slice aq mq cq]) (hF.wants 118 HN HG _ 8 false false rfl rfl (hP ⟨8, .guard⟩ (by simp) rfl) (hJ.sp 8 (hP ⟨8, .guard⟩ (by simp) rfl))) (by simp [execOp, go_sem, q5, cb]) ⟨_, rfl, hJ.step hL rfl (Below.refl _ _) (by exact ((S0.out.at (.agg #[.slice aq mq cq]) (y)).mono hJ.bel))⟩
  · intro L vs a w' hJ hF hP hL
    have p9 : L 9 = true := hP ⟨9, .data⟩ (by simp) rfl
    have s9 : IsNat w' (vs 9) (x) := hJ.sp 9 p9
    have q25 := hF.slot 9 25 rfl p9
    have p10 : L 10 = true := hP ⟨10, .data⟩ (by simp) rfl
    have s10 : IsNat w' (vs 10) (y) := hJ.sp 10 p10
    have q26 := hF.slot 10 26 rfl p10
    refine run_call (f := 23) (args := #[vs 9, vs 10]) (hF.wants 118 HN HG _ 8 false false rfl rfl (hP ⟨8, .guard⟩ (by simp) rfl) (hJ.sp 8 (hP ⟨8, .guard⟩ (by simp) rfl))) (by simp [go_sem, q25, q26]) (mul_short _ _ x y _ s9 s10 HP.out.1.fx HP.out.1.fy HP.out.1.sh) ?_
    rintro e w2 ⟨v, rfl, hv, hb⟩
    exact ⟨_, rfl, _, rfl, hJ.step hL rfl hb (by exact hv)⟩
  · intro L vs a w' hJ hF hP hL
    have q6 : (a.tmps[6]?).getD undef = .pointer (some ⟨b + 1 + 1, 0, none⟩) := hF.old 6 rfl
    have cb := cell_later hJ.bel (S0.out.cell (b + 1 + 1) (.slice ar mr cr))
    exact run_val (v := .agg #[.slice ar mr cr]) (hF.wants 118 HN HG _ 8 false false rfl rfl (hP ⟨8, .guard⟩ (by simp) rfl) (hJ.sp 8 (hP ⟨8, .guard⟩ (by simp) rfl))) (by simp [execOp, go_sem, q6, cb]) ⟨_, rfl, hJ.step hL rfl (Below.refl _ _) (by exact ((S0.out.rat (.agg #[.slice ar mr cr]) (x)).mono hJ.bel))⟩
  · intro L vs a w' hJ hF hP hL
    have q7 : (a.tmps[7]?).getD undef = .pointer (some ⟨b + 1 + 1 + 1, 0, none⟩) := hF.old 7 rfl
    have cb := cell_later hJ.bel (S0.out.cell (b + 1 + 1 + 1) (.slice aS ms cs))
    exact run_val (v := .agg #[.slice aS ms cs]) (hF.wants 118 HN HG _ 8 false false rfl rfl (hP ⟨8, .guard⟩ (by simp) rfl) (hJ.sp 8 (hP ⟨8, .guard⟩ (by simp) rfl))) (by simp [execOp, go_sem, q7, cb]) ⟨_, rfl, hJ.step hL rfl (Below.refl _ _) (by exact ((S0.out.rat (.agg #[.slice aS ms cs]) (y)).mono hJ.bel))⟩
  · intro L vs a w' hJ hF hP hL
    have p12 : L 12 = true := hP ⟨12, .data⟩ (by simp) rfl
    have s12 : RNat w' (vs 12) (x) := hJ.sp 12 p12
    have q28 := hF.slot 12 28 rfl p12
    have p13 : L 13 = true := hP ⟨13, .data⟩ (by simp) rfl
    have s13 : RNat w' (vs 13) (y) := hJ.sp 13 p13
    have q29 := hF.slot 13 29 rfl p13
    refine run_call (f := 49) (args := #[vs 12, vs 13]) (hF.wants 118 HN HG _ 8 false false rfl rfl (hP ⟨8, .guard⟩ (by simp) rfl) (hJ.sp 8 (hP ⟨8, .guard⟩ (by simp) rfl))) (by simp [go_sem, q28, q29]) (rtimes_any _ _ x y _ s12 s13 HP.out.1.rx HP.out.1.ry) ?_
    rintro e w2 ⟨v, rfl, hv, hb⟩
    exact ⟨_, rfl, _, rfl, hJ.step hL rfl hb (by exact hv)⟩
  · intro L vs a w' hJ hF hP hL
    have p11 : L 11 = true := hP ⟨11, .data⟩ (by simp) rfl
    have s11 : IsNat w' (vs 11) (x * y) := hJ.sp 11 p11
    have q27 := hF.slot 11 27 rfl p11
    have p14 : L 14 = true := hP ⟨14, .data⟩ (by simp) rfl
    have s14 : RNat w' (vs 14) (x * y) := hJ.sp 14 p14
    have q30 := hF.slot 14 30 rfl p14
    refine run_call (f := 12) (args := #[vs 11, vs 14]) (hF.wants 118 HN HG _ 8 false false rfl rfl (hP ⟨8, .guard⟩ (by simp) rfl) (hJ.sp 8 (hP ⟨8, .guard⟩ (by simp) rfl))) (by simp [go_sem, q27, q30]) (same_true _ _ (x * y) _ s11 s14 HP.out.1.fm HP.out.1.rm) ?_
    rintro e w2 ⟨rfl, hb⟩
    exact ⟨_, rfl, _, rfl, hJ.step hL rfl hb (by exact rfl)⟩
  · intro L vs a w' hJ hF hP hL
    have p15 : L 15 = true := hP ⟨15, .data⟩ (by simp) rfl
    have s15 : vs 15 = .bool true := hJ.sp 15 p15
    have q31 := hF.slot 15 31 rfl p15
    exact run_val (v := .bool false) (hF.wants 118 HN HG _ 8 false false rfl rfl (hP ⟨8, .guard⟩ (by simp) rfl) (hJ.sp 8 (hP ⟨8, .guard⟩ (by simp) rfl))) (by simp [execOp, go_sem, q31, s15]) ⟨_, rfl, hJ.step hL rfl (Below.refl _ _) (by exact rfl)⟩
  · intro L vs a w' hJ hF hP hL
    have p8 : L 8 = true := hP ⟨8, .data⟩ (by simp) rfl
    have s8 : vs 8 = .bool false := hJ.sp 8 p8
    have q24 := hF.slot 8 24 rfl p8
    have p16 : L 16 = true := hP ⟨16, .data⟩ (by simp) rfl
    have s16 : vs 16 = .bool false := hJ.sp 16 p16
    have q32 := hF.slot 16 32 rfl p16
    exact run_val (v := .bool false) rfl (by simp [execOp, go_sem, q24, s8, q32, s16]) ⟨_, rfl, hJ.step hL rfl (Below.refl _ _) (by exact rfl)⟩
  · intro L vs a w' hJ hF hP hL
    have p17 : L 17 = true := hP ⟨17, .data⟩ (by simp) rfl
    have s17 : vs 17 = .bool false := hJ.sp 17 p17
    have q33 := hF.slot 17 33 rfl p17
    exact run_val (v := .bool false) rfl (by simp [execOp, go_sem, q33, s17]) ⟨_, rfl, hJ.step hL rfl (Below.refl _ _) (by exact rfl)⟩
  · intro L vs a w' hJ hF hP hL
    have q4 : (a.tmps[4]?).getD undef = .pointer (some ⟨b, 0, none⟩) := hF.old 4 rfl
    have cb := cell_later hJ.bel (S0.out.cell (b) (.slice ap mp cp))
    exact run_val (v := .agg #[.slice ap mp cp]) (hF.wants 118 HN HG _ 18 false false rfl rfl (hP ⟨18, .guard⟩ (by simp) rfl) (hJ.sp 18 (hP ⟨18, .guard⟩ (by simp) rfl))) (by simp [execOp, go_sem, q4, cb]) ⟨_, rfl, hJ.step hL rfl (Below.refl _ _) (by exact ((S0.out.at (.agg #[.slice ap mp cp]) (x)).mono hJ.bel))⟩
  · intro L vs a w' hJ hF hP hL
    have q5 : (a.tmps[5]?).getD undef = .pointer (some ⟨b + 1, 0, none⟩) := hF.old 5 rfl
    have cb := cell_later hJ.bel (S0.out.cell (b + 1) (.slice aq mq cq))
    exact run_val (v := .agg #[.slice aq mq cq]) (hF.wants 118 HN HG _ 18 false false rfl rfl (hP ⟨18, .guard⟩ (by simp) rfl) (hJ.sp 18 (hP ⟨18, .guard⟩ (by simp) rfl))) (by simp [execOp, go_sem, q5, cb]) ⟨_, rfl, hJ.step hL rfl (Below.refl _ _) (by exact ((S0.out.at (.agg #[.slice aq mq cq]) (y)).mono hJ.bel))⟩
  · intro L vs a w' hJ hF hP hL
    have p19 : L 19 = true := hP ⟨19, .data⟩ (by simp) rfl
    have s19 : IsNat w' (vs 19) (x) := hJ.sp 19 p19
    have q35 := hF.slot 19 35 rfl p19
    have p20 : L 20 = true := hP ⟨20, .data⟩ (by simp) rfl
    have s20 : IsNat w' (vs 20) (y) := hJ.sp 20 p20
    have q36 := hF.slot 20 36 rfl p20
    refine run_call (f := 27) (args := #[vs 19, vs 20]) (hF.wants 118 HN HG _ 18 false false rfl rfl (hP ⟨18, .guard⟩ (by simp) rfl) (hJ.sp 18 (hP ⟨18, .guard⟩ (by simp) rfl))) (by simp [go_sem, q35, q36]) (cmp_any _ _ x y _ s19 s20 HP.out.1.fx HP.out.1.fy) ?_
    rintro e w2 ⟨rfl, hb⟩
    exact ⟨_, rfl, _, rfl, hJ.step hL rfl hb (by exact rfl)⟩
  · intro L vs a w' hJ hF hP hL
    have q6 : (a.tmps[6]?).getD undef = .pointer (some ⟨b + 1 + 1, 0, none⟩) := hF.old 6 rfl
    have cb := cell_later hJ.bel (S0.out.cell (b + 1 + 1) (.slice ar mr cr))
    exact run_val (v := .agg #[.slice ar mr cr]) (hF.wants 118 HN HG _ 18 false false rfl rfl (hP ⟨18, .guard⟩ (by simp) rfl) (hJ.sp 18 (hP ⟨18, .guard⟩ (by simp) rfl))) (by simp [execOp, go_sem, q6, cb]) ⟨_, rfl, hJ.step hL rfl (Below.refl _ _) (by exact ((S0.out.rat (.agg #[.slice ar mr cr]) (x)).mono hJ.bel))⟩
  · intro L vs a w' hJ hF hP hL
    have q7 : (a.tmps[7]?).getD undef = .pointer (some ⟨b + 1 + 1 + 1, 0, none⟩) := hF.old 7 rfl
    have cb := cell_later hJ.bel (S0.out.cell (b + 1 + 1 + 1) (.slice aS ms cs))
    exact run_val (v := .agg #[.slice aS ms cs]) (hF.wants 118 HN HG _ 18 false false rfl rfl (hP ⟨18, .guard⟩ (by simp) rfl) (hJ.sp 18 (hP ⟨18, .guard⟩ (by simp) rfl))) (by simp [execOp, go_sem, q7, cb]) ⟨_, rfl, hJ.step hL rfl (Below.refl _ _) (by exact ((S0.out.rat (.agg #[.slice aS ms cs]) (y)).mono hJ.bel))⟩
  · intro L vs a w' hJ hF hP hL
    have p22 : L 22 = true := hP ⟨22, .data⟩ (by simp) rfl
    have s22 : RNat w' (vs 22) (x) := hJ.sp 22 p22
    have q38 := hF.slot 22 38 rfl p22
    have p23 : L 23 = true := hP ⟨23, .data⟩ (by simp) rfl
    have s23 : RNat w' (vs 23) (y) := hJ.sp 23 p23
    have q39 := hF.slot 23 39 rfl p23
    refine run_call (f := 50) (args := #[vs 22, vs 23]) (hF.wants 118 HN HG _ 18 false false rfl rfl (hP ⟨18, .guard⟩ (by simp) rfl) (hJ.sp 18 (hP ⟨18, .guard⟩ (by simp) rfl))) (by simp [go_sem, q38, q39]) (rcmp_any _ _ x y _ s22 s23 HP.out.1.rx HP.out.1.ry) ?_
    rintro e w2 ⟨rfl, hb⟩
    exact ⟨_, rfl, _, rfl, hJ.step hL rfl hb (by exact rfl)⟩
  · intro L vs a w' hJ hF hP hL
    have p21 : L 21 = true := hP ⟨21, .data⟩ (by simp) rfl
    have s21 : vs 21 = .int .i64 (cmpI x y) := hJ.sp 21 p21
    have q37 := hF.slot 21 37 rfl p21
    have p24 : L 24 = true := hP ⟨24, .data⟩ (by simp) rfl
    have s24 : vs 24 = .int .i64 (cmpI x y) := hJ.sp 24 p24
    have q40 := hF.slot 24 40 rfl p24
    exact run_val (v := .bool false) (hF.wants 118 HN HG _ 18 false false rfl rfl (hP ⟨18, .guard⟩ (by simp) rfl) (hJ.sp 18 (hP ⟨18, .guard⟩ (by simp) rfl))) (by simp [execOp, go_sem, q37, s21, q40, s24]) ⟨_, rfl, hJ.step hL rfl (Below.refl _ _) (by exact rfl)⟩
  · intro L vs a w' hJ hF hP hL
    have p18 : L 18 = true := hP ⟨18, .data⟩ (by simp) rfl
    have s18 : vs 18 = .bool false := hJ.sp 18 p18
    have q34 := hF.slot 18 34 rfl p18
    have p25 : L 25 = true := hP ⟨25, .data⟩ (by simp) rfl
    have s25 : vs 25 = .bool false := hJ.sp 25 p25
    have q41 := hF.slot 25 41 rfl p25
    exact run_val (v := .bool false) rfl (by simp [execOp, go_sem, q34, s18, q41, s25]) ⟨_, rfl, hJ.step hL rfl (Below.refl _ _) (by exact rfl)⟩
  · intro L vs a w' hJ hF hP hL
    have p26 : L 26 = true := hP ⟨26, .data⟩ (by simp) rfl
    have s26 : vs 26 = .bool false := hJ.sp 26 p26
    have q42 := hF.slot 26 42 rfl p26
    exact run_val (v := .bool false) rfl (by simp [execOp, go_sem, q42, s26]) ⟨_, rfl, hJ.step hL rfl (Below.refl _ _) (by exact rfl)⟩
  · intro L vs a w' hJ hF hP hL
    have q4 : (a.tmps[4]?).getD undef = .pointer (some ⟨b, 0, none⟩) := hF.old 4 rfl
    have cb := cell_later hJ.bel (S0.out.cell (b) (.slice ap mp cp))
    exact run_val (v := .agg #[.slice ap mp cp]) (hF.wants 118 HN HG _ 27 false false rfl rfl (hP ⟨27, .guard⟩ (by simp) rfl) (hJ.sp 27 (hP ⟨27, .guard⟩ (by simp) rfl))) (by simp [execOp, go_sem, q4, cb]) ⟨_, rfl, hJ.step hL rfl (Below.refl _ _) (by exact ((S0.out.at (.agg #[.slice ap mp cp]) (x)).mono hJ.bel))⟩
  · intro L vs a w' hJ hF hP hL
    have q5 : (a.tmps[5]?).getD undef = .pointer (some ⟨b + 1, 0, none⟩) := hF.old 5 rfl
    have cb := cell_later hJ.bel (S0.out.cell (b + 1) (.slice aq mq cq))
    exact run_val (v := .agg #[.slice aq mq cq]) (hF.wants 118 HN HG _ 27 false false rfl rfl (hP ⟨27, .guard⟩ (by simp) rfl) (hJ.sp 27 (hP ⟨27, .guard⟩ (by simp) rfl))) (by simp [execOp, go_sem, q5, cb]) ⟨_, rfl, hJ.step hL rfl (Below.refl _ _) (by exact ((S0.out.at (.agg #[.slice aq mq cq]) (y)).mono hJ.bel))⟩
  · intro L vs a w' hJ hF hP hL
    have p28 : L 28 = true := hP ⟨28, .data⟩ (by simp) rfl
    have s28 : IsNat w' (vs 28) (x) := hJ.sp 28 p28
    have q44 := hF.slot 28 44 rfl p28
    have p29 : L 29 = true := hP ⟨29, .data⟩ (by simp) rfl
    have s29 : IsNat w' (vs 29) (y) := hJ.sp 29 p29
    have q45 := hF.slot 29 45 rfl p29
    refine run_call (f := 30) (args := #[vs 28, vs 29]) (hF.wants 118 HN HG _ 27 false false rfl rfl (hP ⟨27, .guard⟩ (by simp) rfl) (hJ.sp 27 (hP ⟨27, .guard⟩ (by simp) rfl))) (by simp [go_sem, q44, q45]) (gcd_any _ _ x y _ s28 s29 HP.out.1.gx HP.out.1.gy ((S0.out.tab HP.out.2).go hJ.bel)) ?_
    rintro e w2 ⟨v, rfl, hv, hb⟩
    exact ⟨_, rfl, _, rfl, hJ.step hL rfl hb (by exact hv)⟩
  · intro L vs a w' hJ hF hP hL
    have q6 : (a.tmps[6]?).getD undef = .pointer (some ⟨b + 1 + 1, 0, none⟩) := hF.old 6 rfl
    have cb := cell_later hJ.bel (S0.out.cell (b + 1 + 1) (.slice ar mr cr))
    exact run_val (v := .agg #[.slice ar mr cr]) (hF.wants 118 HN HG _ 27 false false rfl rfl (hP ⟨27, .guard⟩ (by simp) rfl) (hJ.sp 27 (hP ⟨27, .guard⟩ (by simp) rfl))) (by simp [execOp, go_sem, q6, cb]) ⟨_, rfl, hJ.step hL rfl (Below.refl _ _) (by exact ((S0.out.rat (.agg #[.slice ar mr cr]) (x)).mono hJ.bel))⟩
  · intro L vs a w' hJ hF hP hL
    have q7 : (a.tmps[7]?).getD undef = .pointer (some ⟨b + 1 + 1 + 1, 0, none⟩) := hF.old 7 rfl
    have cb := cell_later hJ.bel (S0.out.cell (b + 1 + 1 + 1) (.slice aS ms cs))
    exact run_val (v := .agg #[.slice aS ms cs]) (hF.wants 118 HN HG _ 27 false false rfl rfl (hP ⟨27, .guard⟩ (by simp) rfl) (hJ.sp 27 (hP ⟨27, .guard⟩ (by simp) rfl))) (by simp [execOp, go_sem, q7, cb]) ⟨_, rfl, hJ.step hL rfl (Below.refl _ _) (by exact ((S0.out.rat (.agg #[.slice aS ms cs]) (y)).mono hJ.bel))⟩
  · intro L vs a w' hJ hF hP hL
    have p31 : L 31 = true := hP ⟨31, .data⟩ (by simp) rfl
    have s31 : RNat w' (vs 31) (x) := hJ.sp 31 p31
    have q47 := hF.slot 31 47 rfl p31
    have p32 : L 32 = true := hP ⟨32, .data⟩ (by simp) rfl
    have s32 : RNat w' (vs 32) (y) := hJ.sp 32 p32
    have q48 := hF.slot 32 48 rfl p32
    refine run_call (f := 51) (args := #[vs 31, vs 32]) (hF.wants 118 HN HG _ 27 false false rfl rfl (hP ⟨27, .guard⟩ (by simp) rfl) (hJ.sp 27 (hP ⟨27, .guard⟩ (by simp) rfl))) (by simp [go_sem, q47, q48]) (rgcd_any _ _ x y _ s31 s32 HP.out.1.sx HP.out.1.sy) ?_
    rintro e w2 ⟨v, rfl, hv, hb⟩
    exact ⟨_, rfl, _, rfl, hJ.step hL rfl hb (by exact hv)⟩
  · intro L vs a w' hJ hF hP hL
    have p30 : L 30 = true := hP ⟨30, .data⟩ (by simp) rfl
    have s30 : IsNat w' (vs 30) (Nat.gcd x y) := hJ.sp 30 p30
    have q46 := hF.slot 30 46 rfl p30
    have p33 : L 33 = true := hP ⟨33, .data⟩ (by simp) rfl
    have s33 : RNat w' (vs 33) (Nat.gcd x y) := hJ.sp 33 p33
    have q49 := hF.slot 33 49 rfl p33
    refine run_call (f := 12) (args := #[vs 30, vs 33]) (hF.wants 118 HN HG _ 27 false false rfl rfl (hP ⟨27, .guard⟩ (by simp) rfl) (hJ.sp 27 (hP ⟨27, .guard⟩ (by simp) rfl))) (by simp [go_sem, q46, q49]) (same_true _ _ (Nat.gcd x y) _ s30 s33 HP.out.1.fg HP.out.1.rg) ?_
    rintro e w2 ⟨rfl, hb⟩
    exact ⟨_, rfl, _, rfl, hJ.step hL rfl hb (by exact rfl)⟩
  · intro L vs a w' hJ hF hP hL
    have p34 : L 34 = true := hP ⟨34, .data⟩ (by simp) rfl
    have s34 : vs 34 = .bool true := hJ.sp 34 p34
    have q50 := hF.slot 34 50 rfl p34
    exact run_val (v := .bool false) (hF.wants 118 HN HG _ 27 false false rfl rfl (hP ⟨27, .guard⟩ (by simp) rfl) (hJ.sp 27 (hP ⟨27, .guard⟩ (by simp) rfl))) (by simp [execOp, go_sem, q50, s34]) ⟨_, rfl, hJ.step hL rfl (Below.refl _ _) (by exact rfl)⟩
  · intro L vs a w' hJ hF hP hL
    have p27 : L 27 = true := hP ⟨27, .data⟩ (by simp) rfl
    have s27 : vs 27 = .bool false := hJ.sp 27 p27
    have q43 := hF.slot 27 43 rfl p27
    have p35 : L 35 = true := hP ⟨35, .data⟩ (by simp) rfl
    have s35 : vs 35 = .bool false := hJ.sp 35 p35
    have q51 := hF.slot 35 51 rfl p35
    exact run_val (v := .bool false) rfl (by simp [execOp, go_sem, q43, s27, q51, s35]) ⟨_, rfl, hJ.step hL rfl (Below.refl _ _) (by exact rfl)⟩
  intro L vs w' hA hJ
  have s36 : vs 36 = .bool false := hJ.sp 36 (hA 36 (by simp))
  simp only [putL, Act.put, List.setIfInBounds_toArray, List.set_cons_zero, List.set_cons_succ, Nat.reduceAdd]
  simp only [s36]
  have S1 : Hid _ := S0.out.go hJ.bel
  generalize vs = vs1
  clear hJ hA s36 S0
  have c0 := S1.out.cell b (.slice ap mp cp)
  have c1 := S1.out.cell (b + 1) (.slice aq mq cq)
  have c2 := S1.out.cell (b + 1 + 1) (.slice ar mr cr)
  have c3 := S1.out.cell (b + 1 + 1 + 1) (.slice aS ms cs)
  go_wp2_with fail
  refine (sub_any _ _ x y _ (S1.out.at (.agg #[.slice ap mp cp]) x) (S1.out.at (.agg #[.slice aq mq cq]) y) HP.out.1.fx HP.out.1.fy).mono ?_
  rintro e w3 ⟨v3, rfl, hv3, hb3⟩
  obtain ⟨a3, n3, k3, rfl⟩ := hv3.isAgg
  have ok : decide (y ≤ x) = true := decide_eq_true hc
  rw [ok]
  have S3 : Hid _ := ((S1.out.go hb3).nat hv3).box (.slice a3 n3 k3) 26 _ rfl
  clear hb3 hv3 S1 c0 c1 c2 c3 ok
  have c0 := S3.out.cell b (.slice ap mp cp)
  have c1 := S3.out.cell (b + 1) (.slice aq mq cq)
  have c2 := S3.out.cell (b + 1 + 1) (.slice ar mr cr)
  have c3 := S3.out.cell (b + 1 + 1 + 1) (.slice aS ms cs)
  go_wp2_with fail
  obtain ⟨w4, hw4⟩ : ∃ w4, w4 = w3.alloc (Obj.cells #[Value.slice a3 n3 k3] 26) := ⟨_, rfl⟩
  obtain ⟨b3, hb3⟩ : ∃ b3, b3 = w3.heap.size := ⟨_, rfl⟩
  rw [← hw4, ← hb3] at S3
  rw [← hw4, ← hb3]
  clear hw4 hb3 c0 c1 c2 c3
  refine (rcmp_any _ _ x y _ (S3.out.rat (.agg #[.slice ar mr cr]) x) (S3.out.rat (.agg #[.slice aS ms cs]) y) HP.out.1.rx HP.out.1.ry).mono ?_
  rintro e w5 ⟨rfl, hb5⟩
  have S5 : Hid _ := S3.out.go hb5
  clear hb5 S3
  obtain ⟨z, ez⟩ : ∃ z, z = cmpI x y := ⟨_, rfl⟩
  have hz : decide (z < 0) = false := by
    rw [ez]
    refine decide_eq_false ?_
    rcases Nat.lt_or_ge y x with e | e
    · rw [cmpI_gt e]; omega
    · rw [Nat.le_antisymm e hc, cmpI_eq]; omega
  rw [← ez]
  clear ez
  have c0 := S5.out.cell b (.slice ap mp cp)
  have c1 := S5.out.cell (b + 1) (.slice aq mq cq)
  have c2 := S5.out.cell (b + 1 + 1) (.slice ar mr cr)
  have c3 := S5.out.cell (b + 1 + 1 + 1) (.slice aS ms cs)
  have c4 := S5.out.cell b3 (.slice a3 n3 k3)
  go_wp2_with fail
  clear c0 c1 c2 c3 c4 hz
  have HM : Hid (Fits (x - y) ∧ RFits (x - y)) := ⟨⟨Nat.lt_of_le_of_lt (Nat.sub_le _ _) HP.out.1.fx.lt⟩, ⟨Nat.lt_of_le_of_lt (Nat.sub_le _ _) HP.out.1.rx.lt⟩⟩
  refine wp_region_inv (JB w5 [sEq (.bool true), sEq (.bool false), sEq (.bool false), sNat (x - y), sR (x), sR (y), sR (x - y), sEq (.bool true), sEq (.bool false), sEq (.bool false)] []) 118 (by kernel_rfl) rfl (by kernel_rfl) (JB.start _ _ _) (fun HG HN => ⟨?_, ?_, ?_, ?_, ?_, ?_, ?_, ?_, ?_, ?_, trivial⟩) ?_
  · intro L vs a w6 hJ hF hP hL
    have q10 : (a.tmps[10]?).getD undef = .bool true := hF.old 10 rfl
    exact run_val (v := .bool true) rfl (by simp [execOp, go_sem, q10]) ⟨_, rfl, hJ.step hL rfl (Below.refl _ _) (by exact rfl)⟩
  · intro L vs a w6 hJ hF hP hL
    have p0 : L 0 = true := hP ⟨0, .data⟩ (by simp) rfl
    have s0 : vs 0 = .bool true := hJ.sp 0 p0
    have q70 := hF.slot 0 70 rfl p0
    exact run_val (v := .bool false) rfl (by simp [execOp, go_sem, q70, s0]) ⟨_, rfl, hJ.step hL rfl (Below.refl _ _) (by exact rfl)⟩
  · intro L vs a w6 hJ hF hP hL
    have p1 : L 1 = true := hP ⟨1, .data⟩ (by simp) rfl
    have s1 : vs 1 = .bool false := hJ.sp 1 p1
    have q71 := hF.slot 1 71 rfl p1
    exact run_val (v := .bool false) rfl (by simp [execOp, go_sem, q71, s1]) ⟨_, rfl, hJ.step hL rfl (Below.refl _ _) (by exact rfl)⟩
  · intro L vs a w6 hJ hF hP hL
    have q9 : (a.tmps[9]?).getD undef = .pointer (some ⟨b3, 0, none⟩) := hF.old 9 rfl
    have cb := cell_later hJ.bel (S5.out.cell (b3) (.slice a3 n3 k3))
    exact run_val (v := .agg #[.slice a3 n3 k3]) (hF.wants 118 HN HG _ 2 false false rfl rfl (hP ⟨2, .guard⟩ (by simp) rfl) (hJ.sp 2 (hP ⟨2, .guard⟩ (by simp) rfl))) (by simp [execOp, go_sem, q9, cb]) ⟨_, rfl, hJ.step hL rfl (Below.refl _ _) (by exact ((S5.out.at (.agg #[.slice a3 n3 k3]) (x - y)).mono hJ.bel))⟩
  · intro L vs a w6 hJ hF hP hL
    have q6 : (a.tmps[6]?).getD undef = .pointer (some ⟨b + 1 + 1, 0, none⟩) := hF.old 6 rfl
    have cb := cell_later hJ.bel (S5.out.cell (b + 1 + 1) (.slice ar mr cr))
    exact run_val (v := .agg #[.slice ar mr cr]) (hF.wants 118 HN HG _ 2 false false rfl rfl (hP ⟨2, .guard⟩ (by simp) rfl) (hJ.sp 2 (hP ⟨2, .guard⟩ (by simp) rfl))) (by simp [execOp, go_sem, q6, cb]) ⟨_, rfl, hJ.step hL rfl (Below.refl _ _) (by exact ((S5.out.rat (.agg #[.slice ar mr cr]) (x)).mono hJ.bel))⟩
  · intro L vs a w6 hJ hF hP hL
    have q7 : (a.tmps[7]?).getD undef = .pointer (some ⟨b + 1 + 1 + 1, 0, none⟩) := hF.old 7 rfl
    have cb := cell_later hJ.bel (S5.out.cell (b + 1 + 1 + 1) (.slice aS ms cs))
    exact run_val (v := .agg #[.slice aS ms cs]) (hF.wants 118 HN HG _ 2 false false rfl rfl (hP ⟨2, .guard⟩ (by simp) rfl) (hJ.sp 2 (hP ⟨2, .guard⟩ (by simp) rfl))) (by simp [execOp, go_sem, q7, cb]) ⟨_, rfl, hJ.step hL rfl (Below.refl _ _) (by exact ((S5.out.rat (.agg #[.slice aS ms cs]) (y)).mono hJ.bel))⟩
  · intro L vs a w6 hJ hF hP hL
    have p4 : L 4 = true := hP ⟨4, .data⟩ (by simp) rfl
    have s4 : RNat w6 (vs 4) (x) := hJ.sp 4 p4
    have q74 := hF.slot 4 74 rfl p4
    have p5 : L 5 = true := hP ⟨5, .data⟩ (by simp) rfl
    have s5 : RNat w6 (vs 5) (y) := hJ.sp 5 p5
    have q75 := hF.slot 5 75 rfl p5
    refine run_call (f := 52) (args := #[vs 4, vs 5]) (hF.wants 118 HN HG _ 2 false false rfl rfl (hP ⟨2, .guard⟩ (by simp) rfl) (hJ.sp 2 (hP ⟨2, .guard⟩ (by simp) rfl))) (by simp [go_sem, q74, q75]) (rminus_any _ _ x y _ s4 s5 HP.out.1.rx hc) ?_
    rintro e w2 ⟨v, rfl, hv, hb⟩
    exact ⟨_, rfl, _, rfl, hJ.step hL rfl hb (by exact hv)⟩
  · intro L vs a w6 hJ hF hP hL
    have p3 : L 3 = true := hP ⟨3, .data⟩ (by simp) rfl
    have s3 : IsNat w6 (vs 3) (x - y) := hJ.sp 3 p3
    have q73 := hF.slot 3 73 rfl p3
    have p6 : L 6 = true := hP ⟨6, .data⟩ (by simp) rfl
    have s6 : RNat w6 (vs 6) (x - y) := hJ.sp 6 p6
    have q76 := hF.slot 6 76 rfl p6
    refine run_call (f := 12) (args := #[vs 3, vs 6]) (hF.wants 118 HN HG _ 2 false false rfl rfl (hP ⟨2, .guard⟩ (by simp) rfl) (hJ.sp 2 (hP ⟨2, .guard⟩ (by simp) rfl))) (by simp [go_sem, q73, q76]) (same_true _ _ (x - y) _ s3 s6 HM.out.1 HM.out.2) ?_
    rintro e w2 ⟨rfl, hb⟩
    exact ⟨_, rfl, _, rfl, hJ.step hL rfl hb (by exact rfl)⟩
  · intro L vs a w6 hJ hF hP hL
    have p7 : L 7 = true := hP ⟨7, .data⟩ (by simp) rfl
    have s7 : vs 7 = .bool true := hJ.sp 7 p7
    have q77 := hF.slot 7 77 rfl p7
    exact run_val (v := .bool false) (hF.wants 118 HN HG _ 2 false false rfl rfl (hP ⟨2, .guard⟩ (by simp) rfl) (hJ.sp 2 (hP ⟨2, .guard⟩ (by simp) rfl))) (by simp [execOp, go_sem, q77, s7]) ⟨_, rfl, hJ.step hL rfl (Below.refl _ _) (by exact rfl)⟩
  · intro L vs a w6 hJ hF hP hL
    have p2 : L 2 = true := hP ⟨2, .data⟩ (by simp) rfl
    have s2 : vs 2 = .bool false := hJ.sp 2 p2
    have q72 := hF.slot 2 72 rfl p2
    have p8 : L 8 = true := hP ⟨8, .data⟩ (by simp) rfl
    have s8 : vs 8 = .bool false := hJ.sp 8 p8
    have q78 := hF.slot 8 78 rfl p8
    exact run_val (v := .bool false) rfl (by simp [execOp, go_sem, q72, s2, q78, s8]) ⟨_, rfl, hJ.step hL rfl (Below.refl _ _) (by exact rfl)⟩
  intro L vs w6 hA hJ
  have s9 : vs 9 = .bool false := hJ.sp 9 (hA 9 (by simp))
  simp only [putL, Act.put, List.setIfInBounds_toArray, List.set_cons_zero, List.set_cons_succ, Nat.reduceAdd]
  simp only [s9]
  have S6 : Hid _ := S5.out.go hJ.bel
  generalize vs = vs2
  clear hJ hA s9 S5
  have c0 := S6.out.cell b (.slice ap mp cp)
  have c1 := S6.out.cell (b + 1) (.slice aq mq cq)
  have c2 := S6.out.cell (b + 1 + 1) (.slice ar mr cr)
  have c3 := S6.out.cell (b + 1 + 1 + 1) (.slice aS ms cs)
  go_wp2_with fail
  have hy : 0 < y := by have := HY0.out; omega
  refine (divMod_198 _ _ x y _ (S6.out.at (.agg #[.slice ap mp cp]) x) (S6.out.at (.agg #[.slice aq mq cq]) y) HP.out.1.my hy HP.out.1.gx HP.out.1.mx).mono ?_
  rintro e w7 ⟨v7, u7, rfl, hv7, hu7, hb7⟩
  obtain ⟨a7, n7, c7, rfl⟩ := hv7.isAgg
  obtain ⟨a8, n8, c8, rfl⟩ := hu7.isAgg
  have S7 : Hid _ := ((((S6.out.go hb7).nat hv7).nat hu7).box (.slice a7 n7 c7) 26 _ rfl).box (.slice a8 n8 c8) 26 _ rfl
  clear hb7 hv7 hu7 S6 c0 c1 c2 c3
  simp only [World.size_alloc] at S7
  have c0 := S7.out.cell b (.slice ap mp cp)
  have c1 := S7.out.cell (b + 1) (.slice aq mq cq)
  have c2 := S7.out.cell (b + 1 + 1) (.slice ar mr cr)
  have c3 := S7.out.cell (b + 1 + 1 + 1) (.slice aS ms cs)
  go_wp2_with fail
  obtain ⟨w8, hw8⟩ : ∃ w8, w8 = (w7.alloc (Obj.cells #[Value.slice a7 n7 c7] 26)).alloc (Obj.cells #[Value.slice a8 n8 c8] 26) := ⟨_, rfl⟩
  obtain ⟨b7, hb7⟩ : ∃ b7, b7 = w7.heap.size := ⟨_, rfl⟩
  rw [← hw8, ← hb7] at S7
  rw [← hw8, ← hb7]
  clear hw8 hb7 c0 c1 c2 c3
  refine (rzero_any _ y _ (S7.out.rat (.agg #[.slice aS ms cs]) y) HP.out.1.ry).mono ?_
  rintro e w9 ⟨rfl, hb9⟩
  have S9 : Hid _ := S7.out.go hb9
  clear hb9 S7
  have hyz : decide (y = 0) = false := decide_eq_false (by omega)
  have c0 := S9.out.cell b (.slice ap mp cp)
  have c1 := S9.out.cell (b + 1) (.slice aq mq cq)
  have c2 := S9.out.cell (b + 1 + 1) (.slice ar mr cr)
  have c3 := S9.out.cell (b + 1 + 1 + 1) (.slice aS ms cs)
  have c4 := S9.out.cell b7 (.slice a7 n7 c7)
  have c5 := S9.out.cell (b7 + 1) (.slice a8 n8 c8)
  go_wp2_with fail
  refine (rdivMod_any _ _ x y _ (S9.out.rat (.agg #[.slice ar mr cr]) x) (S9.out.rat (.agg #[.slice aS ms cs]) y) HP.out.1.sx HP.out.1.sy (by omega)).mono ?_
  rintro e w10 ⟨v10, u10, rfl, hv10, hu10, hb10⟩
  obtain ⟨a10, n10, c10, rfl⟩ := hv10.isAgg
  obtain ⟨a11, n11, c11, rfl⟩ := hu10.isAgg
  have S10 : Hid _ := ((((S9.out.go hb10).rnat hv10).rnat hu10).box (.slice a10 n10 c10) 29 _ rfl).box (.slice a11 n11 c11) 29 _ rfl
  clear hb10 hv10 hu10 S9 c0 c1 c2 c3 c4 c5 hyz
  simp only [World.size_alloc] at S10
  have HQ : Hid ((Fits (x / y) ∧ RFits (x / y)) ∧ Fits (x % y) ∧ RFits (x % y)) := ⟨⟨⟨Nat.lt_of_le_of_lt (Nat.div_le_self _ _) HP.out.1.fx.lt⟩, ⟨Nat.lt_of_le_of_lt (Nat.div_le_self _ _) HP.out.1.rx.lt⟩⟩, ⟨Nat.lt_of_le_of_lt (Nat.mod_le _ _) HP.out.1.fx.lt⟩, ⟨Nat.lt_of_le_of_lt (Nat.mod_le _ _) HP.out.1.rx.lt⟩⟩
  have c4 := S10.out.cell b7 (.slice a7 n7 c7)
  have c5 := S10.out.cell (b7 + 1) (.slice a8 n8 c8)
  have c6 := S10.out.cell w10.heap.size (.slice a10 n10 c10)
  have c7' := S10.out.cell (w10.heap.size + 1) (.slice a11 n11 c11)
  go_wp2_with fail
  refine (same_true _ _ (x / y) _ (S10.out.at (.agg #[.slice a7 n7 c7]) (x / y)) (S10.out.rat (.agg #[.slice a10 n10 c10]) (x / y)) HQ.out.1.1 HQ.out.1.2).mono ?_
  rintro e w11 ⟨rfl, hb11⟩
  have S11 : Hid _ := S10.out.go hb11
  clear hb11 S10 c4 c5 c6 c7'
  have c5 := S11.out.cell (b7 + 1) (.slice a8 n8 c8)
  have c7' := S11.out.cell (w10.heap.size + 1) (.slice a11 n11 c11)
  go_wp2_with fail
  refine (same_true _ _ (x % y) _ (S11.out.at (.agg #[.slice a8 n8 c8]) (x % y)) (S11.out.rat (.agg #[.slice a11 n11 c11]) (x % y)) HQ.out.2.1 HQ.out.2.2).mono ?_
  rintro e w12 ⟨rfl, hb12⟩
  have S12 : Hid _ := S11.out.go hb12
  clear hb12 S11 c5 c7'
  go_wp2_with fail
  go_ret
  exact ⟨rfl, S12.out.bel⟩
end Go.Proofs.YtajkjfblpomdpaaDoor
namespace Go.Proofs.YtajkjfblpomdpaaDoor
open Go.RowKit
set_option maxRecDepth 100000
set_option linter.unusedVariables false
theorem shr_all0 {x n : Nat} (h : bitLen x ≤ n) : x / 2 ^ n = 0 :=
  Nat.div_eq_of_lt (Nat.lt_of_lt_of_le (bitLen_lt x) (Nat.pow_le_pow_right (by decide) h))
set_option maxHeartbeats 2000000 in
theorem rdown_any (v : Value) (x : Nat) (n : Int) (w : World) (h : RNat w v x) (hx : RFits x) (hn : n < 0) (hn1 : -9223372036854775808 ≤ n) :
    Calls Tryd.prog 96 #[v, .int .i64 n] w (RMakes w (x / 2 ^ (-n).toNat)) := by
  obtain ⟨ax, lx, cx, rfl⟩ := h.isAgg
  obtain ⟨F, hs, hd, h1, hv⟩ := h.open
  have hl : lx ≤ 4294967296 := rfits_len (hv.symm ▸ hx) h1
  have hL : bitLen x ≤ 137438953472 := by
    have h2 : x < 2 ^ (32 * lx) := by rw [← hv, ← B_two]; exact U_lt hd
    have h3 := bitLen_le_of h2
    omega
  obtain ⟨L, eL⟩ : ∃ L, L = bitLen x := ⟨_, rfl⟩
  have EL : Hid (L = bitLen x) := eL
  rw [← eL] at hL
  have HH : Hid (RNat w (.agg #[.slice ax lx cx]) x ∧ RFits x) := ⟨h, hx⟩
  have ba : Hid (Below w.heap.size w ((w.alloc (.cells #[.slice ax lx cx] 29)).alloc (.cells #[.slice none 0 0] 29))) := bel_al (bel_al (bel_refl w))
  clear h hx hs hd h1 hv eL
  go_enter Tryd.func96, Tryd.ntmps96
  go_wp2_with fail
  refine (rlen_any _ x _ (HH.out.1.mono ba.out) HH.out.2).mono ?_
  rintro e w1 ⟨rfl, hb1⟩
  rw [← EL.out]
  have c0 : w1.cell? ⟨w.heap.size, 0, none⟩ = some (.slice ax lx cx) := cell_later hb1 (by simp [go_sem])
  have c1 : w1.cell? ⟨w.heap.size + 1, 0, none⟩ = some (.slice none 0 0) := cell_later hb1 (by simp [go_sem])
  have f1 : w1.frozen? ⟨w.heap.size + 1, 0, none⟩ = false := (hb1.frozen (by simp)).trans (by simp [go_sem])
  have B1 : Hid (Below w.heap.size w w1) := bel_go ba.out hb1
  have m1 : IntKind.i64.wrap (-(L : Int)) = -(L : Int) := by rw [IntKind.wrap_i64]; omega
  clear hb1 ba
  by_cases hle : n ≤ -(L : Int)
  · have d1 : decide (n ≤ -(L : Int)) = true := decide_eq_true hle
    have HZ : Hid (x / 2 ^ (-n).toNat = 0) := shr_all0 (by rw [← EL.out]; omega)
    go_wp2_with fail
    refine bodyPost_ret (v := .agg #[.slice none 0 0]) (by simp [results, Tryd.results96, go_sem, c1]) rfl ⟨_, rfl, by rw [HZ.out]; exact rnat_zero _, ?_⟩
    exact B1.out.setCell (by show _ ≤ _ + 1; omega) _
  · have d1 : decide (n ≤ -(L : Int)) = false := decide_eq_false hle
    obtain ⟨p, hp⟩ : ∃ p : Nat, -n = (p : Int) := ⟨(-n).toNat, by omega⟩
    have m2 : IntKind.i64.wrap (-n) = (p : Int) := by rw [IntKind.wrap_i64]; omega
    have hpb : p < 4611686018427387904 := by omega
    have HP : Hid ((-n).toNat = p) := by show _ = _; omega
    clear hp
    go_wp2_with fail
    refine (rright_any _ x p _ (HH.out.1.mono B1.out) HH.out.2 hpb).mono ?_
    rintro e w2 ⟨v2, rfl, hv2, hb2⟩
    obtain ⟨a2, n2, c2, rfl⟩ := hv2.isAgg
    have d3 : w2.cell? ⟨w.heap.size + 1, 0, none⟩ = some (.slice none 0 0) := cell_later hb2 c1
    have f3 : w2.frozen? ⟨w.heap.size + 1, 0, none⟩ = false := (hb2.frozen (World.block_lt_of_cell? _ _ c1)).trans f1
    have HV : Hid (RNat w2 (.agg #[.slice a2 n2 c2]) (x / 2 ^ p) ∧ Below w.heap.size w w2) := ⟨hv2, bel_go B1.out hb2⟩
    clear hv2 hb2
    go_wp2_with fail
    refine bodyPost_ret (v := .agg #[.slice a2 n2 c2]) (by simp [results, Tryd.results96, go_sem, d3]) rfl ⟨_, rfl, by rw [HP.out]; exact HV.out.1.setCell (no_int_slice d3) _, ?_⟩
    exact HV.out.2.setCell (by show _ ≤ _ + 1; omega) _
set_option maxHeartbeats 2000000 in
theorem rright1_any (v : Value) (x : Nat) (n : Int) (w : World) (h : RNat w v x) (hx : RFits x) (hn1 : -9223372036854775808 ≤ n) (hn2 : n ≤ 9223372036854775807) :
    Calls Tryd.prog 56 #[v, .int .i64 n] w (RMakes w (x / 2 ^ n.toNat)) := by
  obtain ⟨ax, lx, cx, rfl⟩ := h.isAgg
  have HH : Hid (RNat w (.agg #[.slice ax lx cx]) x ∧ RFits x) := ⟨h, hx⟩
  have ba : Hid (Below w.heap.size w ((w.alloc (.cells #[.slice ax lx cx] 29)).alloc (.cells #[.slice none 0 0] 29))) := bel_al (bel_al (bel_refl w))
  clear h hx
  by_cases h0 : n ≤ 0
  · have d1 : decide (n ≤ 0) = true := decide_eq_true h0
    have HZ : Hid (x / 2 ^ n.toNat = x) := by show _ = _; rw [show n.toNat = 0 by omega, Nat.pow_zero, Nat.div_one]
    go_enter Tryd.func56, Tryd.ntmps56
    go_wp2_with fail
    have bb : Hid (Below w.heap.size w ((w.alloc (.cells #[.slice ax lx cx] 29)).alloc (.cells #[.slice ax lx cx] 29))) := bel_al (bel_al (bel_refl w))
    exact bodyPost_ret (v := .agg #[.slice ax lx cx]) (by simp [results, Tryd.results56, go_sem]) rfl ⟨_, rfl, by rw [HZ.out]; exact HH.out.1.mono bb.out, bb.out⟩
  · have d1 : decide (n ≤ 0) = false := decide_eq_false h0
    obtain ⟨m, hm⟩ : ∃ m : Int, m = -n := ⟨_, rfl⟩
    have m2 : IntKind.i64.wrap (-n) = m := by rw [IntKind.wrap_i64]; omega
    have m3 : -n = m := hm.symm
    have HM : Hid ((-m).toNat = n.toNat ∧ m < 0 ∧ -9223372036854775808 ≤ m) := ⟨by omega, by omega, by omega⟩
    clear hm
    go_enter Tryd.func56, Tryd.ntmps56
    go_wp2_with fail
    refine (rdown_any _ x m _ (HH.out.1.mono ba.out) HH.out.2 HM.out.2.1 HM.out.2.2).mono ?_
    rintro e w2 ⟨v2, rfl, hv2, hb2⟩
    obtain ⟨a2, n2, c2, rfl⟩ := hv2.isAgg
    rw [HM.out.1] at hv2
    have d3 : w2.cell? ⟨w.heap.size + 1, 0, none⟩ = some (.slice none 0 0) := cell_later hb2 (by simp [go_sem])
    have f3 : w2.frozen? ⟨w.heap.size + 1, 0, none⟩ = false := (hb2.frozen (by simp)).trans (by simp [go_sem])
    have HV : Hid (RNat w2 (.agg #[.slice a2 n2 c2]) (x / 2 ^ n.toNat) ∧ Below w.heap.size w w2) := ⟨hv2, bel_go ba.out hb2⟩
    clear hv2 hb2
    go_wp2_with fail
    refine bodyPost_ret (v := .agg #[.slice a2 n2 c2]) (by simp [results, Tryd.results56, go_sem, d3]) rfl ⟨_, rfl, HV.out.1.setCell (no_int_slice d3) _, ?_⟩
    exact HV.out.2.setCell (by show _ ≤ _ + 1; omega) _
/-- What a shift makes, and whether it may be. -/
def shV (x : Nat) (n : Int) : Nat := if n < 0 then x / 2 ^ (-n).toNat else if x = 0 then 0 else if 16777216 < n then 0 else x * 2 ^ n.toNat
def shB (x : Nat) (n : Int) : Bool := if n < 0 then true else if x = 0 then true else if 16777216 < n then false else true
set_option maxHeartbeats 2000000 in
theorem rshifted_any (v : Value) (x : Nat) (n : Int) (w : World) (h : RNat w v x) (hx : RFits x) (hn1 : -9223372036854775808 ≤ n) (hn2 : n ≤ 9223372036854775807) :
    Calls Tryd.prog 55 #[v, .int .i64 n] w (RMakes2 w (shV x n) (shB x n)) := by
  obtain ⟨ax, lx, cx, rfl⟩ := h.isAgg
  have HH : Hid (RNat w (.agg #[.slice ax lx cx]) x ∧ RFits x) := ⟨h, hx⟩
  have ba : Hid (Below w.heap.size w ((w.alloc (.cells #[.slice ax lx cx] 29)).alloc (.cells #[.slice none 0 0] 29))) := bel_al (bel_al (bel_refl w))
  clear h hx
  by_cases h0 : n < 0
  · have d1 : decide (n < 0) = true := decide_eq_true h0
    have HS : Hid (shV x n = x / 2 ^ (-n).toNat ∧ shB x n = true) := ⟨if_pos h0, if_pos h0⟩
    go_enter Tryd.func55, Tryd.ntmps55
    go_wp2_with fail
    refine (rdown_any _ x n _ (HH.out.1.mono ba.out) HH.out.2 h0 hn1).mono ?_
    rintro e w2 ⟨v2, rfl, hv2, hb2⟩
    obtain ⟨a2, n2, c2, rfl⟩ := hv2.isAgg
    have d3 : w2.cell? ⟨w.heap.size + 1, 0, none⟩ = some (.slice none 0 0) := cell_later hb2 (by simp [go_sem])
    have f3 : w2.frozen? ⟨w.heap.size + 1, 0, none⟩ = false := (hb2.frozen (by simp)).trans (by simp [go_sem])
    have HV : Hid (RNat w2 (.agg #[.slice a2 n2 c2]) (x / 2 ^ (-n).toNat) ∧ Below w.heap.size w w2) := ⟨hv2, bel_go ba.out hb2⟩
    clear hv2 hb2
    go_wp2_with fail
    refine bodyPost_ret (v := .tuple #[.agg #[.slice a2 n2 c2], .bool true]) (by simp [results, Tryd.results55, go_sem, d3]) rfl ⟨_, by rw [HS.out.2], by rw [HS.out.1]; exact HV.out.1.setCell (no_int_slice d3) _, ?_⟩
    exact HV.out.2.setCell (by show _ ≤ _ + 1; omega) _
  · have d1 : decide (n < 0) = false := decide_eq_false h0
    go_enter Tryd.func55, Tryd.ntmps55
    go_wp2_with fail
    refine (rzero_any _ x _ (HH.out.1.mono ba.out) HH.out.2).mono ?_
    rintro e w1 ⟨rfl, hb1⟩
    have c0 : w1.cell? ⟨w.heap.size, 0, none⟩ = some (.slice ax lx cx) := cell_later hb1 (by simp [go_sem])
    have c1 : w1.cell? ⟨w.heap.size + 1, 0, none⟩ = some (.slice none 0 0) := cell_later hb1 (by simp [go_sem])
    have f1 : w1.frozen? ⟨w.heap.size + 1, 0, none⟩ = false := (hb1.frozen (by simp)).trans (by simp [go_sem])
    have B1 : Hid (Below w.heap.size w w1) := bel_go ba.out hb1
    clear hb1 ba
    by_cases hx0 : x = 0
    · have d2 : decide (x = 0) = true := decide_eq_true hx0
      have HS : Hid (shV x n = 0 ∧ shB x n = true) := by
        refine ⟨?_, ?_⟩
        · rw [shV, if_neg (show ¬ n < 0 by omega), if_pos hx0]
        · rw [shB, if_neg (show ¬ n < 0 by omega), if_pos hx0]
      clear hx0
      go_wp2_with fail
      refine bodyPost_ret (v := .tuple #[.agg #[.slice none 0 0], .bool true]) (by simp [results, Tryd.results55, go_sem, c1]) rfl ⟨_, by rw [HS.out.2], by rw [HS.out.1]; exact rnat_zero _, ?_⟩
      exact B1.out.setCell (by show _ ≤ _ + 1; omega) _
    · have d2 : decide (x = 0) = false := decide_eq_false hx0
      by_cases hf : 16777216 < n
      · have d4 : decide (16777216 < n) = true := decide_eq_true hf
        have HS : Hid (shV x n = 0 ∧ shB x n = false) := by
          refine ⟨?_, ?_⟩
          · rw [shV, if_neg (show ¬ n < 0 by omega), if_neg hx0, if_pos hf]
          · rw [shB, if_neg (show ¬ n < 0 by omega), if_neg hx0, if_pos hf]
        go_wp2_with fail
        refine bodyPost_ret (v := .tuple #[.agg #[.slice none 0 0], .bool false]) (by simp [results, Tryd.results55, go_sem, c1]) rfl ⟨_, by rw [HS.out.2], by rw [HS.out.1]; exact rnat_zero _, ?_⟩
        exact B1.out.setCell (by show _ ≤ _ + 1; omega) _
      · have d4 : decide (16777216 < n) = false := decide_eq_false hf
        have HS : Hid (shV x n = x * 2 ^ n.toNat ∧ shB x n = true) := by
          refine ⟨?_, ?_⟩
          · rw [shV, if_neg (show ¬ n < 0 by omega), if_neg hx0, if_neg hf]
          · rw [shB, if_neg (show ¬ n < 0 by omega), if_neg hx0, if_neg hf]
        obtain ⟨p, hp⟩ : ∃ p : Nat, n = (p : Int) := ⟨n.toNat, by omega⟩
        subst hp
        rw [Int.toNat_natCast] at HS
        have hpb : p < 1099511627776 := by omega
        go_wp2_with fail
        refine (rleft_any _ x p _ (HH.out.1.mono B1.out) HH.out.2 hpb).mono ?_
        rintro e w2 ⟨v2, rfl, hv2, hb2⟩
        obtain ⟨a2, n2, c2, rfl⟩ := hv2.isAgg
        have d5 : w2.cell? ⟨w.heap.size + 1, 0, none⟩ = some (.slice none 0 0) := cell_later hb2 c1
        have f5 : w2.frozen? ⟨w.heap.size + 1, 0, none⟩ = false := (hb2.frozen (World.block_lt_of_cell? _ _ c1)).trans f1
        have HV : Hid (RNat w2 (.agg #[.slice a2 n2 c2]) (x * 2 ^ p) ∧ Below w.heap.size w w2) := ⟨hv2, bel_go B1.out hb2⟩
        clear hv2 hb2
        go_wp2_with fail
        refine bodyPost_ret (v := .tuple #[.agg #[.slice a2 n2 c2], .bool true]) (by simp [results, Tryd.results55, go_sem, d5]) rfl ⟨_, by rw [HS.out.2], by rw [HS.out.1]; exact HV.out.1.setCell (no_int_slice d5) _, ?_⟩
        exact HV.out.2.setCell (by show _ ≤ _ + 1; omega) _
set_option maxHeartbeats 2000000 in
theorem left_neg (v : Value) (x : Nat) (n : Int) (w : World) (h : IsNat w v x) (hx : Fits x) (h0 : x ≠ 0) (hn : n < 0) (hn1 : -9223372036854775808 ≤ n) :
    Calls Tryd.prog 28 #[v, .int .i64 n] w (Makes2 w (x / 2 ^ (-n).toNat) true) := by
  obtain ⟨ax, lx, cx, rfl⟩ := h.isAgg
  have hl0 : lx ≠ 0 := fun e => h0 ((isNat_zero_iff h).1 e)
  obtain ⟨F, hs, _, h1, hv⟩ := h.fits
  have hnl : lx ≤ 4294967296 := fits_len (hv.symm ▸ hx) h1
  have hbl := bitLen_words hs h1 hv
  obtain ⟨L, eL⟩ : ∃ L, L = bitLen x := ⟨_, rfl⟩
  have EL : Hid (L = bitLen x) := eL
  rw [← eL] at hbl
  have HH : Hid (IsNat w (.agg #[.slice ax lx cx]) x ∧ Fits x) := ⟨h, hx⟩
  have ba : Hid (Below w.heap.size w ((w.alloc (.cells #[.slice ax lx cx] 26)).alloc (.cells #[.slice none 0 0] 26))) := bel_al (bel_al (bel_refl w))
  have hz : ((lx : Int) == 0) = false := by simp; omega
  clear h hx hs h1 hv eL
  go_enter Tryd.func28, Tryd.ntmps28
  go_wp2_with fail
  refine (len_any _ x _ (HH.out.1.mono ba.out) HH.out.2).mono ?_
  rintro e w1 ⟨rfl, hb1⟩
  rw [← EL.out]
  have c0 : w1.cell? ⟨w.heap.size, 0, none⟩ = some (.slice ax lx cx) := cell_later hb1 (by simp [go_sem])
  have c1 : w1.cell? ⟨w.heap.size + 1, 0, none⟩ = some (.slice none 0 0) := cell_later hb1 (by simp [go_sem])
  have f1 : w1.frozen? ⟨w.heap.size + 1, 0, none⟩ = false := (hb1.frozen (by simp)).trans (by simp [go_sem])
  have B1 : Hid (Below w.heap.size w w1) := bel_go ba.out hb1
  have m1 : IntKind.i64.wrap (-(L : Int)) = -(L : Int) := by rw [IntKind.wrap_i64]; omega
  clear hb1 ba
  by_cases hle : n ≤ -(L : Int)
  · have d1 : decide (n ≤ -(L : Int)) = true := decide_eq_true hle
    have HZ : Hid (x / 2 ^ (-n).toNat = 0) := shr_all0 (by rw [← EL.out]; omega)
    go_wp2_with fail
    refine bodyPost_ret (v := .tuple #[.agg #[.slice none 0 0], .bool true]) (by simp [results, Tryd.results28, go_sem, c1]) rfl ⟨_, rfl, by rw [HZ.out]; exact isNat_zero _, ?_⟩
    exact B1.out.setCell (by show _ ≤ _ + 1; omega) _
  · have d1 : decide (n ≤ -(L : Int)) = false := decide_eq_false hle
    have d2 : decide (n < 0) = true := decide_eq_true hn
    obtain ⟨p, hp⟩ : ∃ p : Nat, -n = (p : Int) := ⟨(-n).toNat, by omega⟩
    have m2 : IntKind.i64.wrap (-n) = (p : Int) := by rw [IntKind.wrap_i64]; omega
    have hpb : p < 4611686018427387904 := by omega
    have HP : Hid ((-n).toNat = p) := by show _ = _; omega
    clear hp
    go_wp2_with fail
    refine (right_any _ x (p : Int) _ (HH.out.1.mono B1.out) HH.out.2 (by omega) (by omega)).mono ?_
    rintro e w2 ⟨v2, rfl, hv2, hb2⟩
    obtain ⟨a2, n2, c2, rfl⟩ := hv2.isAgg
    rw [Int.toNat_natCast] at hv2
    have d3 : w2.cell? ⟨w.heap.size + 1, 0, none⟩ = some (.slice none 0 0) := cell_later hb2 c1
    have f3 : w2.frozen? ⟨w.heap.size + 1, 0, none⟩ = false := (hb2.frozen (World.block_lt_of_cell? _ _ c1)).trans f1
    have HV : Hid (IsNat w2 (.agg #[.slice a2 n2 c2]) (x / 2 ^ p) ∧ Below w.heap.size w w2) := ⟨hv2, bel_go B1.out hb2⟩
    clear hv2 hb2
    go_wp2_with fail
    refine bodyPost_ret (v := .tuple #[.agg #[.slice a2 n2 c2], .bool true]) (by simp [results, Tryd.results28, go_sem, d3]) rfl ⟨_, rfl, by rw [HP.out]; exact HV.out.1.setCell (no_int_slice d3) _, ?_⟩
    exact HV.out.2.setCell (by show _ ≤ _ + 1; omega) _
theorem left_int (v : Value) (x : Nat) (n : Int) (w : World) (h : IsNat w v x) (hx : Fits x) (hn1 : -9223372036854775808 ≤ n) (hn2 : n ≤ 9223372036854775807) :
    Calls Tryd.prog 28 #[v, .int .i64 n] w (Makes2 w (shV x n) (shB x n)) := by
  by_cases hx0 : x = 0
  · have e1 : shV x n = 0 := by
      unfold shV
      split
      · rw [hx0, Nat.zero_div]
      · rfl
    have e2 : shB x n = true := by
      unfold shB
      split
      · rfl
      · rfl
    rw [e1, e2]
    rw [hx0] at h
    exact left_zero v n w h
  · by_cases h0 : n < 0
    · rw [shV, shB, if_pos h0, if_pos h0]
      exact left_neg v x n w h hx hx0 h0 hn1
    · obtain ⟨p, rfl⟩ : ∃ p : Nat, n = (p : Int) := ⟨n.toNat, by omega⟩
      by_cases hf : 16777216 < (p : Int)
      · rw [shV, shB, if_neg h0, if_neg h0, if_neg hx0, if_neg hx0, if_pos hf, if_pos hf]
        exact left_far v x p w h hx hx0 (by omega) (by omega)
      · rw [shV, shB, if_neg h0, if_neg h0, if_neg hx0, if_neg hx0, if_neg hf, if_neg hf, Int.toNat_natCast]
        exact left_yes v x p w h hx (by omega)
end Go.Proofs.YtajkjfblpomdpaaDoor
