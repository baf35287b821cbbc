/- Contracts of the program's functions, part 8: own work, joined in build order. -/
import Derived.Test.YtcemholflikecaaJ7
namespace Go.Proofs.Ytcemholflikecaa
open Go.RowKit
set_option maxRecDepth 100000
set_option linter.unusedVariables false
set_option maxHeartbeats 4000000 in
theorem natBits_pos (a0 : Option Addr) (l0 k0 : Nat) (D0 : Nat → Nat) (z : Int) (w : World) (h0 : BSl w a0 l0 k0 D0) (hzz : 0 < z % 512) :
    Calls Try.prog 4 #[.slice a0 l0 k0, .int .i64 z] w fun e w' => e = .returned (.bool true) ∧ Below w.heap.size w w' := by
  have HA : Hid (BSl w a0 l0 k0 D0) := h0
  clear h0
  have hz := i64_and511 z
  obtain ⟨n, hn⟩ : ∃ n : Nat, z % 512 = (n : Int) := ⟨(z % 512).toNat, by omega⟩
  rw [hn] at hz
  have hn5 : n ≤ 511 := by omega
  have HN0 : Hid (0 < n) := by
    show 0 < n
    omega
  clear hn hzz
  go_enter Try.func4, Try.ntmps4
  go_wp2_with fail
  refine (cut_any a0 l0 k0 D0 _ HA.out).mono ?_
  rintro e w' ⟨⟨n0, rfl, hb0, hn0⟩, hw'⟩
  rw [hw']
  clear hw' w'
  have X0 : Hid (BSl w a0 n0 k0 D0) := hb0
  clear hb0
  go_wp2_with fail
  refine (fromBytes_any a0 n0 k0 D0 _ X0.out (by omega)).mono ?_
  rintro e w1 ⟨v1, rfl, hv1, hb1⟩
  have M1 : Hid (Mid (BV D0 n0)) := ⟨BV_P X0.out.2.2.1 hn0⟩
  generalize BV D0 n0 = x at hv1 M1
  obtain ⟨ax, nx, cx, rfl⟩ := hv1.isAgg
  have S1 : Hid (St w _ [(.agg #[.slice ax nx cx], x)] [(w1.heap.size, .slice ax nx cx)]) := (St.mk (N := [(.agg #[.slice ax nx cx], x)]) (C := []) (by simp; exact hv1) (by simp) hb1).box (.slice ax nx cx) 27 _ rfl
  clear hv1 hb1 X0 HA hn0
  go_wp2_with fail
  obtain ⟨w2, hw2⟩ : ∃ w2, w2 = w1.alloc (Obj.cells #[Value.slice ax nx cx] 27) := ⟨_, rfl⟩
  rw [← hw2] at S1 ⊢
  obtain ⟨b, hb⟩ : ∃ b, b = w1.heap.size := ⟨_, rfl⟩
  rw [← hb] at S1 ⊢
  clear hw2 hb hz
  refine (of_any 1 _ (by omega)).mono ?_
  rintro e w3 ⟨v3, rfl, hv3, hb3⟩
  have S3 : Hid _ := (S1.out.go hb3).nat hv3
  clear hv3 hb3 S1
  go_wp2_with fail
  refine (left_yes _ 1 n _ (S3.out.at v3 1) (tx_word (by omega)).fits (by omega)).mono ?_
  rintro e w4 ⟨v4, rfl, hv4, hb4⟩
  rw [Nat.one_mul] at hv4
  obtain ⟨ap, np, cp, rfl⟩ := hv4.isAgg
  have S4 : Hid _ := ((S3.out.go hb4).nat hv4).box (.slice ap np cp) 27 _ rfl
  clear hv4 hb4 S3
  have MP : Hid (2 ^ n < P 8) := pow_lt_P (by omega)
  have FP : Hid (Tx (2 ^ n)) := tx_of MP.out (by omega)
  go_wp2_with fail
  obtain ⟨w5, hw5⟩ : ∃ w5, w5 = w4.alloc (Obj.cells #[Value.slice ap np cp] 27) := ⟨_, rfl⟩
  rw [← hw5] at S4 ⊢
  obtain ⟨bp, hbp⟩ : ∃ bp, bp = w4.heap.size := ⟨_, rfl⟩
  rw [← hbp] at S4 ⊢
  clear hw5 hbp
  refine (len_any _ (2 ^ n) _ (S4.out.at (.agg #[.slice ap np cp]) (2 ^ n)) FP.out.fits).mono ?_
  rintro e w6 ⟨rfl, hb6⟩
  rw [bitLen_pow]
  have S6 : Hid _ := S4.out.go hb6
  clear hb6 S4
  have c1 := S6.out.cell bp (.slice ap np cp)
  go_wp2_with fail
  refine (bit_any _ (2 ^ n) (n : Int) _ (S6.out.at (.agg #[.slice ap np cp]) (2 ^ n)) FP.out.fits (by omega) (by omega)).mono ?_
  rintro e w7 ⟨rfl, hb7⟩
  rw [decide_eq_true (show (0 : Int) ≤ (n : Int) by omega), Int.toNat_natCast, bitOf_same, Bool.and_self]
  have S7 : Hid _ := S6.out.go hb7
  clear hb7 S6 c1
  have c1 := S7.out.cell bp (.slice ap np cp)
  go_wp2_with fail
  refine (bit_any _ (2 ^ n) ((n : Int) + 1) _ (S7.out.at (.agg #[.slice ap np cp]) (2 ^ n)) FP.out.fits (by omega) (by omega)).mono ?_
  rintro e w8 ⟨rfl, hb8⟩
  rw [show ((n : Int) + 1).toNat = n + 1 by omega, bitOf_above, Bool.and_false]
  have S8 : Hid _ := S7.out.go hb8
  clear hb8 S7 c1
  have c1 := S8.out.cell bp (.slice ap np cp)
  have c0 := S8.out.cell b (.slice ax nx cx)
  have hd1 : decide ((0 : Int) < (n : Int)) = true := decide_eq_true (by have := HN0.out; omega)
  have hn1 : 0 < n := HN0.out
  go_wp2_with fail
  refine (bit_any _ (2 ^ n) ((n : Int) - 1) _ (S8.out.at (.agg #[.slice ap np cp]) (2 ^ n)) FP.out.fits (by omega) (by omega)).mono ?_
  rintro e w9 ⟨rfl, hb9⟩
  have hbel : bitOf (2 ^ n) (n - 1) = false := by
    obtain ⟨m, rfl⟩ : ∃ m, n = m + 1 := ⟨n - 1, by omega⟩
    exact bitOf_below m
  rw [show ((n : Int) - 1).toNat = n - 1 by omega, hbel, Bool.and_false]
  have S9 : Hid _ := S8.out.go hb9
  clear hb9 S8 c1 c0 hbel
  have c1 := S9.out.cell bp (.slice ap np cp)
  have c0 := S9.out.cell b (.slice ax nx cx)
  go_wp2_with fail
  refine (left_yes _ x n _ (S9.out.at (.agg #[.slice ax nx cx]) x) M1.out.fits (by omega)).mono ?_
  rintro e wa ⟨va, rfl, hva, hba⟩
  obtain ⟨al, nl, cl, rfl⟩ := hva.isAgg
  have Sa : Hid _ := ((S9.out.go hba).nat hva).box (.slice al nl cl) 27 _ rfl
  clear hva hba S9 c0 c1
  have ML : Hid (Tx (x * 2 ^ n)) := by
    refine tx_of (n := 83) ?_ (by omega)
    rw [show 83 = 75 + 8 from rfl, P_add]
    exact Nat.mul_lt_mul'' M1.out.lt MP.out
  have c0 := Sa.out.cell b (.slice ax nx cx)
  have c1 := Sa.out.cell bp (.slice ap np cp)
  go_wp2_with fail
  obtain ⟨wb, hwb⟩ : ∃ wb, wb = wa.alloc (Obj.cells #[Value.slice al nl cl] 27) := ⟨_, rfl⟩
  rw [← hwb] at Sa c0 c1 ⊢
  obtain ⟨bl, hbl⟩ : ∃ bl, bl = wa.heap.size := ⟨_, rfl⟩
  rw [← hbl] at Sa ⊢
  clear hwb hbl
  refine (divMod_any _ _ x (2 ^ n) _ (Sa.out.at (.agg #[.slice ax nx cx]) x) (Sa.out.at (.agg #[.slice ap np cp]) (2 ^ n)) M1.out.small FP.out.small (Nat.two_pow_pos n) (.inl (.inl (Nat.lt_trans MP.out (P_lt (by omega)))))).mono ?_
  rintro e wd ⟨vd, ud, rfl, hvd, hud, hbd⟩
  obtain ⟨aq, nq, cq, rfl⟩ := hvd.isAgg
  obtain ⟨ar, nr, cr, rfl⟩ := hud.isAgg
  have Sd : Hid _ := ((((Sa.out.go hbd).nat hvd).nat hud).box (.slice aq nq cq) 27 _ rfl).box (.slice ar nr cr) 27 (wd.heap.size + 1) (by simp)
  clear hvd hud hbd Sa c0 c1
  go_wp2_with fail
  obtain ⟨we, hwe⟩ : ∃ we, we = (wd.alloc (Obj.cells #[Value.slice aq nq cq] 27)).alloc (Obj.cells #[Value.slice ar nr cr] 27) := ⟨_, rfl⟩
  rw [← hwe] at Sd ⊢
  obtain ⟨bq, hbq⟩ : ∃ bq, bq = wd.heap.size := ⟨_, rfl⟩
  rw [← hbq] at Sd ⊢
  clear hwe hbq
  have c0 := Sd.out.cell b (.slice ax nx cx)
  have c1 := Sd.out.cell bp (.slice ap np cp)
  have c2 := Sd.out.cell bl (.slice al nl cl)
  have c3 := Sd.out.cell bq (.slice aq nq cq)
  refine wp_region_inv (JB we [sEq (.bool true), sEq (.bool false), sEq (.bool false), sEq (.bool true), sEq (.bool false), sEq (.bool false), sEq (.bool false), sNat (x * 2 ^ n), sNat (x), sNat (2 ^ n), sNat (x * 2 ^ n), sEq (.bool true), sEq (.bool false), sEq (.bool false), sEq (.bool false), sNat (x), sEq (.int .i64 (n : Int)), sNat (x / 2 ^ n), sNat (x / 2 ^ n), sEq (.bool true), sEq (.bool false), sEq (.bool false), sEq (.bool false), sNat (x * 2 ^ n), sEq (.int .i64 (n : Int)), sNat (x), sNat (x), sEq (.bool true), sEq (.bool false), sEq (.bool false)] []) 163 (by kernel_rfl) rfl (by kernel_rfl) (JB.start _ _ _) (fun HG HN => ⟨?_, ?_, ?_, ?_, ?_, ?_, ?_, ?_, ?_, ?_, ?_, ?_, ?_, ?_, ?_, ?_, ?_, ?_, ?_, ?_, ?_, ?_, ?_, ?_, ?_, ?_, ?_, ?_, ?_, ?_, trivial⟩) ?_
  · intro L vs a w' hJ hF hP hL
    have q9 : (a.tmps[9]?).getD undef = .bool true := hF.old 9 rfl
    exact run_val (v := .bool true) rfl (by simp [execOp, go_sem, q9]) ⟨_, rfl, hJ.step hL rfl (Below.refl _ _) (by exact rfl)⟩
  · intro L vs a w' hJ hF hP hL
    have p0 : L 0 = true := hP ⟨0, .data⟩ (by simp) rfl
    have s0 : vs 0 = .bool true := hJ.sp 0 p0
    have q75 := hF.slot 0 75 rfl p0
    exact run_val (v := .bool false) rfl (by simp [execOp, go_sem, q75, s0]) ⟨_, rfl, hJ.step hL rfl (Below.refl _ _) (by exact rfl)⟩
  · intro L vs a w' hJ hF hP hL
    have p1 : L 1 = true := hP ⟨1, .data⟩ (by simp) rfl
    have s1 : vs 1 = .bool false := hJ.sp 1 p1
    have q76 := hF.slot 1 76 rfl p1
    exact run_val (v := .bool false) rfl (by simp [execOp, go_sem, q76, s1]) ⟨_, rfl, hJ.step hL rfl (Below.refl _ _) (by exact rfl)⟩
  · intro L vs a w' hJ hF hP hL
    have q12 : (a.tmps[12]?).getD undef = .bool true := hF.old 12 rfl
    exact run_val (v := .bool true) (hF.wants 163 HN HG _ 2 false false rfl rfl (hP ⟨2, .guard⟩ (by simp) rfl) (hJ.sp 2 (hP ⟨2, .guard⟩ (by simp) rfl))) (by simp [execOp, go_sem, q12]) ⟨_, rfl, hJ.step hL rfl (Below.refl _ _) (by exact rfl)⟩
  · intro L vs a w' hJ hF hP hL
    have p3 : L 3 = true := hP ⟨3, .data⟩ (by simp) rfl
    have s3 : vs 3 = .bool true := hJ.sp 3 p3
    have q78 := hF.slot 3 78 rfl p3
    exact run_val (v := .bool false) (hF.wants 163 HN HG _ 2 false false rfl rfl (hP ⟨2, .guard⟩ (by simp) rfl) (hJ.sp 2 (hP ⟨2, .guard⟩ (by simp) rfl))) (by simp [execOp, go_sem, q78, s3]) ⟨_, rfl, hJ.step hL rfl (Below.refl _ _) (by exact rfl)⟩
  · intro L vs a w' hJ hF hP hL
    have p2 : L 2 = true := hP ⟨2, .data⟩ (by simp) rfl
    have s2 : vs 2 = .bool false := hJ.sp 2 p2
    have q77 := hF.slot 2 77 rfl p2
    have p4 : L 4 = true := hP ⟨4, .data⟩ (by simp) rfl
    have s4 : vs 4 = .bool false := hJ.sp 4 p4
    have q79 := hF.slot 4 79 rfl p4
    exact run_val (v := .bool false) rfl (by simp [execOp, go_sem, q77, s2, q79, s4]) ⟨_, rfl, hJ.step hL rfl (Below.refl _ _) (by exact rfl)⟩
  · intro L vs a w' hJ hF hP hL
    have p5 : L 5 = true := hP ⟨5, .data⟩ (by simp) rfl
    have s5 : vs 5 = .bool false := hJ.sp 5 p5
    have q80 := hF.slot 5 80 rfl p5
    exact run_val (v := .bool false) rfl (by simp [execOp, go_sem, q80, s5]) ⟨_, rfl, hJ.step hL rfl (Below.refl _ _) (by exact rfl)⟩
  · intro L vs a w' hJ hF hP hL
    have q8 : (a.tmps[8]?).getD undef = .pointer (some ⟨bl, 0, none⟩) := hF.old 8 rfl
    have cb := cell_later hJ.bel (Sd.out.cell (bl) (.slice al nl cl))
    exact run_val (v := .agg #[.slice al nl cl]) (hF.wants 163 HN HG _ 6 false false rfl rfl (hP ⟨6, .guard⟩ (by simp) rfl) (hJ.sp 6 (hP ⟨6, .guard⟩ (by simp) rfl))) (by simp [execOp, go_sem, q8, cb]) ⟨_, rfl, hJ.step hL rfl (Below.refl _ _) (by exact ((Sd.out.at (.agg #[.slice al nl cl]) (x * 2 ^ n)).mono hJ.bel))⟩
  · intro L vs a w' hJ hF hP hL
    have q5 : (a.tmps[5]?).getD undef = .pointer (some ⟨b, 0, none⟩) := hF.old 5 rfl
    have cb := cell_later hJ.bel (Sd.out.cell (b) (.slice ax nx cx))
    exact run_val (v := .agg #[.slice ax nx cx]) (hF.wants 163 HN HG _ 6 false false rfl rfl (hP ⟨6, .guard⟩ (by simp) rfl) (hJ.sp 6 (hP ⟨6, .guard⟩ (by simp) rfl))) (by simp [execOp, go_sem, q5, cb]) ⟨_, rfl, hJ.step hL rfl (Below.refl _ _) (by exact ((Sd.out.at (.agg #[.slice ax nx cx]) (x)).mono hJ.bel))⟩
  · intro L vs a w' hJ hF hP hL
    have q6 : (a.tmps[6]?).getD undef = .pointer (some ⟨bp, 0, none⟩) := hF.old 6 rfl
    have cb := cell_later hJ.bel (Sd.out.cell (bp) (.slice ap np cp))
    exact run_val (v := .agg #[.slice ap np cp]) (hF.wants 163 HN HG _ 6 false false rfl rfl (hP ⟨6, .guard⟩ (by simp) rfl) (hJ.sp 6 (hP ⟨6, .guard⟩ (by simp) rfl))) (by simp [execOp, go_sem, q6, cb]) ⟨_, rfl, hJ.step hL rfl (Below.refl _ _) (by exact ((Sd.out.at (.agg #[.slice ap np cp]) (2 ^ n)).mono hJ.bel))⟩
  · intro L vs a w' hJ hF hP hL
    have p8 : L 8 = true := hP ⟨8, .data⟩ (by simp) rfl
    have s8 : IsNat w' (vs 8) (x) := hJ.sp 8 p8
    have q83 := hF.slot 8 83 rfl p8
    have p9 : L 9 = true := hP ⟨9, .data⟩ (by simp) rfl
    have s9 : IsNat w' (vs 9) (2 ^ n) := hJ.sp 9 p9
    have q84 := hF.slot 9 84 rfl p9
    refine run_call (f := 21) (args := #[vs 8, vs 9]) (hF.wants 163 HN HG _ 6 false false rfl rfl (hP ⟨6, .guard⟩ (by simp) rfl) (hJ.sp 6 (hP ⟨6, .guard⟩ (by simp) rfl))) (by simp [go_sem, q83, q84]) (mul_short _ _ x (2 ^ n) _ s8 s9 M1.out.fits FP.out.fits (.inl M1.out.p99)) ?_
    rintro e w2 ⟨v, rfl, hv, hb⟩
    exact ⟨_, rfl, _, rfl, hJ.step hL rfl hb (by exact hv)⟩
  · intro L vs a w' hJ hF hP hL
    have p7 : L 7 = true := hP ⟨7, .data⟩ (by simp) rfl
    have s7 : IsNat w' (vs 7) (x * 2 ^ n) := hJ.sp 7 p7
    have q82 := hF.slot 7 82 rfl p7
    have p10 : L 10 = true := hP ⟨10, .data⟩ (by simp) rfl
    have s10 : IsNat w' (vs 10) (x * 2 ^ n) := hJ.sp 10 p10
    have q85 := hF.slot 10 85 rfl p10
    refine run_call (f := 20) (args := #[vs 7, vs 10]) (hF.wants 163 HN HG _ 6 false false rfl rfl (hP ⟨6, .guard⟩ (by simp) rfl) (hJ.sp 6 (hP ⟨6, .guard⟩ (by simp) rfl))) (by simp [go_sem, q82, q85]) (eq_true _ _ (x * 2 ^ n) _ s7 s10 ML.out) ?_
    rintro e w2 ⟨rfl, hb⟩
    exact ⟨_, rfl, _, rfl, hJ.step hL rfl hb (by exact rfl)⟩
  · intro L vs a w' hJ hF hP hL
    have p11 : L 11 = true := hP ⟨11, .data⟩ (by simp) rfl
    have s11 : vs 11 = .bool true := hJ.sp 11 p11
    have q86 := hF.slot 11 86 rfl p11
    exact run_val (v := .bool false) (hF.wants 163 HN HG _ 6 false false rfl rfl (hP ⟨6, .guard⟩ (by simp) rfl) (hJ.sp 6 (hP ⟨6, .guard⟩ (by simp) rfl))) (by simp [execOp, go_sem, q86, s11]) ⟨_, rfl, hJ.step hL rfl (Below.refl _ _) (by exact rfl)⟩
  · intro L vs a w' hJ hF hP hL
    have p6 : L 6 = true := hP ⟨6, .data⟩ (by simp) rfl
    have s6 : vs 6 = .bool false := hJ.sp 6 p6
    have q81 := hF.slot 6 81 rfl p6
    have p12 : L 12 = true := hP ⟨12, .data⟩ (by simp) rfl
    have s12 : vs 12 = .bool false := hJ.sp 12 p12
    have q87 := hF.slot 12 87 rfl p12
    exact run_val (v := .bool false) rfl (by simp [execOp, go_sem, q81, s6, q87, s12]) ⟨_, rfl, hJ.step hL rfl (Below.refl _ _) (by exact rfl)⟩
  · intro L vs a w' hJ hF hP hL
    have p13 : L 13 = true := hP ⟨13, .data⟩ (by simp) rfl
    have s13 : vs 13 = .bool false := hJ.sp 13 p13
    have q88 := hF.slot 13 88 rfl p13
    exact run_val (v := .bool false) rfl (by simp [execOp, go_sem, q88, s13]) ⟨_, rfl, hJ.step hL rfl (Below.refl _ _) (by exact rfl)⟩
  · intro L vs a w' hJ hF hP hL
    have q5 : (a.tmps[5]?).getD undef = .pointer (some ⟨b, 0, none⟩) := hF.old 5 rfl
    have cb := cell_later hJ.bel (Sd.out.cell (b) (.slice ax nx cx))
    exact run_val (v := .agg #[.slice ax nx cx]) (hF.wants 163 HN HG _ 14 false false rfl rfl (hP ⟨14, .guard⟩ (by simp) rfl) (hJ.sp 14 (hP ⟨14, .guard⟩ (by simp) rfl))) (by simp [execOp, go_sem, q5, cb]) ⟨_, rfl, hJ.step hL rfl (Below.refl _ _) (by exact ((Sd.out.at (.agg #[.slice ax nx cx]) (x)).mono hJ.bel))⟩
  · intro L vs a w' hJ hF hP hL
    have q1 : (a.tmps[1]?).getD undef = .int .i64 (n : Int) := hF.old 1 rfl
    exact run_val (v := .int .i64 (n : Int)) (hF.wants 163 HN HG _ 14 false false rfl rfl (hP ⟨14, .guard⟩ (by simp) rfl) (hJ.sp 14 (hP ⟨14, .guard⟩ (by simp) rfl))) (by simp [execOp, go_sem, q1]) ⟨_, rfl, hJ.step hL rfl (Below.refl _ _) (by exact rfl)⟩
  · intro L vs a w' hJ hF hP hL
    have p15 : L 15 = true := hP ⟨15, .data⟩ (by simp) rfl
    have s15 : IsNat w' (vs 15) (x) := hJ.sp 15 p15
    have q90 := hF.slot 15 90 rfl p15
    have p16 : L 16 = true := hP ⟨16, .data⟩ (by simp) rfl
    have s16 : vs 16 = .int .i64 (n : Int) := hJ.sp 16 p16
    have q91 := hF.slot 16 91 rfl p16
    refine run_call (f := 22) (args := #[vs 15, .int .i64 (n : Int)]) (hF.wants 163 HN HG _ 14 false false rfl rfl (hP ⟨14, .guard⟩ (by simp) rfl) (hJ.sp 14 (hP ⟨14, .guard⟩ (by simp) rfl))) (by simp [go_sem, q90, q91, s16]) (right_any _ x (n : Int) _ s15 M1.out.fits (by omega) (by omega)) ?_
    rintro e w2 ⟨v, rfl, hv, hb⟩
    rw [Int.toNat_natCast] at hv
    exact ⟨_, rfl, _, rfl, hJ.step hL rfl hb (by exact hv)⟩
  · intro L vs a w' hJ hF hP hL
    have q10 : (a.tmps[10]?).getD undef = .pointer (some ⟨bq, 0, none⟩) := hF.old 10 rfl
    have cb := cell_later hJ.bel (Sd.out.cell (bq) (.slice aq nq cq))
    exact run_val (v := .agg #[.slice aq nq cq]) (hF.wants 163 HN HG _ 14 false false rfl rfl (hP ⟨14, .guard⟩ (by simp) rfl) (hJ.sp 14 (hP ⟨14, .guard⟩ (by simp) rfl))) (by simp [execOp, go_sem, q10, cb]) ⟨_, rfl, hJ.step hL rfl (Below.refl _ _) (by exact ((Sd.out.at (.agg #[.slice aq nq cq]) (x / 2 ^ n)).mono hJ.bel))⟩
  · intro L vs a w' hJ hF hP hL
    have p17 : L 17 = true := hP ⟨17, .data⟩ (by simp) rfl
    have s17 : IsNat w' (vs 17) (x / 2 ^ n) := hJ.sp 17 p17
    have q92 := hF.slot 17 92 rfl p17
    have p18 : L 18 = true := hP ⟨18, .data⟩ (by simp) rfl
    have s18 : IsNat w' (vs 18) (x / 2 ^ n) := hJ.sp 18 p18
    have q93 := hF.slot 18 93 rfl p18
    refine run_call (f := 20) (args := #[vs 17, vs 18]) (hF.wants 163 HN HG _ 14 false false rfl rfl (hP ⟨14, .guard⟩ (by simp) rfl) (hJ.sp 14 (hP ⟨14, .guard⟩ (by simp) rfl))) (by simp [go_sem, q92, q93]) (eq_true _ _ (x / 2 ^ n) _ s17 s18 (M1.out.le (Nat.div_le_self _ _)).tx) ?_
    rintro e w2 ⟨rfl, hb⟩
    exact ⟨_, rfl, _, rfl, hJ.step hL rfl hb (by exact rfl)⟩
  · intro L vs a w' hJ hF hP hL
    have p19 : L 19 = true := hP ⟨19, .data⟩ (by simp) rfl
    have s19 : vs 19 = .bool true := hJ.sp 19 p19
    have q94 := hF.slot 19 94 rfl p19
    exact run_val (v := .bool false) (hF.wants 163 HN HG _ 14 false false rfl rfl (hP ⟨14, .guard⟩ (by simp) rfl) (hJ.sp 14 (hP ⟨14, .guard⟩ (by simp) rfl))) (by simp [execOp, go_sem, q94, s19]) ⟨_, rfl, hJ.step hL rfl (Below.refl _ _) (by exact rfl)⟩
  · intro L vs a w' hJ hF hP hL
    have p14 : L 14 = true := hP ⟨14, .data⟩ (by simp) rfl
    have s14 : vs 14 = .bool false := hJ.sp 14 p14
    have q89 := hF.slot 14 89 rfl p14
    have p20 : L 20 = true := hP ⟨20, .data⟩ (by simp) rfl
    have s20 : vs 20 = .bool false := hJ.sp 20 p20
    have q95 := hF.slot 20 95 rfl p20
    exact run_val (v := .bool false) rfl (by simp [execOp, go_sem, q89, s14, q95, s20]) ⟨_, rfl, hJ.step hL rfl (Below.refl _ _) (by exact rfl)⟩
  · intro L vs a w' hJ hF hP hL
    have p21 : L 21 = true := hP ⟨21, .data⟩ (by simp) rfl
    have s21 : vs 21 = .bool false := hJ.sp 21 p21
    have q96 := hF.slot 21 96 rfl p21
    exact run_val (v := .bool false) rfl (by simp [execOp, go_sem, q96, s21]) ⟨_, rfl, hJ.step hL rfl (Below.refl _ _) (by exact rfl)⟩
  · intro L vs a w' hJ hF hP hL
    have q8 : (a.tmps[8]?).getD undef = .pointer (some ⟨bl, 0, none⟩) := hF.old 8 rfl
    have cb := cell_later hJ.bel (Sd.out.cell (bl) (.slice al nl cl))
    exact run_val (v := .agg #[.slice al nl cl]) (hF.wants 163 HN HG _ 22 false false rfl rfl (hP ⟨22, .guard⟩ (by simp) rfl) (hJ.sp 22 (hP ⟨22, .guard⟩ (by simp) rfl))) (by simp [execOp, go_sem, q8, cb]) ⟨_, rfl, hJ.step hL rfl (Below.refl _ _) (by exact ((Sd.out.at (.agg #[.slice al nl cl]) (x * 2 ^ n)).mono hJ.bel))⟩
  · intro L vs a w' hJ hF hP hL
    have q1 : (a.tmps[1]?).getD undef = .int .i64 (n : Int) := hF.old 1 rfl
    exact run_val (v := .int .i64 (n : Int)) (hF.wants 163 HN HG _ 22 false false rfl rfl (hP ⟨22, .guard⟩ (by simp) rfl) (hJ.sp 22 (hP ⟨22, .guard⟩ (by simp) rfl))) (by simp [execOp, go_sem, q1]) ⟨_, rfl, hJ.step hL rfl (Below.refl _ _) (by exact rfl)⟩
  · intro L vs a w' hJ hF hP hL
    have p23 : L 23 = true := hP ⟨23, .data⟩ (by simp) rfl
    have s23 : IsNat w' (vs 23) (x * 2 ^ n) := hJ.sp 23 p23
    have q98 := hF.slot 23 98 rfl p23
    have p24 : L 24 = true := hP ⟨24, .data⟩ (by simp) rfl
    have s24 : vs 24 = .int .i64 (n : Int) := hJ.sp 24 p24
    have q99 := hF.slot 24 99 rfl p24
    refine run_call (f := 22) (args := #[vs 23, .int .i64 (n : Int)]) (hF.wants 163 HN HG _ 22 false false rfl rfl (hP ⟨22, .guard⟩ (by simp) rfl) (hJ.sp 22 (hP ⟨22, .guard⟩ (by simp) rfl))) (by simp [go_sem, q98, q99, s24]) (right_any _ (x * 2 ^ n) (n : Int) _ s23 ML.out.fits (by omega) (by omega)) ?_
    rintro e w2 ⟨v, rfl, hv, hb⟩
    rw [Int.toNat_natCast, Nat.mul_div_cancel _ (Nat.two_pow_pos n)] at hv
    exact ⟨_, rfl, _, rfl, hJ.step hL rfl hb (by exact hv)⟩
  · intro L vs a w' hJ hF hP hL
    have q5 : (a.tmps[5]?).getD undef = .pointer (some ⟨b, 0, none⟩) := hF.old 5 rfl
    have cb := cell_later hJ.bel (Sd.out.cell (b) (.slice ax nx cx))
    exact run_val (v := .agg #[.slice ax nx cx]) (hF.wants 163 HN HG _ 22 false false rfl rfl (hP ⟨22, .guard⟩ (by simp) rfl) (hJ.sp 22 (hP ⟨22, .guard⟩ (by simp) rfl))) (by simp [execOp, go_sem, q5, cb]) ⟨_, rfl, hJ.step hL rfl (Below.refl _ _) (by exact ((Sd.out.at (.agg #[.slice ax nx cx]) (x)).mono hJ.bel))⟩
  · intro L vs a w' hJ hF hP hL
    have p25 : L 25 = true := hP ⟨25, .data⟩ (by simp) rfl
    have s25 : IsNat w' (vs 25) (x) := hJ.sp 25 p25
    have q100 := hF.slot 25 100 rfl p25
    have p26 : L 26 = true := hP ⟨26, .data⟩ (by simp) rfl
    have s26 : IsNat w' (vs 26) (x) := hJ.sp 26 p26
    have q101 := hF.slot 26 101 rfl p26
    refine run_call (f := 20) (args := #[vs 25, vs 26]) (hF.wants 163 HN HG _ 22 false false rfl rfl (hP ⟨22, .guard⟩ (by simp) rfl) (hJ.sp 22 (hP ⟨22, .guard⟩ (by simp) rfl))) (by simp [go_sem, q100, q101]) (eq_true _ _ x _ s25 s26 M1.out.tx) ?_
    rintro e w2 ⟨rfl, hb⟩
    exact ⟨_, rfl, _, rfl, hJ.step hL rfl hb (by exact rfl)⟩
  · intro L vs a w' hJ hF hP hL
    have p27 : L 27 = true := hP ⟨27, .data⟩ (by simp) rfl
    have s27 : vs 27 = .bool true := hJ.sp 27 p27
    have q102 := hF.slot 27 102 rfl p27
    exact run_val (v := .bool false) (hF.wants 163 HN HG _ 22 false false rfl rfl (hP ⟨22, .guard⟩ (by simp) rfl) (hJ.sp 22 (hP ⟨22, .guard⟩ (by simp) rfl))) (by simp [execOp, go_sem, q102, s27]) ⟨_, rfl, hJ.step hL rfl (Below.refl _ _) (by exact rfl)⟩
  · intro L vs a w' hJ hF hP hL
    have p22 : L 22 = true := hP ⟨22, .data⟩ (by simp) rfl
    have s22 : vs 22 = .bool false := hJ.sp 22 p22
    have q97 := hF.slot 22 97 rfl p22
    have p28 : L 28 = true := hP ⟨28, .data⟩ (by simp) rfl
    have s28 : vs 28 = .bool false := hJ.sp 28 p28
    have q103 := hF.slot 28 103 rfl p28
    exact run_val (v := .bool false) rfl (by simp [execOp, go_sem, q97, s22, q103, s28]) ⟨_, rfl, hJ.step hL rfl (Below.refl _ _) (by exact rfl)⟩
  intro L vs w' hA hJ
  have s29 : vs 29 = .bool false := hJ.sp 29 (hA 29 (by simp))
  simp only [putL, Act.put, List.setIfInBounds_toArray, List.set_cons_zero, List.set_cons_succ, Nat.reduceAdd]
  simp only [s29]
  have T0 : Hid (St w w' [(.agg #[.slice ax nx cx], x)] [(b, .slice ax nx cx)]) := ⟨by simp; exact (Sd.out.go hJ.bel).at (.agg #[.slice ax nx cx]) x, by simp; exact (Sd.out.go hJ.bel).cell b (.slice ax nx cx), (Sd.out.go hJ.bel).bel⟩
  obtain ⟨wk6, hwk⟩ : ∃ wk6, wk6 = w' := ⟨_, rfl⟩
  rw [← hwk] at T0 ⊢
  clear hwk hJ hA s29 Sd ML FP MP c0 c1 c2 c3
  generalize vs = vs0
  have c0 := T0.out.cell b (.slice ax nx cx)
  go_wp2_with fail
  obtain ⟨wl, hwl⟩ : ∃ wl, wl = wk6.alloc (Obj.cells #[Value.slice none 0 0] 27) := ⟨_, rfl⟩
  have LS : Hid (Loop w wl b wk6.heap.size (.slice ax nx cx) x 0) := ⟨⟨.slice none 0 0, by rw [hwl]; exact World.rowIs_alloc wk6 #[Value.slice none 0 0] 27 (fun _ => .slice none 0 0) (fun i hi => by rw [show i = 0 by simpa using hi]; rfl), by rw [hwl, Nat.pow_zero, Nat.mod_one]; exact isNat_zero _⟩, by rw [hwl]; exact (T0.out.at (.agg #[.slice ax nx cx]) x).mono (bel_al (Below.refl _ _)), by rw [hwl]; exact cell_later (bel_al (Below.refl _ _)) c0, by rw [hwl]; exact bel_go T0.out.bel (bel_al (Below.refl _ _)), T0.out.bel.size, by have := World.block_lt_of_cell? _ _ c0; exact Nat.ne_of_lt this⟩
  rw [← hwl]
  obtain ⟨bs, hbs⟩ : ∃ bs, bs = wk6.heap.size := ⟨_, rfl⟩
  rw [← hbs] at LS ⊢
  clear hwl hbs T0 c0
  go_loopw [14] (fun t wr => ∃ i : Nat, i ≤ 200 ∧ i ≤ bitLen x ∧ t = .int .i64 (i : Int) ∧ Loop w wr b bs (.slice ax nx cx) x i) (fun t _ => 200 - (intOf t).toNat)
  case atStart => exact ⟨0, by omega, by omega, rfl, LS.out⟩
  case round =>
    clear LS
    obtain ⟨i, hi1, hi2, rfl, hI⟩ := hrel
    have hxl : bitLen x ≤ 64 * 75 := bitLen_P M1.out.lt
    obtain ⟨xl, hxx⟩ : ∃ xl, xl = bitLen x := ⟨_, rfl⟩
    have HXL : Hid (xl = bitLen x) := hxx
    rw [← hxx] at hi2 hxl
    clear hxx
    have c0 := hI.xcell
    have LI : Hid _ := hI
    clear hI
    go_wp2_with fail
    refine (len_any _ x _ LI.out.xnat M1.out.fits).mono ?_
    rintro e wm ⟨rfl, hbm⟩
    rw [← HXL.out]
    have LM : Hid _ := LI.out.go hbm
    clear hbm LI c0
    have c0 := LM.out.xcell
    by_cases hlt : i < xl
    · by_cases h200 : i < 200
      · have hd3 : decide (i < xl) = true := decide_eq_true hlt
        go_wp2_with fail
        refine (bit_any _ x (i : Int) _ LM.out.xnat M1.out.fits (by omega) (by omega)).mono ?_
        rintro e wn ⟨rfl, hbn⟩
        rw [decide_eq_true (show (0 : Int) ≤ (i : Int) by omega), Int.toNat_natCast, Bool.true_and]
        have LN : Hid _ := LM.out.go hbn
        clear hbn LM c0
        cases hbit : bitOf x i
        · have HB : Hid (bitOf x i = false) := hbit
          clear hbit
          go_wp2_with fail
          go_roundw
          case rel => exact ⟨i + 1, by omega, by rw [← HXL.out]; omega, by go_num, LN.out.zero HB.out⟩
          case measure => simp [intOf]; omega
        · have HB : Hid (bitOf x i = true) := hbit
          clear hbit
          go_wp2_with fail
          refine (of_any 1 _ (by omega)).mono ?_
          rintro e wo ⟨vo, rfl, hvo, hbo⟩
          have LO : Hid (Loop w wo b bs (.slice ax nx cx) x i ∧ IsNat wo vo 1) := ⟨LN.out.go hbo, hvo⟩
          clear hbo hvo LN
          go_wp2_with fail
          refine (left_yes _ 1 i _ LO.out.2 (tx_word (by omega)).fits (by omega)).mono ?_
          rintro e wp ⟨vp, rfl, hvp, hbp⟩
          rw [Nat.one_mul] at hvp
          obtain ⟨aS, nS, cS, rfl⟩ := hvp.isAgg
          have ba : Below wp.heap.size wp (wp.alloc (Obj.cells #[Value.slice aS nS cS] 27)) := bel_al (Below.refl _ _)
          have LP : Hid (Loop w (wp.alloc (Obj.cells #[Value.slice aS nS cS] 27)) b bs (.slice ax nx cx) x i ∧ IsNat (wp.alloc (Obj.cells #[Value.slice aS nS cS] 27)) (.agg #[.slice aS nS cS]) (2 ^ i)) := ⟨(LO.out.1.go hbp).go ba, hvp.mono ba⟩
          clear hbp hvp LO ba
          obtain ⟨us, hrow, hus⟩ := LP.out.1.sum
          obtain ⟨au, nu, cu, rfl⟩ := hus.cellOf
          have d0 := hrow.cell (i := 0) (by omega)
          have HS : Hid (IsNat (wp.alloc (Obj.cells #[Value.slice aS nS cS] 27)) (.agg #[.slice au nu cu]) (x % 2 ^ i)) := hus
          have f0 := hrow.frozen 0
          have hlbs : bs < (wp.alloc (Obj.cells #[Value.slice aS nS cS] 27)).heap.size := hrow.lt
          clear hrow hus
          go_wp2_with fail
          refine (add_any _ _ (x % 2 ^ i) (2 ^ i) _ HS.out LP.out.2 (M1.out.le (Nat.mod_le _ _)).fits (tx_of (pow_lt_P (n := i) (k := 8) (by omega)) (by omega)).fits).mono ?_
          rintro e wq ⟨vq, rfl, hvq, hbq⟩
          rw [mod_step_one HB.out] at hvq
          obtain ⟨aT, nT, cT, rfl⟩ := hvq.isAgg
          have d1 := cell_later hbq d0
          have f1 := (hbq.frozen hlbs).trans f0
          have LQ : Hid _ := (LP.out.1.go hbq).set hvq
          clear hbq hvq LP HS d0 f0 hlbs
          go_wp2_with fail
          go_roundw
          case rel => exact ⟨i + 1, by omega, by rw [← HXL.out]; omega, by go_num, LQ.out⟩
          case measure => simp [intOf]; omega
      · have hd3 : decide (i < xl) = true := decide_eq_true hlt
        obtain rfl : i = 200 := by omega
        go_wp2_with fail
        have t1 : (200 : Int) < (xl : Int) := by omega
        have t10 : (if (200 : Int) < (xl : Int) then (200 : Int) else (xl : Int)) = 200 := if_pos t1
        have SM : Hid (St w wm [(.agg #[.slice ax nx cx], x)] [(b, .slice ax nx cx)]) := ⟨by simp; exact LM.out.xnat, by simp; exact LM.out.xcell, LM.out.bel⟩
        refine wp_region_inv (JB wm [sNat (x), sNat (x), sEq (.int .i64 (xl : Int)), sEq (.int .i64 200), sNat (2 ^ 200), sQR (x / 2 ^ 200) (x % 2 ^ 200) true, sQR (x / 2 ^ 200) (x % 2 ^ 200) true, sNat (x / 2 ^ 200), sNat (x % 2 ^ 200), sEq (.bool true), sAny, sAny, sAny, sAny, sEq (.bool true)] [(10, 12, 7), (11, 13, 8)]) 163 (by kernel_rfl) rfl (by kernel_rfl) (JB.start _ _ _) (fun HG HN => ⟨?_, ?_, ?_, ?_, ?_, ?_, ?_, ?_, ?_, ?_, ?_, ?_, ?_, ?_, ?_, trivial⟩) ?_
        · intro L vs a w' hJ hF hP hL
          have q5 : (a.tmps[5]?).getD undef = .pointer (some ⟨b, 0, none⟩) := hF.old 5 rfl
          have cb := cell_later hJ.bel (SM.out.cell (b) (.slice ax nx cx))
          exact run_val (v := .agg #[.slice ax nx cx]) rfl (by simp [execOp, go_sem, q5, cb]) ⟨_, rfl, hJ.step hL rfl (Below.refl _ _) (by exact ((SM.out.at (.agg #[.slice ax nx cx]) (x)).mono hJ.bel))⟩
        · intro L vs a w' hJ hF hP hL
          have q5 : (a.tmps[5]?).getD undef = .pointer (some ⟨b, 0, none⟩) := hF.old 5 rfl
          have cb := cell_later hJ.bel (SM.out.cell (b) (.slice ax nx cx))
          exact run_val (v := .agg #[.slice ax nx cx]) rfl (by simp [execOp, go_sem, q5, cb]) ⟨_, rfl, hJ.step hL rfl (Below.refl _ _) (by exact ((SM.out.at (.agg #[.slice ax nx cx]) (x)).mono hJ.bel))⟩
        · intro L vs a w' hJ hF hP hL
          have p1 : L 1 = true := hP ⟨1, .data⟩ (by simp) rfl
          have s1 : IsNat w' (vs 1) (x) := hJ.sp 1 p1
          have q130 := hF.slot 1 130 rfl p1
          refine run_call (f := 17) (args := #[vs 1]) rfl (by simp [go_sem, q130]) (len_any _ x _ s1 M1.out.fits) ?_
          rintro e w2 ⟨rfl, hb⟩
          rw [← HXL.out]
          exact ⟨_, rfl, _, rfl, hJ.step hL rfl hb (by exact rfl)⟩
        · intro L vs a w' hJ hF hP hL
          have p2 : L 2 = true := hP ⟨2, .data⟩ (by simp) rfl
          have s2 : vs 2 = .int .i64 (xl : Int) := hJ.sp 2 p2
          have q131 := hF.slot 2 131 rfl p2
          exact run_val (v := .int .i64 200) rfl (by simp [go_sem, q131, s2, t10]) ⟨_, rfl, hJ.step hL rfl (Below.refl _ _) (by exact rfl)⟩
        · intro L vs a w' hJ hF hP hL
          have p3 : L 3 = true := hP ⟨3, .data⟩ (by simp) rfl
          have s3 : vs 3 = .int .i64 200 := hJ.sp 3 p3
          have q132 := hF.slot 3 132 rfl p3
          refine run_call (f := 24) (args := #[.int .i64 200]) rfl (by simp [go_sem, q132, s3]) (pow_any' 200 _ _ (by omega) (by omega)) ?_
          rintro e w2 ⟨v, rfl, hv, hb⟩
          exact ⟨_, rfl, _, rfl, hJ.step hL rfl hb (by exact hv)⟩
        · intro L vs a w' hJ hF hP hL
          have p0 : L 0 = true := hP ⟨0, .data⟩ (by simp) rfl
          have s0 : IsNat w' (vs 0) (x) := hJ.sp 0 p0
          have q129 := hF.slot 0 129 rfl p0
          have p4 : L 4 = true := hP ⟨4, .data⟩ (by simp) rfl
          have s4 : IsNat w' (vs 4) (2 ^ 200) := hJ.sp 4 p4
          have q133 := hF.slot 4 133 rfl p4
          refine run_call (f := 19) (args := #[vs 0, vs 4]) rfl (by simp [go_sem, q129, q133]) (divMod_any _ _ x (2 ^ 200) _ s0 s4 M1.out.small (tx_of (pow_lt_P (n := 200) (k := 8) (by omega)) (by omega)).small (Nat.two_pow_pos _) (.inl (.inl (Nat.lt_trans (pow_lt_P (n := 200) (k := 8) (by omega)) (P_lt (by omega)))))) ?_
          rintro e w2 ⟨v1, v2, rfl, h1, h2, hb⟩
          exact ⟨_, rfl, _, rfl, hJ.step hL rfl hb (by exact ⟨v1, v2, rfl, h1, h2⟩)⟩
        · intro L vs a w' hJ hF hP hL
          have p5 : L 5 = true := hP ⟨5, .data⟩ (by simp) rfl
          have s5 : ∃ p q, vs 5 = .tuple #[p, q, .bool true] ∧ IsNat w' p (x / 2 ^ 200) ∧ IsNat w' q (x % 2 ^ 200) := hJ.sp 5 p5
          have q134 := hF.slot 5 134 rfl p5
          exact run_val (v := vs 5) rfl (by simp [execOp, go_sem, q134]) ⟨_, rfl, hJ.step hL rfl (Below.refl _ _) (by exact s5)⟩
        · intro L vs a w' hJ hF hP hL
          have p6 : L 6 = true := hP ⟨6, .data⟩ (by simp) rfl
          have s6 : ∃ p q, vs 6 = .tuple #[p, q, .bool true] ∧ IsNat w' p (x / 2 ^ 200) ∧ IsNat w' q (x % 2 ^ 200) := hJ.sp 6 p6
          have q128 := hF.slot 6 128 rfl p6
          obtain ⟨vp, vq, e1, e2, e3⟩ := s6
          exact run_val (v := vp) rfl (by simp [execOp, go_sem, q128, e1]) ⟨_, rfl, hJ.step hL rfl (Below.refl _ _) (by exact e2)⟩
        · intro L vs a w' hJ hF hP hL
          have p6 : L 6 = true := hP ⟨6, .data⟩ (by simp) rfl
          have s6 : ∃ p q, vs 6 = .tuple #[p, q, .bool true] ∧ IsNat w' p (x / 2 ^ 200) ∧ IsNat w' q (x % 2 ^ 200) := hJ.sp 6 p6
          have q128 := hF.slot 6 128 rfl p6
          obtain ⟨vp, vq, e1, e2, e3⟩ := s6
          exact run_val (v := vq) rfl (by simp [execOp, go_sem, q128, e1]) ⟨_, rfl, hJ.step hL rfl (Below.refl _ _) (by exact e3)⟩
        · intro L vs a w' hJ hF hP hL
          have p6 : L 6 = true := hP ⟨6, .data⟩ (by simp) rfl
          have s6 : ∃ p q, vs 6 = .tuple #[p, q, .bool true] ∧ IsNat w' p (x / 2 ^ 200) ∧ IsNat w' q (x % 2 ^ 200) := hJ.sp 6 p6
          have q128 := hF.slot 6 128 rfl p6
          obtain ⟨vp, vq, e1, e2, e3⟩ := s6
          exact run_val (v := .bool true) rfl (by simp [execOp, go_sem, q128, e1]) ⟨_, rfl, hJ.step hL rfl (Below.refl _ _) (by exact rfl)⟩
        · intro L vs a w' hJ hF hP hL
          exact run_val (v := .pointer (some ⟨w'.heap.size, 0, none⟩)) (w' := w'.alloc (.cells #[.slice none 0 0] 27)) rfl (by simp [execOp, go_sem]) ⟨_, rfl, hJ.alloc hL rfl rfl _⟩
        · intro L vs a w' hJ hF hP hL
          exact run_val (v := .pointer (some ⟨w'.heap.size, 0, none⟩)) (w' := w'.alloc (.cells #[.slice none 0 0] 27)) rfl (by simp [execOp, go_sem]) ⟨_, rfl, hJ.alloc hL rfl rfl _⟩
        · intro L vs a w' hJ hF hP hL
          have p10 : L 10 = true := hP ⟨10, .data⟩ (by simp) rfl
          have q17 := hF.slot 10 17 rfl p10
          have p7 : L 7 = true := hP ⟨7, .data⟩ (by simp) rfl
          have s7 : IsNat w' (vs 7) (x / 2 ^ 200) := hJ.sp 7 p7
          have q135 := hF.slot 7 135 rfl p7
          obtain ⟨bk, e1, e2, e3, e4, e5, e6⟩ := hJ.bx (10, 12, 7) (by simp) p10
          have e7 := e5 hL
          obtain ⟨aa, nn, cc, e8⟩ := s7.isAgg
          exact run_unit (w' := w'.setCell ⟨bk, 0, none⟩ (.slice aa nn cc)) rfl (by simp [execOp, go_sem, q17, q135, e1, e8, e7, e4]) ⟨undef, rfl, hJ.store (b := (10, 12, 7)) (by simp) hL p10 p7 (by decide) rfl e1 e8⟩
        · intro L vs a w' hJ hF hP hL
          have p11 : L 11 = true := hP ⟨11, .data⟩ (by simp) rfl
          have q18 := hF.slot 11 18 rfl p11
          have p8 : L 8 = true := hP ⟨8, .data⟩ (by simp) rfl
          have s8 : IsNat w' (vs 8) (x % 2 ^ 200) := hJ.sp 8 p8
          have q136 := hF.slot 8 136 rfl p8
          obtain ⟨bk, e1, e2, e3, e4, e5, e6⟩ := hJ.bx (11, 13, 8) (by simp) p11
          have e7 := e5 hL
          obtain ⟨aa, nn, cc, e8⟩ := s8.isAgg
          exact run_unit (w' := w'.setCell ⟨bk, 0, none⟩ (.slice aa nn cc)) rfl (by simp [execOp, go_sem, q18, q136, e1, e8, e7, e4]) ⟨undef, rfl, hJ.store (b := (11, 13, 8)) (by simp) hL p11 p8 (by decide) rfl e1 e8⟩
        · intro L vs a w' hJ hF hP hL
          have p9 : L 9 = true := hP ⟨9, .data⟩ (by simp) rfl
          have s9 : vs 9 = .bool true := hJ.sp 9 p9
          have q137 := hF.slot 9 137 rfl p9
          exact run_val (v := .bool true) rfl (by simp [execOp, go_sem, q137, s9]) ⟨_, rfl, hJ.step hL rfl (Below.refl _ _) (by exact rfl)⟩
        intro L vs w' hA hJ
        have s8 : IsNat w' (vs 8) (x % 2 ^ 200) := hJ.sp 8 (hA 8 (by simp))
        obtain ⟨bk10, eb10, ge10, lt10, fz10, _, e6⟩ := hJ.bx (10, 12, 7) (by simp) (hA 10 (by simp))
        obtain ⟨_, u10, eu10, ce10⟩ := e6 (hA 12 (by simp))
        clear e6
        obtain ⟨bk11, eb11, ge11, lt11, fz11, _, e6⟩ := hJ.bx (11, 13, 8) (by simp) (hA 11 (by simp))
        obtain ⟨_, u11, eu11, ce11⟩ := e6 (hA 13 (by simp))
        clear e6
        have LX : Hid _ := LM.out.go hJ.bel
        simp only [putL, Act.put, List.setIfInBounds_toArray, List.set_cons_zero, List.set_cons_succ, Nat.reduceAdd]
        simp only [eb10, eb11]
        obtain ⟨a9, n9, c9, e9⟩ := s8.isAgg
        have eu : u11 = .slice a9 n9 c9 := by
          have := eu11.symm.trans e9
          injection this with h1
          simpa using h1
        rw [eu] at ce11
        rw [e9] at s8
        obtain ⟨us, hrow, hus⟩ := LX.out.sum
        obtain ⟨au, nu, cu, rfl⟩ := hus.cellOf
        have SX : Hid (St w w' [(.agg #[.slice au nu cu], x % 2 ^ 200), (.agg #[.slice a9 n9 c9], x % 2 ^ 200), (.agg #[.slice ax nx cx], x)] [(bs, .slice au nu cu), (bk11, .slice a9 n9 c9), (b, .slice ax nx cx)]) := ⟨by simp; exact ⟨hus, s8, LX.out.xnat⟩, by simp; exact ⟨hrow.cell (i := 0) (by omega), ce11, LX.out.xcell⟩, LX.out.bel⟩
        generalize vs = vs1
        clear hJ hA s8 eb10 ge10 lt10 fz10 eu10 ce10 eb11 ge11 lt11 fz11 eu11 ce11 e9 eu LX LM SM hrow hus c0 t10
        go_wp2_with fail
        have hx1 : ((xl : Int) == 0) = false := beq_eq_false_iff_ne.2 (by omega)
        have hwr : IntKind.i64.wrap ((xl : Int) - 1) = (xl : Int) - 1 := by rw [IntKind.wrap_i64]; omega
        have HTOP : Hid (bitOf x (xl - 1) = true) := by
          rw [HXL.out]
          refine bitOf_top ?_
          rcases Nat.eq_zero_or_pos x with e | e
          · exfalso
            have h1 := HXL.out
            rw [e, bitLen_zero] at h1
            omega
          · exact e
        refine wp_region_inv (JB w' [sNat (x % 2 ^ 200), sNat (x % 2 ^ 200), sEq (.bool true), sEq (.bool true), sNat (x), sNat (x), sEq (.int .i64 (xl : Int)), sEq (.bool false), sEq (.bool true), sEq (.bool true), sEq (.bool true), sNat (x), sEq (.int .i64 (xl : Int)), sEq (.bool false), sEq (.bool false), sNat (x), sNat (x), sEq (.int .i64 (xl : Int)), sEq (.int .i64 ((xl : Int) - 1)), sEq (.bool true), sEq (.bool true), sEq (.bool true), sEq (.bool true), sEq (.bool true), sEq (.bool true), sEq (.bool true)] []) 163 (by kernel_rfl) rfl (by kernel_rfl) (JB.start _ _ _) (fun HG HN => ⟨?_, ?_, ?_, ?_, ?_, ?_, ?_, ?_, ?_, ?_, ?_, ?_, ?_, ?_, ?_, ?_, ?_, ?_, ?_, ?_, ?_, ?_, ?_, ?_, ?_, ?_, trivial⟩) ?_
        · intro L vs a w9 hJ hF hP hL
          have q13 : (a.tmps[13]?).getD undef = .pointer (some ⟨bs, 0, none⟩) := hF.old 13 rfl
          have cb := cell_later hJ.bel (SX.out.cell (bs) (.slice au nu cu))
          exact run_val (v := .agg #[.slice au nu cu]) rfl (by simp [execOp, go_sem, q13, cb]) ⟨_, rfl, hJ.step hL rfl (Below.refl _ _) (by exact ((SX.out.at (.agg #[.slice au nu cu]) (x % 2 ^ 200)).mono hJ.bel))⟩
        · intro L vs a w9 hJ hF hP hL
          have q18 : (a.tmps[18]?).getD undef = .pointer (some ⟨bk11, 0, none⟩) := hF.old 18 rfl
          have cb := cell_later hJ.bel (SX.out.cell (bk11) (.slice a9 n9 c9))
          exact run_val (v := .agg #[.slice a9 n9 c9]) rfl (by simp [execOp, go_sem, q18, cb]) ⟨_, rfl, hJ.step hL rfl (Below.refl _ _) (by exact ((SX.out.at (.agg #[.slice a9 n9 c9]) (x % 2 ^ 200)).mono hJ.bel))⟩
        · intro L vs a w9 hJ hF hP hL
          have p0 : L 0 = true := hP ⟨0, .data⟩ (by simp) rfl
          have s0 : IsNat w9 (vs 0) (x % 2 ^ 200) := hJ.sp 0 p0
          have q138 := hF.slot 0 138 rfl p0
          have p1 : L 1 = true := hP ⟨1, .data⟩ (by simp) rfl
          have s1 : IsNat w9 (vs 1) (x % 2 ^ 200) := hJ.sp 1 p1
          have q139 := hF.slot 1 139 rfl p1
          refine run_call (f := 20) (args := #[vs 0, vs 1]) rfl (by simp [go_sem, q138, q139]) (eq_true _ _ (x % 2 ^ 200) _ s0 s1 (M1.out.le (Nat.mod_le _ _)).tx) ?_
          rintro e w2 ⟨rfl, hb⟩
          exact ⟨_, rfl, _, rfl, hJ.step hL rfl hb (by exact rfl)⟩
        · intro L vs a w9 hJ hF hP hL
          have p2 : L 2 = true := hP ⟨2, .data⟩ (by simp) rfl
          have s2 : vs 2 = .bool true := hJ.sp 2 p2
          have q140 := hF.slot 2 140 rfl p2
          exact run_val (v := .bool true) rfl (by simp [execOp, go_sem, q140, s2]) ⟨_, rfl, hJ.step hL rfl (Below.refl _ _) (by exact rfl)⟩
        · intro L vs a w9 hJ hF hP hL
          have q5 : (a.tmps[5]?).getD undef = .pointer (some ⟨b, 0, none⟩) := hF.old 5 rfl
          have cb := cell_later hJ.bel (SX.out.cell (b) (.slice ax nx cx))
          exact run_val (v := .agg #[.slice ax nx cx]) (hF.wants 163 HN HG _ 3 true true rfl rfl (hP ⟨3, .guard⟩ (by simp) rfl) (hJ.sp 3 (hP ⟨3, .guard⟩ (by simp) rfl))) (by simp [execOp, go_sem, q5, cb]) ⟨_, rfl, hJ.step hL rfl (Below.refl _ _) (by exact ((SX.out.at (.agg #[.slice ax nx cx]) (x)).mono hJ.bel))⟩
        · intro L vs a w9 hJ hF hP hL
          have q5 : (a.tmps[5]?).getD undef = .pointer (some ⟨b, 0, none⟩) := hF.old 5 rfl
          have cb := cell_later hJ.bel (SX.out.cell (b) (.slice ax nx cx))
          exact run_val (v := .agg #[.slice ax nx cx]) (hF.wants 163 HN HG _ 3 true true rfl rfl (hP ⟨3, .guard⟩ (by simp) rfl) (hJ.sp 3 (hP ⟨3, .guard⟩ (by simp) rfl))) (by simp [execOp, go_sem, q5, cb]) ⟨_, rfl, hJ.step hL rfl (Below.refl _ _) (by exact ((SX.out.at (.agg #[.slice ax nx cx]) (x)).mono hJ.bel))⟩
        · intro L vs a w9 hJ hF hP hL
          have p5 : L 5 = true := hP ⟨5, .data⟩ (by simp) rfl
          have s5 : IsNat w9 (vs 5) (x) := hJ.sp 5 p5
          have q143 := hF.slot 5 143 rfl p5
          refine run_call (f := 17) (args := #[vs 5]) (hF.wants 163 HN HG _ 3 true true rfl rfl (hP ⟨3, .guard⟩ (by simp) rfl) (hJ.sp 3 (hP ⟨3, .guard⟩ (by simp) rfl))) (by simp [go_sem, q143]) (len_any _ x _ s5 M1.out.fits) ?_
          rintro e w2 ⟨rfl, hb⟩
          rw [← HXL.out]
          exact ⟨_, rfl, _, rfl, hJ.step hL rfl hb (by exact rfl)⟩
        · intro L vs a w9 hJ hF hP hL
          have p4 : L 4 = true := hP ⟨4, .data⟩ (by simp) rfl
          have s4 : IsNat w9 (vs 4) (x) := hJ.sp 4 p4
          have q142 := hF.slot 4 142 rfl p4
          have p6 : L 6 = true := hP ⟨6, .data⟩ (by simp) rfl
          have s6 : vs 6 = .int .i64 (xl : Int) := hJ.sp 6 p6
          have q144 := hF.slot 6 144 rfl p6
          refine run_call (f := 18) (args := #[vs 4, .int .i64 (xl : Int)]) (hF.wants 163 HN HG _ 3 true true rfl rfl (hP ⟨3, .guard⟩ (by simp) rfl) (hJ.sp 3 (hP ⟨3, .guard⟩ (by simp) rfl))) (by simp [go_sem, q142, q144, s6]) (bit_any _ x (xl : Int) _ s4 M1.out.fits (by omega) (by omega)) ?_
          rintro e w2 ⟨rfl, hb⟩
          exact ⟨_, rfl, _, rfl, hJ.step hL rfl hb (by exact (congrArg Value.bool (by rw [Int.toNat_natCast, HXL.out, bitOf_len, Bool.and_false])))⟩
        · intro L vs a w9 hJ hF hP hL
          have p7 : L 7 = true := hP ⟨7, .data⟩ (by simp) rfl
          have s7 : vs 7 = .bool false := hJ.sp 7 p7
          have q145 := hF.slot 7 145 rfl p7
          exact run_val (v := .bool true) (hF.wants 163 HN HG _ 3 true true rfl rfl (hP ⟨3, .guard⟩ (by simp) rfl) (hJ.sp 3 (hP ⟨3, .guard⟩ (by simp) rfl))) (by simp [execOp, go_sem, q145, s7]) ⟨_, rfl, hJ.step hL rfl (Below.refl _ _) (by exact rfl)⟩
        · intro L vs a w9 hJ hF hP hL
          have p3 : L 3 = true := hP ⟨3, .data⟩ (by simp) rfl
          have s3 : vs 3 = .bool true := hJ.sp 3 p3
          have q141 := hF.slot 3 141 rfl p3
          have p8 : L 8 = true := hP ⟨8, .data⟩ (by simp) rfl
          have s8 : vs 8 = .bool true := hJ.sp 8 p8
          have q146 := hF.slot 8 146 rfl p8
          exact run_val (v := .bool true) rfl (by simp [execOp, go_sem, q141, s3, q146, s8]) ⟨_, rfl, hJ.step hL rfl (Below.refl _ _) (by exact rfl)⟩
        · intro L vs a w9 hJ hF hP hL
          have p9 : L 9 = true := hP ⟨9, .data⟩ (by simp) rfl
          have s9 : vs 9 = .bool true := hJ.sp 9 p9
          have q147 := hF.slot 9 147 rfl p9
          exact run_val (v := .bool true) rfl (by simp [execOp, go_sem, q147, s9]) ⟨_, rfl, hJ.step hL rfl (Below.refl _ _) (by exact rfl)⟩
        · intro L vs a w9 hJ hF hP hL
          have q5 : (a.tmps[5]?).getD undef = .pointer (some ⟨b, 0, none⟩) := hF.old 5 rfl
          have cb := cell_later hJ.bel (SX.out.cell (b) (.slice ax nx cx))
          exact run_val (v := .agg #[.slice ax nx cx]) (hF.wants 163 HN HG _ 10 true true rfl rfl (hP ⟨10, .guard⟩ (by simp) rfl) (hJ.sp 10 (hP ⟨10, .guard⟩ (by simp) rfl))) (by simp [execOp, go_sem, q5, cb]) ⟨_, rfl, hJ.step hL rfl (Below.refl _ _) (by exact ((SX.out.at (.agg #[.slice ax nx cx]) (x)).mono hJ.bel))⟩
        · intro L vs a w9 hJ hF hP hL
          have p11 : L 11 = true := hP ⟨11, .data⟩ (by simp) rfl
          have s11 : IsNat w9 (vs 11) (x) := hJ.sp 11 p11
          have q149 := hF.slot 11 149 rfl p11
          refine run_call (f := 17) (args := #[vs 11]) (hF.wants 163 HN HG _ 10 true true rfl rfl (hP ⟨10, .guard⟩ (by simp) rfl) (hJ.sp 10 (hP ⟨10, .guard⟩ (by simp) rfl))) (by simp [go_sem, q149]) (len_any _ x _ s11 M1.out.fits) ?_
          rintro e w2 ⟨rfl, hb⟩
          rw [← HXL.out]
          exact ⟨_, rfl, _, rfl, hJ.step hL rfl hb (by exact rfl)⟩
        · intro L vs a w9 hJ hF hP hL
          have p12 : L 12 = true := hP ⟨12, .data⟩ (by simp) rfl
          have s12 : vs 12 = .int .i64 (xl : Int) := hJ.sp 12 p12
          have q150 := hF.slot 12 150 rfl p12
          exact run_val (v := .bool false) (hF.wants 163 HN HG _ 10 true true rfl rfl (hP ⟨10, .guard⟩ (by simp) rfl) (hJ.sp 10 (hP ⟨10, .guard⟩ (by simp) rfl))) (by simp [execOp, go_sem, q150, s12, hx1]) ⟨_, rfl, hJ.step hL rfl (Below.refl _ _) (by exact rfl)⟩
        · intro L vs a w9 hJ hF hP hL
          have p13 : L 13 = true := hP ⟨13, .data⟩ (by simp) rfl
          have s13 : vs 13 = .bool false := hJ.sp 13 p13
          have q151 := hF.slot 13 151 rfl p13
          exact run_val (v := .bool false) (hF.wants 163 HN HG _ 10 true true rfl rfl (hP ⟨10, .guard⟩ (by simp) rfl) (hJ.sp 10 (hP ⟨10, .guard⟩ (by simp) rfl))) (by simp [execOp, go_sem, q151, s13]) ⟨_, rfl, hJ.step hL rfl (Below.refl _ _) (by exact rfl)⟩
        · intro L vs a w9 hJ hF hP hL
          have q5 : (a.tmps[5]?).getD undef = .pointer (some ⟨b, 0, none⟩) := hF.old 5 rfl
          have cb := cell_later hJ.bel (SX.out.cell (b) (.slice ax nx cx))
          exact run_val (v := .agg #[.slice ax nx cx]) (hF.wants 163 HN HG _ 14 false false rfl rfl (hP ⟨14, .guard⟩ (by simp) rfl) (hJ.sp 14 (hP ⟨14, .guard⟩ (by simp) rfl))) (by simp [execOp, go_sem, q5, cb]) ⟨_, rfl, hJ.step hL rfl (Below.refl _ _) (by exact ((SX.out.at (.agg #[.slice ax nx cx]) (x)).mono hJ.bel))⟩
        · intro L vs a w9 hJ hF hP hL
          have q5 : (a.tmps[5]?).getD undef = .pointer (some ⟨b, 0, none⟩) := hF.old 5 rfl
          have cb := cell_later hJ.bel (SX.out.cell (b) (.slice ax nx cx))
          exact run_val (v := .agg #[.slice ax nx cx]) (hF.wants 163 HN HG _ 14 false false rfl rfl (hP ⟨14, .guard⟩ (by simp) rfl) (hJ.sp 14 (hP ⟨14, .guard⟩ (by simp) rfl))) (by simp [execOp, go_sem, q5, cb]) ⟨_, rfl, hJ.step hL rfl (Below.refl _ _) (by exact ((SX.out.at (.agg #[.slice ax nx cx]) (x)).mono hJ.bel))⟩
        · intro L vs a w9 hJ hF hP hL
          have p16 : L 16 = true := hP ⟨16, .data⟩ (by simp) rfl
          have s16 : IsNat w9 (vs 16) (x) := hJ.sp 16 p16
          have q154 := hF.slot 16 154 rfl p16
          refine run_call (f := 17) (args := #[vs 16]) (hF.wants 163 HN HG _ 14 false false rfl rfl (hP ⟨14, .guard⟩ (by simp) rfl) (hJ.sp 14 (hP ⟨14, .guard⟩ (by simp) rfl))) (by simp [go_sem, q154]) (len_any _ x _ s16 M1.out.fits) ?_
          rintro e w2 ⟨rfl, hb⟩
          rw [← HXL.out]
          exact ⟨_, rfl, _, rfl, hJ.step hL rfl hb (by exact rfl)⟩
        · intro L vs a w9 hJ hF hP hL
          have p17 : L 17 = true := hP ⟨17, .data⟩ (by simp) rfl
          have s17 : vs 17 = .int .i64 (xl : Int) := hJ.sp 17 p17
          have q155 := hF.slot 17 155 rfl p17
          exact run_val (v := .int .i64 ((xl : Int) - 1)) (hF.wants 163 HN HG _ 14 false false rfl rfl (hP ⟨14, .guard⟩ (by simp) rfl) (hJ.sp 14 (hP ⟨14, .guard⟩ (by simp) rfl))) (by simp [execOp, go_sem, q155, s17, hwr]) ⟨_, rfl, hJ.step hL rfl (Below.refl _ _) (by exact rfl)⟩
        · intro L vs a w9 hJ hF hP hL
          have p15 : L 15 = true := hP ⟨15, .data⟩ (by simp) rfl
          have s15 : IsNat w9 (vs 15) (x) := hJ.sp 15 p15
          have q153 := hF.slot 15 153 rfl p15
          have p18 : L 18 = true := hP ⟨18, .data⟩ (by simp) rfl
          have s18 : vs 18 = .int .i64 ((xl : Int) - 1) := hJ.sp 18 p18
          have q156 := hF.slot 18 156 rfl p18
          refine run_call (f := 18) (args := #[vs 15, .int .i64 ((xl : Int) - 1)]) (hF.wants 163 HN HG _ 14 false false rfl rfl (hP ⟨14, .guard⟩ (by simp) rfl) (hJ.sp 14 (hP ⟨14, .guard⟩ (by simp) rfl))) (by simp [go_sem, q153, q156, s18]) (bit_any _ x ((xl : Int) - 1) _ s15 M1.out.fits (by omega) (by omega)) ?_
          rintro e w2 ⟨rfl, hb⟩
          rw [decide_eq_true (show (0 : Int) ≤ (xl : Int) - 1 by omega), show ((xl : Int) - 1).toNat = xl - 1 by omega, HTOP.out, Bool.and_self]
          exact ⟨_, rfl, _, rfl, hJ.step hL rfl hb (by exact rfl)⟩
        · intro L vs a w9 hJ hF hP hL
          have p14 : L 14 = true := hP ⟨14, .data⟩ (by simp) rfl
          have s14 : vs 14 = .bool false := hJ.sp 14 p14
          have q152 := hF.slot 14 152 rfl p14
          have p19 : L 19 = true := hP ⟨19, .data⟩ (by simp) rfl
          have s19 : vs 19 = .bool true := hJ.sp 19 p19
          have q157 := hF.slot 19 157 rfl p19
          exact run_val (v := .bool true) (hF.wants 163 HN HG _ 10 true true rfl rfl (hP ⟨10, .guard⟩ (by simp) rfl) (hJ.sp 10 (hP ⟨10, .guard⟩ (by simp) rfl))) (by simp [execOp, go_sem, q152, s14, q157, s19]) ⟨_, rfl, hJ.step hL rfl (Below.refl _ _) (by exact rfl)⟩
        · intro L vs a w9 hJ hF hP hL
          have p10 : L 10 = true := hP ⟨10, .data⟩ (by simp) rfl
          have s10 : vs 10 = .bool true := hJ.sp 10 p10
          have q148 := hF.slot 10 148 rfl p10
          have p20 : L 20 = true := hP ⟨20, .data⟩ (by simp) rfl
          have s20 : vs 20 = .bool true := hJ.sp 20 p20
          have q158 := hF.slot 20 158 rfl p20
          exact run_val (v := .bool true) rfl (by simp [execOp, go_sem, q148, s10, q158, s20]) ⟨_, rfl, hJ.step hL rfl (Below.refl _ _) (by exact rfl)⟩
        · intro L vs a w9 hJ hF hP hL
          have p21 : L 21 = true := hP ⟨21, .data⟩ (by simp) rfl
          have s21 : vs 21 = .bool true := hJ.sp 21 p21
          have q159 := hF.slot 21 159 rfl p21
          exact run_val (v := .bool true) rfl (by simp [execOp, go_sem, q159, s21]) ⟨_, rfl, hJ.step hL rfl (Below.refl _ _) (by exact rfl)⟩
        · intro L vs a w9 hJ hF hP hL
          refine run_call (f := 15) (args := #[]) (hF.wants 163 HN HG _ 22 true true rfl rfl (hP ⟨22, .guard⟩ (by simp) rfl) (hJ.sp 22 (hP ⟨22, .guard⟩ (by simp) rfl))) (by simp [go_sem]) (started_true _) ?_
          rintro e w2 ⟨rfl, hb⟩
          exact ⟨_, rfl, _, rfl, hJ.step hL rfl hb (by exact rfl)⟩
        · intro L vs a w9 hJ hF hP hL
          have p22 : L 22 = true := hP ⟨22, .data⟩ (by simp) rfl
          have s22 : vs 22 = .bool true := hJ.sp 22 p22
          have q160 := hF.slot 22 160 rfl p22
          have p23 : L 23 = true := hP ⟨23, .data⟩ (by simp) rfl
          have s23 : vs 23 = .bool true := hJ.sp 23 p23
          have q161 := hF.slot 23 161 rfl p23
          exact run_val (v := .bool true) rfl (by simp [execOp, go_sem, q160, s22, q161, s23]) ⟨_, rfl, hJ.step hL rfl (Below.refl _ _) (by exact rfl)⟩
        · intro L vs a w9 hJ hF hP hL
          have p24 : L 24 = true := hP ⟨24, .data⟩ (by simp) rfl
          have s24 : vs 24 = .bool true := hJ.sp 24 p24
          have q162 := hF.slot 24 162 rfl p24
          exact run_val (v := .bool true) rfl (by simp [execOp, go_sem, q162, s24]) ⟨_, rfl, hJ.step hL rfl (Below.refl _ _) (by exact rfl)⟩
        intro L vs w9 hA hJ
        have s25 : vs 25 = .bool true := hJ.sp 25 (hA 25 (by simp))
        simp only [putL, Act.put, List.setIfInBounds_toArray, List.set_cons_zero, List.set_cons_succ, Nat.reduceAdd]
        simp only [s25]
        go_wp2_with fail
        go_ret
        exact ⟨rfl, (SX.out.go hJ.bel).bel⟩
    · have hd3 : decide (i < xl) = false := decide_eq_false hlt
      obtain rfl : i = xl := by omega
      go_wp2_with fail
      rcases Nat.eq_zero_or_pos i with hi0 | hi0
      · have t10 : (if (200 : Int) < (i : Int) then (200 : Int) else (i : Int)) = (i : Int) := if_neg (by omega)
        have SM : Hid (St w wm [(.agg #[.slice ax nx cx], x)] [(b, .slice ax nx cx)]) := ⟨by simp; exact LM.out.xnat, by simp; exact LM.out.xcell, LM.out.bel⟩
        refine wp_region_inv (JB wm [sNat (x), sNat (x), sEq (.int .i64 (i : Int)), sEq (.int .i64 (i : Int)), sNat (2 ^ i), sQR (x / 2 ^ i) (x % 2 ^ i) true, sQR (x / 2 ^ i) (x % 2 ^ i) true, sNat (x / 2 ^ i), sNat (x % 2 ^ i), sEq (.bool true), sAny, sAny, sAny, sAny, sEq (.bool true)] [(10, 12, 7), (11, 13, 8)]) 163 (by kernel_rfl) rfl (by kernel_rfl) (JB.start _ _ _) (fun HG HN => ⟨?_, ?_, ?_, ?_, ?_, ?_, ?_, ?_, ?_, ?_, ?_, ?_, ?_, ?_, ?_, trivial⟩) ?_
        · intro L vs a w' hJ hF hP hL
          have q5 : (a.tmps[5]?).getD undef = .pointer (some ⟨b, 0, none⟩) := hF.old 5 rfl
          have cb := cell_later hJ.bel (SM.out.cell (b) (.slice ax nx cx))
          exact run_val (v := .agg #[.slice ax nx cx]) rfl (by simp [execOp, go_sem, q5, cb]) ⟨_, rfl, hJ.step hL rfl (Below.refl _ _) (by exact ((SM.out.at (.agg #[.slice ax nx cx]) (x)).mono hJ.bel))⟩
        · intro L vs a w' hJ hF hP hL
          have q5 : (a.tmps[5]?).getD undef = .pointer (some ⟨b, 0, none⟩) := hF.old 5 rfl
          have cb := cell_later hJ.bel (SM.out.cell (b) (.slice ax nx cx))
          exact run_val (v := .agg #[.slice ax nx cx]) rfl (by simp [execOp, go_sem, q5, cb]) ⟨_, rfl, hJ.step hL rfl (Below.refl _ _) (by exact ((SM.out.at (.agg #[.slice ax nx cx]) (x)).mono hJ.bel))⟩
        · intro L vs a w' hJ hF hP hL
          have p1 : L 1 = true := hP ⟨1, .data⟩ (by simp) rfl
          have s1 : IsNat w' (vs 1) (x) := hJ.sp 1 p1
          have q130 := hF.slot 1 130 rfl p1
          refine run_call (f := 17) (args := #[vs 1]) rfl (by simp [go_sem, q130]) (len_any _ x _ s1 M1.out.fits) ?_
          rintro e w2 ⟨rfl, hb⟩
          rw [← HXL.out]
          exact ⟨_, rfl, _, rfl, hJ.step hL rfl hb (by exact rfl)⟩
        · intro L vs a w' hJ hF hP hL
          have p2 : L 2 = true := hP ⟨2, .data⟩ (by simp) rfl
          have s2 : vs 2 = .int .i64 (i : Int) := hJ.sp 2 p2
          have q131 := hF.slot 2 131 rfl p2
          exact run_val (v := .int .i64 (i : Int)) rfl (by simp [go_sem, q131, s2, t10]) ⟨_, rfl, hJ.step hL rfl (Below.refl _ _) (by exact rfl)⟩
        · intro L vs a w' hJ hF hP hL
          have p3 : L 3 = true := hP ⟨3, .data⟩ (by simp) rfl
          have s3 : vs 3 = .int .i64 (i : Int) := hJ.sp 3 p3
          have q132 := hF.slot 3 132 rfl p3
          refine run_call (f := 24) (args := #[.int .i64 (i : Int)]) rfl (by simp [go_sem, q132, s3]) (pow_any' i _ _ (by omega) (by omega)) ?_
          rintro e w2 ⟨v, rfl, hv, hb⟩
          exact ⟨_, rfl, _, rfl, hJ.step hL rfl hb (by exact hv)⟩
        · intro L vs a w' hJ hF hP hL
          have p0 : L 0 = true := hP ⟨0, .data⟩ (by simp) rfl
          have s0 : IsNat w' (vs 0) (x) := hJ.sp 0 p0
          have q129 := hF.slot 0 129 rfl p0
          have p4 : L 4 = true := hP ⟨4, .data⟩ (by simp) rfl
          have s4 : IsNat w' (vs 4) (2 ^ i) := hJ.sp 4 p4
          have q133 := hF.slot 4 133 rfl p4
          refine run_call (f := 19) (args := #[vs 0, vs 4]) rfl (by simp [go_sem, q129, q133]) (divMod_any _ _ x (2 ^ i) _ s0 s4 M1.out.small (tx_of (pow_lt_P (n := i) (k := 8) (by omega)) (by omega)).small (Nat.two_pow_pos _) (.inl (.inl (Nat.lt_trans (pow_lt_P (n := i) (k := 8) (by omega)) (P_lt (by omega)))))) ?_
          rintro e w2 ⟨v1, v2, rfl, h1, h2, hb⟩
          exact ⟨_, rfl, _, rfl, hJ.step hL rfl hb (by exact ⟨v1, v2, rfl, h1, h2⟩)⟩
        · intro L vs a w' hJ hF hP hL
          have p5 : L 5 = true := hP ⟨5, .data⟩ (by simp) rfl
          have s5 : ∃ p q, vs 5 = .tuple #[p, q, .bool true] ∧ IsNat w' p (x / 2 ^ i) ∧ IsNat w' q (x % 2 ^ i) := hJ.sp 5 p5
          have q134 := hF.slot 5 134 rfl p5
          exact run_val (v := vs 5) rfl (by simp [execOp, go_sem, q134]) ⟨_, rfl, hJ.step hL rfl (Below.refl _ _) (by exact s5)⟩
        · intro L vs a w' hJ hF hP hL
          have p6 : L 6 = true := hP ⟨6, .data⟩ (by simp) rfl
          have s6 : ∃ p q, vs 6 = .tuple #[p, q, .bool true] ∧ IsNat w' p (x / 2 ^ i) ∧ IsNat w' q (x % 2 ^ i) := hJ.sp 6 p6
          have q128 := hF.slot 6 128 rfl p6
          obtain ⟨vp, vq, e1, e2, e3⟩ := s6
          exact run_val (v := vp) rfl (by simp [execOp, go_sem, q128, e1]) ⟨_, rfl, hJ.step hL rfl (Below.refl _ _) (by exact e2)⟩
        · intro L vs a w' hJ hF hP hL
          have p6 : L 6 = true := hP ⟨6, .data⟩ (by simp) rfl
          have s6 : ∃ p q, vs 6 = .tuple #[p, q, .bool true] ∧ IsNat w' p (x / 2 ^ i) ∧ IsNat w' q (x % 2 ^ i) := hJ.sp 6 p6
          have q128 := hF.slot 6 128 rfl p6
          obtain ⟨vp, vq, e1, e2, e3⟩ := s6
          exact run_val (v := vq) rfl (by simp [execOp, go_sem, q128, e1]) ⟨_, rfl, hJ.step hL rfl (Below.refl _ _) (by exact e3)⟩
        · intro L vs a w' hJ hF hP hL
          have p6 : L 6 = true := hP ⟨6, .data⟩ (by simp) rfl
          have s6 : ∃ p q, vs 6 = .tuple #[p, q, .bool true] ∧ IsNat w' p (x / 2 ^ i) ∧ IsNat w' q (x % 2 ^ i) := hJ.sp 6 p6
          have q128 := hF.slot 6 128 rfl p6
          obtain ⟨vp, vq, e1, e2, e3⟩ := s6
          exact run_val (v := .bool true) rfl (by simp [execOp, go_sem, q128, e1]) ⟨_, rfl, hJ.step hL rfl (Below.refl _ _) (by exact rfl)⟩
        · intro L vs a w' hJ hF hP hL
          exact run_val (v := .pointer (some ⟨w'.heap.size, 0, none⟩)) (w' := w'.alloc (.cells #[.slice none 0 0] 27)) rfl (by simp [execOp, go_sem]) ⟨_, rfl, hJ.alloc hL rfl rfl _⟩
        · intro L vs a w' hJ hF hP hL
          exact run_val (v := .pointer (some ⟨w'.heap.size, 0, none⟩)) (w' := w'.alloc (.cells #[.slice none 0 0] 27)) rfl (by simp [execOp, go_sem]) ⟨_, rfl, hJ.alloc hL rfl rfl _⟩
        · intro L vs a w' hJ hF hP hL
          have p10 : L 10 = true := hP ⟨10, .data⟩ (by simp) rfl
          have q17 := hF.slot 10 17 rfl p10
          have p7 : L 7 = true := hP ⟨7, .data⟩ (by simp) rfl
          have s7 : IsNat w' (vs 7) (x / 2 ^ i) := hJ.sp 7 p7
          have q135 := hF.slot 7 135 rfl p7
          obtain ⟨bk, e1, e2, e3, e4, e5, e6⟩ := hJ.bx (10, 12, 7) (by simp) p10
          have e7 := e5 hL
          obtain ⟨aa, nn, cc, e8⟩ := s7.isAgg
          exact run_unit (w' := w'.setCell ⟨bk, 0, none⟩ (.slice aa nn cc)) rfl (by simp [execOp, go_sem, q17, q135, e1, e8, e7, e4]) ⟨undef, rfl, hJ.store (b := (10, 12, 7)) (by simp) hL p10 p7 (by decide) rfl e1 e8⟩
        · intro L vs a w' hJ hF hP hL
          have p11 : L 11 = true := hP ⟨11, .data⟩ (by simp) rfl
          have q18 := hF.slot 11 18 rfl p11
          have p8 : L 8 = true := hP ⟨8, .data⟩ (by simp) rfl
          have s8 : IsNat w' (vs 8) (x % 2 ^ i) := hJ.sp 8 p8
          have q136 := hF.slot 8 136 rfl p8
          obtain ⟨bk, e1, e2, e3, e4, e5, e6⟩ := hJ.bx (11, 13, 8) (by simp) p11
          have e7 := e5 hL
          obtain ⟨aa, nn, cc, e8⟩ := s8.isAgg
          exact run_unit (w' := w'.setCell ⟨bk, 0, none⟩ (.slice aa nn cc)) rfl (by simp [execOp, go_sem, q18, q136, e1, e8, e7, e4]) ⟨undef, rfl, hJ.store (b := (11, 13, 8)) (by simp) hL p11 p8 (by decide) rfl e1 e8⟩
        · intro L vs a w' hJ hF hP hL
          have p9 : L 9 = true := hP ⟨9, .data⟩ (by simp) rfl
          have s9 : vs 9 = .bool true := hJ.sp 9 p9
          have q137 := hF.slot 9 137 rfl p9
          exact run_val (v := .bool true) rfl (by simp [execOp, go_sem, q137, s9]) ⟨_, rfl, hJ.step hL rfl (Below.refl _ _) (by exact rfl)⟩
        intro L vs w' hA hJ
        have s8 : IsNat w' (vs 8) (x % 2 ^ i) := hJ.sp 8 (hA 8 (by simp))
        obtain ⟨bk10, eb10, ge10, lt10, fz10, _, e6⟩ := hJ.bx (10, 12, 7) (by simp) (hA 10 (by simp))
        obtain ⟨_, u10, eu10, ce10⟩ := e6 (hA 12 (by simp))
        clear e6
        obtain ⟨bk11, eb11, ge11, lt11, fz11, _, e6⟩ := hJ.bx (11, 13, 8) (by simp) (hA 11 (by simp))
        obtain ⟨_, u11, eu11, ce11⟩ := e6 (hA 13 (by simp))
        clear e6
        have LX : Hid _ := LM.out.go hJ.bel
        simp only [putL, Act.put, List.setIfInBounds_toArray, List.set_cons_zero, List.set_cons_succ, Nat.reduceAdd]
        simp only [eb10, eb11]
        obtain ⟨a9, n9, c9, e9⟩ := s8.isAgg
        have eu : u11 = .slice a9 n9 c9 := by
          have := eu11.symm.trans e9
          injection this with h1
          simpa using h1
        rw [eu] at ce11
        rw [e9] at s8
        obtain ⟨us, hrow, hus⟩ := LX.out.sum
        obtain ⟨au, nu, cu, rfl⟩ := hus.cellOf
        have SX : Hid (St w w' [(.agg #[.slice au nu cu], x % 2 ^ i), (.agg #[.slice a9 n9 c9], x % 2 ^ i), (.agg #[.slice ax nx cx], x)] [(bs, .slice au nu cu), (bk11, .slice a9 n9 c9), (b, .slice ax nx cx)]) := ⟨by simp; exact ⟨hus, s8, LX.out.xnat⟩, by simp; exact ⟨hrow.cell (i := 0) (by omega), ce11, LX.out.xcell⟩, LX.out.bel⟩
        generalize vs = vs1
        clear hJ hA s8 eb10 ge10 lt10 fz10 eu10 ce10 eb11 ge11 lt11 fz11 eu11 ce11 e9 eu LX LM SM hrow hus c0 t10
        go_wp2_with fail
        have hx1 : ((i : Int) == 0) = true := by simp; omega
        refine wp_region_inv (JB w' [sNat (x % 2 ^ i), sNat (x % 2 ^ i), sEq (.bool true), sEq (.bool true), sNat (x), sNat (x), sEq (.int .i64 (i : Int)), sEq (.bool false), sEq (.bool true), sEq (.bool true), sEq (.bool true), sNat (x), sEq (.int .i64 (i : Int)), sEq (.bool true), sEq (.bool true), sAny, sAny, sAny, sAny, sAny, sEq (.bool true), sEq (.bool true), sEq (.bool true), sEq (.bool true), sEq (.bool true), sEq (.bool true)] []) 163 (by kernel_rfl) rfl (by kernel_rfl) (JB.start _ _ _) (fun HG HN => ⟨?_, ?_, ?_, ?_, ?_, ?_, ?_, ?_, ?_, ?_, ?_, ?_, ?_, ?_, ?_, ?_, ?_, ?_, ?_, ?_, ?_, ?_, ?_, ?_, ?_, ?_, trivial⟩) ?_
        · intro L vs a w9 hJ hF hP hL
          have q13 : (a.tmps[13]?).getD undef = .pointer (some ⟨bs, 0, none⟩) := hF.old 13 rfl
          have cb := cell_later hJ.bel (SX.out.cell (bs) (.slice au nu cu))
          exact run_val (v := .agg #[.slice au nu cu]) rfl (by simp [execOp, go_sem, q13, cb]) ⟨_, rfl, hJ.step hL rfl (Below.refl _ _) (by exact ((SX.out.at (.agg #[.slice au nu cu]) (x % 2 ^ i)).mono hJ.bel))⟩
        · intro L vs a w9 hJ hF hP hL
          have q18 : (a.tmps[18]?).getD undef = .pointer (some ⟨bk11, 0, none⟩) := hF.old 18 rfl
          have cb := cell_later hJ.bel (SX.out.cell (bk11) (.slice a9 n9 c9))
          exact run_val (v := .agg #[.slice a9 n9 c9]) rfl (by simp [execOp, go_sem, q18, cb]) ⟨_, rfl, hJ.step hL rfl (Below.refl _ _) (by exact ((SX.out.at (.agg #[.slice a9 n9 c9]) (x % 2 ^ i)).mono hJ.bel))⟩
        · intro L vs a w9 hJ hF hP hL
          have p0 : L 0 = true := hP ⟨0, .data⟩ (by simp) rfl
          have s0 : IsNat w9 (vs 0) (x % 2 ^ i) := hJ.sp 0 p0
          have q138 := hF.slot 0 138 rfl p0
          have p1 : L 1 = true := hP ⟨1, .data⟩ (by simp) rfl
          have s1 : IsNat w9 (vs 1) (x % 2 ^ i) := hJ.sp 1 p1
          have q139 := hF.slot 1 139 rfl p1
          refine run_call (f := 20) (args := #[vs 0, vs 1]) rfl (by simp [go_sem, q138, q139]) (eq_true _ _ (x % 2 ^ i) _ s0 s1 (M1.out.le (Nat.mod_le _ _)).tx) ?_
          rintro e w2 ⟨rfl, hb⟩
          exact ⟨_, rfl, _, rfl, hJ.step hL rfl hb (by exact rfl)⟩
        · intro L vs a w9 hJ hF hP hL
          have p2 : L 2 = true := hP ⟨2, .data⟩ (by simp) rfl
          have s2 : vs 2 = .bool true := hJ.sp 2 p2
          have q140 := hF.slot 2 140 rfl p2
          exact run_val (v := .bool true) rfl (by simp [execOp, go_sem, q140, s2]) ⟨_, rfl, hJ.step hL rfl (Below.refl _ _) (by exact rfl)⟩
        · intro L vs a w9 hJ hF hP hL
          have q5 : (a.tmps[5]?).getD undef = .pointer (some ⟨b, 0, none⟩) := hF.old 5 rfl
          have cb := cell_later hJ.bel (SX.out.cell (b) (.slice ax nx cx))
          exact run_val (v := .agg #[.slice ax nx cx]) (hF.wants 163 HN HG _ 3 true true rfl rfl (hP ⟨3, .guard⟩ (by simp) rfl) (hJ.sp 3 (hP ⟨3, .guard⟩ (by simp) rfl))) (by simp [execOp, go_sem, q5, cb]) ⟨_, rfl, hJ.step hL rfl (Below.refl _ _) (by exact ((SX.out.at (.agg #[.slice ax nx cx]) (x)).mono hJ.bel))⟩
        · intro L vs a w9 hJ hF hP hL
          have q5 : (a.tmps[5]?).getD undef = .pointer (some ⟨b, 0, none⟩) := hF.old 5 rfl
          have cb := cell_later hJ.bel (SX.out.cell (b) (.slice ax nx cx))
          exact run_val (v := .agg #[.slice ax nx cx]) (hF.wants 163 HN HG _ 3 true true rfl rfl (hP ⟨3, .guard⟩ (by simp) rfl) (hJ.sp 3 (hP ⟨3, .guard⟩ (by simp) rfl))) (by simp [execOp, go_sem, q5, cb]) ⟨_, rfl, hJ.step hL rfl (Below.refl _ _) (by exact ((SX.out.at (.agg #[.slice ax nx cx]) (x)).mono hJ.bel))⟩
        · intro L vs a w9 hJ hF hP hL
          have p5 : L 5 = true := hP ⟨5, .data⟩ (by simp) rfl
          have s5 : IsNat w9 (vs 5) (x) := hJ.sp 5 p5
          have q143 := hF.slot 5 143 rfl p5
          refine run_call (f := 17) (args := #[vs 5]) (hF.wants 163 HN HG _ 3 true true rfl rfl (hP ⟨3, .guard⟩ (by simp) rfl) (hJ.sp 3 (hP ⟨3, .guard⟩ (by simp) rfl))) (by simp [go_sem, q143]) (len_any _ x _ s5 M1.out.fits) ?_
          rintro e w2 ⟨rfl, hb⟩
          rw [← HXL.out]
          exact ⟨_, rfl, _, rfl, hJ.step hL rfl hb (by exact rfl)⟩
        · intro L vs a w9 hJ hF hP hL
          have p4 : L 4 = true := hP ⟨4, .data⟩ (by simp) rfl
          have s4 : IsNat w9 (vs 4) (x) := hJ.sp 4 p4
          have q142 := hF.slot 4 142 rfl p4
          have p6 : L 6 = true := hP ⟨6, .data⟩ (by simp) rfl
          have s6 : vs 6 = .int .i64 (i : Int) := hJ.sp 6 p6
          have q144 := hF.slot 6 144 rfl p6
          refine run_call (f := 18) (args := #[vs 4, .int .i64 (i : Int)]) (hF.wants 163 HN HG _ 3 true true rfl rfl (hP ⟨3, .guard⟩ (by simp) rfl) (hJ.sp 3 (hP ⟨3, .guard⟩ (by simp) rfl))) (by simp [go_sem, q142, q144, s6]) (bit_any _ x (i : Int) _ s4 M1.out.fits (by omega) (by omega)) ?_
          rintro e w2 ⟨rfl, hb⟩
          exact ⟨_, rfl, _, rfl, hJ.step hL rfl hb (by exact (congrArg Value.bool (by rw [Int.toNat_natCast, HXL.out, bitOf_len, Bool.and_false])))⟩
        · intro L vs a w9 hJ hF hP hL
          have p7 : L 7 = true := hP ⟨7, .data⟩ (by simp) rfl
          have s7 : vs 7 = .bool false := hJ.sp 7 p7
          have q145 := hF.slot 7 145 rfl p7
          exact run_val (v := .bool true) (hF.wants 163 HN HG _ 3 true true rfl rfl (hP ⟨3, .guard⟩ (by simp) rfl) (hJ.sp 3 (hP ⟨3, .guard⟩ (by simp) rfl))) (by simp [execOp, go_sem, q145, s7]) ⟨_, rfl, hJ.step hL rfl (Below.refl _ _) (by exact rfl)⟩
        · intro L vs a w9 hJ hF hP hL
          have p3 : L 3 = true := hP ⟨3, .data⟩ (by simp) rfl
          have s3 : vs 3 = .bool true := hJ.sp 3 p3
          have q141 := hF.slot 3 141 rfl p3
          have p8 : L 8 = true := hP ⟨8, .data⟩ (by simp) rfl
          have s8 : vs 8 = .bool true := hJ.sp 8 p8
          have q146 := hF.slot 8 146 rfl p8
          exact run_val (v := .bool true) rfl (by simp [execOp, go_sem, q141, s3, q146, s8]) ⟨_, rfl, hJ.step hL rfl (Below.refl _ _) (by exact rfl)⟩
        · intro L vs a w9 hJ hF hP hL
          have p9 : L 9 = true := hP ⟨9, .data⟩ (by simp) rfl
          have s9 : vs 9 = .bool true := hJ.sp 9 p9
          have q147 := hF.slot 9 147 rfl p9
          exact run_val (v := .bool true) rfl (by simp [execOp, go_sem, q147, s9]) ⟨_, rfl, hJ.step hL rfl (Below.refl _ _) (by exact rfl)⟩
        · intro L vs a w9 hJ hF hP hL
          have q5 : (a.tmps[5]?).getD undef = .pointer (some ⟨b, 0, none⟩) := hF.old 5 rfl
          have cb := cell_later hJ.bel (SX.out.cell (b) (.slice ax nx cx))
          exact run_val (v := .agg #[.slice ax nx cx]) (hF.wants 163 HN HG _ 10 true true rfl rfl (hP ⟨10, .guard⟩ (by simp) rfl) (hJ.sp 10 (hP ⟨10, .guard⟩ (by simp) rfl))) (by simp [execOp, go_sem, q5, cb]) ⟨_, rfl, hJ.step hL rfl (Below.refl _ _) (by exact ((SX.out.at (.agg #[.slice ax nx cx]) (x)).mono hJ.bel))⟩
        · intro L vs a w9 hJ hF hP hL
          have p11 : L 11 = true := hP ⟨11, .data⟩ (by simp) rfl
          have s11 : IsNat w9 (vs 11) (x) := hJ.sp 11 p11
          have q149 := hF.slot 11 149 rfl p11
          refine run_call (f := 17) (args := #[vs 11]) (hF.wants 163 HN HG _ 10 true true rfl rfl (hP ⟨10, .guard⟩ (by simp) rfl) (hJ.sp 10 (hP ⟨10, .guard⟩ (by simp) rfl))) (by simp [go_sem, q149]) (len_any _ x _ s11 M1.out.fits) ?_
          rintro e w2 ⟨rfl, hb⟩
          rw [← HXL.out]
          exact ⟨_, rfl, _, rfl, hJ.step hL rfl hb (by exact rfl)⟩
        · intro L vs a w9 hJ hF hP hL
          have p12 : L 12 = true := hP ⟨12, .data⟩ (by simp) rfl
          have s12 : vs 12 = .int .i64 (i : Int) := hJ.sp 12 p12
          have q150 := hF.slot 12 150 rfl p12
          exact run_val (v := .bool true) (hF.wants 163 HN HG _ 10 true true rfl rfl (hP ⟨10, .guard⟩ (by simp) rfl) (hJ.sp 10 (hP ⟨10, .guard⟩ (by simp) rfl))) (by simp [execOp, go_sem, q150, s12, hx1]) ⟨_, rfl, hJ.step hL rfl (Below.refl _ _) (by exact rfl)⟩
        · intro L vs a w9 hJ hF hP hL
          have p13 : L 13 = true := hP ⟨13, .data⟩ (by simp) rfl
          have s13 : vs 13 = .bool true := hJ.sp 13 p13
          have q151 := hF.slot 13 151 rfl p13
          exact run_val (v := .bool true) (hF.wants 163 HN HG _ 10 true true rfl rfl (hP ⟨10, .guard⟩ (by simp) rfl) (hJ.sp 10 (hP ⟨10, .guard⟩ (by simp) rfl))) (by simp [execOp, go_sem, q151, s13]) ⟨_, rfl, hJ.step hL rfl (Below.refl _ _) (by exact rfl)⟩
        · intro L vs a w9 hJ hF hP hL
          exact run_skip (hF.wants 163 HN HG _ 14 false true rfl rfl (hP ⟨14, .guard⟩ (by simp) rfl) (hJ.sp 14 (hP ⟨14, .guard⟩ (by simp) rfl))) (hJ.step hL rfl (Below.refl _ _) trivial)
        · intro L vs a w9 hJ hF hP hL
          exact run_skip (hF.wants 163 HN HG _ 14 false true rfl rfl (hP ⟨14, .guard⟩ (by simp) rfl) (hJ.sp 14 (hP ⟨14, .guard⟩ (by simp) rfl))) (hJ.step hL rfl (Below.refl _ _) trivial)
        · intro L vs a w9 hJ hF hP hL
          exact run_skip (hF.wants 163 HN HG _ 14 false true rfl rfl (hP ⟨14, .guard⟩ (by simp) rfl) (hJ.sp 14 (hP ⟨14, .guard⟩ (by simp) rfl))) (hJ.step hL rfl (Below.refl _ _) trivial)
        · intro L vs a w9 hJ hF hP hL
          exact run_skip (hF.wants 163 HN HG _ 14 false true rfl rfl (hP ⟨14, .guard⟩ (by simp) rfl) (hJ.sp 14 (hP ⟨14, .guard⟩ (by simp) rfl))) (hJ.step hL rfl (Below.refl _ _) trivial)
        · intro L vs a w9 hJ hF hP hL
          exact run_skip (hF.wants 163 HN HG _ 14 false true rfl rfl (hP ⟨14, .guard⟩ (by simp) rfl) (hJ.sp 14 (hP ⟨14, .guard⟩ (by simp) rfl))) (hJ.step hL rfl (Below.refl _ _) trivial)
        · intro L vs a w9 hJ hF hP hL
          have p14 : L 14 = true := hP ⟨14, .data⟩ (by simp) rfl
          have s14 : vs 14 = .bool true := hJ.sp 14 p14
          have q152 := hF.slot 14 152 rfl p14
          exact run_val (v := .bool true) (hF.wants 163 HN HG _ 10 true true rfl rfl (hP ⟨10, .guard⟩ (by simp) rfl) (hJ.sp 10 (hP ⟨10, .guard⟩ (by simp) rfl))) (by simp [execOp, go_sem, q152, s14]) ⟨_, rfl, hJ.step hL rfl (Below.refl _ _) (by exact rfl)⟩
        · intro L vs a w9 hJ hF hP hL
          have p10 : L 10 = true := hP ⟨10, .data⟩ (by simp) rfl
          have s10 : vs 10 = .bool true := hJ.sp 10 p10
          have q148 := hF.slot 10 148 rfl p10
          have p20 : L 20 = true := hP ⟨20, .data⟩ (by simp) rfl
          have s20 : vs 20 = .bool true := hJ.sp 20 p20
          have q158 := hF.slot 20 158 rfl p20
          exact run_val (v := .bool true) rfl (by simp [execOp, go_sem, q148, s10, q158, s20]) ⟨_, rfl, hJ.step hL rfl (Below.refl _ _) (by exact rfl)⟩
        · intro L vs a w9 hJ hF hP hL
          have p21 : L 21 = true := hP ⟨21, .data⟩ (by simp) rfl
          have s21 : vs 21 = .bool true := hJ.sp 21 p21
          have q159 := hF.slot 21 159 rfl p21
          exact run_val (v := .bool true) rfl (by simp [execOp, go_sem, q159, s21]) ⟨_, rfl, hJ.step hL rfl (Below.refl _ _) (by exact rfl)⟩
        · intro L vs a w9 hJ hF hP hL
          refine run_call (f := 15) (args := #[]) (hF.wants 163 HN HG _ 22 true true rfl rfl (hP ⟨22, .guard⟩ (by simp) rfl) (hJ.sp 22 (hP ⟨22, .guard⟩ (by simp) rfl))) (by simp [go_sem]) (started_true _) ?_
          rintro e w2 ⟨rfl, hb⟩
          exact ⟨_, rfl, _, rfl, hJ.step hL rfl hb (by exact rfl)⟩
        · intro L vs a w9 hJ hF hP hL
          have p22 : L 22 = true := hP ⟨22, .data⟩ (by simp) rfl
          have s22 : vs 22 = .bool true := hJ.sp 22 p22
          have q160 := hF.slot 22 160 rfl p22
          have p23 : L 23 = true := hP ⟨23, .data⟩ (by simp) rfl
          have s23 : vs 23 = .bool true := hJ.sp 23 p23
          have q161 := hF.slot 23 161 rfl p23
          exact run_val (v := .bool true) rfl (by simp [execOp, go_sem, q160, s22, q161, s23]) ⟨_, rfl, hJ.step hL rfl (Below.refl _ _) (by exact rfl)⟩
        · intro L vs a w9 hJ hF hP hL
          have p24 : L 24 = true := hP ⟨24, .data⟩ (by simp) rfl
          have s24 : vs 24 = .bool true := hJ.sp 24 p24
          have q162 := hF.slot 24 162 rfl p24
          exact run_val (v := .bool true) rfl (by simp [execOp, go_sem, q162, s24]) ⟨_, rfl, hJ.step hL rfl (Below.refl _ _) (by exact rfl)⟩
        intro L vs w9 hA hJ
        have s25 : vs 25 = .bool true := hJ.sp 25 (hA 25 (by simp))
        simp only [putL, Act.put, List.setIfInBounds_toArray, List.set_cons_zero, List.set_cons_succ, Nat.reduceAdd]
        simp only [s25]
        go_wp2_with fail
        go_ret
        exact ⟨rfl, (SX.out.go hJ.bel).bel⟩
      · have t10 : (if (200 : Int) < (i : Int) then (200 : Int) else (i : Int)) = (i : Int) := if_neg (by omega)
        have SM : Hid (St w wm [(.agg #[.slice ax nx cx], x)] [(b, .slice ax nx cx)]) := ⟨by simp; exact LM.out.xnat, by simp; exact LM.out.xcell, LM.out.bel⟩
        refine wp_region_inv (JB wm [sNat (x), sNat (x), sEq (.int .i64 (i : Int)), sEq (.int .i64 (i : Int)), sNat (2 ^ i), sQR (x / 2 ^ i) (x % 2 ^ i) true, sQR (x / 2 ^ i) (x % 2 ^ i) true, sNat (x / 2 ^ i), sNat (x % 2 ^ i), sEq (.bool true), sAny, sAny, sAny, sAny, sEq (.bool true)] [(10, 12, 7), (11, 13, 8)]) 163 (by kernel_rfl) rfl (by kernel_rfl) (JB.start _ _ _) (fun HG HN => ⟨?_, ?_, ?_, ?_, ?_, ?_, ?_, ?_, ?_, ?_, ?_, ?_, ?_, ?_, ?_, trivial⟩) ?_
        · intro L vs a w' hJ hF hP hL
          have q5 : (a.tmps[5]?).getD undef = .pointer (some ⟨b, 0, none⟩) := hF.old 5 rfl
          have cb := cell_later hJ.bel (SM.out.cell (b) (.slice ax nx cx))
          exact run_val (v := .agg #[.slice ax nx cx]) rfl (by simp [execOp, go_sem, q5, cb]) ⟨_, rfl, hJ.step hL rfl (Below.refl _ _) (by exact ((SM.out.at (.agg #[.slice ax nx cx]) (x)).mono hJ.bel))⟩
        · intro L vs a w' hJ hF hP hL
          have q5 : (a.tmps[5]?).getD undef = .pointer (some ⟨b, 0, none⟩) := hF.old 5 rfl
          have cb := cell_later hJ.bel (SM.out.cell (b) (.slice ax nx cx))
          exact run_val (v := .agg #[.slice ax nx cx]) rfl (by simp [execOp, go_sem, q5, cb]) ⟨_, rfl, hJ.step hL rfl (Below.refl _ _) (by exact ((SM.out.at (.agg #[.slice ax nx cx]) (x)).mono hJ.bel))⟩
        · intro L vs a w' hJ hF hP hL
          have p1 : L 1 = true := hP ⟨1, .data⟩ (by simp) rfl
          have s1 : IsNat w' (vs 1) (x) := hJ.sp 1 p1
          have q130 := hF.slot 1 130 rfl p1
          refine run_call (f := 17) (args := #[vs 1]) rfl (by simp [go_sem, q130]) (len_any _ x _ s1 M1.out.fits) ?_
          rintro e w2 ⟨rfl, hb⟩
          rw [← HXL.out]
          exact ⟨_, rfl, _, rfl, hJ.step hL rfl hb (by exact rfl)⟩
        · intro L vs a w' hJ hF hP hL
          have p2 : L 2 = true := hP ⟨2, .data⟩ (by simp) rfl
          have s2 : vs 2 = .int .i64 (i : Int) := hJ.sp 2 p2
          have q131 := hF.slot 2 131 rfl p2
          exact run_val (v := .int .i64 (i : Int)) rfl (by simp [go_sem, q131, s2, t10]) ⟨_, rfl, hJ.step hL rfl (Below.refl _ _) (by exact rfl)⟩
        · intro L vs a w' hJ hF hP hL
          have p3 : L 3 = true := hP ⟨3, .data⟩ (by simp) rfl
          have s3 : vs 3 = .int .i64 (i : Int) := hJ.sp 3 p3
          have q132 := hF.slot 3 132 rfl p3
          refine run_call (f := 24) (args := #[.int .i64 (i : Int)]) rfl (by simp [go_sem, q132, s3]) (pow_any' i _ _ (by omega) (by omega)) ?_
          rintro e w2 ⟨v, rfl, hv, hb⟩
          exact ⟨_, rfl, _, rfl, hJ.step hL rfl hb (by exact hv)⟩
        · intro L vs a w' hJ hF hP hL
          have p0 : L 0 = true := hP ⟨0, .data⟩ (by simp) rfl
          have s0 : IsNat w' (vs 0) (x) := hJ.sp 0 p0
          have q129 := hF.slot 0 129 rfl p0
          have p4 : L 4 = true := hP ⟨4, .data⟩ (by simp) rfl
          have s4 : IsNat w' (vs 4) (2 ^ i) := hJ.sp 4 p4
          have q133 := hF.slot 4 133 rfl p4
          refine run_call (f := 19) (args := #[vs 0, vs 4]) rfl (by simp [go_sem, q129, q133]) (divMod_any _ _ x (2 ^ i) _ s0 s4 M1.out.small (tx_of (pow_lt_P (n := i) (k := 8) (by omega)) (by omega)).small (Nat.two_pow_pos _) (.inl (.inl (Nat.lt_trans (pow_lt_P (n := i) (k := 8) (by omega)) (P_lt (by omega)))))) ?_
          rintro e w2 ⟨v1, v2, rfl, h1, h2, hb⟩
          exact ⟨_, rfl, _, rfl, hJ.step hL rfl hb (by exact ⟨v1, v2, rfl, h1, h2⟩)⟩
        · intro L vs a w' hJ hF hP hL
          have p5 : L 5 = true := hP ⟨5, .data⟩ (by simp) rfl
          have s5 : ∃ p q, vs 5 = .tuple #[p, q, .bool true] ∧ IsNat w' p (x / 2 ^ i) ∧ IsNat w' q (x % 2 ^ i) := hJ.sp 5 p5
          have q134 := hF.slot 5 134 rfl p5
          exact run_val (v := vs 5) rfl (by simp [execOp, go_sem, q134]) ⟨_, rfl, hJ.step hL rfl (Below.refl _ _) (by exact s5)⟩
        · intro L vs a w' hJ hF hP hL
          have p6 : L 6 = true := hP ⟨6, .data⟩ (by simp) rfl
          have s6 : ∃ p q, vs 6 = .tuple #[p, q, .bool true] ∧ IsNat w' p (x / 2 ^ i) ∧ IsNat w' q (x % 2 ^ i) := hJ.sp 6 p6
          have q128 := hF.slot 6 128 rfl p6
          obtain ⟨vp, vq, e1, e2, e3⟩ := s6
          exact run_val (v := vp) rfl (by simp [execOp, go_sem, q128, e1]) ⟨_, rfl, hJ.step hL rfl (Below.refl _ _) (by exact e2)⟩
        · intro L vs a w' hJ hF hP hL
          have p6 : L 6 = true := hP ⟨6, .data⟩ (by simp) rfl
          have s6 : ∃ p q, vs 6 = .tuple #[p, q, .bool true] ∧ IsNat w' p (x / 2 ^ i) ∧ IsNat w' q (x % 2 ^ i) := hJ.sp 6 p6
          have q128 := hF.slot 6 128 rfl p6
          obtain ⟨vp, vq, e1, e2, e3⟩ := s6
          exact run_val (v := vq) rfl (by simp [execOp, go_sem, q128, e1]) ⟨_, rfl, hJ.step hL rfl (Below.refl _ _) (by exact e3)⟩
        · intro L vs a w' hJ hF hP hL
          have p6 : L 6 = true := hP ⟨6, .data⟩ (by simp) rfl
          have s6 : ∃ p q, vs 6 = .tuple #[p, q, .bool true] ∧ IsNat w' p (x / 2 ^ i) ∧ IsNat w' q (x % 2 ^ i) := hJ.sp 6 p6
          have q128 := hF.slot 6 128 rfl p6
          obtain ⟨vp, vq, e1, e2, e3⟩ := s6
          exact run_val (v := .bool true) rfl (by simp [execOp, go_sem, q128, e1]) ⟨_, rfl, hJ.step hL rfl (Below.refl _ _) (by exact rfl)⟩
        · intro L vs a w' hJ hF hP hL
          exact run_val (v := .pointer (some ⟨w'.heap.size, 0, none⟩)) (w' := w'.alloc (.cells #[.slice none 0 0] 27)) rfl (by simp [execOp, go_sem]) ⟨_, rfl, hJ.alloc hL rfl rfl _⟩
        · intro L vs a w' hJ hF hP hL
          exact run_val (v := .pointer (some ⟨w'.heap.size, 0, none⟩)) (w' := w'.alloc (.cells #[.slice none 0 0] 27)) rfl (by simp [execOp, go_sem]) ⟨_, rfl, hJ.alloc hL rfl rfl _⟩
        · intro L vs a w' hJ hF hP hL
          have p10 : L 10 = true := hP ⟨10, .data⟩ (by simp) rfl
          have q17 := hF.slot 10 17 rfl p10
          have p7 : L 7 = true := hP ⟨7, .data⟩ (by simp) rfl
          have s7 : IsNat w' (vs 7) (x / 2 ^ i) := hJ.sp 7 p7
          have q135 := hF.slot 7 135 rfl p7
          obtain ⟨bk, e1, e2, e3, e4, e5, e6⟩ := hJ.bx (10, 12, 7) (by simp) p10
          have e7 := e5 hL
          obtain ⟨aa, nn, cc, e8⟩ := s7.isAgg
          exact run_unit (w' := w'.setCell ⟨bk, 0, none⟩ (.slice aa nn cc)) rfl (by simp [execOp, go_sem, q17, q135, e1, e8, e7, e4]) ⟨undef, rfl, hJ.store (b := (10, 12, 7)) (by simp) hL p10 p7 (by decide) rfl e1 e8⟩
        · intro L vs a w' hJ hF hP hL
          have p11 : L 11 = true := hP ⟨11, .data⟩ (by simp) rfl
          have q18 := hF.slot 11 18 rfl p11
          have p8 : L 8 = true := hP ⟨8, .data⟩ (by simp) rfl
          have s8 : IsNat w' (vs 8) (x % 2 ^ i) := hJ.sp 8 p8
          have q136 := hF.slot 8 136 rfl p8
          obtain ⟨bk, e1, e2, e3, e4, e5, e6⟩ := hJ.bx (11, 13, 8) (by simp) p11
          have e7 := e5 hL
          obtain ⟨aa, nn, cc, e8⟩ := s8.isAgg
          exact run_unit (w' := w'.setCell ⟨bk, 0, none⟩ (.slice aa nn cc)) rfl (by simp [execOp, go_sem, q18, q136, e1, e8, e7, e4]) ⟨undef, rfl, hJ.store (b := (11, 13, 8)) (by simp) hL p11 p8 (by decide) rfl e1 e8⟩
        · intro L vs a w' hJ hF hP hL
          have p9 : L 9 = true := hP ⟨9, .data⟩ (by simp) rfl
          have s9 : vs 9 = .bool true := hJ.sp 9 p9
          have q137 := hF.slot 9 137 rfl p9
          exact run_val (v := .bool true) rfl (by simp [execOp, go_sem, q137, s9]) ⟨_, rfl, hJ.step hL rfl (Below.refl _ _) (by exact rfl)⟩
        intro L vs w' hA hJ
        have s8 : IsNat w' (vs 8) (x % 2 ^ i) := hJ.sp 8 (hA 8 (by simp))
        obtain ⟨bk10, eb10, ge10, lt10, fz10, _, e6⟩ := hJ.bx (10, 12, 7) (by simp) (hA 10 (by simp))
        obtain ⟨_, u10, eu10, ce10⟩ := e6 (hA 12 (by simp))
        clear e6
        obtain ⟨bk11, eb11, ge11, lt11, fz11, _, e6⟩ := hJ.bx (11, 13, 8) (by simp) (hA 11 (by simp))
        obtain ⟨_, u11, eu11, ce11⟩ := e6 (hA 13 (by simp))
        clear e6
        have LX : Hid _ := LM.out.go hJ.bel
        simp only [putL, Act.put, List.setIfInBounds_toArray, List.set_cons_zero, List.set_cons_succ, Nat.reduceAdd]
        simp only [eb10, eb11]
        obtain ⟨a9, n9, c9, e9⟩ := s8.isAgg
        have eu : u11 = .slice a9 n9 c9 := by
          have := eu11.symm.trans e9
          injection this with h1
          simpa using h1
        rw [eu] at ce11
        rw [e9] at s8
        obtain ⟨us, hrow, hus⟩ := LX.out.sum
        obtain ⟨au, nu, cu, rfl⟩ := hus.cellOf
        have SX : Hid (St w w' [(.agg #[.slice au nu cu], x % 2 ^ i), (.agg #[.slice a9 n9 c9], x % 2 ^ i), (.agg #[.slice ax nx cx], x)] [(bs, .slice au nu cu), (bk11, .slice a9 n9 c9), (b, .slice ax nx cx)]) := ⟨by simp; exact ⟨hus, s8, LX.out.xnat⟩, by simp; exact ⟨hrow.cell (i := 0) (by omega), ce11, LX.out.xcell⟩, LX.out.bel⟩
        generalize vs = vs1
        clear hJ hA s8 eb10 ge10 lt10 fz10 eu10 ce10 eb11 ge11 lt11 fz11 eu11 ce11 e9 eu LX LM SM hrow hus c0 t10
        go_wp2_with fail
        have hx1 : ((i : Int) == 0) = false := beq_eq_false_iff_ne.2 (by omega)
        have hwr : IntKind.i64.wrap ((i : Int) - 1) = (i : Int) - 1 := by rw [IntKind.wrap_i64]; omega
        have HTOP : Hid (bitOf x (i - 1) = true) := by
          rw [HXL.out]
          refine bitOf_top ?_
          rcases Nat.eq_zero_or_pos x with e | e
          · exfalso
            have h1 := HXL.out
            rw [e, bitLen_zero] at h1
            omega
          · exact e
        refine wp_region_inv (JB w' [sNat (x % 2 ^ i), sNat (x % 2 ^ i), sEq (.bool true), sEq (.bool true), sNat (x), sNat (x), sEq (.int .i64 (i : Int)), sEq (.bool false), sEq (.bool true), sEq (.bool true), sEq (.bool true), sNat (x), sEq (.int .i64 (i : Int)), sEq (.bool false), sEq (.bool false), sNat (x), sNat (x), sEq (.int .i64 (i : Int)), sEq (.int .i64 ((i : Int) - 1)), sEq (.bool true), sEq (.bool true), sEq (.bool true), sEq (.bool true), sEq (.bool true), sEq (.bool true), sEq (.bool true)] []) 163 (by kernel_rfl) rfl (by kernel_rfl) (JB.start _ _ _) (fun HG HN => ⟨?_, ?_, ?_, ?_, ?_, ?_, ?_, ?_, ?_, ?_, ?_, ?_, ?_, ?_, ?_, ?_, ?_, ?_, ?_, ?_, ?_, ?_, ?_, ?_, ?_, ?_, trivial⟩) ?_
        · intro L vs a w9 hJ hF hP hL
          have q13 : (a.tmps[13]?).getD undef = .pointer (some ⟨bs, 0, none⟩) := hF.old 13 rfl
          have cb := cell_later hJ.bel (SX.out.cell (bs) (.slice au nu cu))
          exact run_val (v := .agg #[.slice au nu cu]) rfl (by simp [execOp, go_sem, q13, cb]) ⟨_, rfl, hJ.step hL rfl (Below.refl _ _) (by exact ((SX.out.at (.agg #[.slice au nu cu]) (x % 2 ^ i)).mono hJ.bel))⟩
        · intro L vs a w9 hJ hF hP hL
          have q18 : (a.tmps[18]?).getD undef = .pointer (some ⟨bk11, 0, none⟩) := hF.old 18 rfl
          have cb := cell_later hJ.bel (SX.out.cell (bk11) (.slice a9 n9 c9))
          exact run_val (v := .agg #[.slice a9 n9 c9]) rfl (by simp [execOp, go_sem, q18, cb]) ⟨_, rfl, hJ.step hL rfl (Below.refl _ _) (by exact ((SX.out.at (.agg #[.slice a9 n9 c9]) (x % 2 ^ i)).mono hJ.bel))⟩
        · intro L vs a w9 hJ hF hP hL
          have p0 : L 0 = true := hP ⟨0, .data⟩ (by simp) rfl
          have s0 : IsNat w9 (vs 0) (x % 2 ^ i) := hJ.sp 0 p0
          have q138 := hF.slot 0 138 rfl p0
          have p1 : L 1 = true := hP ⟨1, .data⟩ (by simp) rfl
          have s1 : IsNat w9 (vs 1) (x % 2 ^ i) := hJ.sp 1 p1
          have q139 := hF.slot 1 139 rfl p1
          refine run_call (f := 20) (args := #[vs 0, vs 1]) rfl (by simp [go_sem, q138, q139]) (eq_true _ _ (x % 2 ^ i) _ s0 s1 (M1.out.le (Nat.mod_le _ _)).tx) ?_
          rintro e w2 ⟨rfl, hb⟩
          exact ⟨_, rfl, _, rfl, hJ.step hL rfl hb (by exact rfl)⟩
        · intro L vs a w9 hJ hF hP hL
          have p2 : L 2 = true := hP ⟨2, .data⟩ (by simp) rfl
          have s2 : vs 2 = .bool true := hJ.sp 2 p2
          have q140 := hF.slot 2 140 rfl p2
          exact run_val (v := .bool true) rfl (by simp [execOp, go_sem, q140, s2]) ⟨_, rfl, hJ.step hL rfl (Below.refl _ _) (by exact rfl)⟩
        · intro L vs a w9 hJ hF hP hL
          have q5 : (a.tmps[5]?).getD undef = .pointer (some ⟨b, 0, none⟩) := hF.old 5 rfl
          have cb := cell_later hJ.bel (SX.out.cell (b) (.slice ax nx cx))
          exact run_val (v := .agg #[.slice ax nx cx]) (hF.wants 163 HN HG _ 3 true true rfl rfl (hP ⟨3, .guard⟩ (by simp) rfl) (hJ.sp 3 (hP ⟨3, .guard⟩ (by simp) rfl))) (by simp [execOp, go_sem, q5, cb]) ⟨_, rfl, hJ.step hL rfl (Below.refl _ _) (by exact ((SX.out.at (.agg #[.slice ax nx cx]) (x)).mono hJ.bel))⟩
        · intro L vs a w9 hJ hF hP hL
          have q5 : (a.tmps[5]?).getD undef = .pointer (some ⟨b, 0, none⟩) := hF.old 5 rfl
          have cb := cell_later hJ.bel (SX.out.cell (b) (.slice ax nx cx))
          exact run_val (v := .agg #[.slice ax nx cx]) (hF.wants 163 HN HG _ 3 true true rfl rfl (hP ⟨3, .guard⟩ (by simp) rfl) (hJ.sp 3 (hP ⟨3, .guard⟩ (by simp) rfl))) (by simp [execOp, go_sem, q5, cb]) ⟨_, rfl, hJ.step hL rfl (Below.refl _ _) (by exact ((SX.out.at (.agg #[.slice ax nx cx]) (x)).mono hJ.bel))⟩
        · intro L vs a w9 hJ hF hP hL
          have p5 : L 5 = true := hP ⟨5, .data⟩ (by simp) rfl
          have s5 : IsNat w9 (vs 5) (x) := hJ.sp 5 p5
          have q143 := hF.slot 5 143 rfl p5
          refine run_call (f := 17) (args := #[vs 5]) (hF.wants 163 HN HG _ 3 true true rfl rfl (hP ⟨3, .guard⟩ (by simp) rfl) (hJ.sp 3 (hP ⟨3, .guard⟩ (by simp) rfl))) (by simp [go_sem, q143]) (len_any _ x _ s5 M1.out.fits) ?_
          rintro e w2 ⟨rfl, hb⟩
          rw [← HXL.out]
          exact ⟨_, rfl, _, rfl, hJ.step hL rfl hb (by exact rfl)⟩
        · intro L vs a w9 hJ hF hP hL
          have p4 : L 4 = true := hP ⟨4, .data⟩ (by simp) rfl
          have s4 : IsNat w9 (vs 4) (x) := hJ.sp 4 p4
          have q142 := hF.slot 4 142 rfl p4
          have p6 : L 6 = true := hP ⟨6, .data⟩ (by simp) rfl
          have s6 : vs 6 = .int .i64 (i : Int) := hJ.sp 6 p6
          have q144 := hF.slot 6 144 rfl p6
          refine run_call (f := 18) (args := #[vs 4, .int .i64 (i : Int)]) (hF.wants 163 HN HG _ 3 true true rfl rfl (hP ⟨3, .guard⟩ (by simp) rfl) (hJ.sp 3 (hP ⟨3, .guard⟩ (by simp) rfl))) (by simp [go_sem, q142, q144, s6]) (bit_any _ x (i : Int) _ s4 M1.out.fits (by omega) (by omega)) ?_
          rintro e w2 ⟨rfl, hb⟩
          exact ⟨_, rfl, _, rfl, hJ.step hL rfl hb (by exact (congrArg Value.bool (by rw [Int.toNat_natCast, HXL.out, bitOf_len, Bool.and_false])))⟩
        · intro L vs a w9 hJ hF hP hL
          have p7 : L 7 = true := hP ⟨7, .data⟩ (by simp) rfl
          have s7 : vs 7 = .bool false := hJ.sp 7 p7
          have q145 := hF.slot 7 145 rfl p7
          exact run_val (v := .bool true) (hF.wants 163 HN HG _ 3 true true rfl rfl (hP ⟨3, .guard⟩ (by simp) rfl) (hJ.sp 3 (hP ⟨3, .guard⟩ (by simp) rfl))) (by simp [execOp, go_sem, q145, s7]) ⟨_, rfl, hJ.step hL rfl (Below.refl _ _) (by exact rfl)⟩
        · intro L vs a w9 hJ hF hP hL
          have p3 : L 3 = true := hP ⟨3, .data⟩ (by simp) rfl
          have s3 : vs 3 = .bool true := hJ.sp 3 p3
          have q141 := hF.slot 3 141 rfl p3
          have p8 : L 8 = true := hP ⟨8, .data⟩ (by simp) rfl
          have s8 : vs 8 = .bool true := hJ.sp 8 p8
          have q146 := hF.slot 8 146 rfl p8
          exact run_val (v := .bool true) rfl (by simp [execOp, go_sem, q141, s3, q146, s8]) ⟨_, rfl, hJ.step hL rfl (Below.refl _ _) (by exact rfl)⟩
        · intro L vs a w9 hJ hF hP hL
          have p9 : L 9 = true := hP ⟨9, .data⟩ (by simp) rfl
          have s9 : vs 9 = .bool true := hJ.sp 9 p9
          have q147 := hF.slot 9 147 rfl p9
          exact run_val (v := .bool true) rfl (by simp [execOp, go_sem, q147, s9]) ⟨_, rfl, hJ.step hL rfl (Below.refl _ _) (by exact rfl)⟩
        · intro L vs a w9 hJ hF hP hL
          have q5 : (a.tmps[5]?).getD undef = .pointer (some ⟨b, 0, none⟩) := hF.old 5 rfl
          have cb := cell_later hJ.bel (SX.out.cell (b) (.slice ax nx cx))
          exact run_val (v := .agg #[.slice ax nx cx]) (hF.wants 163 HN HG _ 10 true true rfl rfl (hP ⟨10, .guard⟩ (by simp) rfl) (hJ.sp 10 (hP ⟨10, .guard⟩ (by simp) rfl))) (by simp [execOp, go_sem, q5, cb]) ⟨_, rfl, hJ.step hL rfl (Below.refl _ _) (by exact ((SX.out.at (.agg #[.slice ax nx cx]) (x)).mono hJ.bel))⟩
        · intro L vs a w9 hJ hF hP hL
          have p11 : L 11 = true := hP ⟨11, .data⟩ (by simp) rfl
          have s11 : IsNat w9 (vs 11) (x) := hJ.sp 11 p11
          have q149 := hF.slot 11 149 rfl p11
          refine run_call (f := 17) (args := #[vs 11]) (hF.wants 163 HN HG _ 10 true true rfl rfl (hP ⟨10, .guard⟩ (by simp) rfl) (hJ.sp 10 (hP ⟨10, .guard⟩ (by simp) rfl))) (by simp [go_sem, q149]) (len_any _ x _ s11 M1.out.fits) ?_
          rintro e w2 ⟨rfl, hb⟩
          rw [← HXL.out]
          exact ⟨_, rfl, _, rfl, hJ.step hL rfl hb (by exact rfl)⟩
        · intro L vs a w9 hJ hF hP hL
          have p12 : L 12 = true := hP ⟨12, .data⟩ (by simp) rfl
          have s12 : vs 12 = .int .i64 (i : Int) := hJ.sp 12 p12
          have q150 := hF.slot 12 150 rfl p12
          exact run_val (v := .bool false) (hF.wants 163 HN HG _ 10 true true rfl rfl (hP ⟨10, .guard⟩ (by simp) rfl) (hJ.sp 10 (hP ⟨10, .guard⟩ (by simp) rfl))) (by simp [execOp, go_sem, q150, s12, hx1]) ⟨_, rfl, hJ.step hL rfl (Below.refl _ _) (by exact rfl)⟩
        · intro L vs a w9 hJ hF hP hL
          have p13 : L 13 = true := hP ⟨13, .data⟩ (by simp) rfl
          have s13 : vs 13 = .bool false := hJ.sp 13 p13
          have q151 := hF.slot 13 151 rfl p13
          exact run_val (v := .bool false) (hF.wants 163 HN HG _ 10 true true rfl rfl (hP ⟨10, .guard⟩ (by simp) rfl) (hJ.sp 10 (hP ⟨10, .guard⟩ (by simp) rfl))) (by simp [execOp, go_sem, q151, s13]) ⟨_, rfl, hJ.step hL rfl (Below.refl _ _) (by exact rfl)⟩
        · intro L vs a w9 hJ hF hP hL
          have q5 : (a.tmps[5]?).getD undef = .pointer (some ⟨b, 0, none⟩) := hF.old 5 rfl
          have cb := cell_later hJ.bel (SX.out.cell (b) (.slice ax nx cx))
          exact run_val (v := .agg #[.slice ax nx cx]) (hF.wants 163 HN HG _ 14 false false rfl rfl (hP ⟨14, .guard⟩ (by simp) rfl) (hJ.sp 14 (hP ⟨14, .guard⟩ (by simp) rfl))) (by simp [execOp, go_sem, q5, cb]) ⟨_, rfl, hJ.step hL rfl (Below.refl _ _) (by exact ((SX.out.at (.agg #[.slice ax nx cx]) (x)).mono hJ.bel))⟩
        · intro L vs a w9 hJ hF hP hL
          have q5 : (a.tmps[5]?).getD undef = .pointer (some ⟨b, 0, none⟩) := hF.old 5 rfl
          have cb := cell_later hJ.bel (SX.out.cell (b) (.slice ax nx cx))
          exact run_val (v := .agg #[.slice ax nx cx]) (hF.wants 163 HN HG _ 14 false false rfl rfl (hP ⟨14, .guard⟩ (by simp) rfl) (hJ.sp 14 (hP ⟨14, .guard⟩ (by simp) rfl))) (by simp [execOp, go_sem, q5, cb]) ⟨_, rfl, hJ.step hL rfl (Below.refl _ _) (by exact ((SX.out.at (.agg #[.slice ax nx cx]) (x)).mono hJ.bel))⟩
        · intro L vs a w9 hJ hF hP hL
          have p16 : L 16 = true := hP ⟨16, .data⟩ (by simp) rfl
          have s16 : IsNat w9 (vs 16) (x) := hJ.sp 16 p16
          have q154 := hF.slot 16 154 rfl p16
          refine run_call (f := 17) (args := #[vs 16]) (hF.wants 163 HN HG _ 14 false false rfl rfl (hP ⟨14, .guard⟩ (by simp) rfl) (hJ.sp 14 (hP ⟨14, .guard⟩ (by simp) rfl))) (by simp [go_sem, q154]) (len_any _ x _ s16 M1.out.fits) ?_
          rintro e w2 ⟨rfl, hb⟩
          rw [← HXL.out]
          exact ⟨_, rfl, _, rfl, hJ.step hL rfl hb (by exact rfl)⟩
        · intro L vs a w9 hJ hF hP hL
          have p17 : L 17 = true := hP ⟨17, .data⟩ (by simp) rfl
          have s17 : vs 17 = .int .i64 (i : Int) := hJ.sp 17 p17
          have q155 := hF.slot 17 155 rfl p17
          exact run_val (v := .int .i64 ((i : Int) - 1)) (hF.wants 163 HN HG _ 14 false false rfl rfl (hP ⟨14, .guard⟩ (by simp) rfl) (hJ.sp 14 (hP ⟨14, .guard⟩ (by simp) rfl))) (by simp [execOp, go_sem, q155, s17, hwr]) ⟨_, rfl, hJ.step hL rfl (Below.refl _ _) (by exact rfl)⟩
        · intro L vs a w9 hJ hF hP hL
          have p15 : L 15 = true := hP ⟨15, .data⟩ (by simp) rfl
          have s15 : IsNat w9 (vs 15) (x) := hJ.sp 15 p15
          have q153 := hF.slot 15 153 rfl p15
          have p18 : L 18 = true := hP ⟨18, .data⟩ (by simp) rfl
          have s18 : vs 18 = .int .i64 ((i : Int) - 1) := hJ.sp 18 p18
          have q156 := hF.slot 18 156 rfl p18
          refine run_call (f := 18) (args := #[vs 15, .int .i64 ((i : Int) - 1)]) (hF.wants 163 HN HG _ 14 false false rfl rfl (hP ⟨14, .guard⟩ (by simp) rfl) (hJ.sp 14 (hP ⟨14, .guard⟩ (by simp) rfl))) (by simp [go_sem, q153, q156, s18]) (bit_any _ x ((i : Int) - 1) _ s15 M1.out.fits (by omega) (by omega)) ?_
          rintro e w2 ⟨rfl, hb⟩
          rw [decide_eq_true (show (0 : Int) ≤ (i : Int) - 1 by omega), show ((i : Int) - 1).toNat = i - 1 by omega, HTOP.out, Bool.and_self]
          exact ⟨_, rfl, _, rfl, hJ.step hL rfl hb (by exact rfl)⟩
        · intro L vs a w9 hJ hF hP hL
          have p14 : L 14 = true := hP ⟨14, .data⟩ (by simp) rfl
          have s14 : vs 14 = .bool false := hJ.sp 14 p14
          have q152 := hF.slot 14 152 rfl p14
          have p19 : L 19 = true := hP ⟨19, .data⟩ (by simp) rfl
          have s19 : vs 19 = .bool true := hJ.sp 19 p19
          have q157 := hF.slot 19 157 rfl p19
          exact run_val (v := .bool true) (hF.wants 163 HN HG _ 10 true true rfl rfl (hP ⟨10, .guard⟩ (by simp) rfl) (hJ.sp 10 (hP ⟨10, .guard⟩ (by simp) rfl))) (by simp [execOp, go_sem, q152, s14, q157, s19]) ⟨_, rfl, hJ.step hL rfl (Below.refl _ _) (by exact rfl)⟩
        · intro L vs a w9 hJ hF hP hL
          have p10 : L 10 = true := hP ⟨10, .data⟩ (by simp) rfl
          have s10 : vs 10 = .bool true := hJ.sp 10 p10
          have q148 := hF.slot 10 148 rfl p10
          have p20 : L 20 = true := hP ⟨20, .data⟩ (by simp) rfl
          have s20 : vs 20 = .bool true := hJ.sp 20 p20
          have q158 := hF.slot 20 158 rfl p20
          exact run_val (v := .bool true) rfl (by simp [execOp, go_sem, q148, s10, q158, s20]) ⟨_, rfl, hJ.step hL rfl (Below.refl _ _) (by exact rfl)⟩
        · intro L vs a w9 hJ hF hP hL
          have p21 : L 21 = true := hP ⟨21, .data⟩ (by simp) rfl
          have s21 : vs 21 = .bool true := hJ.sp 21 p21
          have q159 := hF.slot 21 159 rfl p21
          exact run_val (v := .bool true) rfl (by simp [execOp, go_sem, q159, s21]) ⟨_, rfl, hJ.step hL rfl (Below.refl _ _) (by exact rfl)⟩
        · intro L vs a w9 hJ hF hP hL
          refine run_call (f := 15) (args := #[]) (hF.wants 163 HN HG _ 22 true true rfl rfl (hP ⟨22, .guard⟩ (by simp) rfl) (hJ.sp 22 (hP ⟨22, .guard⟩ (by simp) rfl))) (by simp [go_sem]) (started_true _) ?_
          rintro e w2 ⟨rfl, hb⟩
          exact ⟨_, rfl, _, rfl, hJ.step hL rfl hb (by exact rfl)⟩
        · intro L vs a w9 hJ hF hP hL
          have p22 : L 22 = true := hP ⟨22, .data⟩ (by simp) rfl
          have s22 : vs 22 = .bool true := hJ.sp 22 p22
          have q160 := hF.slot 22 160 rfl p22
          have p23 : L 23 = true := hP ⟨23, .data⟩ (by simp) rfl
          have s23 : vs 23 = .bool true := hJ.sp 23 p23
          have q161 := hF.slot 23 161 rfl p23
          exact run_val (v := .bool true) rfl (by simp [execOp, go_sem, q160, s22, q161, s23]) ⟨_, rfl, hJ.step hL rfl (Below.refl _ _) (by exact rfl)⟩
        · intro L vs a w9 hJ hF hP hL
          have p24 : L 24 = true := hP ⟨24, .data⟩ (by simp) rfl
          have s24 : vs 24 = .bool true := hJ.sp 24 p24
          have q162 := hF.slot 24 162 rfl p24
          exact run_val (v := .bool true) rfl (by simp [execOp, go_sem, q162, s24]) ⟨_, rfl, hJ.step hL rfl (Below.refl _ _) (by exact rfl)⟩
        intro L vs w9 hA hJ
        have s25 : vs 25 = .bool true := hJ.sp 25 (hA 25 (by simp))
        simp only [putL, Act.put, List.setIfInBounds_toArray, List.set_cons_zero, List.set_cons_succ, Nat.reduceAdd]
        simp only [s25]
        go_wp2_with fail
        go_ret
        exact ⟨rfl, (SX.out.go hJ.bel).bel⟩
end Go.Proofs.Ytcemholflikecaa
