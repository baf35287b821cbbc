/- Contracts of the program's functions, part 12: own work, joined in build order. -/
import Derived.Test.YtajkjfblpomdpaaDoorJ11
import Derived.Laws.Bits128
namespace Go.Proofs.YtajkjfblpomdpaaDoor
open Go.RowKit
set_option maxRecDepth 100000
set_option linter.unusedVariables false
/-- What a shift of x by n makes fits. -/
structure ShOk (x : Nat) (n : Int) : Prop where
  f : Fits (shV x n)
  r : RFits (shV x n)
set_option maxHeartbeats 4000000 in
theorem moved_true (v u : Value) (x : Nat) (n : Int) (w : World) (h : IsNat w v x) (k : RNat w u x) (hx : Fits x) (hr : RFits x) (hs : ShOk x n) (hi0 : -9223372036854775808 ≤ n) (hi1 : n ≤ 9223372036854775807) :
    Calls Tryd.prog 11 #[v, u, .int .i64 n] w fun e w' => e = .returned (.bool true) ∧ Below w.heap.size w w' := by
  obtain ⟨ap, mp, cp, rfl⟩ := h.isAgg
  obtain ⟨aq, mq, cq, rfl⟩ := k.isAgg
  have HX : Hid (Fits x ∧ RFits x ∧ ShOk x n) := ⟨hx, hr, hs⟩
  have HD : Hid (Fits (x / 2 ^ n.toNat) ∧ RFits (x / 2 ^ n.toNat)) := ⟨⟨Nat.lt_of_le_of_lt (Nat.div_le_self _ _) hx.lt⟩, ⟨Nat.lt_of_le_of_lt (Nat.div_le_self _ _) hr.lt⟩⟩
  have S0 : Hid _ := ((((sr_start w).nat h).rnat k).box (.slice ap mp cp) 26 _ rfl).box (.slice aq mq cq) 29 _ rfl
  obtain ⟨sb, esb⟩ : ∃ sb, sb = shB x n := ⟨_, rfl⟩
  have ESB : Hid (sb = shB x n) := esb
  clear h k hx hr hs esb
  go_enter Tryd.func11, Tryd.ntmps11
  go_wp2_with fail
  have hsz : (w.alloc (Obj.cells #[Value.slice ap mp cp] 26)).heap.size = w.heap.size + 1 := by simp
  rw [hsz] at S0
  clear hsz
  obtain ⟨w2, hw2⟩ : ∃ w2, w2 = (w.alloc (Obj.cells #[Value.slice ap mp cp] 26)).alloc (Obj.cells #[Value.slice aq mq cq] 29) := ⟨_, rfl⟩
  obtain ⟨b, hb⟩ : ∃ b, b = w.heap.size := ⟨_, rfl⟩
  rw [← hw2, ← hb] at S0
  rw [← hw2, ← hb]
  clear hw2 hb
  refine (left_int _ x n _ (S0.out.at (.agg #[.slice ap mp cp]) x) HX.out.1 hi0 hi1).mono ?_
  rintro e w3 ⟨v3, rfl, hv3, hb3⟩
  obtain ⟨a3, n3, c3, rfl⟩ := hv3.isAgg
  rw [← ESB.out]
  have S3 : Hid _ := ((S0.out.go hb3).nat hv3).box (.slice a3 n3 c3) 26 _ rfl
  clear hb3 hv3 S0
  have d0 := S3.out.cell (b + 1) (.slice aq mq cq)
  go_wp2_with fail
  obtain ⟨w4, hw4⟩ : ∃ w4, w4 = w3.alloc (Obj.cells #[Value.slice a3 n3 c3] 26) := ⟨_, rfl⟩
  obtain ⟨b3, hb3⟩ : ∃ b3, b3 = w3.heap.size := ⟨_, rfl⟩
  rw [← hw4, ← hb3] at S3
  rw [← hw4, ← hb3]
  clear hw4 hb3 d0
  refine (rshifted_any _ x n _ (S3.out.rat (.agg #[.slice aq mq cq]) x) HX.out.2.1 hi0 hi1).mono ?_
  rintro e w5 ⟨v5, rfl, hv5, hb5⟩
  obtain ⟨a5, n5, c5, rfl⟩ := hv5.isAgg
  rw [← ESB.out]
  have S5 : Hid _ := ((S3.out.go hb5).rnat hv5).box (.slice a5 n5 c5) 29 _ rfl
  clear hb5 hv5 S3
  go_wp2_with fail
  obtain ⟨w6, hw6⟩ : ∃ w6, w6 = w5.alloc (Obj.cells #[Value.slice a5 n5 c5] 29) := ⟨_, rfl⟩
  obtain ⟨b5, hb5⟩ : ∃ b5, b5 = w5.heap.size := ⟨_, rfl⟩
  rw [← hw6, ← hb5] at S5
  rw [← hw6, ← hb5]
  clear hw6 hb5
  refine wp_region_inv (JB w6 [sEq (.bool sb), sEq (.bool sb), sEq (.bool true), sEq (.bool true), sNat (shV x n), sR (shV x n), sEq (.bool true), sEq (.bool true), sEq (.bool true), sNat (x), sEq (.int .i64 n), sNat (x / 2 ^ n.toNat), sR (x), sEq (.int .i64 n), sR (x / 2 ^ n.toNat), sEq (.bool true), sEq (.bool true), sEq (.bool true)] []) 40 (by kernel_rfl) rfl (by kernel_rfl) (JB.start _ _ _) (fun HG HN => ⟨?_, ?_, ?_, ?_, ?_, ?_, ?_, ?_, ?_, ?_, ?_, ?_, ?_, ?_, ?_, ?_, ?_, ?_, trivial⟩) ?_
  · intro L vs a w' hJ hF hP hL
    have q8 : (a.tmps[8]?).getD undef = .bool sb := hF.old 8 rfl
    exact run_val (v := .bool sb) rfl (by simp [execOp, go_sem, q8]) ⟨_, rfl, hJ.step hL rfl (Below.refl _ _) (by exact rfl)⟩
  · intro L vs a w' hJ hF hP hL
    have q10 : (a.tmps[10]?).getD undef = .bool sb := hF.old 10 rfl
    exact run_val (v := .bool sb) rfl (by simp [execOp, go_sem, q10]) ⟨_, rfl, hJ.step hL rfl (Below.refl _ _) (by exact rfl)⟩
  · intro L vs a w' hJ hF hP hL
    have p0 : L 0 = true := hP ⟨0, .data⟩ (by simp) rfl
    have s0 : vs 0 = .bool sb := hJ.sp 0 p0
    have q23 := hF.slot 0 23 rfl p0
    have p1 : L 1 = true := hP ⟨1, .data⟩ (by simp) rfl
    have s1 : vs 1 = .bool sb := hJ.sp 1 p1
    have q24 := hF.slot 1 24 rfl p1
    exact run_val (v := .bool true) rfl (by simp [execOp, go_sem, q23, s0, q24, s1]) ⟨_, rfl, hJ.step hL rfl (Below.refl _ _) (by exact rfl)⟩
  · intro L vs a w' hJ hF hP hL
    have p2 : L 2 = true := hP ⟨2, .data⟩ (by simp) rfl
    have s2 : vs 2 = .bool true := hJ.sp 2 p2
    have q25 := hF.slot 2 25 rfl p2
    exact run_val (v := .bool true) rfl (by simp [execOp, go_sem, q25, s2]) ⟨_, rfl, hJ.step hL rfl (Below.refl _ _) (by exact rfl)⟩
  · intro L vs a w' hJ hF hP hL
    have q7 : (a.tmps[7]?).getD undef = .pointer (some ⟨b3, 0, none⟩) := hF.old 7 rfl
    have cb := cell_later hJ.bel (S5.out.cell (b3) (.slice a3 n3 c3))
    exact run_val (v := .agg #[.slice a3 n3 c3]) (hF.wants 40 HN HG _ 3 true true rfl rfl (hP ⟨3, .guard⟩ (by simp) rfl) (hJ.sp 3 (hP ⟨3, .guard⟩ (by simp) rfl))) (by simp [execOp, go_sem, q7, cb]) ⟨_, rfl, hJ.step hL rfl (Below.refl _ _) (by exact ((S5.out.at (.agg #[.slice a3 n3 c3]) (shV x n)).mono hJ.bel))⟩
  · intro L vs a w' hJ hF hP hL
    have q9 : (a.tmps[9]?).getD undef = .pointer (some ⟨b5, 0, none⟩) := hF.old 9 rfl
    have cb := cell_later hJ.bel (S5.out.cell (b5) (.slice a5 n5 c5))
    exact run_val (v := .agg #[.slice a5 n5 c5]) (hF.wants 40 HN HG _ 3 true true rfl rfl (hP ⟨3, .guard⟩ (by simp) rfl) (hJ.sp 3 (hP ⟨3, .guard⟩ (by simp) rfl))) (by simp [execOp, go_sem, q9, cb]) ⟨_, rfl, hJ.step hL rfl (Below.refl _ _) (by exact ((S5.out.rat (.agg #[.slice a5 n5 c5]) (shV x n)).mono hJ.bel))⟩
  · intro L vs a w' hJ hF hP hL
    have p4 : L 4 = true := hP ⟨4, .data⟩ (by simp) rfl
    have s4 : IsNat w' (vs 4) (shV x n) := hJ.sp 4 p4
    have q27 := hF.slot 4 27 rfl p4
    have p5 : L 5 = true := hP ⟨5, .data⟩ (by simp) rfl
    have s5 : RNat w' (vs 5) (shV x n) := hJ.sp 5 p5
    have q28 := hF.slot 5 28 rfl p5
    refine run_call (f := 12) (args := #[vs 4, vs 5]) (hF.wants 40 HN HG _ 3 true true rfl rfl (hP ⟨3, .guard⟩ (by simp) rfl) (hJ.sp 3 (hP ⟨3, .guard⟩ (by simp) rfl))) (by simp [go_sem, q27, q28]) (same_true _ _ (shV x n) _ s4 s5 HX.out.2.2.f HX.out.2.2.r) ?_
    rintro e w2 ⟨rfl, hb⟩
    exact ⟨_, rfl, _, rfl, hJ.step hL rfl hb (by exact rfl)⟩
  · intro L vs a w' hJ hF hP hL
    have p3 : L 3 = true := hP ⟨3, .data⟩ (by simp) rfl
    have s3 : vs 3 = .bool true := hJ.sp 3 p3
    have q26 := hF.slot 3 26 rfl p3
    have p6 : L 6 = true := hP ⟨6, .data⟩ (by simp) rfl
    have s6 : vs 6 = .bool true := hJ.sp 6 p6
    have q29 := hF.slot 6 29 rfl p6
    exact run_val (v := .bool true) rfl (by simp [execOp, go_sem, q26, s3, q29, s6]) ⟨_, rfl, hJ.step hL rfl (Below.refl _ _) (by exact rfl)⟩
  · intro L vs a w' hJ hF hP hL
    have p7 : L 7 = true := hP ⟨7, .data⟩ (by simp) rfl
    have s7 : vs 7 = .bool true := hJ.sp 7 p7
    have q30 := hF.slot 7 30 rfl p7
    exact run_val (v := .bool true) rfl (by simp [execOp, go_sem, q30, s7]) ⟨_, rfl, hJ.step hL rfl (Below.refl _ _) (by exact rfl)⟩
  · intro L vs a w' hJ hF hP hL
    have q3 : (a.tmps[3]?).getD undef = .pointer (some ⟨b, 0, none⟩) := hF.old 3 rfl
    have cb := cell_later hJ.bel (S5.out.cell (b) (.slice ap mp cp))
    exact run_val (v := .agg #[.slice ap mp cp]) (hF.wants 40 HN HG _ 8 true true rfl rfl (hP ⟨8, .guard⟩ (by simp) rfl) (hJ.sp 8 (hP ⟨8, .guard⟩ (by simp) rfl))) (by simp [execOp, go_sem, q3, cb]) ⟨_, rfl, hJ.step hL rfl (Below.refl _ _) (by exact ((S5.out.at (.agg #[.slice ap mp cp]) (x)).mono hJ.bel))⟩
  · intro L vs a w' hJ hF hP hL
    have q2 : (a.tmps[2]?).getD undef = .int .i64 n := hF.old 2 rfl
    exact run_val (v := .int .i64 n) (hF.wants 40 HN HG _ 8 true true rfl rfl (hP ⟨8, .guard⟩ (by simp) rfl) (hJ.sp 8 (hP ⟨8, .guard⟩ (by simp) rfl))) (by simp [execOp, go_sem, q2]) ⟨_, rfl, hJ.step hL rfl (Below.refl _ _) (by exact rfl)⟩
  · intro L vs a w' hJ hF hP hL
    have p9 : L 9 = true := hP ⟨9, .data⟩ (by simp) rfl
    have s9 : IsNat w' (vs 9) (x) := hJ.sp 9 p9
    have q32 := hF.slot 9 32 rfl p9
    have p10 : L 10 = true := hP ⟨10, .data⟩ (by simp) rfl
    have s10 : vs 10 = .int .i64 n := hJ.sp 10 p10
    have q33 := hF.slot 10 33 rfl p10
    refine run_call (f := 29) (args := #[vs 9, .int .i64 n]) (hF.wants 40 HN HG _ 8 true true rfl rfl (hP ⟨8, .guard⟩ (by simp) rfl) (hJ.sp 8 (hP ⟨8, .guard⟩ (by simp) rfl))) (by simp [go_sem, q32, q33, s10]) (right_any _ x n _ s9 HX.out.1 hi0 hi1) ?_
    rintro e w2 ⟨v, rfl, hv, hb⟩
    exact ⟨_, rfl, _, rfl, hJ.step hL rfl hb (by exact hv)⟩
  · intro L vs a w' hJ hF hP hL
    have q4 : (a.tmps[4]?).getD undef = .pointer (some ⟨b + 1, 0, none⟩) := hF.old 4 rfl
    have cb := cell_later hJ.bel (S5.out.cell (b + 1) (.slice aq mq cq))
    exact run_val (v := .agg #[.slice aq mq cq]) (hF.wants 40 HN HG _ 8 true true rfl rfl (hP ⟨8, .guard⟩ (by simp) rfl) (hJ.sp 8 (hP ⟨8, .guard⟩ (by simp) rfl))) (by simp [execOp, go_sem, q4, cb]) ⟨_, rfl, hJ.step hL rfl (Below.refl _ _) (by exact ((S5.out.rat (.agg #[.slice aq mq cq]) (x)).mono hJ.bel))⟩
  · intro L vs a w' hJ hF hP hL
    have q2 : (a.tmps[2]?).getD undef = .int .i64 n := hF.old 2 rfl
    exact run_val (v := .int .i64 n) (hF.wants 40 HN HG _ 8 true true rfl rfl (hP ⟨8, .guard⟩ (by simp) rfl) (hJ.sp 8 (hP ⟨8, .guard⟩ (by simp) rfl))) (by simp [execOp, go_sem, q2]) ⟨_, rfl, hJ.step hL rfl (Below.refl _ _) (by exact rfl)⟩
  · intro L vs a w' hJ hF hP hL
    have p12 : L 12 = true := hP ⟨12, .data⟩ (by simp) rfl
    have s12 : RNat w' (vs 12) (x) := hJ.sp 12 p12
    have q35 := hF.slot 12 35 rfl p12
    have p13 : L 13 = true := hP ⟨13, .data⟩ (by simp) rfl
    have s13 : vs 13 = .int .i64 n := hJ.sp 13 p13
    have q36 := hF.slot 13 36 rfl p13
    refine run_call (f := 56) (args := #[vs 12, .int .i64 n]) (hF.wants 40 HN HG _ 8 true true rfl rfl (hP ⟨8, .guard⟩ (by simp) rfl) (hJ.sp 8 (hP ⟨8, .guard⟩ (by simp) rfl))) (by simp [go_sem, q35, q36, s13]) (rright1_any _ x n _ s12 HX.out.2.1 hi0 hi1) ?_
    rintro e w2 ⟨v, rfl, hv, hb⟩
    exact ⟨_, rfl, _, rfl, hJ.step hL rfl hb (by exact hv)⟩
  · intro L vs a w' hJ hF hP hL
    have p11 : L 11 = true := hP ⟨11, .data⟩ (by simp) rfl
    have s11 : IsNat w' (vs 11) (x / 2 ^ n.toNat) := hJ.sp 11 p11
    have q34 := hF.slot 11 34 rfl p11
    have p14 : L 14 = true := hP ⟨14, .data⟩ (by simp) rfl
    have s14 : RNat w' (vs 14) (x / 2 ^ n.toNat) := hJ.sp 14 p14
    have q37 := hF.slot 14 37 rfl p14
    refine run_call (f := 12) (args := #[vs 11, vs 14]) (hF.wants 40 HN HG _ 8 true true rfl rfl (hP ⟨8, .guard⟩ (by simp) rfl) (hJ.sp 8 (hP ⟨8, .guard⟩ (by simp) rfl))) (by simp [go_sem, q34, q37]) (same_true _ _ (x / 2 ^ n.toNat) _ s11 s14 HD.out.1 HD.out.2) ?_
    rintro e w2 ⟨rfl, hb⟩
    exact ⟨_, rfl, _, rfl, hJ.step hL rfl hb (by exact rfl)⟩
  · intro L vs a w' hJ hF hP hL
    have p8 : L 8 = true := hP ⟨8, .data⟩ (by simp) rfl
    have s8 : vs 8 = .bool true := hJ.sp 8 p8
    have q31 := hF.slot 8 31 rfl p8
    have p15 : L 15 = true := hP ⟨15, .data⟩ (by simp) rfl
    have s15 : vs 15 = .bool true := hJ.sp 15 p15
    have q38 := hF.slot 15 38 rfl p15
    exact run_val (v := .bool true) rfl (by simp [execOp, go_sem, q31, s8, q38, s15]) ⟨_, rfl, hJ.step hL rfl (Below.refl _ _) (by exact rfl)⟩
  · intro L vs a w' hJ hF hP hL
    have p16 : L 16 = true := hP ⟨16, .data⟩ (by simp) rfl
    have s16 : vs 16 = .bool true := hJ.sp 16 p16
    have q39 := hF.slot 16 39 rfl p16
    exact run_val (v := .bool true) rfl (by simp [execOp, go_sem, q39, s16]) ⟨_, rfl, hJ.step hL rfl (Below.refl _ _) (by exact rfl)⟩
  intro L vs w' hA hJ
  have s17 : vs 17 = .bool true := hJ.sp 17 (hA 17 (by simp))
  simp only [putL, Act.put, List.setIfInBounds_toArray, List.set_cons_zero, List.set_cons_succ, Nat.reduceAdd]
  simp only [s17]
  go_wp2_with fail
  go_ret
  exact ⟨rfl, (S5.out.go hJ.bel).bel⟩
end Go.Proofs.YtajkjfblpomdpaaDoor
namespace Go.Proofs.YtajkjfblpomdpaaDoor
open Go.RowKit
set_option maxRecDepth 100000
set_option linter.unusedVariables false
theorem pow_lt_P {n k : Nat} (h : n < 64 * k) : 2 ^ n < P k := by
  rw [P_two]
  exact Nat.pow_lt_pow_right (by decide) h
theorem bitLen_pow (n : Nat) : bitLen (2 ^ n) = n + 1 := by
  have h1 := bitLen_lt (2 ^ n)
  have h2 := (bitLen_spec (2 ^ n)).2 (Nat.ne_of_gt (Nat.two_pow_pos n))
  have h3 := (Nat.pow_lt_pow_iff_right (show 1 < 2 by decide)).1 h1
  have h4 := (Nat.pow_le_pow_iff_right (show 1 < 2 by decide)).1 h2
  omega
theorem bitOf_same (n : Nat) : bitOf (2 ^ n) n = true := by
  unfold bitOf
  rw [Nat.div_self (Nat.two_pow_pos n)]
  rfl
theorem bitOf_above (n : Nat) : bitOf (2 ^ n) (n + 1) = false := by
  unfold bitOf
  rw [Nat.div_eq_of_lt (Nat.pow_lt_pow_right (by decide) (by omega))]
  rfl
theorem bitOf_below (n : Nat) : bitOf (2 ^ (n + 1)) n = false := by
  unfold bitOf
  rw [Nat.pow_succ, Nat.mul_div_cancel_left _ (Nat.two_pow_pos n)]
  rfl
theorem bitOf_len (x : Nat) : bitOf x (bitLen x) = false := by
  unfold bitOf
  rw [Nat.div_eq_of_lt (bitLen_lt x)]
  rfl
theorem bitOf_top {x : Nat} (h : 0 < x) : bitOf x (bitLen x - 1) = true := by
  unfold bitOf
  have h1 := bitLen_lt x
  have h2 := (bitLen_spec x).2 (by omega)
  have h3 := bitLen_pos h
  have h4 : x / 2 ^ (bitLen x - 1) < 2 := by
    refine Nat.div_lt_of_lt_mul ?_
    rw [← Nat.pow_succ, show (bitLen x - 1).succ = bitLen x by omega]
    exact h1
  have h5 : 0 < x / 2 ^ (bitLen x - 1) := Nat.div_pos h2 (Nat.two_pow_pos _)
  have h6 : x / 2 ^ (bitLen x - 1) = 1 := by omega
  rw [h6]
  rfl
theorem mod_step_one {x i : Nat} (h : bitOf x i = true) : x % 2 ^ i + 2 ^ i = x % 2 ^ (i + 1) := by
  have h1 : x / 2 ^ i % 2 = 1 := by simpa [bitOf] using h
  rw [Nat.pow_succ, Nat.mod_mul, h1, Nat.mul_one]
theorem mod_step_zero {x i : Nat} (h : bitOf x i = false) : x % 2 ^ i = x % 2 ^ (i + 1) := by
  have h1 : ¬ x / 2 ^ i % 2 = 1 := by simpa [bitOf] using h
  have h2 := Nat.mod_lt (x / 2 ^ i) (show 0 < 2 by omega)
  rw [Nat.pow_succ, Nat.mod_mul, show x / 2 ^ i % 2 = 0 by omega, Nat.mul_zero, Nat.add_zero]
theorem i64_and511 (n : Int) : bits .and .i64 n 511 = n % 512 := by
  have h127 : (BitVec.ofInt 64 511).toNat = 2 ^ 9 - 1 := by decide
  have key : (BitVec.ofInt 64 n &&& BitVec.ofInt 64 511).toNat = (n % ((2 ^ 64 : Nat) : Int)).toNat % 2 ^ 9 := by
    rw [BitVec.toNat_and, BitVec.toNat_ofInt, h127, Nat.and_two_pow_sub_one_eq_mod]
  show IntKind.i64.wrap ((BitVec.ofInt 64 n &&& BitVec.ofInt 64 511).toNat : Nat) = n % 512
  rw [key, IntKind.wrap_i64]
  omega
/-- What holds as the bits are summed up: the sum's box, the number and its box. -/
structure Loop (w wr : World) (b bs : Nat) (u : Value) (x i : Nat) : Prop where
  sum : ∃ us, wr.rowIs bs 26 1 (fun _ => us) ∧ IsNat wr (.agg #[us]) (x % 2 ^ i)
  xnat : IsNat wr (.agg #[u]) x
  xcell : wr.cell? ⟨b, 0, none⟩ = some u
  bel : Below w.heap.size w wr
  ge : w.heap.size ≤ bs
  ne : b ≠ bs
theorem Loop.go {w wr wr' : World} {b bs : Nat} {u : Value} {x i : Nat} (h : Loop w wr b bs u x i) (hb : Below wr.heap.size wr wr') : Loop w wr' b bs u x i := by
  obtain ⟨⟨us, h1, h2⟩, h3, h4, h5, h6, h7⟩ := h
  exact ⟨⟨us, h1.of_block (hb.block _ h1.lt), h2.mono hb⟩, h3.mono hb, cell_later hb h4, bel_go h5 hb, h6, h7⟩
theorem Loop.zero {w wr : World} {b bs : Nat} {u : Value} {x i : Nat} (h : Loop w wr b bs u x i) (hb : bitOf x i = false) : Loop w wr b bs u x (i + 1) := by
  obtain ⟨⟨us, h1, h2⟩, h3, h4, h5, h6, h7⟩ := h
  exact ⟨⟨us, h1, mod_step_zero hb ▸ h2⟩, h3, h4, h5, h6, h7⟩
theorem Loop.set {w wr : World} {b bs : Nat} {u : Value} {x i : Nat} (h : Loop w wr b bs u x i) {a : Option Addr} {n c : Nat} (hn : IsNat wr (.agg #[.slice a n c]) (x % 2 ^ (i + 1))) : Loop w (wr.setCell ⟨bs, 0, none⟩ (.slice a n c)) b bs u x (i + 1) := by
  obtain ⟨⟨us, h1, h2⟩, h3, h4, h5, h6, h7⟩ := h
  obtain ⟨au, nu, cu, rfl⟩ := h2.cellOf
  have hc := h1.cell (i := 0) (by omega)
  refine ⟨⟨.slice a n c, (h1.set 0 _).congr (fun i hi => by rw [show i = 0 by omega, if_pos rfl]), hn.setCell (no_int_slice hc) _⟩, h3.setCell (no_int_slice hc) _, (World.cell?_setCell_other (h := fun e => h7 (by cases e; rfl)) ..).trans h4, h5.setCell h6 _, h6, h7⟩
end Go.Proofs.YtajkjfblpomdpaaDoor
namespace Go.Proofs.YtajkjfblpomdpaaDoor
open Go.RowKit
set_option maxRecDepth 100000
set_option linter.unusedVariables false
theorem pair_true (va vb ux uy : Value) (x y : Nat) (w : World) (h1 : IsNat w va x) (h2 : IsNat w vb y) (h3 : RNat w ux x) (h4 : RNat w uy y) (hp : PairOk x y) (hT : Tab w) :
    Calls Tryd.prog 10 #[va, vb, ux, uy] w fun e w' => e = .returned (.bool true) ∧ Below w.heap.size w w' := by
  rcases Nat.lt_or_ge x y with hc | hc
  · exact pair_less va vb ux uy x y w h1 h2 h3 h4 hp hT hc
  · by_cases hy0 : y = 0
    · exact pair_zero va vb ux uy x y w h1 h2 h3 h4 hp hT hc hy0
    · exact pair_more va vb ux uy x y w h1 h2 h3 h4 hp hT hc hy0
theorem shOk_of {x : Nat} {n : Int} (h : Mid x) (hn : n ≤ 20000 ∨ 16777216 < n) : ShOk x n := by
  have key : shV x n < P 388 := by
    unfold shV
    split
    · exact Nat.lt_of_le_of_lt (Nat.div_le_self _ _) (Nat.lt_trans h.lt (P_lt (by omega)))
    · split
      · exact P_pos _
      · split
        · exact P_pos _
        · have h2 : 2 ^ n.toNat ≤ P 313 := Nat.le_of_lt (pow_lt_P (n := n.toNat) (k := 313) (by omega))
          rw [show 388 = 75 + 313 from rfl, P_add]
          exact Nat.lt_of_lt_of_le (Nat.mul_lt_mul_of_pos_right h.lt (Nat.two_pow_pos _)) (Nat.mul_le_mul_left _ h2)
  exact ⟨fits_P key (by omega), rfits_P key (by omega)⟩
set_option maxHeartbeats 4000000 in
theorem natReckons_true (a0 : Option Addr) (l0 k0 : Nat) (D0 : Nat → Nat) (a1 : Option Addr) (l1 k1 : Nat) (D1 : Nat → Nat) (n s : Int) (w : World) (hB0 : BSl w a0 l0 k0 D0) (hB1 : BSl w a1 l1 k1 D1) (hn0 : -9223372036854775808 ≤ n) (hn1 : n ≤ 9223372036854775807) (hs0 : -9223372036854775808 ≤ s) (hs1 : s ≤ 9223372036854775807) (hT : Tab w) :
    Calls Tryd.prog 3 #[.slice a0 l0 k0, .slice a1 l1 k1, .int .i64 n, .int .i64 s] w fun e w' => e = .returned (.bool true) ∧ Below w.heap.size w w' := by
  have HB : Hid (BSl w a0 l0 k0 D0 ∧ BSl w a1 l1 k1 D1 ∧ Tab w) := ⟨hB0, hB1, hT⟩
  clear hB0 hB1 hT
  go_enter Tryd.func3, Tryd.ntmps3
  go_wp2_with fail
  refine (cut_any a0 l0 k0 D0 w HB.out.1).mono ?_
  rintro e w0 ⟨⟨m0, rfl, hm0, hm06⟩, hw0⟩
  rw [hw0]
  clear hw0 w0
  go_wp2_with fail
  refine (cut_any a1 l1 k1 D1 w HB.out.2.1).mono ?_
  rintro e w0 ⟨⟨m1, rfl, hm1, hm16⟩, hw0⟩
  rw [hw0]
  clear hw0 w0
  have HM : Hid (BSl w a0 m0 k0 D0 ∧ BSl w a1 m1 k1 D1) := ⟨hm0, hm1⟩
  have MM : Hid (Mid (BV D0 m0) ∧ Mid (BV D1 m1)) := ⟨⟨BV_P hm0.2.2.1 hm06⟩, ⟨BV_P hm1.2.2.1 hm16⟩⟩
  clear hm0 hm1
  obtain ⟨x, ex⟩ : ∃ x, x = BV D0 m0 := ⟨_, rfl⟩
  obtain ⟨y, ey⟩ : ∃ y, y = BV D1 m1 := ⟨_, rfl⟩
  rw [← ex, ← ey] at MM
  have EX : Hid (x = BV D0 m0 ∧ y = BV D1 m1) := ⟨ex, ey⟩
  clear ex ey
  go_wp2_with fail
  refine (fromBytes_any _ m0 k0 D0 _ HM.out.1 (by omega)).mono ?_
  rintro e w1 ⟨v1, rfl, hv1, hb1⟩
  obtain ⟨ap, mp, cp, rfl⟩ := hv1.isAgg
  rw [← EX.out.1] at hv1
  have I1 : Hid (IsNat w1 (.agg #[.slice ap mp cp]) x ∧ Below w.heap.size w w1) := ⟨hv1, hb1⟩
  clear hv1 hb1
  go_wp2_with fail
  refine (fromBytes_any _ m1 k1 D1 _ (HM.out.2.mono I1.out.2) (by omega)).mono ?_
  rintro e w2 ⟨v2, rfl, hv2, hb2⟩
  obtain ⟨aq, mq, cq, rfl⟩ := hv2.isAgg
  rw [← EX.out.2] at hv2
  have B2 : Hid (Below w.heap.size w w2) := bel_go I1.out.2 hb2
  have S2 : Hid _ := ((((sr_start w2).nat (I1.out.1.mono hb2)).nat hv2).box (.slice ap mp cp) 26 _ rfl).box (.slice aq mq cq) 26 _ rfl
  clear hv2 hb2 I1
  simp only [World.size_alloc] at S2
  go_wp2_with fail
  obtain ⟨w3, hw3⟩ : ∃ w3, w3 = (w2.alloc (Obj.cells #[Value.slice ap mp cp] 26)).alloc (Obj.cells #[Value.slice aq mq cq] 26) := ⟨_, rfl⟩
  obtain ⟨b, hb⟩ : ∃ b, b = w2.heap.size := ⟨_, rfl⟩
  rw [← hw3, ← hb] at S2
  rw [← hw3, ← hb]
  clear hw3 hb
  have B3 : Hid (Below w.heap.size w w3) := bel_go B2.out S2.out.bel
  refine (rfromBytes_any _ m0 k0 D0 _ (HM.out.1.mono B3.out) (by omega)).mono ?_
  rintro e w4 ⟨v4, rfl, hv4, hb4⟩
  obtain ⟨ar, mr, cr, rfl⟩ := hv4.isAgg
  rw [← EX.out.1] at hv4
  have S4 : Hid _ := (S2.out.go hb4).rnat hv4
  have B4 : Hid (Below w.heap.size w w4) := bel_go B3.out hb4
  clear hv4 hb4 S2 B3
  go_wp2_with fail
  refine (rfromBytes_any _ m1 k1 D1 _ (HM.out.2.mono B4.out) (by omega)).mono ?_
  rintro e w5 ⟨v5, rfl, hv5, hb5⟩
  obtain ⟨aS, ms, cs, rfl⟩ := hv5.isAgg
  rw [← EX.out.2] at hv5
  have S5 : Hid _ := (((S4.out.go hb5).rnat hv5).box (.slice ar mr cr) 29 _ rfl).box (.slice aS ms cs) 29 _ rfl
  clear hv5 hb5 S4 B4
  simp only [World.size_alloc] at S5
  go_wp2_with fail
  obtain ⟨w6, hw6⟩ : ∃ w6, w6 = (w5.alloc (Obj.cells #[Value.slice ar mr cr] 29)).alloc (Obj.cells #[Value.slice aS ms cs] 29) := ⟨_, rfl⟩
  obtain ⟨d, hd⟩ : ∃ d, d = w5.heap.size := ⟨_, rfl⟩
  rw [← hw6, ← hd] at S5
  rw [← hw6, ← hd]
  clear hw6 hd
  have T2 : Hid (Tab w2) := HB.out.2.2.go B2.out
  go_loopw [13] (fun t wr => ∃ i : Nat, i ≤ 2 ∧ t = .int .i64 (i : Int) ∧ Hid (SR w2 wr [(.agg #[.slice aq mq cq], y), (.agg #[.slice ap mp cp], x)] [(.agg #[.slice aS ms cs], y), (.agg #[.slice ar mr cr], x)] [(d + 1, .slice aS ms cs), (d, .slice ar mr cr), (b + 1, .slice aq mq cq), (b, .slice ap mp cp)])) (fun t _ => 2 - (intOf t).toNat)
  case atStart => exact ⟨0, by omega, rfl, S5⟩
  case round =>
    clear S5
    obtain ⟨i, hi, rfl, hS⟩ := hrel
    have c0 := hS.out.cell b (.slice ap mp cp)
    have c1 := hS.out.cell (b + 1) (.slice aq mq cq)
    have c2 := hS.out.cell d (.slice ar mr cr)
    have c3 := hS.out.cell (d + 1) (.slice aS ms cs)
    by_cases hi2 : i < 2
    · have d1 : decide ((i : Int) < 2) = true := decide_eq_true (by omega)
      go_wp2_with fail
      refine (pair_true _ _ _ _ x y _ (hS.out.at (.agg #[.slice ap mp cp]) x) (hS.out.at (.agg #[.slice aq mq cq]) y) (hS.out.rat (.agg #[.slice ar mr cr]) x) (hS.out.rat (.agg #[.slice aS ms cs]) y) (MM.out.1.pair MM.out.2) (hS.out.tab T2.out)).mono ?_
      rintro e w7 ⟨rfl, hb7⟩
      have S7 : Hid _ := hS.out.go hb7
      clear hb7 hS c0 c1 c2 c3
      have c0 := S7.out.cell b (.slice ap mp cp)
      have c1 := S7.out.cell (b + 1) (.slice aq mq cq)
      have c2 := S7.out.cell d (.slice ar mr cr)
      have c3 := S7.out.cell (d + 1) (.slice aS ms cs)
      go_wp2_with fail
      refine (pair_true _ _ _ _ y x _ (S7.out.at (.agg #[.slice aq mq cq]) y) (S7.out.at (.agg #[.slice ap mp cp]) x) (S7.out.rat (.agg #[.slice aS ms cs]) y) (S7.out.rat (.agg #[.slice ar mr cr]) x) (MM.out.2.pair MM.out.1) (S7.out.tab T2.out)).mono ?_
      rintro e w8 ⟨rfl, hb8⟩
      have S8 : Hid _ := S7.out.go hb8
      clear hb8 S7 c0 c1 c2 c3
      have c0 := S8.out.cell b (.slice ap mp cp)
      have c2 := S8.out.cell d (.slice ar mr cr)
      go_wp2_with fail
      refine (pair_true _ _ _ _ x x _ (S8.out.at (.agg #[.slice ap mp cp]) x) (S8.out.at (.agg #[.slice ap mp cp]) x) (S8.out.rat (.agg #[.slice ar mr cr]) x) (S8.out.rat (.agg #[.slice ar mr cr]) x) (MM.out.1.pair MM.out.1) (S8.out.tab T2.out)).mono ?_
      rintro e w9 ⟨rfl, hb9⟩
      have S9 : Hid _ := S8.out.go hb9
      clear hb9 S8 c0 c2
      go_wp2_with fail
      go_roundw
      case rel => exact ⟨i + 1, by omega, by go_num, S9⟩
      case measure => simp [intOf]; omega
    · have d1 : decide ((i : Int) < 2) = false := decide_eq_false (by omega)
      clear hi hi2
      obtain ⟨q, hq⟩ : ∃ q, q = s.tmod 2000 := ⟨_, rfl⟩
      have q1 : s.tmod 2000 = q := hq.symm
      have q2 : -2000 < q ∧ q < 2000 := by
        rw [hq]
        have h1 := Int.tmod_lt_of_pos s (show (0 : Int) < 2000 by omega)
        have h2 := Int.lt_tmod_of_pos s (show (0 : Int) < 2000 by omega)
        omega
      clear hq
      by_cases hn : 20000 < n
      · have t1 : decide (20000 < n) = true := decide_eq_true hn
        by_cases hn2 : n ≤ 16777216
        · have t2 : decide (n ≤ 16777216) = true := decide_eq_true hn2
          obtain ⟨r, hr⟩ : ∃ r, r = n.tmod 20000 := ⟨_, rfl⟩
          have r1 : n.tmod 20000 = r := hr.symm
          have r2 : 0 ≤ r ∧ r < 20000 := by
            rw [hr]
            have h1 := Int.tmod_lt_of_pos n (show (0 : Int) < 20000 by omega)
            have h2 := Int.tmod_nonneg 20000 (show 0 ≤ n by omega)
            omega
          clear hr
          go_wp2_with fail
          refine (moved_true _ _ x r _ (hS.out.at (.agg #[.slice ap mp cp]) x) (hS.out.rat (.agg #[.slice ar mr cr]) x) MM.out.1.fits MM.out.1.rfits (shOk_of MM.out.1 (.inl (by omega))) (by omega) (by omega)).mono ?_
          rintro e w7 ⟨rfl, hb7⟩
          have S7 : Hid _ := hS.out.go hb7
          clear hb7 hS c0 c1 c2 c3
          have c0 := S7.out.cell b (.slice ap mp cp)
          have c2 := S7.out.cell d (.slice ar mr cr)
          go_wp2_with fail
          refine (moved_true _ _ x q _ (S7.out.at (.agg #[.slice ap mp cp]) x) (S7.out.rat (.agg #[.slice ar mr cr]) x) MM.out.1.fits MM.out.1.rfits (shOk_of MM.out.1 (.inl (by omega))) (by omega) (by omega)).mono ?_
          rintro e w8 ⟨rfl, hb8⟩
          have S8 : Hid _ := S7.out.go hb8
          clear hb8 S7 c0 c2
          have c0 := S8.out.cell b (.slice ap mp cp)
          have c2 := S8.out.cell d (.slice ar mr cr)
          go_wp2_with fail
          refine (same_true _ _ x _ (S8.out.at (.agg #[.slice ap mp cp]) x) (S8.out.rat (.agg #[.slice ar mr cr]) x) MM.out.1.fits MM.out.1.rfits).mono ?_
          rintro e w9 ⟨rfl, hb9⟩
          have S9 : Hid _ := S8.out.go hb9
          clear hb9 S8 c0 c2
          have c1 := S9.out.cell (b + 1) (.slice aq mq cq)
          have c3 := S9.out.cell (d + 1) (.slice aS ms cs)
          go_wp2_with fail
          refine (same_true _ _ y _ (S9.out.at (.agg #[.slice aq mq cq]) y) (S9.out.rat (.agg #[.slice aS ms cs]) y) MM.out.2.fits MM.out.2.rfits).mono ?_
          rintro e w10 ⟨rfl, hb10⟩
          have S10 : Hid _ := S9.out.go hb10
          clear hb10 S9 c1 c3
          go_wp2_with fail
          refine (started_true _).mono ?_
          rintro e w11 ⟨rfl, hb11⟩
          have S11 : Hid _ := S10.out.go hb11
          clear hb11 S10
          go_wp2_with fail
          go_ret
          exact ⟨rfl, bel_go B2.out S11.out.bel⟩
        · have t2 : decide (n ≤ 16777216) = false := decide_eq_false hn2
          go_wp2_with fail
          refine (moved_true _ _ x n _ (hS.out.at (.agg #[.slice ap mp cp]) x) (hS.out.rat (.agg #[.slice ar mr cr]) x) MM.out.1.fits MM.out.1.rfits (shOk_of MM.out.1 (.inr (by omega))) (by omega) (by omega)).mono ?_
          rintro e w7 ⟨rfl, hb7⟩
          have S7 : Hid _ := hS.out.go hb7
          clear hb7 hS c0 c1 c2 c3
          have c0 := S7.out.cell b (.slice ap mp cp)
          have c2 := S7.out.cell d (.slice ar mr cr)
          go_wp2_with fail
          refine (moved_true _ _ x q _ (S7.out.at (.agg #[.slice ap mp cp]) x) (S7.out.rat (.agg #[.slice ar mr cr]) x) MM.out.1.fits MM.out.1.rfits (shOk_of MM.out.1 (.inl (by omega))) (by omega) (by omega)).mono ?_
          rintro e w8 ⟨rfl, hb8⟩
          have S8 : Hid _ := S7.out.go hb8
          clear hb8 S7 c0 c2
          have c0 := S8.out.cell b (.slice ap mp cp)
          have c2 := S8.out.cell d (.slice ar mr cr)
          go_wp2_with fail
          refine (same_true _ _ x _ (S8.out.at (.agg #[.slice ap mp cp]) x) (S8.out.rat (.agg #[.slice ar mr cr]) x) MM.out.1.fits MM.out.1.rfits).mono ?_
          rintro e w9 ⟨rfl, hb9⟩
          have S9 : Hid _ := S8.out.go hb9
          clear hb9 S8 c0 c2
          have c1 := S9.out.cell (b + 1) (.slice aq mq cq)
          have c3 := S9.out.cell (d + 1) (.slice aS ms cs)
          go_wp2_with fail
          refine (same_true _ _ y _ (S9.out.at (.agg #[.slice aq mq cq]) y) (S9.out.rat (.agg #[.slice aS ms cs]) y) MM.out.2.fits MM.out.2.rfits).mono ?_
          rintro e w10 ⟨rfl, hb10⟩
          have S10 : Hid _ := S9.out.go hb10
          clear hb10 S9 c1 c3
          go_wp2_with fail
          refine (started_true _).mono ?_
          rintro e w11 ⟨rfl, hb11⟩
          have S11 : Hid _ := S10.out.go hb11
          clear hb11 S10
          go_wp2_with fail
          go_ret
          exact ⟨rfl, bel_go B2.out S11.out.bel⟩
      · have t1 : decide (20000 < n) = false := decide_eq_false hn
        go_wp2_with fail
        refine (moved_true _ _ x n _ (hS.out.at (.agg #[.slice ap mp cp]) x) (hS.out.rat (.agg #[.slice ar mr cr]) x) MM.out.1.fits MM.out.1.rfits (shOk_of MM.out.1 (.inl (by omega))) (by omega) (by omega)).mono ?_
        rintro e w7 ⟨rfl, hb7⟩
        have S7 : Hid _ := hS.out.go hb7
        clear hb7 hS c0 c1 c2 c3
        have c0 := S7.out.cell b (.slice ap mp cp)
        have c2 := S7.out.cell d (.slice ar mr cr)
        go_wp2_with fail
        refine (moved_true _ _ x q _ (S7.out.at (.agg #[.slice ap mp cp]) x) (S7.out.rat (.agg #[.slice ar mr cr]) x) MM.out.1.fits MM.out.1.rfits (shOk_of MM.out.1 (.inl (by omega))) (by omega) (by omega)).mono ?_
        rintro e w8 ⟨rfl, hb8⟩
        have S8 : Hid _ := S7.out.go hb8
        clear hb8 S7 c0 c2
        have c0 := S8.out.cell b (.slice ap mp cp)
        have c2 := S8.out.cell d (.slice ar mr cr)
        go_wp2_with fail
        refine (same_true _ _ x _ (S8.out.at (.agg #[.slice ap mp cp]) x) (S8.out.rat (.agg #[.slice ar mr cr]) x) MM.out.1.fits MM.out.1.rfits).mono ?_
        rintro e w9 ⟨rfl, hb9⟩
        have S9 : Hid _ := S8.out.go hb9
        clear hb9 S8 c0 c2
        have c1 := S9.out.cell (b + 1) (.slice aq mq cq)
        have c3 := S9.out.cell (d + 1) (.slice aS ms cs)
        go_wp2_with fail
        refine (same_true _ _ y _ (S9.out.at (.agg #[.slice aq mq cq]) y) (S9.out.rat (.agg #[.slice aS ms cs]) y) MM.out.2.fits MM.out.2.rfits).mono ?_
        rintro e w10 ⟨rfl, hb10⟩
        have S10 : Hid _ := S9.out.go hb10
        clear hb10 S9 c1 c3
        go_wp2_with fail
        refine (started_true _).mono ?_
        rintro e w11 ⟨rfl, hb11⟩
        have S11 : Hid _ := S10.out.go hb11
        clear hb11 S10
        go_wp2_with fail
        go_ret
        exact ⟨rfl, bel_go B2.out S11.out.bel⟩
end Go.Proofs.YtajkjfblpomdpaaDoor
