/- Contracts of the program's functions, part 24: own work, joined in build order. -/
import Derived.Test.YtmiiaomdenpceaaGreatDoorJ23
import Derived.WalkKit
import Derived.ProofKit
import Derived.OpenShut
import Derived.ShutString
import Derived.ChangeOld
import Derived.Below
import Derived.LaidMore
import Derived.Lib.LaidTab
namespace Go.Proofs.YtmiiaomdenpceaaGreatDoor
open Go.RowKit
set_option maxRecDepth 100000
set_option linter.unusedVariables false
theorem and3_one (x : Nat) (h : x < 18446744073709551616) : bits .and .u64 (x : Int) 1 = ((x % 2 : Nat) : Int) := by
  have := bits_and_u64_nat x 1 h (by omega)
  rw [show (1 : Nat) = 2 ^ 1 - 1 from rfl, Nat.and_two_pow_sub_one_eq_mod] at this
  exact this
theorem top_lt {d M : Nat} (hd : d = 970) (hM : 18014398509481983 * 2 ^ d = M) : M < P 17 := by
  have h1 : 18014398509481983 * 2 ^ d < 2 ^ 54 * 2 ^ d := Nat.mul_lt_mul_of_pos_right (by decide) (Nat.two_pow_pos _)
  rw [← Nat.pow_add, hM] at h1
  exact Nat.lt_trans h1 (two_P (by omega))
theorem tf_none {p q : Nat} (h : tfOk p q = false) : tfV p q = 0 := by
  by_cases hp : p = 0
  · unfold tfV
    rw [if_pos hp]
  · exact (tf_over (by omega) (fun k => by rw [(tf_in (by omega) k).2] at h; exact absurd h (by decide))).1
set_option maxHeartbeats 2000000 in
theorem near3_no (a0 : Option Addr) (l0 k0 : Nat) (a1 : Option Addr) (l1 k1 : Nat) (m0 m1 x y p q : Nat) (w : World) (h0 : Fed3 w a0 l0 k0 m0 x) (h1 : Fed3 w a1 l1 k1 m1 y) (hT : Tab w) (hp : x / Nat.gcd x (orOne y) = p) (hq : orOne y / Nat.gcd x (orOne y) = q) (hF : Fc p q p q 38) (hk : tfOk p q = false) : Calls Tryz.prog 5 #[.slice a0 l0 k0, .slice a1 l1 k1] w fun e w' => e = .returned (.bool true) ∧ Below w.heap.size w w' := by
  have HK : Hid (tfV p q = 0 ∧ tfOk p q = false) := ⟨tf_none hk, hk⟩
  obtain ⟨d, hd⟩ : ∃ d, d = 970 := ⟨_, rfl⟩
  obtain ⟨M, hM⟩ : ∃ M, 18014398509481983 * 2 ^ d = M := ⟨_, rfl⟩
  obtain ⟨z, hz⟩ : ∃ z, cmpI (p * 1) (M * q) = z := ⟨_, rfl⟩
  have tc := top_cmp (p := p) hd hF.pos
  rw [hM, hz, hk] at tc
  have e1 : ¬ z < 0 := fun h => absurd (tc.1 h) (by decide)
  have e2 : decide (z < 0) = false := decide_eq_false e1
  have HM : Hid (18014398509481983 * 2 ^ d = M ∧ RS M ∧ d ≤ 16777216 ∧ (970 : Int) = (d : Int)) := ⟨hM, ⟨Nat.lt_of_lt_of_le (top_lt hd hM) (P_le (by omega))⟩, by omega, by omega⟩
  have HC : Hid _ := hF.cmp (low_fc (N := M) (D := 1) (n := 17) (by omega) (top_lt hd hM) (by rw [← hM] at *; exact Nat.lt_of_le_of_lt (Nat.mul_pos (by omega) (Nat.two_pow_pos _)) (top_lt hd rfl))) (by omega) (by omega) hz
  have HH : Hid (Fed3 w a0 l0 k0 m0 x ∧ Fed3 w a1 l1 k1 m1 y ∧ Tab w ∧ RS p ∧ RS q ∧ 0 < q) := ⟨h0, h1, hT, hF.rs1 (by omega), hF.rs2 (by omega), hF.pos⟩
  have HP : Hid (x / Nat.gcd x (orOne y) = p ∧ orOne y / Nat.gcd x (orOne y) = q) := ⟨hp, hq⟩
  clear hd hM hz tc h0 h1 hT hp hq hF
  go_enter Tryz.func5, Tryz.ntmps5
  go_wp2_with fail
  refine (made3_true a0 l0 k0 a1 l1 k1 m0 m1 x y _ HH.out.1 HH.out.2.1 HH.out.2.2.1).mono ?_
  rintro e v5w ⟨v5, v6, rfl, hv, hu, hb⟩
  rw [HP.out.1, HP.out.2] at hv hu
  obtain ⟨a5, n5, c5, d5, m5, g5, ev, _, _⟩ := hv.raw
  subst ev
  obtain ⟨a6, n6, c6, d6, m6, g6, ev, _, _⟩ := id hu
  subst ev
  have S1 : Hid _ := (((((sy_start w).go hb).addF hv).addG hu).box (.slice a5 n5 c5) (.slice d5 m5 g5) 28 _ rfl).box (.slice a6 n6 c6) (.slice d6 m6 g6) 32 _ rfl
  clear hv hu hb HP
  simp only [World.size_alloc] at S1
  go_wp2_with fail
  obtain ⟨w5, ew⟩ : ∃ w5, w5 = (v5w.alloc (.cells #[.slice a5 n5 c5, .slice d5 m5 g5] 28)).alloc (.cells #[.slice a6 n6 c6, .slice d6 m6 g6] 32) := ⟨_, rfl⟩
  obtain ⟨b5, eb⟩ : ∃ b5, b5 = v5w.heap.size := ⟨_, rfl⟩
  rw [← ew, ← eb] at S1
  rw [← ew, ← eb]
  clear ew eb
  refine (toFloat_any _ p q _ (S1.out.fr (.agg #[.slice a5 n5 c5, .slice d5 m5 g5]) p q) HH.out.2.2.2.1 HH.out.2.2.2.2.1 HH.out.2.2.2.2.2).mono ?_
  rintro e w7 ⟨rfl, hb⟩
  rw [HK.out.1, HK.out.2]
  have S2 : Hid _ := S1.out.go hb
  clear hb S1
  go_wp2_with fail
  refine (of_any 18014398509481983 _ (by omega)).mono ?_
  rintro e w8 ⟨v8, rfl, hv, hb⟩
  obtain ⟨a8, n8, c8, rfl⟩ := hv.isAgg
  have S3 : Hid _ := (S2.out.go hb).addN hv
  clear hv hb S2
  go_wp2_with fail
  rw [HM.out.2.2.2]
  refine (left_yes _ 18014398509481983 d _ (S3.out.at (.agg #[.slice a8 n8 c8]) 18014398509481983) (rs_word (by omega)).fits HM.out.2.2.1).mono ?_
  rintro e v9w ⟨v9, rfl, hv, hb⟩
  rw [HM.out.1] at hv
  obtain ⟨a9, n9, c9, rfl⟩ := hv.isAgg
  have S4 : Hid _ := ((S3.out.go hb).addN hv).box1 (.slice a9 n9 c9) 26 _ rfl
  clear hv hb S3
  go_wp2_with fail
  obtain ⟨w9, ew⟩ : ∃ w9, w9 = v9w.alloc (.cells #[.slice a9 n9 c9] 26) := ⟨_, rfl⟩
  obtain ⟨b9, eb⟩ : ∃ b9, b9 = v9w.heap.size := ⟨_, rfl⟩
  rw [← ew, ← eb] at S4
  rw [← ew, ← eb]
  clear ew eb
  refine wp_region_inv (JC w9 [sNat (M), sNat (1), sRtB (M / Nat.gcd M 1) (1 / Nat.gcd M 1) true, sRtB (M / Nat.gcd M 1) (1 / Nat.gcd M 1) true, sRt (M / Nat.gcd M 1) (1 / Nat.gcd M 1), sEq (.bool true), sAny, sAny, sEq (.bool true)] (6, 7, 4)) 111 (by kernel_rfl) rfl (by kernel_rfl) (JC.start _ _ _) (fun HG HN => ⟨?_, ?_, ?_, ?_, ?_, ?_, ?_, ?_, ?_, trivial⟩) ?_
  · intro L vs a w' hJ hF hP hL
    have q9 : (a.tmps[9]?).getD undef = .pointer (some ⟨b9, 0, none⟩) := hF.old 9 rfl
    have cb := cell_later hJ.bel (S4.out.cell (b9) (.slice a9 n9 c9))
    exact run_val (v := .agg #[.slice a9 n9 c9]) rfl (by simp [execOp, go_sem, q9, cb]) ⟨_, rfl, hJ.step hL rfl (Below.refl _ _) (by exact ((S4.out.at (.agg #[.slice a9 n9 c9]) (M)).mono hJ.bel))⟩
  · intro L vs a w' hJ hF hP hL
    refine run_call (f := 28) (args := #[.int .u64 1]) rfl (by simp [go_sem]) (of_any 1 _ (by omega)) ?_
    rintro e w2 ⟨v, rfl, hv, hb⟩
    exact ⟨_, rfl, _, rfl, hJ.step hL rfl hb (by exact hv)⟩
  · intro L vs a w' hJ hF hP hL
    have p0 : L 0 = true := hP ⟨0, .data⟩ (by simp) rfl
    have s0 : IsNat w' (vs 0) (M) := hJ.sp 0 p0
    have q34 := hF.slot 0 34 rfl p0
    have p1 : L 1 = true := hP ⟨1, .data⟩ (by simp) rfl
    have s1 : IsNat w' (vs 1) (1) := hJ.sp 1 p1
    have q35 := hF.slot 1 35 rfl p1
    refine run_call (f := 21) (args := #[vs 0, vs 1]) rfl (by simp [go_sem, q34, q35]) (from_any _ _ M 1 _ s0 s1 HM.out.2.1 (rs_word (by omega)) (by omega) (HH.out.2.2.1.go (bel_go S4.out.bel hJ.bel))) ?_
    rintro e w2 ⟨v1, rfl, h1, hb⟩
    exact ⟨_, rfl, _, rfl, hJ.step hL rfl hb (by exact ⟨v1, rfl, h1⟩)⟩
  · intro L vs a w' hJ hF hP hL
    have p2 : L 2 = true := hP ⟨2, .data⟩ (by simp) rfl
    have s2 : ∃ p, vs 2 = .tuple #[p, .bool true] ∧ Rt w' p (M / Nat.gcd M 1) (1 / Nat.gcd M 1) := hJ.sp 2 p2
    have q36 := hF.slot 2 36 rfl p2
    exact run_val (v := vs 2) rfl (by simp [execOp, go_sem, q36]) ⟨_, rfl, hJ.step hL rfl (Below.refl _ _) (by exact s2)⟩
  · intro L vs a w' hJ hF hP hL
    have p3 : L 3 = true := hP ⟨3, .data⟩ (by simp) rfl
    have s3 : ∃ p, vs 3 = .tuple #[p, .bool true] ∧ Rt w' p (M / Nat.gcd M 1) (1 / Nat.gcd M 1) := hJ.sp 3 p3
    have q33 := hF.slot 3 33 rfl p3
    obtain ⟨vp, e1, e2⟩ := s3
    exact run_val (v := vp) rfl (by simp [execOp, go_sem, q33, e1]) ⟨_, rfl, hJ.step hL rfl (Below.refl _ _) (by exact e2)⟩
  · intro L vs a w' hJ hF hP hL
    have p3 : L 3 = true := hP ⟨3, .data⟩ (by simp) rfl
    have s3 : ∃ p, vs 3 = .tuple #[p, .bool true] ∧ Rt w' p (M / Nat.gcd M 1) (1 / Nat.gcd M 1) := hJ.sp 3 p3
    have q33 := hF.slot 3 33 rfl p3
    obtain ⟨vp, e1, e2⟩ := s3
    exact run_val (v := .bool true) rfl (by simp [execOp, go_sem, q33, e1]) ⟨_, rfl, hJ.step hL rfl (Below.refl _ _) (by exact rfl)⟩
  · intro L vs a w' hJ hF hP hL
    exact run_val (v := .pointer (some ⟨w'.heap.size, 0, none⟩)) (w' := w'.alloc (.cells #[.slice none 0 0, .slice none 0 0] 28)) rfl (by simp [execOp, go_sem]) ⟨_, rfl, hJ.alloc hL rfl (by decide) rfl _⟩
  · intro L vs a w' hJ hF hP hL
    have p6 : L 6 = true := hP ⟨6, .data⟩ (by simp) rfl
    have q11 := hF.slot 6 11 rfl p6
    have p4 : L 4 = true := hP ⟨4, .data⟩ (by simp) rfl
    have s4 : Rt w' (vs 4) (M / Nat.gcd M 1) (1 / Nat.gcd M 1) := hJ.sp 4 p4
    have q37 := hF.slot 4 37 rfl p4
    obtain ⟨bk, e1, e2, e3, e4, e4', e5, e6⟩ := hJ.bx p6
    obtain ⟨e7, e7'⟩ := e5 hL
    obtain ⟨aa, nn, cc, a2, n2, c2, e8, _, _⟩ := s4.raw
    exact run_unit (w' := (w'.setCell ⟨bk, 0, none⟩ (.slice aa nn cc)).setCell ⟨bk, 1, none⟩ (.slice a2 n2 c2)) rfl (by simp [execOp, go_sem, q11, q37, e1, e8, e7, e4, e7', e4']) ⟨undef, rfl, hJ.store hL p6 p4 (by decide) rfl e1 e8⟩
  · intro L vs a w' hJ hF hP hL
    have p5 : L 5 = true := hP ⟨5, .data⟩ (by simp) rfl
    have s5 : vs 5 = .bool true := hJ.sp 5 p5
    have q38 := hF.slot 5 38 rfl p5
    exact run_val (v := .bool true) rfl (by simp [execOp, go_sem, q38, s5]) ⟨_, rfl, hJ.step hL rfl (Below.refl _ _) (by exact rfl)⟩
  intro L vs w' hA hJ
  have s4 : Rt w' (vs 4) (M / Nat.gcd M 1) (1 / Nat.gcd M 1) := hJ.sp 4 (hA 4 (by simp))
  have s8 : vs 8 = .bool true := hJ.sp 8 (hA 8 (by simp))
  obtain ⟨bk6, eb6, ge6, lt6, fz6, fz6', _, e6⟩ := hJ.bx (hA 6 (by simp))
  obtain ⟨_, u6, u6', eu6, ce6, ce6'⟩ := e6 (hA 7 (by simp))
  clear e6
  simp only [putL, Act.put, List.setIfInBounds_toArray, List.set_cons_zero, List.set_cons_succ, Nat.reduceAdd]
  obtain ⟨a11, n11, c11, d11, m11, g11, ev, _, _⟩ := s4.raw
  rw [ev] at s4 eu6
  obtain ⟨rfl, rfl⟩ : u6 = .slice a11 n11 c11 ∧ u6' = .slice d11 m11 g11 := by simpa [eq_comm] using eu6
  simp only [eb6, s8]
  have S5 : Hid _ := (((S4.out.go hJ.bel).addF s4).addC ce6').addC ce6
  obtain ⟨w11, ew⟩ : ∃ w11, w11 = w' := ⟨_, rfl⟩
  obtain ⟨b11, eb⟩ : ∃ b11, b11 = bk6 := ⟨_, rfl⟩
  rw [← ew, ← eb] at S5
  rw [← ew, ← eb]
  clear ew eb ev s4 s8 eu6 eb6 ce6 ce6' ge6 lt6 fz6 fz6' hJ hA S4
  have y5 := S5.out.cel b5 0 (.slice a5 n5 c5)
  have z5 := S5.out.cel b5 1 (.slice d5 m5 g5)
  have y11 := S5.out.cel b11 0 (.slice a11 n11 c11)
  have z11 := S5.out.cel b11 1 (.slice d11 m11 g11)
  go_wp2_with fail
  refine (HC.out _ _ _ (S5.out.fr (.agg #[.slice a5 n5 c5, .slice d5 m5 g5]) p q) (S5.out.fr (.agg #[.slice a11 n11 c11, .slice d11 m11 g11]) (M / Nat.gcd M 1) (1 / Nat.gcd M 1))).mono ?_
  rintro e w12 ⟨rfl, hb⟩
  have S6 : Hid _ := S5.out.go hb
  clear hb S5 HC HM
  clear y5 z5 y11 z11
  clear HK
  go_wp2_with fail
  refine (started3 _ (HH.out.2.2.1.go S6.out.bel)).mono ?_
  rintro e w13 ⟨rfl, hb⟩
  have HB : Hid (Below w.heap.size w w13) := (S6.out.go hb).bel
  clear hb S6
  go_wp2_with fail
  go_ret
  exact ⟨rfl, HB.out⟩
set_option maxHeartbeats 1000000 in
theorem near3_yes (a0 : Option Addr) (l0 k0 : Nat) (a1 : Option Addr) (l1 k1 : Nat) (m0 m1 x y p q : Nat) (w : World) (h0 : Fed3 w a0 l0 k0 m0 x) (h1 : Fed3 w a1 l1 k1 m1 y) (hT : Tab w) (hp : x / Nat.gcd x (orOne y) = p) (hq : orOne y / Nat.gcd x (orOne y) = q) (hF : Fc p q p q 38) (hk : tfOk p q = true) : Calls Tryz.prog 5 #[.slice a0 l0 k0, .slice a1 l1 k1] w fun e w' => e = .returned (.bool true) ∧ Below w.heap.size w w' := by
  obtain ⟨V, hV⟩ : ∃ V, tfV p q = V := ⟨_, rfl⟩
  have HK : Hid (tfV p q = V ∧ tfOk p q = true) := ⟨hV, hk⟩
  obtain ⟨hV1, A, B, g0, nx⟩ := near_any hF.low hF.pos hF.s1 hF.s2 hk
  rw [hV] at hV1 g0 nx
  have HV : Hid (V < 9218868437227405312) := hV1
  have G0 : Hid _ := g0
  have NX : Hid _ := nx
  have VV : Hid (∀ (m : Nat) w, m < 9218868437227405312 → Tab w → Calls Tryz.prog 32 #[.int .u64 (m : Int)] w (MakesR w (vlP m) (vlQ m))) := fun m w h t => value3_any m w h t
  obtain ⟨x0, hx0⟩ : ∃ x0, x0 = V / 4503599627370496 := ⟨_, rfl⟩
  obtain ⟨V2, hV2⟩ : ∃ V2, V2 = V + 1 := ⟨_, rfl⟩
  obtain ⟨x1, hx1⟩ : ∃ x1, x1 = V2 / 4503599627370496 := ⟨_, rfl⟩
  obtain ⟨E0, hE0⟩ : ∃ E0, E0 = x0 % 2048 := ⟨_, rfl⟩
  obtain ⟨E1, hE1⟩ : ∃ E1, E1 = x1 % 2048 := ⟨_, rfl⟩
  have r0 : (V : Int) / 9223372036854775808 = 0 := by omega
  have r1 : (V : Int) / 4503599627370496 = (x0 : Int) := by omega
  have r2 : bits .and .u64 (x0 : Int) 2047 = (E0 : Int) := by rw [hE0]; exact and3_2047 x0 (by omega)
  have r3 : ¬ (E0 : Int) = 2047 := by omega
  have rn : IntKind.u64.wrap ((V : Int) + 1) = (V2 : Int) := by rw [IntKind.wrap_u64]; omega
  have r4 : (V2 : Int) / 4503599627370496 = (x1 : Int) := by omega
  have r5 : bits .and .u64 (x1 : Int) 2047 = (E1 : Int) := by rw [hE1]; exact and3_2047 x1 (by omega)
  have HX : Hid ((¬ E1 = 2047 → V2 < 9218868437227405312) ∧ bits .and .u64 (V : Int) 1 = ((V % 2 : Nat) : Int) ∧ V2 = V + 1) := ⟨by omega, and3_one V (by omega), hV2⟩
  clear g0 nx hV hV1 hV2 hx0 hx1 hE0 hE1
  obtain ⟨d, hd⟩ : ∃ d, d = 970 := ⟨_, rfl⟩
  obtain ⟨M, hM⟩ : ∃ M, 18014398509481983 * 2 ^ d = M := ⟨_, rfl⟩
  obtain ⟨z, hz⟩ : ∃ z, cmpI (p * 1) (M * q) = z := ⟨_, rfl⟩
  have tc := top_cmp (p := p) hd hF.pos
  rw [hM, hz, hk] at tc
  have e1 : z < 0 := tc.2 rfl
  have e2 : decide (z < 0) = true := decide_eq_true e1
  have HM : Hid (18014398509481983 * 2 ^ d = M ∧ RS M ∧ d ≤ 16777216 ∧ (970 : Int) = (d : Int)) := ⟨hM, ⟨Nat.lt_of_lt_of_le (top_lt hd hM) (P_le (by omega))⟩, by omega, by omega⟩
  have HC : Hid _ := hF.cmp (low_fc (N := M) (D := 1) (n := 17) (by omega) (top_lt hd hM) (by rw [← hM] at *; exact Nat.lt_of_le_of_lt (Nat.mul_pos (by omega) (Nat.two_pow_pos _)) (top_lt hd rfl))) (by omega) (by omega) hz
  have HH : Hid (Fed3 w a0 l0 k0 m0 x ∧ Fed3 w a1 l1 k1 m1 y ∧ Tab w ∧ RS p ∧ RS q ∧ 0 < q) := ⟨h0, h1, hT, hF.rs1 (by omega), hF.rs2 (by omega), hF.pos⟩
  have HP : Hid (x / Nat.gcd x (orOne y) = p ∧ orOne y / Nat.gcd x (orOne y) = q) := ⟨hp, hq⟩
  clear hd hM hz tc h0 h1 hT hp hq hF
  go_enter Tryz.func5, Tryz.ntmps5
  go_wp2_with fail
  refine (made3_true a0 l0 k0 a1 l1 k1 m0 m1 x y _ HH.out.1 HH.out.2.1 HH.out.2.2.1).mono ?_
  rintro e v5w ⟨v5, v6, rfl, hv, hu, hb⟩
  rw [HP.out.1, HP.out.2] at hv hu
  obtain ⟨a5, n5, c5, d5, m5, g5, ev, _, _⟩ := hv.raw
  subst ev
  obtain ⟨a6, n6, c6, d6, m6, g6, ev, _, _⟩ := id hu
  subst ev
  have S1 : Hid _ := (((((sy_start w).go hb).addF hv).addG hu).box (.slice a5 n5 c5) (.slice d5 m5 g5) 28 _ rfl).box (.slice a6 n6 c6) (.slice d6 m6 g6) 32 _ rfl
  clear hv hu hb HP
  simp only [World.size_alloc] at S1
  go_wp2_with fail
  obtain ⟨w5, ew⟩ : ∃ w5, w5 = (v5w.alloc (.cells #[.slice a5 n5 c5, .slice d5 m5 g5] 28)).alloc (.cells #[.slice a6 n6 c6, .slice d6 m6 g6] 32) := ⟨_, rfl⟩
  obtain ⟨b5, eb⟩ : ∃ b5, b5 = v5w.heap.size := ⟨_, rfl⟩
  rw [← ew, ← eb] at S1
  rw [← ew, ← eb]
  clear ew eb
  refine (toFloat_any _ p q _ (S1.out.fr (.agg #[.slice a5 n5 c5, .slice d5 m5 g5]) p q) HH.out.2.2.2.1 HH.out.2.2.2.2.1 HH.out.2.2.2.2.2).mono ?_
  rintro e w7 ⟨rfl, hb⟩
  rw [HK.out.1, HK.out.2]
  have S2 : Hid _ := S1.out.go hb
  clear hb S1
  go_wp2_with fail
  refine (of_any 18014398509481983 _ (by omega)).mono ?_
  rintro e w8 ⟨v8, rfl, hv, hb⟩
  obtain ⟨a8, n8, c8, rfl⟩ := hv.isAgg
  have S3 : Hid _ := (S2.out.go hb).addN hv
  clear hv hb S2
  go_wp2_with fail
  rw [HM.out.2.2.2]
  refine (left_yes _ 18014398509481983 d _ (S3.out.at (.agg #[.slice a8 n8 c8]) 18014398509481983) (rs_word (by omega)).fits HM.out.2.2.1).mono ?_
  rintro e v9w ⟨v9, rfl, hv, hb⟩
  rw [HM.out.1] at hv
  obtain ⟨a9, n9, c9, rfl⟩ := hv.isAgg
  have S4 : Hid _ := ((S3.out.go hb).addN hv).box1 (.slice a9 n9 c9) 26 _ rfl
  clear hv hb S3
  go_wp2_with fail
  obtain ⟨w9, ew⟩ : ∃ w9, w9 = v9w.alloc (.cells #[.slice a9 n9 c9] 26) := ⟨_, rfl⟩
  obtain ⟨b9, eb⟩ : ∃ b9, b9 = v9w.heap.size := ⟨_, rfl⟩
  rw [← ew, ← eb] at S4
  rw [← ew, ← eb]
  clear ew eb
  refine wp_region_inv (JC w9 [sNat (M), sNat (1), sRtB (M / Nat.gcd M 1) (1 / Nat.gcd M 1) true, sRtB (M / Nat.gcd M 1) (1 / Nat.gcd M 1) true, sRt (M / Nat.gcd M 1) (1 / Nat.gcd M 1), sEq (.bool true), sAny, sAny, sEq (.bool true)] (6, 7, 4)) 111 (by kernel_rfl) rfl (by kernel_rfl) (JC.start _ _ _) (fun HG HN => ⟨?_, ?_, ?_, ?_, ?_, ?_, ?_, ?_, ?_, trivial⟩) ?_
  · intro L vs a w' hJ hF hP hL
    have q9 : (a.tmps[9]?).getD undef = .pointer (some ⟨b9, 0, none⟩) := hF.old 9 rfl
    have cb := cell_later hJ.bel (S4.out.cell (b9) (.slice a9 n9 c9))
    exact run_val (v := .agg #[.slice a9 n9 c9]) rfl (by simp [execOp, go_sem, q9, cb]) ⟨_, rfl, hJ.step hL rfl (Below.refl _ _) (by exact ((S4.out.at (.agg #[.slice a9 n9 c9]) (M)).mono hJ.bel))⟩
  · intro L vs a w' hJ hF hP hL
    refine run_call (f := 28) (args := #[.int .u64 1]) rfl (by simp [go_sem]) (of_any 1 _ (by omega)) ?_
    rintro e w2 ⟨v, rfl, hv, hb⟩
    exact ⟨_, rfl, _, rfl, hJ.step hL rfl hb (by exact hv)⟩
  · intro L vs a w' hJ hF hP hL
    have p0 : L 0 = true := hP ⟨0, .data⟩ (by simp) rfl
    have s0 : IsNat w' (vs 0) (M) := hJ.sp 0 p0
    have q34 := hF.slot 0 34 rfl p0
    have p1 : L 1 = true := hP ⟨1, .data⟩ (by simp) rfl
    have s1 : IsNat w' (vs 1) (1) := hJ.sp 1 p1
    have q35 := hF.slot 1 35 rfl p1
    refine run_call (f := 21) (args := #[vs 0, vs 1]) rfl (by simp [go_sem, q34, q35]) (from_any _ _ M 1 _ s0 s1 HM.out.2.1 (rs_word (by omega)) (by omega) (HH.out.2.2.1.go (bel_go S4.out.bel hJ.bel))) ?_
    rintro e w2 ⟨v1, rfl, h1, hb⟩
    exact ⟨_, rfl, _, rfl, hJ.step hL rfl hb (by exact ⟨v1, rfl, h1⟩)⟩
  · intro L vs a w' hJ hF hP hL
    have p2 : L 2 = true := hP ⟨2, .data⟩ (by simp) rfl
    have s2 : ∃ p, vs 2 = .tuple #[p, .bool true] ∧ Rt w' p (M / Nat.gcd M 1) (1 / Nat.gcd M 1) := hJ.sp 2 p2
    have q36 := hF.slot 2 36 rfl p2
    exact run_val (v := vs 2) rfl (by simp [execOp, go_sem, q36]) ⟨_, rfl, hJ.step hL rfl (Below.refl _ _) (by exact s2)⟩
  · intro L vs a w' hJ hF hP hL
    have p3 : L 3 = true := hP ⟨3, .data⟩ (by simp) rfl
    have s3 : ∃ p, vs 3 = .tuple #[p, .bool true] ∧ Rt w' p (M / Nat.gcd M 1) (1 / Nat.gcd M 1) := hJ.sp 3 p3
    have q33 := hF.slot 3 33 rfl p3
    obtain ⟨vp, e1, e2⟩ := s3
    exact run_val (v := vp) rfl (by simp [execOp, go_sem, q33, e1]) ⟨_, rfl, hJ.step hL rfl (Below.refl _ _) (by exact e2)⟩
  · intro L vs a w' hJ hF hP hL
    have p3 : L 3 = true := hP ⟨3, .data⟩ (by simp) rfl
    have s3 : ∃ p, vs 3 = .tuple #[p, .bool true] ∧ Rt w' p (M / Nat.gcd M 1) (1 / Nat.gcd M 1) := hJ.sp 3 p3
    have q33 := hF.slot 3 33 rfl p3
    obtain ⟨vp, e1, e2⟩ := s3
    exact run_val (v := .bool true) rfl (by simp [execOp, go_sem, q33, e1]) ⟨_, rfl, hJ.step hL rfl (Below.refl _ _) (by exact rfl)⟩
  · intro L vs a w' hJ hF hP hL
    exact run_val (v := .pointer (some ⟨w'.heap.size, 0, none⟩)) (w' := w'.alloc (.cells #[.slice none 0 0, .slice none 0 0] 28)) rfl (by simp [execOp, go_sem]) ⟨_, rfl, hJ.alloc hL rfl (by decide) rfl _⟩
  · intro L vs a w' hJ hF hP hL
    have p6 : L 6 = true := hP ⟨6, .data⟩ (by simp) rfl
    have q11 := hF.slot 6 11 rfl p6
    have p4 : L 4 = true := hP ⟨4, .data⟩ (by simp) rfl
    have s4 : Rt w' (vs 4) (M / Nat.gcd M 1) (1 / Nat.gcd M 1) := hJ.sp 4 p4
    have q37 := hF.slot 4 37 rfl p4
    obtain ⟨bk, e1, e2, e3, e4, e4', e5, e6⟩ := hJ.bx p6
    obtain ⟨e7, e7'⟩ := e5 hL
    obtain ⟨aa, nn, cc, a2, n2, c2, e8, _, _⟩ := s4.raw
    exact run_unit (w' := (w'.setCell ⟨bk, 0, none⟩ (.slice aa nn cc)).setCell ⟨bk, 1, none⟩ (.slice a2 n2 c2)) rfl (by simp [execOp, go_sem, q11, q37, e1, e8, e7, e4, e7', e4']) ⟨undef, rfl, hJ.store hL p6 p4 (by decide) rfl e1 e8⟩
  · intro L vs a w' hJ hF hP hL
    have p5 : L 5 = true := hP ⟨5, .data⟩ (by simp) rfl
    have s5 : vs 5 = .bool true := hJ.sp 5 p5
    have q38 := hF.slot 5 38 rfl p5
    exact run_val (v := .bool true) rfl (by simp [execOp, go_sem, q38, s5]) ⟨_, rfl, hJ.step hL rfl (Below.refl _ _) (by exact rfl)⟩
  intro L vs w' hA hJ
  have s4 : Rt w' (vs 4) (M / Nat.gcd M 1) (1 / Nat.gcd M 1) := hJ.sp 4 (hA 4 (by simp))
  have s8 : vs 8 = .bool true := hJ.sp 8 (hA 8 (by simp))
  obtain ⟨bk6, eb6, ge6, lt6, fz6, fz6', _, e6⟩ := hJ.bx (hA 6 (by simp))
  obtain ⟨_, u6, u6', eu6, ce6, ce6'⟩ := e6 (hA 7 (by simp))
  clear e6
  simp only [putL, Act.put, List.setIfInBounds_toArray, List.set_cons_zero, List.set_cons_succ, Nat.reduceAdd]
  obtain ⟨a11, n11, c11, d11, m11, g11, ev, _, _⟩ := s4.raw
  rw [ev] at s4 eu6
  obtain ⟨rfl, rfl⟩ : u6 = .slice a11 n11 c11 ∧ u6' = .slice d11 m11 g11 := by simpa [eq_comm] using eu6
  simp only [eb6, s8]
  have S5 : Hid _ := (((S4.out.go hJ.bel).addF s4).addC ce6').addC ce6
  obtain ⟨w11, ew⟩ : ∃ w11, w11 = w' := ⟨_, rfl⟩
  obtain ⟨b11, eb⟩ : ∃ b11, b11 = bk6 := ⟨_, rfl⟩
  rw [← ew, ← eb] at S5
  rw [← ew, ← eb]
  clear ew eb ev s4 s8 eu6 eb6 ce6 ce6' ge6 lt6 fz6 fz6' hJ hA S4
  have y5 := S5.out.cel b5 0 (.slice a5 n5 c5)
  have z5 := S5.out.cel b5 1 (.slice d5 m5 g5)
  have y11 := S5.out.cel b11 0 (.slice a11 n11 c11)
  have z11 := S5.out.cel b11 1 (.slice d11 m11 g11)
  go_wp2_with fail
  refine (HC.out _ _ _ (S5.out.fr (.agg #[.slice a5 n5 c5, .slice d5 m5 g5]) p q) (S5.out.fr (.agg #[.slice a11 n11 c11, .slice d11 m11 g11]) (M / Nat.gcd M 1) (1 / Nat.gcd M 1))).mono ?_
  rintro e w12 ⟨rfl, hb⟩
  have S6 : Hid _ := S5.out.go hb
  clear hb S5 HC HM
  clear y5 z5 y11 z11
  go_wp2_with fail
  refine (bits_any V _).mono ?_
  rintro e wx ⟨rfl, hwx⟩
  rw [hwx]
  clear hwx wx HK
  go_wp2_with fail
  refine wp_region_inv (JC w12 [sRt (p) (q), sEq (.int .u64 (V : Int)), sRt (vlP V) (vlQ V), sRt (A) (B), sAny, sAny] (4, 5, 3)) 111 (by kernel_rfl) rfl (by kernel_rfl) (JC.start _ _ _) (fun HG HN => ⟨?_, ?_, ?_, ?_, ?_, ?_, trivial⟩) ?_
  · intro L vs a w' hJ hF hP hL
    have q5 : (a.tmps[5]?).getD undef = .pointer (some ⟨b5, 0, none⟩) := hF.old 5 rfl
    have cb := cell_later hJ.bel (S6.out.cel (b5) 0 (.slice a5 n5 c5))
    have cc := cell_later hJ.bel (S6.out.cel (b5) 1 (.slice d5 m5 g5))
    exact run_val (v := .agg #[.slice a5 n5 c5, .slice d5 m5 g5]) rfl (by simp [execOp, go_sem, q5, cb, cc]) ⟨_, rfl, hJ.step hL rfl (Below.refl _ _) (by exact ((S6.out.fr (.agg #[.slice a5 n5 c5, .slice d5 m5 g5]) (p) (q)).mono hJ.bel))⟩
  · intro L vs a w' hJ hF hP hL
    have q13 : (a.tmps[13]?).getD undef = .int .u64 (V : Int) := hF.old 13 rfl
    exact run_val (v := .int .u64 (V : Int)) rfl (by simp [execOp, go_sem, q13]) ⟨_, rfl, hJ.step hL rfl (Below.refl _ _) (by exact rfl)⟩
  · intro L vs a w' hJ hF hP hL
    have p1 : L 1 = true := hP ⟨1, .data⟩ (by simp) rfl
    have s1 : vs 1 = .int .u64 (V : Int) := hJ.sp 1 p1
    have q64 := hF.slot 1 64 rfl p1
    refine run_call (f := 32) (args := #[.int .u64 (V : Int)]) rfl (by simp [go_sem, q64, s1]) (VV.out V _ HV.out (HH.out.2.2.1.go (bel_go S6.out.bel hJ.bel))) ?_
    rintro e w2 ⟨v, rfl, hv, hb⟩
    exact ⟨_, rfl, _, rfl, hJ.step hL rfl hb (by exact hv)⟩
  · intro L vs a w' hJ hF hP hL
    have p0 : L 0 = true := hP ⟨0, .data⟩ (by simp) rfl
    have s0 : Rt w' (vs 0) (p) (q) := hJ.sp 0 p0
    have q63 := hF.slot 0 63 rfl p0
    have p2 : L 2 = true := hP ⟨2, .data⟩ (by simp) rfl
    have s2 : Rt w' (vs 2) (vlP V) (vlQ V) := hJ.sp 2 p2
    have q65 := hF.slot 2 65 rfl p2
    refine run_call (f := 31) (args := #[vs 0, vs 2]) rfl (by simp [go_sem, q63, q65]) (G0.out _ _ _ s0 s2 (HH.out.2.2.1.go (bel_go S6.out.bel hJ.bel))) ?_
    rintro e w2 ⟨v, rfl, hv, hb⟩
    exact ⟨_, rfl, _, rfl, hJ.step hL rfl hb (by exact hv)⟩
  · intro L vs a w' hJ hF hP hL
    exact run_val (v := .pointer (some ⟨w'.heap.size, 0, none⟩)) (w' := w'.alloc (.cells #[.slice none 0 0, .slice none 0 0] 28)) rfl (by simp [execOp, go_sem]) ⟨_, rfl, hJ.alloc hL rfl (by decide) rfl _⟩
  · intro L vs a w' hJ hF hP hL
    have p4 : L 4 = true := hP ⟨4, .data⟩ (by simp) rfl
    have q14 := hF.slot 4 14 rfl p4
    have p3 : L 3 = true := hP ⟨3, .data⟩ (by simp) rfl
    have s3 : Rt w' (vs 3) (A) (B) := hJ.sp 3 p3
    have q66 := hF.slot 3 66 rfl p3
    obtain ⟨bk, e1, e2, e3, e4, e4', e5, e6⟩ := hJ.bx p4
    obtain ⟨e7, e7'⟩ := e5 hL
    obtain ⟨aa, nn, cc, a2, n2, c2, e8, _, _⟩ := s3.raw
    exact run_unit (w' := (w'.setCell ⟨bk, 0, none⟩ (.slice aa nn cc)).setCell ⟨bk, 1, none⟩ (.slice a2 n2 c2)) rfl (by simp [execOp, go_sem, q14, q66, e1, e8, e7, e4, e7', e4']) ⟨undef, rfl, hJ.store hL p4 p3 (by decide) rfl e1 e8⟩
  intro L vs w' hA hJ
  have s3 : Rt w' (vs 3) (A) (B) := hJ.sp 3 (hA 3 (by simp))
  obtain ⟨bk4, eb4, ge4, lt4, fz4, fz4', _, e6⟩ := hJ.bx (hA 4 (by simp))
  obtain ⟨_, u4, u4', eu4, ce4, ce4'⟩ := e6 (hA 5 (by simp))
  clear e6
  simp only [putL, Act.put, List.setIfInBounds_toArray, List.set_cons_zero, List.set_cons_succ, Nat.reduceAdd]
  obtain ⟨a14, n14, c14, d14, m14, g14, ev, _, _⟩ := s3.raw
  rw [ev] at s3 eu4
  obtain ⟨rfl, rfl⟩ : u4 = .slice a14 n14 c14 ∧ u4' = .slice d14 m14 g14 := by simpa [eq_comm] using eu4
  simp only [eb4]
  have S7 : Hid _ := (((S6.out.go hJ.bel).addF s3).addC ce4').addC ce4
  obtain ⟨w14, ew⟩ : ∃ w14, w14 = w' := ⟨_, rfl⟩
  obtain ⟨b14, eb⟩ : ∃ b14, b14 = bk4 := ⟨_, rfl⟩
  rw [← ew, ← eb] at S7
  rw [← ew, ← eb]
  clear ew eb ev s3 eu4 eb4 ce4 ce4' ge4 lt4 fz4 fz4' hJ hA S6
  by_cases hV0 : V = 0
  · have f0 : ¬ 0 < V := by omega
    have f1 : decide ((0 : Int) < (V : Int)) = false := decide_eq_false (by omega)
    clear hV0
    by_cases hE1 : E1 = 2047
    · have e3 : (E1 : Int) = 2047 := by omega
      go_wp2_with fail
      refine (started3 _ (HH.out.2.2.1.go S7.out.bel)).mono ?_
      rintro e w20 ⟨rfl, hb⟩
      have HB : Hid (Below w.heap.size w w20) := (S7.out.go hb).bel
      clear hb S7
      go_wp2_with fail
      go_ret
      exact ⟨rfl, HB.out⟩
    · have e3 : ¬ (E1 : Int) = 2047 := by omega
      have HN1 : Hid (V2 < 9218868437227405312) := HX.out.1 hE1
      obtain ⟨A2, B2, zz, g2, k2, l2, o2⟩ := NX.out V2 HN1.out (.inl HX.out.2.2)
      have G2 : Hid _ := g2
      have K2 : Hid _ := k2
      clear g2 k2
      go_wp2_with fail
      refine wp_region_inv (JB w14 [sRt (A) (B), sRt (p) (q), sEq (.int .u64 (V : Int)), sEq (.int .u64 (V2 : Int)), sRt (vlP V2) (vlQ V2), sRt (A2) (B2), sEq (.int .i64 zz), sEq (.int .i64 zz)] []) 111 (by kernel_rfl) rfl (by kernel_rfl) (JB.start _ _ _) (fun HG HN => ⟨?_, ?_, ?_, ?_, ?_, ?_, ?_, ?_, trivial⟩) ?_
      · intro L vs a w' hJ hF hP hL
        have q14 : (a.tmps[14]?).getD undef = .pointer (some ⟨b14, 0, none⟩) := hF.old 14 rfl
        have cb := cell_later hJ.bel (S7.out.cel (b14) 0 (.slice a14 n14 c14))
        have cc := cell_later hJ.bel (S7.out.cel (b14) 1 (.slice d14 m14 g14))
        exact run_val (v := .agg #[.slice a14 n14 c14, .slice d14 m14 g14]) rfl (by simp [execOp, go_sem, q14, cb, cc]) ⟨_, rfl, hJ.step hL rfl (Below.refl _ _) (by exact ((S7.out.fr (.agg #[.slice a14 n14 c14, .slice d14 m14 g14]) (A) (B)).mono hJ.bel))⟩
      · intro L vs a w' hJ hF hP hL
        have q5 : (a.tmps[5]?).getD undef = .pointer (some ⟨b5, 0, none⟩) := hF.old 5 rfl
        have cb := cell_later hJ.bel (S7.out.cel (b5) 0 (.slice a5 n5 c5))
        have cc := cell_later hJ.bel (S7.out.cel (b5) 1 (.slice d5 m5 g5))
        exact run_val (v := .agg #[.slice a5 n5 c5, .slice d5 m5 g5]) rfl (by simp [execOp, go_sem, q5, cb, cc]) ⟨_, rfl, hJ.step hL rfl (Below.refl _ _) (by exact ((S7.out.fr (.agg #[.slice a5 n5 c5, .slice d5 m5 g5]) (p) (q)).mono hJ.bel))⟩
      · intro L vs a w' hJ hF hP hL
        have q13 : (a.tmps[13]?).getD undef = .int .u64 (V : Int) := hF.old 13 rfl
        exact run_val (v := .int .u64 (V : Int)) rfl (by simp [execOp, go_sem, q13]) ⟨_, rfl, hJ.step hL rfl (Below.refl _ _) (by exact rfl)⟩
      · intro L vs a w' hJ hF hP hL
        have p2 : L 2 = true := hP ⟨2, .data⟩ (by simp) rfl
        have s2 : vs 2 = .int .u64 (V : Int) := hJ.sp 2 p2
        have q94 := hF.slot 2 94 rfl p2
        exact run_val (v := .int .u64 (V2 : Int)) rfl (by simp [execOp, go_sem, q94, s2, rn]) ⟨_, rfl, hJ.step hL rfl (Below.refl _ _) (by exact rfl)⟩
      · intro L vs a w' hJ hF hP hL
        have p3 : L 3 = true := hP ⟨3, .data⟩ (by simp) rfl
        have s3 : vs 3 = .int .u64 (V2 : Int) := hJ.sp 3 p3
        have q95 := hF.slot 3 95 rfl p3
        refine run_call (f := 32) (args := #[.int .u64 (V2 : Int)]) rfl (by simp [go_sem, q95, s3]) (VV.out V2 _ HN1.out (HH.out.2.2.1.go (bel_go S7.out.bel hJ.bel))) ?_
        rintro e w2 ⟨v, rfl, hv, hb⟩
        exact ⟨_, rfl, _, rfl, hJ.step hL rfl hb (by exact hv)⟩
      · intro L vs a w' hJ hF hP hL
        have p1 : L 1 = true := hP ⟨1, .data⟩ (by simp) rfl
        have s1 : Rt w' (vs 1) (p) (q) := hJ.sp 1 p1
        have q93 := hF.slot 1 93 rfl p1
        have p4 : L 4 = true := hP ⟨4, .data⟩ (by simp) rfl
        have s4 : Rt w' (vs 4) (vlP V2) (vlQ V2) := hJ.sp 4 p4
        have q96 := hF.slot 4 96 rfl p4
        refine run_call (f := 31) (args := #[vs 1, vs 4]) rfl (by simp [go_sem, q93, q96]) (G2.out _ _ _ s1 s4 (HH.out.2.2.1.go (bel_go S7.out.bel hJ.bel))) ?_
        rintro e w2 ⟨v, rfl, hv, hb⟩
        exact ⟨_, rfl, _, rfl, hJ.step hL rfl hb (by exact hv)⟩
      · intro L vs a w' hJ hF hP hL
        have p0 : L 0 = true := hP ⟨0, .data⟩ (by simp) rfl
        have s0 : Rt w' (vs 0) (A) (B) := hJ.sp 0 p0
        have q92 := hF.slot 0 92 rfl p0
        have p5 : L 5 = true := hP ⟨5, .data⟩ (by simp) rfl
        have s5 : Rt w' (vs 5) (A2) (B2) := hJ.sp 5 p5
        have q97 := hF.slot 5 97 rfl p5
        refine run_call (f := 30) (args := #[vs 0, vs 5]) rfl (by simp [go_sem, q92, q97]) (K2.out _ _ _ s0 s5) ?_
        rintro e w2 ⟨rfl, hb⟩
        exact ⟨_, rfl, _, rfl, hJ.step hL rfl hb (by exact rfl)⟩
      · intro L vs a w' hJ hF hP hL
        have p6 : L 6 = true := hP ⟨6, .data⟩ (by simp) rfl
        have s6 : vs 6 = .int .i64 zz := hJ.sp 6 p6
        have q98 := hF.slot 6 98 rfl p6
        exact run_val (v := .int .i64 zz) rfl (by simp [execOp, go_sem, q98, s6]) ⟨_, rfl, hJ.step hL rfl (Below.refl _ _) (by exact rfl)⟩
      intro L vs w' hA hJ
      have s7 : vs 7 = .int .i64 zz := hJ.sp 7 (hA 7 (by simp))
      simp only [putL, Act.put, List.setIfInBounds_toArray, List.set_cons_zero, List.set_cons_succ, Nat.reduceAdd]
      simp only [s7]
      obtain ⟨wr20, ew⟩ : ∃ wr20, wr20 = w' := ⟨_, rfl⟩
      have SR20 : Hid _ := S7.out.go hJ.bel
      rw [← ew] at SR20
      rw [← ew]
      clear ew s7 hJ hA S7
      have e4 : ¬ 0 < zz := by omega
      by_cases e5 : zz = 0
      · have e6 : bits .and .u64 (V : Int) 1 = 0 := by rw [HX.out.2.1, o2 e5]; rfl
        clear l2 o2
        go_wp2_with fail
        refine (started3 _ (HH.out.2.2.1.go SR20.out.bel)).mono ?_
        rintro e w201 ⟨rfl, hb⟩
        have HB : Hid (Below w.heap.size w w201) := (SR20.out.go hb).bel
        clear hb SR20
        go_wp2_with fail
        go_ret
        exact ⟨rfl, HB.out⟩
      · clear l2 o2
        go_wp2_with fail
        refine (started3 _ (HH.out.2.2.1.go SR20.out.bel)).mono ?_
        rintro e w202 ⟨rfl, hb⟩
        have HB : Hid (Below w.heap.size w w202) := (SR20.out.go hb).bel
        clear hb SR20
        go_wp2_with fail
        go_ret
        exact ⟨rfl, HB.out⟩
  · have f0 : 0 < V := by omega
    have f1 : decide ((0 : Int) < (V : Int)) = true := decide_eq_true (by omega)
    obtain ⟨V1, hV1⟩ : ∃ V1, V1 = V - 1 := ⟨_, rfl⟩
    have rm : IntKind.u64.wrap ((V : Int) - 1) = (V1 : Int) := by rw [IntKind.wrap_u64]; have := HV.out; omega
    have HM1 : Hid (V1 < 9218868437227405312) := by have := HV.out; show _ < _; omega
    obtain ⟨A1, B1, z1, g1, k1', l1', o1⟩ := NX.out V1 HM1.out (.inr (by omega))
    have G1 : Hid _ := g1
    have K1 : Hid _ := k1'
    clear g1 k1' hV1 hV0
    go_wp2_with fail
    refine wp_region_inv (JB w14 [sRt (A) (B), sRt (p) (q), sEq (.int .u64 (V : Int)), sEq (.int .u64 (V1 : Int)), sRt (vlP V1) (vlQ V1), sRt (A1) (B1), sEq (.int .i64 z1), sEq (.int .i64 z1)] []) 111 (by kernel_rfl) rfl (by kernel_rfl) (JB.start _ _ _) (fun HG HN => ⟨?_, ?_, ?_, ?_, ?_, ?_, ?_, ?_, trivial⟩) ?_
    · intro L vs a w' hJ hF hP hL
      have q14 : (a.tmps[14]?).getD undef = .pointer (some ⟨b14, 0, none⟩) := hF.old 14 rfl
      have cb := cell_later hJ.bel (S7.out.cel (b14) 0 (.slice a14 n14 c14))
      have cc := cell_later hJ.bel (S7.out.cel (b14) 1 (.slice d14 m14 g14))
      exact run_val (v := .agg #[.slice a14 n14 c14, .slice d14 m14 g14]) rfl (by simp [execOp, go_sem, q14, cb, cc]) ⟨_, rfl, hJ.step hL rfl (Below.refl _ _) (by exact ((S7.out.fr (.agg #[.slice a14 n14 c14, .slice d14 m14 g14]) (A) (B)).mono hJ.bel))⟩
    · intro L vs a w' hJ hF hP hL
      have q5 : (a.tmps[5]?).getD undef = .pointer (some ⟨b5, 0, none⟩) := hF.old 5 rfl
      have cb := cell_later hJ.bel (S7.out.cel (b5) 0 (.slice a5 n5 c5))
      have cc := cell_later hJ.bel (S7.out.cel (b5) 1 (.slice d5 m5 g5))
      exact run_val (v := .agg #[.slice a5 n5 c5, .slice d5 m5 g5]) rfl (by simp [execOp, go_sem, q5, cb, cc]) ⟨_, rfl, hJ.step hL rfl (Below.refl _ _) (by exact ((S7.out.fr (.agg #[.slice a5 n5 c5, .slice d5 m5 g5]) (p) (q)).mono hJ.bel))⟩
    · intro L vs a w' hJ hF hP hL
      have q13 : (a.tmps[13]?).getD undef = .int .u64 (V : Int) := hF.old 13 rfl
      exact run_val (v := .int .u64 (V : Int)) rfl (by simp [execOp, go_sem, q13]) ⟨_, rfl, hJ.step hL rfl (Below.refl _ _) (by exact rfl)⟩
    · intro L vs a w' hJ hF hP hL
      have p2 : L 2 = true := hP ⟨2, .data⟩ (by simp) rfl
      have s2 : vs 2 = .int .u64 (V : Int) := hJ.sp 2 p2
      have q71 := hF.slot 2 71 rfl p2
      exact run_val (v := .int .u64 (V1 : Int)) rfl (by simp [execOp, go_sem, q71, s2, rm]) ⟨_, rfl, hJ.step hL rfl (Below.refl _ _) (by exact rfl)⟩
    · intro L vs a w' hJ hF hP hL
      have p3 : L 3 = true := hP ⟨3, .data⟩ (by simp) rfl
      have s3 : vs 3 = .int .u64 (V1 : Int) := hJ.sp 3 p3
      have q72 := hF.slot 3 72 rfl p3
      refine run_call (f := 32) (args := #[.int .u64 (V1 : Int)]) rfl (by simp [go_sem, q72, s3]) (VV.out V1 _ HM1.out (HH.out.2.2.1.go (bel_go S7.out.bel hJ.bel))) ?_
      rintro e w2 ⟨v, rfl, hv, hb⟩
      exact ⟨_, rfl, _, rfl, hJ.step hL rfl hb (by exact hv)⟩
    · intro L vs a w' hJ hF hP hL
      have p1 : L 1 = true := hP ⟨1, .data⟩ (by simp) rfl
      have s1 : Rt w' (vs 1) (p) (q) := hJ.sp 1 p1
      have q70 := hF.slot 1 70 rfl p1
      have p4 : L 4 = true := hP ⟨4, .data⟩ (by simp) rfl
      have s4 : Rt w' (vs 4) (vlP V1) (vlQ V1) := hJ.sp 4 p4
      have q73 := hF.slot 4 73 rfl p4
      refine run_call (f := 31) (args := #[vs 1, vs 4]) rfl (by simp [go_sem, q70, q73]) (G1.out _ _ _ s1 s4 (HH.out.2.2.1.go (bel_go S7.out.bel hJ.bel))) ?_
      rintro e w2 ⟨v, rfl, hv, hb⟩
      exact ⟨_, rfl, _, rfl, hJ.step hL rfl hb (by exact hv)⟩
    · intro L vs a w' hJ hF hP hL
      have p0 : L 0 = true := hP ⟨0, .data⟩ (by simp) rfl
      have s0 : Rt w' (vs 0) (A) (B) := hJ.sp 0 p0
      have q69 := hF.slot 0 69 rfl p0
      have p5 : L 5 = true := hP ⟨5, .data⟩ (by simp) rfl
      have s5 : Rt w' (vs 5) (A1) (B1) := hJ.sp 5 p5
      have q74 := hF.slot 5 74 rfl p5
      refine run_call (f := 30) (args := #[vs 0, vs 5]) rfl (by simp [go_sem, q69, q74]) (K1.out _ _ _ s0 s5) ?_
      rintro e w2 ⟨rfl, hb⟩
      exact ⟨_, rfl, _, rfl, hJ.step hL rfl hb (by exact rfl)⟩
    · intro L vs a w' hJ hF hP hL
      have p6 : L 6 = true := hP ⟨6, .data⟩ (by simp) rfl
      have s6 : vs 6 = .int .i64 z1 := hJ.sp 6 p6
      have q75 := hF.slot 6 75 rfl p6
      exact run_val (v := .int .i64 z1) rfl (by simp [execOp, go_sem, q75, s6]) ⟨_, rfl, hJ.step hL rfl (Below.refl _ _) (by exact rfl)⟩
    intro L vs w' hA hJ
    have s7 : vs 7 = .int .i64 z1 := hJ.sp 7 (hA 7 (by simp))
    simp only [putL, Act.put, List.setIfInBounds_toArray, List.set_cons_zero, List.set_cons_succ, Nat.reduceAdd]
    simp only [s7]
    obtain ⟨w15, ew⟩ : ∃ w15, w15 = w' := ⟨_, rfl⟩
    have S8 : Hid _ := S7.out.go hJ.bel
    rw [← ew] at S8
    rw [← ew]
    clear ew s7 hJ hA S7
    have e4 : ¬ 0 < z1 := by omega
    by_cases e5 : z1 = 0
    · have e6 : bits .and .u64 (V : Int) 1 = 0 := by rw [HX.out.2.1, o1 e5]; rfl
      clear l1' o1
      by_cases hE1 : E1 = 2047
      · have e3 : (E1 : Int) = 2047 := by omega
        go_wp2_with fail
        refine (started3 _ (HH.out.2.2.1.go S8.out.bel)).mono ?_
        rintro e w31 ⟨rfl, hb⟩
        have HB : Hid (Below w.heap.size w w31) := (S8.out.go hb).bel
        clear hb S8
        go_wp2_with fail
        go_ret
        exact ⟨rfl, HB.out⟩
      · have e3 : ¬ (E1 : Int) = 2047 := by omega
        have HN1 : Hid (V2 < 9218868437227405312) := HX.out.1 hE1
        obtain ⟨A2, B2, zz, g2, k2, l2, o2⟩ := NX.out V2 HN1.out (.inl HX.out.2.2)
        have G2 : Hid _ := g2
        have K2 : Hid _ := k2
        clear g2 k2
        go_wp2_with fail
        refine wp_region_inv (JB w15 [sRt (A) (B), sRt (p) (q), sEq (.int .u64 (V : Int)), sEq (.int .u64 (V2 : Int)), sRt (vlP V2) (vlQ V2), sRt (A2) (B2), sEq (.int .i64 zz), sEq (.int .i64 zz)] []) 111 (by kernel_rfl) rfl (by kernel_rfl) (JB.start _ _ _) (fun HG HN => ⟨?_, ?_, ?_, ?_, ?_, ?_, ?_, ?_, trivial⟩) ?_
        · intro L vs a w' hJ hF hP hL
          have q14 : (a.tmps[14]?).getD undef = .pointer (some ⟨b14, 0, none⟩) := hF.old 14 rfl
          have cb := cell_later hJ.bel (S8.out.cel (b14) 0 (.slice a14 n14 c14))
          have cc := cell_later hJ.bel (S8.out.cel (b14) 1 (.slice d14 m14 g14))
          exact run_val (v := .agg #[.slice a14 n14 c14, .slice d14 m14 g14]) rfl (by simp [execOp, go_sem, q14, cb, cc]) ⟨_, rfl, hJ.step hL rfl (Below.refl _ _) (by exact ((S8.out.fr (.agg #[.slice a14 n14 c14, .slice d14 m14 g14]) (A) (B)).mono hJ.bel))⟩
        · intro L vs a w' hJ hF hP hL
          have q5 : (a.tmps[5]?).getD undef = .pointer (some ⟨b5, 0, none⟩) := hF.old 5 rfl
          have cb := cell_later hJ.bel (S8.out.cel (b5) 0 (.slice a5 n5 c5))
          have cc := cell_later hJ.bel (S8.out.cel (b5) 1 (.slice d5 m5 g5))
          exact run_val (v := .agg #[.slice a5 n5 c5, .slice d5 m5 g5]) rfl (by simp [execOp, go_sem, q5, cb, cc]) ⟨_, rfl, hJ.step hL rfl (Below.refl _ _) (by exact ((S8.out.fr (.agg #[.slice a5 n5 c5, .slice d5 m5 g5]) (p) (q)).mono hJ.bel))⟩
        · intro L vs a w' hJ hF hP hL
          have q13 : (a.tmps[13]?).getD undef = .int .u64 (V : Int) := hF.old 13 rfl
          exact run_val (v := .int .u64 (V : Int)) rfl (by simp [execOp, go_sem, q13]) ⟨_, rfl, hJ.step hL rfl (Below.refl _ _) (by exact rfl)⟩
        · intro L vs a w' hJ hF hP hL
          have p2 : L 2 = true := hP ⟨2, .data⟩ (by simp) rfl
          have s2 : vs 2 = .int .u64 (V : Int) := hJ.sp 2 p2
          have q94 := hF.slot 2 94 rfl p2
          exact run_val (v := .int .u64 (V2 : Int)) rfl (by simp [execOp, go_sem, q94, s2, rn]) ⟨_, rfl, hJ.step hL rfl (Below.refl _ _) (by exact rfl)⟩
        · intro L vs a w' hJ hF hP hL
          have p3 : L 3 = true := hP ⟨3, .data⟩ (by simp) rfl
          have s3 : vs 3 = .int .u64 (V2 : Int) := hJ.sp 3 p3
          have q95 := hF.slot 3 95 rfl p3
          refine run_call (f := 32) (args := #[.int .u64 (V2 : Int)]) rfl (by simp [go_sem, q95, s3]) (VV.out V2 _ HN1.out (HH.out.2.2.1.go (bel_go S8.out.bel hJ.bel))) ?_
          rintro e w2 ⟨v, rfl, hv, hb⟩
          exact ⟨_, rfl, _, rfl, hJ.step hL rfl hb (by exact hv)⟩
        · intro L vs a w' hJ hF hP hL
          have p1 : L 1 = true := hP ⟨1, .data⟩ (by simp) rfl
          have s1 : Rt w' (vs 1) (p) (q) := hJ.sp 1 p1
          have q93 := hF.slot 1 93 rfl p1
          have p4 : L 4 = true := hP ⟨4, .data⟩ (by simp) rfl
          have s4 : Rt w' (vs 4) (vlP V2) (vlQ V2) := hJ.sp 4 p4
          have q96 := hF.slot 4 96 rfl p4
          refine run_call (f := 31) (args := #[vs 1, vs 4]) rfl (by simp [go_sem, q93, q96]) (G2.out _ _ _ s1 s4 (HH.out.2.2.1.go (bel_go S8.out.bel hJ.bel))) ?_
          rintro e w2 ⟨v, rfl, hv, hb⟩
          exact ⟨_, rfl, _, rfl, hJ.step hL rfl hb (by exact hv)⟩
        · intro L vs a w' hJ hF hP hL
          have p0 : L 0 = true := hP ⟨0, .data⟩ (by simp) rfl
          have s0 : Rt w' (vs 0) (A) (B) := hJ.sp 0 p0
          have q92 := hF.slot 0 92 rfl p0
          have p5 : L 5 = true := hP ⟨5, .data⟩ (by simp) rfl
          have s5 : Rt w' (vs 5) (A2) (B2) := hJ.sp 5 p5
          have q97 := hF.slot 5 97 rfl p5
          refine run_call (f := 30) (args := #[vs 0, vs 5]) rfl (by simp [go_sem, q92, q97]) (K2.out _ _ _ s0 s5) ?_
          rintro e w2 ⟨rfl, hb⟩
          exact ⟨_, rfl, _, rfl, hJ.step hL rfl hb (by exact rfl)⟩
        · intro L vs a w' hJ hF hP hL
          have p6 : L 6 = true := hP ⟨6, .data⟩ (by simp) rfl
          have s6 : vs 6 = .int .i64 zz := hJ.sp 6 p6
          have q98 := hF.slot 6 98 rfl p6
          exact run_val (v := .int .i64 zz) rfl (by simp [execOp, go_sem, q98, s6]) ⟨_, rfl, hJ.step hL rfl (Below.refl _ _) (by exact rfl)⟩
        intro L vs w' hA hJ
        have s7 : vs 7 = .int .i64 zz := hJ.sp 7 (hA 7 (by simp))
        simp only [putL, Act.put, List.setIfInBounds_toArray, List.set_cons_zero, List.set_cons_succ, Nat.reduceAdd]
        simp only [s7]
        obtain ⟨wr31, ew⟩ : ∃ wr31, wr31 = w' := ⟨_, rfl⟩
        have SR31 : Hid _ := S8.out.go hJ.bel
        rw [← ew] at SR31
        rw [← ew]
        clear ew s7 hJ hA S8
        have e4 : ¬ 0 < zz := by omega
        by_cases e5 : zz = 0
        · have e6 : bits .and .u64 (V : Int) 1 = 0 := by rw [HX.out.2.1, o2 e5]; rfl
          clear l2 o2
          go_wp2_with fail
          refine (started3 _ (HH.out.2.2.1.go SR31.out.bel)).mono ?_
          rintro e w311 ⟨rfl, hb⟩
          have HB : Hid (Below w.heap.size w w311) := (SR31.out.go hb).bel
          clear hb SR31
          go_wp2_with fail
          go_ret
          exact ⟨rfl, HB.out⟩
        · clear l2 o2
          go_wp2_with fail
          refine (started3 _ (HH.out.2.2.1.go SR31.out.bel)).mono ?_
          rintro e w312 ⟨rfl, hb⟩
          have HB : Hid (Below w.heap.size w w312) := (SR31.out.go hb).bel
          clear hb SR31
          go_wp2_with fail
          go_ret
          exact ⟨rfl, HB.out⟩
    · clear l1' o1
      by_cases hE1 : E1 = 2047
      · have e3 : (E1 : Int) = 2047 := by omega
        go_wp2_with fail
        refine (started3 _ (HH.out.2.2.1.go S8.out.bel)).mono ?_
        rintro e w32 ⟨rfl, hb⟩
        have HB : Hid (Below w.heap.size w w32) := (S8.out.go hb).bel
        clear hb S8
        go_wp2_with fail
        go_ret
        exact ⟨rfl, HB.out⟩
      · have e3 : ¬ (E1 : Int) = 2047 := by omega
        have HN1 : Hid (V2 < 9218868437227405312) := HX.out.1 hE1
        obtain ⟨A2, B2, zz, g2, k2, l2, o2⟩ := NX.out V2 HN1.out (.inl HX.out.2.2)
        have G2 : Hid _ := g2
        have K2 : Hid _ := k2
        clear g2 k2
        go_wp2_with fail
        refine wp_region_inv (JB w15 [sRt (A) (B), sRt (p) (q), sEq (.int .u64 (V : Int)), sEq (.int .u64 (V2 : Int)), sRt (vlP V2) (vlQ V2), sRt (A2) (B2), sEq (.int .i64 zz), sEq (.int .i64 zz)] []) 111 (by kernel_rfl) rfl (by kernel_rfl) (JB.start _ _ _) (fun HG HN => ⟨?_, ?_, ?_, ?_, ?_, ?_, ?_, ?_, trivial⟩) ?_
        · intro L vs a w' hJ hF hP hL
          have q14 : (a.tmps[14]?).getD undef = .pointer (some ⟨b14, 0, none⟩) := hF.old 14 rfl
          have cb := cell_later hJ.bel (S8.out.cel (b14) 0 (.slice a14 n14 c14))
          have cc := cell_later hJ.bel (S8.out.cel (b14) 1 (.slice d14 m14 g14))
          exact run_val (v := .agg #[.slice a14 n14 c14, .slice d14 m14 g14]) rfl (by simp [execOp, go_sem, q14, cb, cc]) ⟨_, rfl, hJ.step hL rfl (Below.refl _ _) (by exact ((S8.out.fr (.agg #[.slice a14 n14 c14, .slice d14 m14 g14]) (A) (B)).mono hJ.bel))⟩
        · intro L vs a w' hJ hF hP hL
          have q5 : (a.tmps[5]?).getD undef = .pointer (some ⟨b5, 0, none⟩) := hF.old 5 rfl
          have cb := cell_later hJ.bel (S8.out.cel (b5) 0 (.slice a5 n5 c5))
          have cc := cell_later hJ.bel (S8.out.cel (b5) 1 (.slice d5 m5 g5))
          exact run_val (v := .agg #[.slice a5 n5 c5, .slice d5 m5 g5]) rfl (by simp [execOp, go_sem, q5, cb, cc]) ⟨_, rfl, hJ.step hL rfl (Below.refl _ _) (by exact ((S8.out.fr (.agg #[.slice a5 n5 c5, .slice d5 m5 g5]) (p) (q)).mono hJ.bel))⟩
        · intro L vs a w' hJ hF hP hL
          have q13 : (a.tmps[13]?).getD undef = .int .u64 (V : Int) := hF.old 13 rfl
          exact run_val (v := .int .u64 (V : Int)) rfl (by simp [execOp, go_sem, q13]) ⟨_, rfl, hJ.step hL rfl (Below.refl _ _) (by exact rfl)⟩
        · intro L vs a w' hJ hF hP hL
          have p2 : L 2 = true := hP ⟨2, .data⟩ (by simp) rfl
          have s2 : vs 2 = .int .u64 (V : Int) := hJ.sp 2 p2
          have q94 := hF.slot 2 94 rfl p2
          exact run_val (v := .int .u64 (V2 : Int)) rfl (by simp [execOp, go_sem, q94, s2, rn]) ⟨_, rfl, hJ.step hL rfl (Below.refl _ _) (by exact rfl)⟩
        · intro L vs a w' hJ hF hP hL
          have p3 : L 3 = true := hP ⟨3, .data⟩ (by simp) rfl
          have s3 : vs 3 = .int .u64 (V2 : Int) := hJ.sp 3 p3
          have q95 := hF.slot 3 95 rfl p3
          refine run_call (f := 32) (args := #[.int .u64 (V2 : Int)]) rfl (by simp [go_sem, q95, s3]) (VV.out V2 _ HN1.out (HH.out.2.2.1.go (bel_go S8.out.bel hJ.bel))) ?_
          rintro e w2 ⟨v, rfl, hv, hb⟩
          exact ⟨_, rfl, _, rfl, hJ.step hL rfl hb (by exact hv)⟩
        · intro L vs a w' hJ hF hP hL
          have p1 : L 1 = true := hP ⟨1, .data⟩ (by simp) rfl
          have s1 : Rt w' (vs 1) (p) (q) := hJ.sp 1 p1
          have q93 := hF.slot 1 93 rfl p1
          have p4 : L 4 = true := hP ⟨4, .data⟩ (by simp) rfl
          have s4 : Rt w' (vs 4) (vlP V2) (vlQ V2) := hJ.sp 4 p4
          have q96 := hF.slot 4 96 rfl p4
          refine run_call (f := 31) (args := #[vs 1, vs 4]) rfl (by simp [go_sem, q93, q96]) (G2.out _ _ _ s1 s4 (HH.out.2.2.1.go (bel_go S8.out.bel hJ.bel))) ?_
          rintro e w2 ⟨v, rfl, hv, hb⟩
          exact ⟨_, rfl, _, rfl, hJ.step hL rfl hb (by exact hv)⟩
        · intro L vs a w' hJ hF hP hL
          have p0 : L 0 = true := hP ⟨0, .data⟩ (by simp) rfl
          have s0 : Rt w' (vs 0) (A) (B) := hJ.sp 0 p0
          have q92 := hF.slot 0 92 rfl p0
          have p5 : L 5 = true := hP ⟨5, .data⟩ (by simp) rfl
          have s5 : Rt w' (vs 5) (A2) (B2) := hJ.sp 5 p5
          have q97 := hF.slot 5 97 rfl p5
          refine run_call (f := 30) (args := #[vs 0, vs 5]) rfl (by simp [go_sem, q92, q97]) (K2.out _ _ _ s0 s5) ?_
          rintro e w2 ⟨rfl, hb⟩
          exact ⟨_, rfl, _, rfl, hJ.step hL rfl hb (by exact rfl)⟩
        · intro L vs a w' hJ hF hP hL
          have p6 : L 6 = true := hP ⟨6, .data⟩ (by simp) rfl
          have s6 : vs 6 = .int .i64 zz := hJ.sp 6 p6
          have q98 := hF.slot 6 98 rfl p6
          exact run_val (v := .int .i64 zz) rfl (by simp [execOp, go_sem, q98, s6]) ⟨_, rfl, hJ.step hL rfl (Below.refl _ _) (by exact rfl)⟩
        intro L vs w' hA hJ
        have s7 : vs 7 = .int .i64 zz := hJ.sp 7 (hA 7 (by simp))
        simp only [putL, Act.put, List.setIfInBounds_toArray, List.set_cons_zero, List.set_cons_succ, Nat.reduceAdd]
        simp only [s7]
        obtain ⟨wr32, ew⟩ : ∃ wr32, wr32 = w' := ⟨_, rfl⟩
        have SR32 : Hid _ := S8.out.go hJ.bel
        rw [← ew] at SR32
        rw [← ew]
        clear ew s7 hJ hA S8
        have e4 : ¬ 0 < zz := by omega
        by_cases e5 : zz = 0
        · have e6 : bits .and .u64 (V : Int) 1 = 0 := by rw [HX.out.2.1, o2 e5]; rfl
          clear l2 o2
          go_wp2_with fail
          refine (started3 _ (HH.out.2.2.1.go SR32.out.bel)).mono ?_
          rintro e w321 ⟨rfl, hb⟩
          have HB : Hid (Below w.heap.size w w321) := (SR32.out.go hb).bel
          clear hb SR32
          go_wp2_with fail
          go_ret
          exact ⟨rfl, HB.out⟩
        · clear l2 o2
          go_wp2_with fail
          refine (started3 _ (HH.out.2.2.1.go SR32.out.bel)).mono ?_
          rintro e w322 ⟨rfl, hb⟩
          have HB : Hid (Below w.heap.size w w322) := (SR32.out.go hb).bel
          clear hb SR32
          go_wp2_with fail
          go_ret
          exact ⟨rfl, HB.out⟩
end Go.Proofs.YtmiiaomdenpceaaGreatDoor

namespace Go.Proofs.YtmiiaomdenpceaaGreatDoor
open Go.ChangeShapes Go.WideShapes Go.ChangeAt Go.RowKit
set_option linter.unusedVariables false
theorem ownD : ownKnob Tryz.prog.godebug = none := by kernel_rfl
theorem laidOutD : laidOutB Tryz.prog = true := by kernel_rfl
def IsRow (k : IntKind) (w : World) (a : Option Addr) (len cap : Nat) (zs : List Int) : Prop :=
  (a = none ∧ len = 0 ∧ cap = 0 ∧ zs = []) ∨
  ∃ x, a = some x ∧ len ≤ cap ∧ cap ≤ maxLen ∧ zs.length = cap ∧ (∀ i, i < zs.length → w.cell? (x.add i) = some (.int k (zs.getD i 0))) ∧ ∀ n ∈ zs, (Lit.int k n).wf = true
theorem row_bsl {w : World} {a : Option Addr} {len cap : Nat} {zs : List Int} (h : IsRow .u8 w a len cap zs) : BSl w a len cap (fun i => (zs.getD i 0).toNat) := by
  rcases h with ⟨rfl, rfl, rfl, rfl⟩ | ⟨x, rfl, hl, hm, hz, hcell, hwz⟩
  · exact ⟨Nat.le_refl _, by omega, fun i hi => absurd hi (by omega), .inl rfl⟩
  · have hw : ∀ i, i < len → 0 ≤ zs.getD i 0 ∧ zs.getD i 0 < 256 := by
      intro i hi
      have hi2 : i < zs.length := by omega
      have := hwz (zs.getD i 0) (by rw [List.getD_eq_getElem?_getD, List.getElem?_eq_getElem hi2]; exact List.getElem_mem hi2)
      have hmin : IntKind.u8.min = 0 := rfl
      have hmax : IntKind.u8.max = 255 := rfl
      have h2 : IntKind.u8.min ≤ zs.getD i 0 ∧ zs.getD i 0 ≤ IntKind.u8.max := by simpa [Lit.wf] using this
      rw [hmin, hmax] at h2
      omega
    refine ⟨hl, by simp only [maxLen] at hm; omega, fun i hi => ?_, ?_⟩
    · have := hw i hi
      show (zs.getD i 0).toNat < 256
      omega
    · rcases Nat.eq_zero_or_pos len with e | e
      · exact .inl e
      · obtain ⟨b, off, spot⟩ := x
        have hc := hcell 0 (by omega)
        have hspot : spot = none := by simpa [Addr.add] using World.cell?_spot hc
        subst hspot
        refine .inr ⟨b, off, rfl, fun i hi => ?_⟩
        have h1 := hcell i (by omega)
        have h2 := hw i hi
        have h3 : (⟨b, off, none⟩ : Addr).add i = ⟨b, off + i, none⟩ := by unfold Addr.add; split <;> simp_all
        rw [h3] at h1
        rw [h1]
        show some (Value.int .u8 (zs.getD i 0)) = some (Value.int .u8 (((zs.getD i 0).toNat : Nat) : Int))
        rw [Int.toNat_of_nonneg h2.1]
theorem openB {W : World} {H : Type} {enc : TypeId × Value → H} {fuel : Nat} {a : Option Addr} {len cap : Nat} {y : DataW H × List MemPlace} (hf : DataW.trod enc Tryz.prog W 0 (fun _ => true) true fuel 22 (Value.slice a len cap).cells.toList = some y) : ∃ D, BSl W a len cap D := by
  rcases open_ints Tryz.underlying22 Tryz.underlying5 (by kernel_rfl) hf with ⟨hcs, _⟩ | ⟨x, l, c, zs, hcs, _, hl, hm, hz, _, hcell, hwz⟩
  · simp [Value.cells] at hcs
    obtain ⟨rfl, rfl, rfl⟩ := hcs
    exact ⟨_, row_bsl (zs := []) (.inl ⟨rfl, rfl, rfl, rfl⟩)⟩
  · simp [Value.cells] at hcs
    obtain ⟨rfl, rfl, rfl⟩ := hcs
    exact ⟨_, row_bsl (zs := zs) (.inr ⟨_, rfl, hl, hm, by simpa using hz, hcell, hwz⟩)⟩
end Go.Proofs.YtmiiaomdenpceaaGreatDoor

namespace Go.Proofs.YtmiiaomdenpceaaGreatDoor
open Go.RowKit
theorem near3_any {w : World} {a0 : Option Addr} {l0 k0 : Nat} {a1 : Option Addr} {l1 k1 : Nat} {D0 D1 : Nat → Nat} (h0 : BSl w a0 l0 k0 D0) (h1 : BSl w a1 l1 k1 D1) (hT : Tab w) :
    Calls Tryz.prog 5 #[.slice a0 l0 k0, .slice a1 l1 k1] w fun e w' => e = .returned (.bool true) ∧ Below w.heap.size w w' := by
  obtain ⟨m0, x, f0⟩ := fed3_of h0
  obtain ⟨m1, y, f1⟩ := fed3_of h1
  have hy : orOne y < P 38 := by
    unfold orOne
    split
    · exact Nat.lt_of_lt_of_le (show 1 < P 1 by rw [P_one]; omega) (P_le (by omega))
    · exact f1.rs
  obtain ⟨e1, e2, e3⟩ := gcd_low (p := x) (orOne_pos y)
  have F := Fc.own (n := 38) e2 e3 (Nat.lt_of_le_of_lt (Nat.div_le_self _ _) f0.rs) (Nat.lt_of_le_of_lt (Nat.div_le_self _ _) hy)
  cases hk : tfOk (x / Nat.gcd x (orOne y)) (orOne y / Nat.gcd x (orOne y)) with
  | true => exact near3_yes a0 l0 k0 a1 l1 k1 m0 m1 x y _ _ w f0 f1 hT rfl rfl F hk
  | false => exact near3_no a0 l0 k0 a1 l1 k1 m0 m1 x y _ _ w f0 f1 hT rfl rfl F hk
end Go.Proofs.YtmiiaomdenpceaaGreatDoor

