/- Contracts of the program's functions, part 24: own work, joined in build order. -/
import Derived.Test.YtmiiaomdenpceaaGreatDoorJ23
import Derived.WalkKit
import Derived.ProofKit
import Derived.OpenShut
import Derived.ShutString
import Derived.ChangeOld
import Derived.Below
import Derived.LaidMore
import Derived.Lib.LaidTab
namespace Go.Proofs.YtmiiaomdenpceaaGreatDoor
open Go.RowKit
set_option maxRecDepth 100000
set_option linter.unusedVariables false
theorem fmt_size {p q k l n : Nat} (hF : Fc p q p q 38) (hk : DecLen p k) (hl : DecLen q l) (hn : n = 0 := by rfl) : (fmtT p q k l).size ≤ 9223372036854775807 := by
  have kp := dec_len hk (P_up hF.s1 (by omega))
  have kq := dec_len hl (P_up hF.s2 (by omega))
  unfold fmtT
  split
  · rw [text_size]; omega
  · rw [ByteArray.size_append, ByteArray.size_append, text_size, text_size, one_size]; omega
theorem near_P {p q m : Nat} (hp : p < P 38) (hm : m ≤ 63) : nearN (p * 10 ^ m) q < P 43 := by
  have h1 : 10 ^ m ≤ 10 ^ 63 := Nat.pow_le_pow_right (by omega) hm
  have h2 : (10 : Nat) ^ 63 < P 4 := by decide +kernel
  have h3 : p * 10 ^ m < P (38 + 4) := mulP_lt hp (by omega)
  have h4 := nearN_up (p * 10 ^ m) q
  have h5 : P 43 = P 42 * 18446744073709551616 := P_succ 42
  have h6 := P_pos 42
  rw [show 38 + 4 = 42 from rfl] at h3
  omega
theorem dec_size {p q m j : Nat} (hF : Fc p q p q 38) (hm : m ≤ 63) (hj : DecLen (nearN (p * 10 ^ m) q) j) : (decimalT p q m j).size ≤ 9223372036854775807 := by
  have kp := dec_len hj (P_up (near_P hF.s1 hm) (by omega))
  rw [decimal_size hj]
  split
  · omega
  · split <;> omega
theorem ten_P {m : Nat} (hm : m ≤ 63) : 10 ^ m < P 43 := by
  have h1 : 10 ^ m ≤ 10 ^ 63 := Nat.pow_le_pow_right (by omega) hm
  have h2 : (10 : Nat) ^ 63 < P 43 := by decide +kernel
  omega
theorem back_gap {p q m N : Nat} (hF : Fc p q p q 38) (hm : m ≤ 63) (hN : nearN (p * 10 ^ m) q = N) :
    ∃ t z, ∃ X Y, Fc t z N (10 ^ m) 43 ∧ t = N / Nat.gcd N (10 ^ m) ∧ z = 10 ^ m / Nat.gcd N (10 ^ m) ∧ Fc X Y (dst (N * q) (p * 10 ^ m)) (10 ^ m * q) 81 ∧ (∀ v u w, Rt w v t z → Rt w u p q → Tab w → Calls Tryz.prog 31 #[v, u] w (MakesR w X Y)) ∧ 2 * dst (N * q) (p * 10 ^ m) ≤ q := by
  have h1 := low_fc (N := N) (D := 10 ^ m) (n := 43) (Nat.pow_pos (by omega)) (by rw [← hN]; exact near_P hF.s1 hm) (ten_P hm)
  obtain ⟨X, Y, g1, g2⟩ := h1.gap hF (by omega) (by omega)
  refine ⟨_, _, X, Y, h1, rfl, rfl, g1, g2, ?_⟩
  obtain ⟨b1, b2, _, _⟩ := near_bounds (p := p * 10 ^ m) hF.pos
  rw [hN] at b1 b2
  unfold dst
  omega
theorem SY.put2 {w0 w : World} {N M : List (Value × Nat)} {F G : List (Value × Nat × Nat)} {C : List (Nat × Nat × Value)} {Z : List Nat} (h : SY w0 w N M F G C Z) {b : Nat} {a1 a2 : Option Addr} {n1 c1 n2 c2 : Nat} (k0 : w.cell? ⟨b, 0, none⟩ = some (.slice a1 n1 c1)) (k1 : w.cell? ⟨b, 1, none⟩ = some (.slice a2 n2 c2)) (hb : b ∈ Z) (C' : List (Nat × Nat × Value)) (hC : ∀ p ∈ C', p ∈ C ∧ p.1 ≠ b) (u u' : Value) :
    SY w0 ((w.setCell ⟨b, 0, none⟩ u).setCell ⟨b, 1, none⟩ u') N M F G ((b, 0, u) :: (b, 1, u') :: C') Z := by
  have h1 := h.set k0 (h.lo b hb) C' hC u
  have j1 : (w.setCell ⟨b, 0, none⟩ u).cell? ⟨b, 1, none⟩ = some (.slice a2 n2 c2) := by simp [go_sem, k1]
  have h2 := h1.set j1 (h.lo b hb) C' (fun p hp => ⟨hp, (hC p hp).2⟩) u'
  have j2 : ((w.setCell ⟨b, 0, none⟩ u).setCell ⟨b, 1, none⟩ u').cell? ⟨b, 1, none⟩ = some u' := by simp [go_sem, k1]
  have j3 : ((w.setCell ⟨b, 0, none⟩ u).setCell ⟨b, 1, none⟩ u').cell? ⟨b, 0, none⟩ = some u := by simp [go_sem, k0]
  exact (h2.addC j2).addC j3
/-- NumBack at its loop: what was read, the fraction, the unit. -/
def BkS (w0 w : World) (b8 bt bu : Nat) (s8 t8 st tt su tu : Value) (p q t z i : Nat) : Prop :=
  SY w0 w [] [] [(.agg #[su, tu], 1, 2 * 10 ^ i), (.agg #[s8, t8], p, q), (.agg #[st, tt], t, z)] [] [(bu, 0, su), (bu, 1, tu), (b8, 0, s8), (b8, 1, t8), (bt, 0, st), (bt, 1, tt)] [bu] ∧ ¬ b8 = bu ∧ ¬ bt = bu
theorem half_any (w : World) (hT : Tab w) : Calls Tryz.prog 37 #[.int .i64 1, .int .i64 2] w (MakesRB w 1 2 true) := by
  have h := ratOf_yes 1 2 w (by omega) (by omega) (by omega) hT
  rw [show 1 / Nat.gcd 1 2 = 1 by decide, show 2 / Nat.gcd 1 2 = 2 by decide] at h
  exact h
theorem unit_fc {i : Nat} (hi : i ≤ 64) : Fc 1 (2 * 10 ^ i) 1 (2 * 10 ^ i) 5 := by
  have h1 : 10 ^ i ≤ 10 ^ 64 := Nat.pow_le_pow_right (by omega) hi
  have h2 : 2 * (10 : Nat) ^ 64 < P 5 := by decide +kernel
  exact Fc.own (Nat.gcd_one_left _) (Nat.mul_pos (by omega) (Nat.pow_pos (by omega))) (Nat.lt_of_lt_of_le (show 1 < P 1 by rw [P_one]; omega) (P_le (by omega))) (by omega)
theorem div_ten (i : Nat) (v : Value) (w : World) (hi : i < 64) (h : Rt w v 1 (2 * 10 ^ i)) (hT : Tab w) : Calls Tryz.prog 38 #[v, .int .i64 10] w (MakesRB w 1 (2 * 10 ^ (i + 1)) true) := by
  obtain ⟨A, B, f, c⟩ := (unit_fc (i := i) (by omega)).divInt (k := 10) (by omega) (by omega) (by omega)
  rw [show 2 * 10 ^ i * 10 = 2 * 10 ^ (i + 1) by rw [Nat.pow_succ, Nat.mul_assoc]] at f
  obtain ⟨rfl, rfl⟩ := f.one (unit_fc (i := i + 1) (by omega))
  exact c v w h hT
theorem cmpI_le {a b : Nat} (h : a ≤ b) : cmpI a b ≤ 0 := by
  unfold cmpI
  split
  · omega
  · split <;> omega
theorem unit_cmp {X Y d m q : Nat} (h : Fc X Y d (10 ^ m * q) 81) (h2 : 2 * d ≤ q) (hm : m ≤ 63) : ∃ z : Int, (∀ v u w, Rt w v X Y → Rt w u 1 (2 * 10 ^ m) → Calls Tryz.prog 30 #[v, u] w fun e w' => e = .returned (.int .i64 z) ∧ Below w.heap.size w w') ∧ z ≤ 0 := by
  refine ⟨_, h.cmp (unit_fc (i := m) (by omega)) (by omega) (by omega) rfl, cmpI_le ?_⟩
  have := Nat.mul_le_mul_left (10 ^ m) h2
  rw [Nat.one_mul, show d * (2 * 10 ^ m) = 10 ^ m * (2 * d) by rw [Nat.mul_comm d, Nat.mul_assoc 2, Nat.mul_left_comm 2]]
  exact this
set_option maxHeartbeats 1000000 in
theorem back3 (u : Nat) (a0 : Option Addr) (l0 k0 : Nat) (a1 : Option Addr) (l1 k1 : Nat) (m0 m1 x y p q m k l j : Nat) (pl : Int) (w : World) (hu : u < 18446744073709551616) (h0 : Fed3 w a0 l0 k0 m0 x) (h1 : Fed3 w a1 l1 k1 m1 y) (hT : Tab w) (hp : x / Nat.gcd x (orOne y) = p) (hq : orOne y / Nat.gcd x (orOne y) = q) (hF : Fc p q p q 38) (hm : m ≤ 63) (hpl : bits .and .i64 pl 63 = (m : Int)) (hk : DecLen p k) (hl : DecLen q l) (hj : DecLen (nearN (p * 10 ^ m) q) j) : Calls Tryz.prog 6 #[.int .u64 (u : Int), .slice a0 l0 k0, .slice a1 l1 k1, .int .i64 pl] w fun e w' => e = .returned (.bool true) ∧ Below w.heap.size w w' := by
  have nf := np_fmt hF.low hF.pos hk hl
  have nd := np_dec (p := p) (q := q) hj
  obtain ⟨SS, hSS⟩ : ∃ SS, fmtT p q k l = SS := ⟨_, rfl⟩
  obtain ⟨TT, hTT⟩ : ∃ TT, decimalT p q m j = TT := ⟨_, rfl⟩
  rw [hSS] at nf
  rw [hTT] at nd
  obtain ⟨N, hN⟩ : ∃ N, nearN (p * 10 ^ m) q = N := ⟨_, rfl⟩
  rw [hN] at nd
  have HZ : Hid (SS.size ≤ 9223372036854775807 ∧ TT.size ≤ 9223372036854775807) := ⟨by rw [← hSS]; exact fmt_size hF hk hl, by rw [← hTT]; exact dec_size hF hm hj⟩
  have HS : Hid (fmtT p q k l = SS ∧ decimalT p q m j = TT) := ⟨hSS, hTT⟩
  have HN : Hid _ := (⟨nf.1, nf.2, nd.1, nd.2⟩ : _ ∧ _ ∧ _ ∧ _)
  have HG : Hid (∃ t z, ∃ X Y, Fc t z N (10 ^ m) 43 ∧ t = N / Nat.gcd N (10 ^ m) ∧ z = 10 ^ m / Nat.gcd N (10 ^ m) ∧ Fc X Y (dst (N * q) (p * 10 ^ m)) (10 ^ m * q) 81 ∧ (∀ v u w, Rt w v t z → Rt w u p q → Tab w → Calls Tryz.prog 31 #[v, u] w (MakesR w X Y)) ∧ 2 * dst (N * q) (p * 10 ^ m) ≤ q) := back_gap hF hm hN
  have HC : Hid (RS p ∧ RS q ∧ 0 < q ∧ DecLen p k ∧ DecLen q l) := ⟨hF.rs1 (by omega), hF.rs2 (by omega), hF.pos, hk, hl⟩
  have HD : Hid (p < P 80 ∧ q < P 80 ∧ 0 < q ∧ m ≤ 100 ∧ DecLen (nearN (p * 10 ^ m) q) j) := ⟨P_up hF.s1 (by omega), P_up hF.s2 (by omega), hF.pos, by omega, hj⟩
  have HE : Hid _ := same_cmp hF (by omega)
  have HU : Hid (u < 18446744073709551616) := hu
  have HH : Hid (Fed3 w a0 l0 k0 m0 x ∧ Fed3 w a1 l1 k1 m1 y) := ⟨h0, h1⟩
  have HT : Hid (Tab w) := hT
  have HM : Hid (m ≤ 63) := hm
  have HP : Hid (x / Nat.gcd x (orOne y) = p ∧ orOne y / Nat.gcd x (orOne y) = q) := ⟨hp, hq⟩
  have HX : Hid (RS (ffP u) ∧ RS (ffQ u) ∧ 0 < ffQ u ∧ ∀ v t w, Rt w v (ffP u) (ffQ u) → Rt w t (ffP u) (ffQ u) → Calls Tryz.prog 30 #[v, t] w fun e w' => e = .returned (.int .i64 0) ∧ Below w.heap.size w w') := ⟨(ff_RS u hu).1, (ff_RS u hu).2, ffQ_pos u, fun v t w a b => (by
    have c := ratCmp_any v t (ffP u) (ffQ u) (ffP u) (ffQ u) w a b (ff_RS u hu).1 (ff_RS u hu).2 (ff_RS u hu).1 (ff_RS u hu).2
    rw [cmpI_same rfl] at c
    exact c)⟩
  clear nf nd hSS hTT hu h0 h1 hT hp hq hF hm hk hl hj
  go_enter Tryz.func6, Tryz.ntmps6
  go_wp2_with fail
  refine (float_any u _).mono ?_
  rintro e wx ⟨rfl, hwx⟩
  rw [hwx]
  clear hwx wx
  go_wp2_with fail
  refine (fromFloat_all u _ HU.out HT.out).mono ?_
  rintro e v5w ⟨v5, rfl, hv, hb⟩
  obtain ⟨a5, n5, c5, d5, m5, g5, ev, _, _⟩ := hv.raw
  subst ev
  have S1 : Hid _ := (((sy_start w).go hb).addF hv).box (.slice a5 n5 c5) (.slice d5 m5 g5) 28 _ rfl
  clear hv hb
  go_upto_if 30 with (fail)
  obtain ⟨w5, ew⟩ : ∃ w5, w5 = v5w.alloc (.cells #[.slice a5 n5 c5, .slice d5 m5 g5] 28) := ⟨_, rfl⟩
  obtain ⟨b5, eb⟩ : ∃ b5, b5 = v5w.heap.size := ⟨_, rfl⟩
  rw [← ew, ← eb] at S1
  rw [← ew, ← eb]
  clear ew eb
  go_cut [] from 9 (fun wc => Hid (Below w.heap.size w wc))
  case first =>
    rcases hb : isFb u with _ | _
    · have HB : Hid (Below w.heap.size w w5) := S1.out.bel
      clear S1
      obtain ⟨x0, E, mm, t, s, hf⟩ := fl_of u HU.out
      obtain ⟨r2, r3, r5, r6, r7, r8, r9⟩ := hf.rules
      have q1 : ¬ s = 0 := by
        have := hf.s
        have h3 := HU.out
        unfold isFb at hb
        simp at hb
        omega
      have q2 : t = 0 → x0 = 2047 := by
        have h1 := hf.t
        have h2 := hf.x
        have h3 := HU.out
        unfold isFb at hb
        simp at hb
        omega
      have q3 : ((s : Int) == 0) = false := by simp; omega
      clear hf r3 r5 r8 r9 hb
      by_cases q4 : t = 0
      · have q5 : x0 = 2047 := q2 q4
        subst q4 q5
        clear q2
        go_wp2_with fail
        go_meet
        exact HB
      · clear q2
        go_wp2_with fail
        go_meet
        exact HB
    · have y5 := S1.out.cel b5 0 (.slice a5 n5 c5)
      have z5 := S1.out.cel b5 1 (.slice d5 m5 g5)
      go_wp2_with fail
      obtain ⟨V, hV⟩ : ∃ V, u % 9223372036854775808 = V := ⟨_, rfl⟩
      have an : bits .andNot .u64 (u : Int) 9223372036854775808 = (V : Int) := by rw [← hV]; exact andNot_top u HU.out
      have HV : Hid (tfV (ffP u) (ffQ u) = V ∧ tfOk (ffP u) (ffQ u) = true) := by rw [← hV]; exact tfF hb
      have VF : Hid (∀ w, Tab w → Calls Tryz.prog 32 #[.int .u64 (u : Int)] w (MakesR w (ffP u) (ffQ u))) := fun w t => valueF u w hb t
      clear hV
      refine (toFloat_any _ (ffP u) (ffQ u) _ (S1.out.fr (.agg #[.slice a5 n5 c5, .slice d5 m5 g5]) (ffP u) (ffQ u)) HX.out.1 HX.out.2.1 HX.out.2.2.1).mono ?_
      rintro e w6 ⟨rfl, hb6⟩
      rw [HV.out.1, HV.out.2]
      have S2 : Hid _ := S1.out.go hb6
      clear hb6 S1
      go_wp2_with fail
      refine wp_region_inv (JB w6 [sEq (.bool true), sEq (.bool false), sEq (.bool false), sEq (.float .f64 V), sEq (.int .u64 (V : Int)), sEq (.int .u64 (u : Int)), sEq (.int .u64 (V : Int)), sEq (.bool false), sEq (.bool false), sEq (.bool false), sRt (ffP u) (ffQ u), sEq (.int .u64 (u : Int)), sRt (ffP u) (ffQ u), sEq (.int .i64 0), sEq (.bool false), sEq (.bool false)] []) 149 (by kernel_rfl) rfl (by kernel_rfl) (JB.start _ _ _) (fun HG HN => ⟨?_, ?_, ?_, ?_, ?_, ?_, ?_, ?_, ?_, ?_, ?_, ?_, ?_, ?_, ?_, ?_, trivial⟩) ?_
      · intro L vs a w' hJ hF hP hL
        have q12 : (a.tmps[12]?).getD undef = .bool true := hF.old 12 rfl
        exact run_val (v := .bool true) rfl (by simp [execOp, go_sem, q12]) ⟨_, rfl, hJ.step hL rfl (Below.refl _ _) (by exact rfl)⟩
      · intro L vs a w' hJ hF hP hL
        have p0 : L 0 = true := hP ⟨0, .data⟩ (by simp) rfl
        have s0 : vs 0 = .bool true := hJ.sp 0 p0
        have q36 := hF.slot 0 36 rfl p0
        exact run_val (v := .bool false) rfl (by simp [execOp, go_sem, q36, s0]) ⟨_, rfl, hJ.step hL rfl (Below.refl _ _) (by exact rfl)⟩
      · intro L vs a w' hJ hF hP hL
        have p1 : L 1 = true := hP ⟨1, .data⟩ (by simp) rfl
        have s1 : vs 1 = .bool false := hJ.sp 1 p1
        have q37 := hF.slot 1 37 rfl p1
        exact run_val (v := .bool false) rfl (by simp [execOp, go_sem, q37, s1]) ⟨_, rfl, hJ.step hL rfl (Below.refl _ _) (by exact rfl)⟩
      · intro L vs a w' hJ hF hP hL
        have q11 : (a.tmps[11]?).getD undef = .float .f64 V := hF.old 11 rfl
        exact run_val (v := .float .f64 V) (hF.wants 149 HN HG _ 2 false false rfl rfl (hP ⟨2, .guard⟩ (by simp) rfl) (hJ.sp 2 (hP ⟨2, .guard⟩ (by simp) rfl))) (by simp [execOp, go_sem, q11]) ⟨_, rfl, hJ.step hL rfl (Below.refl _ _) (by exact rfl)⟩
      · intro L vs a w' hJ hF hP hL
        have p3 : L 3 = true := hP ⟨3, .data⟩ (by simp) rfl
        have s3 : vs 3 = .float .f64 V := hJ.sp 3 p3
        have q39 := hF.slot 3 39 rfl p3
        refine run_call (f := 11) (args := #[.float .f64 V]) (hF.wants 149 HN HG _ 2 false false rfl rfl (hP ⟨2, .guard⟩ (by simp) rfl) (hJ.sp 2 (hP ⟨2, .guard⟩ (by simp) rfl))) (by simp [go_sem, q39, s3]) (bits_below V _) ?_
        rintro e w2 ⟨rfl, hb⟩
        exact ⟨_, rfl, _, rfl, hJ.step hL rfl hb (by exact rfl)⟩
      · intro L vs a w' hJ hF hP hL
        have q0 : (a.tmps[0]?).getD undef = .int .u64 (u : Int) := hF.old 0 rfl
        exact run_val (v := .int .u64 (u : Int)) (hF.wants 149 HN HG _ 2 false false rfl rfl (hP ⟨2, .guard⟩ (by simp) rfl) (hJ.sp 2 (hP ⟨2, .guard⟩ (by simp) rfl))) (by simp [execOp, go_sem, q0]) ⟨_, rfl, hJ.step hL rfl (Below.refl _ _) (by exact rfl)⟩
      · intro L vs a w' hJ hF hP hL
        have p5 : L 5 = true := hP ⟨5, .data⟩ (by simp) rfl
        have s5 : vs 5 = .int .u64 (u : Int) := hJ.sp 5 p5
        have q41 := hF.slot 5 41 rfl p5
        exact run_val (v := .int .u64 (V : Int)) (hF.wants 149 HN HG _ 2 false false rfl rfl (hP ⟨2, .guard⟩ (by simp) rfl) (hJ.sp 2 (hP ⟨2, .guard⟩ (by simp) rfl))) (by simp [execOp, go_sem, q41, s5, an]) ⟨_, rfl, hJ.step hL rfl (Below.refl _ _) (by exact rfl)⟩
      · intro L vs a w' hJ hF hP hL
        have p4 : L 4 = true := hP ⟨4, .data⟩ (by simp) rfl
        have s4 : vs 4 = .int .u64 (V : Int) := hJ.sp 4 p4
        have q40 := hF.slot 4 40 rfl p4
        have p6 : L 6 = true := hP ⟨6, .data⟩ (by simp) rfl
        have s6 : vs 6 = .int .u64 (V : Int) := hJ.sp 6 p6
        have q42 := hF.slot 6 42 rfl p6
        exact run_val (v := .bool false) (hF.wants 149 HN HG _ 2 false false rfl rfl (hP ⟨2, .guard⟩ (by simp) rfl) (hJ.sp 2 (hP ⟨2, .guard⟩ (by simp) rfl))) (by simp [execOp, go_sem, q40, s4, q42, s6]) ⟨_, rfl, hJ.step hL rfl (Below.refl _ _) (by exact rfl)⟩
      · intro L vs a w' hJ hF hP hL
        have p2 : L 2 = true := hP ⟨2, .data⟩ (by simp) rfl
        have s2 : vs 2 = .bool false := hJ.sp 2 p2
        have q38 := hF.slot 2 38 rfl p2
        have p7 : L 7 = true := hP ⟨7, .data⟩ (by simp) rfl
        have s7 : vs 7 = .bool false := hJ.sp 7 p7
        have q43 := hF.slot 7 43 rfl p7
        exact run_val (v := .bool false) rfl (by simp [execOp, go_sem, q38, s2, q43, s7]) ⟨_, rfl, hJ.step hL rfl (Below.refl _ _) (by exact rfl)⟩
      · intro L vs a w' hJ hF hP hL
        have p8 : L 8 = true := hP ⟨8, .data⟩ (by simp) rfl
        have s8 : vs 8 = .bool false := hJ.sp 8 p8
        have q44 := hF.slot 8 44 rfl p8
        exact run_val (v := .bool false) rfl (by simp [execOp, go_sem, q44, s8]) ⟨_, rfl, hJ.step hL rfl (Below.refl _ _) (by exact rfl)⟩
      · intro L vs a w' hJ hF hP hL
        have q9 : (a.tmps[9]?).getD undef = .pointer (some ⟨b5, 0, none⟩) := hF.old 9 rfl
        have cb := cell_later hJ.bel (S2.out.cel (b5) 0 (.slice a5 n5 c5))
        have cc := cell_later hJ.bel (S2.out.cel (b5) 1 (.slice d5 m5 g5))
        exact run_val (v := .agg #[.slice a5 n5 c5, .slice d5 m5 g5]) (hF.wants 149 HN HG _ 9 false false rfl rfl (hP ⟨9, .guard⟩ (by simp) rfl) (hJ.sp 9 (hP ⟨9, .guard⟩ (by simp) rfl))) (by simp [execOp, go_sem, q9, cb, cc]) ⟨_, rfl, hJ.step hL rfl (Below.refl _ _) (by exact ((S2.out.fr (.agg #[.slice a5 n5 c5, .slice d5 m5 g5]) (ffP u) (ffQ u)).mono hJ.bel))⟩
      · intro L vs a w' hJ hF hP hL
        have q0 : (a.tmps[0]?).getD undef = .int .u64 (u : Int) := hF.old 0 rfl
        exact run_val (v := .int .u64 (u : Int)) (hF.wants 149 HN HG _ 9 false false rfl rfl (hP ⟨9, .guard⟩ (by simp) rfl) (hJ.sp 9 (hP ⟨9, .guard⟩ (by simp) rfl))) (by simp [execOp, go_sem, q0]) ⟨_, rfl, hJ.step hL rfl (Below.refl _ _) (by exact rfl)⟩
      · intro L vs a w' hJ hF hP hL
        have p11 : L 11 = true := hP ⟨11, .data⟩ (by simp) rfl
        have s11 : vs 11 = .int .u64 (u : Int) := hJ.sp 11 p11
        have q47 := hF.slot 11 47 rfl p11
        refine run_call (f := 32) (args := #[.int .u64 (u : Int)]) (hF.wants 149 HN HG _ 9 false false rfl rfl (hP ⟨9, .guard⟩ (by simp) rfl) (hJ.sp 9 (hP ⟨9, .guard⟩ (by simp) rfl))) (by simp [go_sem, q47, s11]) (VF.out _ (HT.out.go (bel_go S2.out.bel hJ.bel))) ?_
        rintro e w2 ⟨v, rfl, hv, hb⟩
        exact ⟨_, rfl, _, rfl, hJ.step hL rfl hb (by exact hv)⟩
      · intro L vs a w' hJ hF hP hL
        have p10 : L 10 = true := hP ⟨10, .data⟩ (by simp) rfl
        have s10 : Rt w' (vs 10) (ffP u) (ffQ u) := hJ.sp 10 p10
        have q46 := hF.slot 10 46 rfl p10
        have p12 : L 12 = true := hP ⟨12, .data⟩ (by simp) rfl
        have s12 : Rt w' (vs 12) (ffP u) (ffQ u) := hJ.sp 12 p12
        have q48 := hF.slot 12 48 rfl p12
        refine run_call (f := 30) (args := #[vs 10, vs 12]) (hF.wants 149 HN HG _ 9 false false rfl rfl (hP ⟨9, .guard⟩ (by simp) rfl) (hJ.sp 9 (hP ⟨9, .guard⟩ (by simp) rfl))) (by simp [go_sem, q46, q48]) (HX.out.2.2.2 _ _ _ s10 s12) ?_
        rintro e w2 ⟨rfl, hb⟩
        exact ⟨_, rfl, _, rfl, hJ.step hL rfl hb (by exact rfl)⟩
      · intro L vs a w' hJ hF hP hL
        have p13 : L 13 = true := hP ⟨13, .data⟩ (by simp) rfl
        have s13 : vs 13 = .int .i64 0 := hJ.sp 13 p13
        have q49 := hF.slot 13 49 rfl p13
        exact run_val (v := .bool false) (hF.wants 149 HN HG _ 9 false false rfl rfl (hP ⟨9, .guard⟩ (by simp) rfl) (hJ.sp 9 (hP ⟨9, .guard⟩ (by simp) rfl))) (by simp [execOp, go_sem, q49, s13]) ⟨_, rfl, hJ.step hL rfl (Below.refl _ _) (by exact rfl)⟩
      · intro L vs a w' hJ hF hP hL
        have p9 : L 9 = true := hP ⟨9, .data⟩ (by simp) rfl
        have s9 : vs 9 = .bool false := hJ.sp 9 p9
        have q45 := hF.slot 9 45 rfl p9
        have p14 : L 14 = true := hP ⟨14, .data⟩ (by simp) rfl
        have s14 : vs 14 = .bool false := hJ.sp 14 p14
        have q50 := hF.slot 14 50 rfl p14
        exact run_val (v := .bool false) rfl (by simp [execOp, go_sem, q45, s9, q50, s14]) ⟨_, rfl, hJ.step hL rfl (Below.refl _ _) (by exact rfl)⟩
      intro L vs w' hA hJ
      have s15 : vs 15 = .bool false := hJ.sp 15 (hA 15 (by simp))
      simp only [putL, Act.put, List.setIfInBounds_toArray, List.set_cons_zero, List.set_cons_succ, Nat.reduceAdd]
      simp only [s15]
      obtain ⟨w7, ew⟩ : ∃ w7, w7 = w' := ⟨_, rfl⟩
      have HB : Hid (Below w.heap.size w w7) := by rw [ew]; exact (S2.out.go hJ.bel).bel
      rw [← ew]
      clear ew s15 hJ hA S2
      go_wp2_with fail
      go_meet
      exact HB
  case rest =>
    have S0 : Hid _ := (sy_start w).go hcut.out
    clear hcut S1
    go_wp2_with fail
    refine (made3_true a0 l0 k0 a1 l1 k1 m0 m1 x y _ (HH.out.1.go S0.out.bel) (HH.out.2.go S0.out.bel) (HT.out.go S0.out.bel)).mono ?_
    rintro e v8w ⟨v8, v9, rfl, hv, hu, hb⟩
    rw [HP.out.1, HP.out.2] at hv hu
    obtain ⟨a8, n8, c8, d8, m8, g8, ev, _, _⟩ := hv.raw
    subst ev
    obtain ⟨a9, n9, c9, d9, m9, g9, ev, _, _⟩ := id hu
    subst ev
    have S1 : Hid _ := ((((S0.out.go hb).addF hv).addG hu).box (.slice a8 n8 c8) (.slice d8 m8 g8) 28 _ rfl).box (.slice a9 n9 c9) (.slice d9 m9 g9) 32 _ rfl
    clear hv hu hb HP S0
    simp only [World.size_alloc] at S1
    go_wp2_with fail
    obtain ⟨w8, ew⟩ : ∃ w8, w8 = (v8w.alloc (.cells #[.slice a8 n8 c8, .slice d8 m8 g8] 28)).alloc (.cells #[.slice a9 n9 c9, .slice d9 m9 g9] 32) := ⟨_, rfl⟩
    obtain ⟨b8, eb⟩ : ∃ b8, b8 = v8w.heap.size := ⟨_, rfl⟩
    rw [← ew, ← eb] at S1
    rw [← ew, ← eb]
    clear ew eb
    go_wp2_with fail
    refine (format_any _ p q k l _ (S1.out.fr (.agg #[.slice a8 n8 c8, .slice d8 m8 g8]) p q) HC.out.1 HC.out.2.1 HC.out.2.2.2.1 HC.out.2.2.2.2).mono ?_
    rintro e w10 ⟨rfl, hb⟩
    rw [HS.out.1]
    have S2 : Hid _ := S1.out.go hb
    clear hb S1
    go_wp2_with fail
    refine (nparse_any SS _ HZ.out.1 (HT.out.go S2.out.bel)).mono ?_
    rintro e v11w ⟨v11, rfl, hv, hb⟩
    rcases Nat.lt_or_ge 400 SS.size with e1 | e1
    · have e0 : ¬ SS.size ≤ 400 := by omega
      rw [HN.out.2.1 e0]
      obtain ⟨a11, n11, c11, d11, m11, g11, ev, _, _⟩ := hv.raw
      subst ev
      have S3 : Hid _ := (S2.out.go hb).box (.slice a11 n11 c11) (.slice d11 m11 g11) 28 _ rfl
      clear hv hb S2 e1
      go_wp2_with fail
      obtain ⟨w11, ew⟩ : ∃ w11, w11 = v11w.alloc (.cells #[.slice a11 n11 c11, .slice d11 m11 g11] 28) := ⟨_, rfl⟩
      obtain ⟨b11, eb⟩ : ∃ b11, b11 = v11w.heap.size := ⟨_, rfl⟩
      rw [← ew, ← eb] at S3
      rw [← ew, ← eb]
      clear ew eb
      refine (errno3_any 30 _).mono ?_
      rintro e wx ⟨rfl, hwx⟩
      rw [hwx]
      clear hwx wx
      go_wp2_with fail
      refine (errno3_any 30 _).mono ?_
      rintro e wx ⟨rfl, hwx⟩
      rw [hwx]
      clear hwx wx
      have y8 := S3.out.cel b8 0 (.slice a8 n8 c8)
      have z8 := S3.out.cel b8 1 (.slice d8 m8 g8)
      go_wp2_with fail
      refine (decimal_any _ p q m j _ (S3.out.fr (.agg #[.slice a8 n8 c8, .slice d8 m8 g8]) p q) HD.out.1 HD.out.2.1 HD.out.2.2.1 HD.out.2.2.2.1 HD.out.2.2.2.2 (rep_any (by have := HD.out.2.2.2.1; omega))).mono ?_
      rintro e w21 ⟨rfl, hb⟩
      rw [HS.out.2]
      have S21 : Hid _ := S3.out.go hb
      clear hb S3
      clear y8 z8
      go_wp2_with fail
      refine (nparse_any TT _ HZ.out.2 (HT.out.go S21.out.bel)).mono ?_
      rintro e w22 ⟨vt, rfl, hv, hb⟩
      rcases Nat.lt_or_ge 400 TT.size with e1 | e1
      · have e0 : ¬ TT.size ≤ 400 := by omega
        rw [HN.out.2.2.2 e0]
        obtain ⟨aT, nT, cT, dT, mT, gT, ev, _, _⟩ := hv.raw
        subst ev
        have S22 : Hid _ := (S21.out.go hb).box (.slice aT nT cT) (.slice dT mT gT) 28 _ rfl
        clear hv hb S21
        go_wp2_with fail
        obtain ⟨w23, ew⟩ : ∃ w23, w23 = w22.alloc (.cells #[.slice aT nT cT, .slice dT mT gT] 28) := ⟨_, rfl⟩
        obtain ⟨b23, eb⟩ : ∃ b23, b23 = w22.heap.size := ⟨_, rfl⟩
        rw [← ew, ← eb] at S22
        rw [← ew, ← eb]
        clear ew eb
        go_wp2_with fail
        refine (errno3_any 30 _).mono ?_
        rintro e wx ⟨rfl, hwx⟩
        rw [hwx]
        clear hwx wx
        go_wp2_with fail
        refine (started3 _ (HT.out.go S22.out.bel)).mono ?_
        rintro e w24 ⟨rfl, hb⟩
        have HB : Hid (Below w.heap.size w w24) := (S22.out.go hb).bel
        clear hb S22
        go_wp2_with fail
        go_ret
        exact ⟨rfl, HB.out⟩
      · obtain ⟨f1, f2, f3⟩ := HN.out.2.2.1 e1
        rw [f3]
        rw [f1, f2] at hv
        clear f1 f2 f3
        obtain ⟨aT, nT, cT, dT, mT, gT, ev, _, _⟩ := hv.raw
        subst ev
        have S22 : Hid _ := ((S21.out.go hb).addF hv).box (.slice aT nT cT) (.slice dT mT gT) 28 _ rfl
        have HK : Hid (b8 < w22.heap.size) := (S21.out.go hb).lt b8
        clear hv hb S21
        go_wp2_with fail
        obtain ⟨w23, ew⟩ : ∃ w23, w23 = w22.alloc (.cells #[.slice aT nT cT, .slice dT mT gT] 28) := ⟨_, rfl⟩
        obtain ⟨bt, eb⟩ : ∃ bt, bt = w22.heap.size := ⟨_, rfl⟩
        rw [← ew, ← eb] at S22
        rw [← ew, ← eb]
        have HL : Hid (b8 < bt) := by rw [eb]; exact HK
        clear ew eb HK
        go_wp2_with fail
        refine (errno3_any 0 _).mono ?_
        rintro e wx ⟨rfl, hwx⟩
        rw [hwx]
        clear hwx wx
        go_wp2_with fail
        refine (errno3_any 0 _).mono ?_
        rintro e wx ⟨rfl, hwx⟩
        rw [hwx]
        clear hwx wx
        obtain ⟨ft, fz, X, Y, g1, g2, g3, g4, g5, g6⟩ := HG.out
        rw [← g2, ← g3] at S22
        have HQ : Hid (b8 < bt ∧ bt < w23.heap.size) := ⟨HL.out, S22.out.lt bt⟩
        have G4 : Hid (Fc X Y (dst (N * q) (p * 10 ^ m)) (10 ^ m * q) 81) := g4
        have G5 : Hid _ := g5
        have G6 : Hid _ := g6
        clear g1 g2 g3 g4 g5 g6 HL
        go_wp2_with fail
        have S25 : Hid _ := S22.out.box (.slice none 0 0) (.slice none 0 0) 28 _ rfl
        clear S22
        obtain ⟨bu, eb⟩ : ∃ bu, bu = w23.heap.size := ⟨_, rfl⟩
        have HO : Hid (b8 < bt ∧ bt < bu) := by rw [eb]; exact HQ
        obtain ⟨w26, ew⟩ : ∃ w26, w26 = w23.alloc (.cells #[.slice none 0 0, .slice none 0 0] 28) := ⟨_, rfl⟩
        rw [← ew, ← eb] at S25
        rw [← ew, ← eb]
        clear ew eb HQ
        refine (half_any _ (HT.out.go S25.out.bel)).mono ?_
        rintro e w27 ⟨vh, rfl, hv, hb⟩
        obtain ⟨ah, nh, ch, dh, mh, gh, ev, _, _⟩ := hv.raw
        subst ev
        have S26 : Hid _ := (S25.out.go hb).addF hv
        clear hv hb S25
        have k0 := S26.out.cel bu 0 (.slice none 0 0)
        have k1 := S26.out.cel bu 1 (.slice none 0 0)
        have f0 := S26.out.fz bu 0
        have f1 := S26.out.fz bu 1
        have S27 : Hid (BkS w ((w27.setCell ⟨bu, 0, none⟩ (.slice ah nh ch)).setCell ⟨bu, 1, none⟩ (.slice dh mh gh)) b8 bt bu (.slice a8 n8 c8) (.slice d8 m8 g8) (.slice aT nT cT) (.slice dT mT gT) (.slice ah nh ch) (.slice dh mh gh) p q ft fz 0) :=
          ⟨(S26.out.put2 k0 k1 (by simp) [(b8, 0, .slice a8 n8 c8), (b8, 1, .slice d8 m8 g8), (bt, 0, .slice aT nT cT), (bt, 1, .slice dT mT gT)] (by have := HO.out; simp; omega) _ _).sub _ _ _ _ _ _ (by simp) (by simp) (by simp) (by simp) (by simp) (by simp), by have := HO.out; omega, by have := HO.out; omega⟩
        go_wp2_with fail
        obtain ⟨w28, ew⟩ : ∃ w28, w28 = (w27.setCell ⟨bu, 0, none⟩ (.slice ah nh ch)).setCell ⟨bu, 1, none⟩ (.slice dh mh gh) := ⟨_, rfl⟩
        rw [← ew] at S27
        rw [← ew]
        clear ew k0 k1 f0 f1 S26
        go_loopw [23] (fun t wr => ∃ (i : Nat) (au : Option Addr) (nu cu : Nat) (du : Option Addr) (mu gu : Nat), t = .int .i64 (i : Int) ∧ i ≤ m ∧ BkS w wr b8 bt bu (.slice a8 n8 c8) (.slice d8 m8 g8) (.slice aT nT cT) (.slice dT mT gT) (.slice au nu cu) (.slice du mu gu) p q ft fz i) (fun t _ => m - (intOf t).toNat)
        case atStart => exact ⟨0, _, _, _, _, _, _, rfl, by omega, S27.out⟩
        case round =>
          clear S27
          obtain ⟨i, au, nu, cu, du, mu, gu, rfl, hi, hI⟩ := hrel
          have SI : Hid _ := hI.1
          have HW : Hid (¬ b8 = bu ∧ ¬ bt = bu) := hI.2
          clear hI
          have k0 := SI.out.cel bu 0 (.slice au nu cu)
          have k1 := SI.out.cel bu 1 (.slice du mu gu)
          have f0 := SI.out.fz bu 0
          have f1 := SI.out.fz bu 1
          by_cases h0 : i < m
          · have hmx : m ≤ 63 := HM.out
            go_wp2_with fail
            refine (div_ten i _ _ (by have := HM.out; omega) (SI.out.fr (.agg #[.slice au nu cu, .slice du mu gu]) 1 (2 * 10 ^ i)) (HT.out.go SI.out.bel)).mono ?_
            rintro e wd ⟨vd, rfl, hv, hb⟩
            obtain ⟨av, nv, cv, dv, mv, gv, ev, _, _⟩ := hv.raw
            subst ev
            have SJ : Hid _ := (SI.out.go hb).addF hv
            clear hv hb SI k0 k1 f0 f1
            have k0 := SJ.out.cel bu 0 (.slice au nu cu)
            have k1 := SJ.out.cel bu 1 (.slice du mu gu)
            have f0 := SJ.out.fz bu 0
            have f1 := SJ.out.fz bu 1
            have SK : Hid (BkS w ((wd.setCell ⟨bu, 0, none⟩ (.slice av nv cv)).setCell ⟨bu, 1, none⟩ (.slice dv mv gv)) b8 bt bu (.slice a8 n8 c8) (.slice d8 m8 g8) (.slice aT nT cT) (.slice dT mT gT) (.slice av nv cv) (.slice dv mv gv) p q ft fz (i + 1)) :=
              ⟨(SJ.out.put2 k0 k1 (by simp) [(b8, 0, .slice a8 n8 c8), (b8, 1, .slice d8 m8 g8), (bt, 0, .slice aT nT cT), (bt, 1, .slice dT mT gT)] (by have := HW.out; simp; omega) _ _).sub _ _ _ _ _ _ (by simp) (by simp) (by simp) (by simp) (by simp) (by simp), HW.out.1, HW.out.2⟩
            go_wp2_with fail
            go_roundw
            case rel => exact ⟨i + 1, _, _, _, _, _, _, by go_num, by omega, SK.out⟩
            case measure => simp [intOf]; omega
          · obtain rfl : i = m := by omega
            clear k0 k1 f0 f1
            obtain ⟨zc, hz, hzc⟩ := unit_cmp G4.out G6.out HM.out
            have CM : Hid _ := hz
            have zd : decide (zc ≤ 0) = true := decide_eq_true hzc
            clear hz hzc h0
            go_wp2_with fail
            refine wp_region_inv (JB wr [sRt (ft) (fz), sRt (p) (q), sRt (X) (Y), sRt (1) (2 * 10 ^ i), sEq (.int .i64 zc), sEq (.bool true), sEq (.bool true), sEq (.bool true), sEq (.bool true), sEq (.bool true)] []) 149 (by kernel_rfl) rfl (by kernel_rfl) (JB.start _ _ _) (fun HG HN => ⟨?_, ?_, ?_, ?_, ?_, ?_, ?_, ?_, ?_, ?_, trivial⟩) ?_
            · intro L vs a w' hJ hF hP hL
              have q20 : (a.tmps[20]?).getD undef = .pointer (some ⟨bt, 0, none⟩) := hF.old 20 rfl
              have cb := cell_later hJ.bel (SI.out.cel (bt) 0 (.slice aT nT cT))
              have cc := cell_later hJ.bel (SI.out.cel (bt) 1 (.slice dT mT gT))
              exact run_val (v := .agg #[.slice aT nT cT, .slice dT mT gT]) rfl (by simp [execOp, go_sem, q20, cb, cc]) ⟨_, rfl, hJ.step hL rfl (Below.refl _ _) (by exact ((SI.out.fr (.agg #[.slice aT nT cT, .slice dT mT gT]) (ft) (fz)).mono hJ.bel))⟩
            · intro L vs a w' hJ hF hP hL
              have q13 : (a.tmps[13]?).getD undef = .pointer (some ⟨b8, 0, none⟩) := hF.old 13 rfl
              have cb := cell_later hJ.bel (SI.out.cel (b8) 0 (.slice a8 n8 c8))
              have cc := cell_later hJ.bel (SI.out.cel (b8) 1 (.slice d8 m8 g8))
              exact run_val (v := .agg #[.slice a8 n8 c8, .slice d8 m8 g8]) rfl (by simp [execOp, go_sem, q13, cb, cc]) ⟨_, rfl, hJ.step hL rfl (Below.refl _ _) (by exact ((SI.out.fr (.agg #[.slice a8 n8 c8, .slice d8 m8 g8]) (p) (q)).mono hJ.bel))⟩
            · intro L vs a w' hJ hF hP hL
              have p0 : L 0 = true := hP ⟨0, .data⟩ (by simp) rfl
              have s0 : Rt w' (vs 0) (ft) (fz) := hJ.sp 0 p0
              have q140 := hF.slot 0 140 rfl p0
              have p1 : L 1 = true := hP ⟨1, .data⟩ (by simp) rfl
              have s1 : Rt w' (vs 1) (p) (q) := hJ.sp 1 p1
              have q141 := hF.slot 1 141 rfl p1
              refine run_call (f := 31) (args := #[vs 0, vs 1]) rfl (by simp [go_sem, q140, q141]) (G5.out _ _ _ s0 s1 (HT.out.go (bel_go SI.out.bel hJ.bel))) ?_
              rintro e w2 ⟨v, rfl, hv, hb⟩
              exact ⟨_, rfl, _, rfl, hJ.step hL rfl hb (by exact hv)⟩
            · intro L vs a w' hJ hF hP hL
              have q22 : (a.tmps[22]?).getD undef = .pointer (some ⟨bu, 0, none⟩) := hF.old 22 rfl
              have cb := cell_later hJ.bel (SI.out.cel (bu) 0 (.slice au nu cu))
              have cc := cell_later hJ.bel (SI.out.cel (bu) 1 (.slice du mu gu))
              exact run_val (v := .agg #[.slice au nu cu, .slice du mu gu]) rfl (by simp [execOp, go_sem, q22, cb, cc]) ⟨_, rfl, hJ.step hL rfl (Below.refl _ _) (by exact ((SI.out.fr (.agg #[.slice au nu cu, .slice du mu gu]) (1) (2 * 10 ^ i)).mono hJ.bel))⟩
            · intro L vs a w' hJ hF hP hL
              have p2 : L 2 = true := hP ⟨2, .data⟩ (by simp) rfl
              have s2 : Rt w' (vs 2) (X) (Y) := hJ.sp 2 p2
              have q142 := hF.slot 2 142 rfl p2
              have p3 : L 3 = true := hP ⟨3, .data⟩ (by simp) rfl
              have s3 : Rt w' (vs 3) (1) (2 * 10 ^ i) := hJ.sp 3 p3
              have q143 := hF.slot 3 143 rfl p3
              refine run_call (f := 30) (args := #[vs 2, vs 3]) rfl (by simp [go_sem, q142, q143]) (CM.out _ _ _ s2 s3) ?_
              rintro e w2 ⟨rfl, hb⟩
              exact ⟨_, rfl, _, rfl, hJ.step hL rfl hb (by exact rfl)⟩
            · intro L vs a w' hJ hF hP hL
              have p4 : L 4 = true := hP ⟨4, .data⟩ (by simp) rfl
              have s4 : vs 4 = .int .i64 zc := hJ.sp 4 p4
              have q144 := hF.slot 4 144 rfl p4
              exact run_val (v := .bool true) rfl (by simp [execOp, go_sem, q144, s4, zd]) ⟨_, rfl, hJ.step hL rfl (Below.refl _ _) (by exact rfl)⟩
            · intro L vs a w' hJ hF hP hL
              have p5 : L 5 = true := hP ⟨5, .data⟩ (by simp) rfl
              have s5 : vs 5 = .bool true := hJ.sp 5 p5
              have q145 := hF.slot 5 145 rfl p5
              exact run_val (v := .bool true) rfl (by simp [execOp, go_sem, q145, s5]) ⟨_, rfl, hJ.step hL rfl (Below.refl _ _) (by exact rfl)⟩
            · intro L vs a w' hJ hF hP hL
              refine run_call (f := 13) (args := #[]) (hF.wants 149 HN HG _ 6 true true rfl rfl (hP ⟨6, .guard⟩ (by simp) rfl) (hJ.sp 6 (hP ⟨6, .guard⟩ (by simp) rfl))) (by simp [go_sem]) (started3 _ (HT.out.go (bel_go SI.out.bel hJ.bel))) ?_
              rintro e w2 ⟨rfl, hb⟩
              exact ⟨_, rfl, _, rfl, hJ.step hL rfl hb (by exact rfl)⟩
            · intro L vs a w' hJ hF hP hL
              have p6 : L 6 = true := hP ⟨6, .data⟩ (by simp) rfl
              have s6 : vs 6 = .bool true := hJ.sp 6 p6
              have q146 := hF.slot 6 146 rfl p6
              have p7 : L 7 = true := hP ⟨7, .data⟩ (by simp) rfl
              have s7 : vs 7 = .bool true := hJ.sp 7 p7
              have q147 := hF.slot 7 147 rfl p7
              exact run_val (v := .bool true) rfl (by simp [execOp, go_sem, q146, s6, q147, s7]) ⟨_, rfl, hJ.step hL rfl (Below.refl _ _) (by exact rfl)⟩
            · intro L vs a w' hJ hF hP hL
              have p8 : L 8 = true := hP ⟨8, .data⟩ (by simp) rfl
              have s8 : vs 8 = .bool true := hJ.sp 8 p8
              have q148 := hF.slot 8 148 rfl p8
              exact run_val (v := .bool true) rfl (by simp [execOp, go_sem, q148, s8]) ⟨_, rfl, hJ.step hL rfl (Below.refl _ _) (by exact rfl)⟩
            intro L vs w' hA hJ
            have s9 : vs 9 = .bool true := hJ.sp 9 (hA 9 (by simp))
            simp only [putL, Act.put, List.setIfInBounds_toArray, List.set_cons_zero, List.set_cons_succ, Nat.reduceAdd]
            simp only [s9]
            have HB : Hid (Below w.heap.size w w') := (SI.out.go hJ.bel).bel
            clear s9 hJ hA SI
            go_wp2_with fail
            go_ret
            exact ⟨rfl, HB.out⟩
    · obtain ⟨f1, f2, f3⟩ := HN.out.1 e1
      rw [f3]
      rw [f1, f2] at hv
      clear f1 f2 f3
      obtain ⟨a11, n11, c11, d11, m11, g11, ev, _, _⟩ := hv.raw
      subst ev
      have S3 : Hid _ := ((S2.out.go hb).addF hv).box (.slice a11 n11 c11) (.slice d11 m11 g11) 28 _ rfl
      clear hv hb S2
      go_wp2_with fail
      obtain ⟨w11, ew⟩ : ∃ w11, w11 = v11w.alloc (.cells #[.slice a11 n11 c11, .slice d11 m11 g11] 28) := ⟨_, rfl⟩
      obtain ⟨b11, eb⟩ : ∃ b11, b11 = v11w.heap.size := ⟨_, rfl⟩
      rw [← ew, ← eb] at S3
      rw [← ew, ← eb]
      clear ew eb
      refine (errno3_any 0 _).mono ?_
      rintro e wx ⟨rfl, hwx⟩
      rw [hwx]
      clear hwx wx
      go_wp2_with fail
      refine (errno3_any 0 _).mono ?_
      rintro e wx ⟨rfl, hwx⟩
      rw [hwx]
      clear hwx wx
      have y8 := S3.out.cel b8 0 (.slice a8 n8 c8)
      have z8 := S3.out.cel b8 1 (.slice d8 m8 g8)
      have y11 := S3.out.cel b11 0 (.slice a11 n11 c11)
      have z11 := S3.out.cel b11 1 (.slice d11 m11 g11)
      go_wp2_with fail
      refine (HE.out _ _ _ (S3.out.fr (.agg #[.slice a11 n11 c11, .slice d11 m11 g11]) p q) (S3.out.fr (.agg #[.slice a8 n8 c8, .slice d8 m8 g8]) p q)).mono ?_
      rintro e w12 ⟨rfl, hb⟩
      have S4 : Hid _ := S3.out.go hb
      clear hb S3
      clear y8 z8 y11 z11
      have y8 := S4.out.cel b8 0 (.slice a8 n8 c8)
      have z8 := S4.out.cel b8 1 (.slice d8 m8 g8)
      go_wp2_with fail
      refine (decimal_any _ p q m j _ (S4.out.fr (.agg #[.slice a8 n8 c8, .slice d8 m8 g8]) p q) HD.out.1 HD.out.2.1 HD.out.2.2.1 HD.out.2.2.2.1 HD.out.2.2.2.2 (rep_any (by have := HD.out.2.2.2.1; omega))).mono ?_
      rintro e w31 ⟨rfl, hb⟩
      rw [HS.out.2]
      have S31 : Hid _ := S4.out.go hb
      clear hb S4
      clear y8 z8
      go_wp2_with fail
      refine (nparse_any TT _ HZ.out.2 (HT.out.go S31.out.bel)).mono ?_
      rintro e w32 ⟨vt, rfl, hv, hb⟩
      rcases Nat.lt_or_ge 400 TT.size with e1 | e1
      · have e0 : ¬ TT.size ≤ 400 := by omega
        rw [HN.out.2.2.2 e0]
        obtain ⟨aT, nT, cT, dT, mT, gT, ev, _, _⟩ := hv.raw
        subst ev
        have S32 : Hid _ := (S31.out.go hb).box (.slice aT nT cT) (.slice dT mT gT) 28 _ rfl
        clear hv hb S31
        go_wp2_with fail
        obtain ⟨w33, ew⟩ : ∃ w33, w33 = w32.alloc (.cells #[.slice aT nT cT, .slice dT mT gT] 28) := ⟨_, rfl⟩
        obtain ⟨b33, eb⟩ : ∃ b33, b33 = w32.heap.size := ⟨_, rfl⟩
        rw [← ew, ← eb] at S32
        rw [← ew, ← eb]
        clear ew eb
        go_wp2_with fail
        refine (errno3_any 30 _).mono ?_
        rintro e wx ⟨rfl, hwx⟩
        rw [hwx]
        clear hwx wx
        go_wp2_with fail
        refine (started3 _ (HT.out.go S32.out.bel)).mono ?_
        rintro e w34 ⟨rfl, hb⟩
        have HB : Hid (Below w.heap.size w w34) := (S32.out.go hb).bel
        clear hb S32
        go_wp2_with fail
        go_ret
        exact ⟨rfl, HB.out⟩
      · obtain ⟨f1, f2, f3⟩ := HN.out.2.2.1 e1
        rw [f3]
        rw [f1, f2] at hv
        clear f1 f2 f3
        obtain ⟨aT, nT, cT, dT, mT, gT, ev, _, _⟩ := hv.raw
        subst ev
        have S32 : Hid _ := ((S31.out.go hb).addF hv).box (.slice aT nT cT) (.slice dT mT gT) 28 _ rfl
        have HK : Hid (b8 < w32.heap.size) := (S31.out.go hb).lt b8
        clear hv hb S31
        go_wp2_with fail
        obtain ⟨w33, ew⟩ : ∃ w33, w33 = w32.alloc (.cells #[.slice aT nT cT, .slice dT mT gT] 28) := ⟨_, rfl⟩
        obtain ⟨bt, eb⟩ : ∃ bt, bt = w32.heap.size := ⟨_, rfl⟩
        rw [← ew, ← eb] at S32
        rw [← ew, ← eb]
        have HL : Hid (b8 < bt) := by rw [eb]; exact HK
        clear ew eb HK
        go_wp2_with fail
        refine (errno3_any 0 _).mono ?_
        rintro e wx ⟨rfl, hwx⟩
        rw [hwx]
        clear hwx wx
        go_wp2_with fail
        refine (errno3_any 0 _).mono ?_
        rintro e wx ⟨rfl, hwx⟩
        rw [hwx]
        clear hwx wx
        obtain ⟨ft, fz, X, Y, g1, g2, g3, g4, g5, g6⟩ := HG.out
        rw [← g2, ← g3] at S32
        have HQ : Hid (b8 < bt ∧ bt < w33.heap.size) := ⟨HL.out, S32.out.lt bt⟩
        have G4 : Hid (Fc X Y (dst (N * q) (p * 10 ^ m)) (10 ^ m * q) 81) := g4
        have G5 : Hid _ := g5
        have G6 : Hid _ := g6
        clear g1 g2 g3 g4 g5 g6 HL
        go_wp2_with fail
        have S35 : Hid _ := S32.out.box (.slice none 0 0) (.slice none 0 0) 28 _ rfl
        clear S32
        obtain ⟨bu, eb⟩ : ∃ bu, bu = w33.heap.size := ⟨_, rfl⟩
        have HO : Hid (b8 < bt ∧ bt < bu) := by rw [eb]; exact HQ
        obtain ⟨w36, ew⟩ : ∃ w36, w36 = w33.alloc (.cells #[.slice none 0 0, .slice none 0 0] 28) := ⟨_, rfl⟩
        rw [← ew, ← eb] at S35
        rw [← ew, ← eb]
        clear ew eb HQ
        refine (half_any _ (HT.out.go S35.out.bel)).mono ?_
        rintro e w37 ⟨vh, rfl, hv, hb⟩
        obtain ⟨ah, nh, ch, dh, mh, gh, ev, _, _⟩ := hv.raw
        subst ev
        have S36 : Hid _ := (S35.out.go hb).addF hv
        clear hv hb S35
        have k0 := S36.out.cel bu 0 (.slice none 0 0)
        have k1 := S36.out.cel bu 1 (.slice none 0 0)
        have f0 := S36.out.fz bu 0
        have f1 := S36.out.fz bu 1
        have S37 : Hid (BkS w ((w37.setCell ⟨bu, 0, none⟩ (.slice ah nh ch)).setCell ⟨bu, 1, none⟩ (.slice dh mh gh)) b8 bt bu (.slice a8 n8 c8) (.slice d8 m8 g8) (.slice aT nT cT) (.slice dT mT gT) (.slice ah nh ch) (.slice dh mh gh) p q ft fz 0) :=
          ⟨(S36.out.put2 k0 k1 (by simp) [(b8, 0, .slice a8 n8 c8), (b8, 1, .slice d8 m8 g8), (bt, 0, .slice aT nT cT), (bt, 1, .slice dT mT gT)] (by have := HO.out; simp; omega) _ _).sub _ _ _ _ _ _ (by simp) (by simp) (by simp) (by simp) (by simp) (by simp), by have := HO.out; omega, by have := HO.out; omega⟩
        go_wp2_with fail
        obtain ⟨w38, ew⟩ : ∃ w38, w38 = (w37.setCell ⟨bu, 0, none⟩ (.slice ah nh ch)).setCell ⟨bu, 1, none⟩ (.slice dh mh gh) := ⟨_, rfl⟩
        rw [← ew] at S37
        rw [← ew]
        clear ew k0 k1 f0 f1 S36
        go_loopw [23] (fun t wr => ∃ (i : Nat) (au : Option Addr) (nu cu : Nat) (du : Option Addr) (mu gu : Nat), t = .int .i64 (i : Int) ∧ i ≤ m ∧ BkS w wr b8 bt bu (.slice a8 n8 c8) (.slice d8 m8 g8) (.slice aT nT cT) (.slice dT mT gT) (.slice au nu cu) (.slice du mu gu) p q ft fz i) (fun t _ => m - (intOf t).toNat)
        case atStart => exact ⟨0, _, _, _, _, _, _, rfl, by omega, S37.out⟩
        case round =>
          clear S37
          obtain ⟨i, au, nu, cu, du, mu, gu, rfl, hi, hI⟩ := hrel
          have SI : Hid _ := hI.1
          have HW : Hid (¬ b8 = bu ∧ ¬ bt = bu) := hI.2
          clear hI
          have k0 := SI.out.cel bu 0 (.slice au nu cu)
          have k1 := SI.out.cel bu 1 (.slice du mu gu)
          have f0 := SI.out.fz bu 0
          have f1 := SI.out.fz bu 1
          by_cases h0 : i < m
          · have hmx : m ≤ 63 := HM.out
            go_wp2_with fail
            refine (div_ten i _ _ (by have := HM.out; omega) (SI.out.fr (.agg #[.slice au nu cu, .slice du mu gu]) 1 (2 * 10 ^ i)) (HT.out.go SI.out.bel)).mono ?_
            rintro e wd ⟨vd, rfl, hv, hb⟩
            obtain ⟨av, nv, cv, dv, mv, gv, ev, _, _⟩ := hv.raw
            subst ev
            have SJ : Hid _ := (SI.out.go hb).addF hv
            clear hv hb SI k0 k1 f0 f1
            have k0 := SJ.out.cel bu 0 (.slice au nu cu)
            have k1 := SJ.out.cel bu 1 (.slice du mu gu)
            have f0 := SJ.out.fz bu 0
            have f1 := SJ.out.fz bu 1
            have SK : Hid (BkS w ((wd.setCell ⟨bu, 0, none⟩ (.slice av nv cv)).setCell ⟨bu, 1, none⟩ (.slice dv mv gv)) b8 bt bu (.slice a8 n8 c8) (.slice d8 m8 g8) (.slice aT nT cT) (.slice dT mT gT) (.slice av nv cv) (.slice dv mv gv) p q ft fz (i + 1)) :=
              ⟨(SJ.out.put2 k0 k1 (by simp) [(b8, 0, .slice a8 n8 c8), (b8, 1, .slice d8 m8 g8), (bt, 0, .slice aT nT cT), (bt, 1, .slice dT mT gT)] (by have := HW.out; simp; omega) _ _).sub _ _ _ _ _ _ (by simp) (by simp) (by simp) (by simp) (by simp) (by simp), HW.out.1, HW.out.2⟩
            go_wp2_with fail
            go_roundw
            case rel => exact ⟨i + 1, _, _, _, _, _, _, by go_num, by omega, SK.out⟩
            case measure => simp [intOf]; omega
          · obtain rfl : i = m := by omega
            clear k0 k1 f0 f1
            obtain ⟨zc, hz, hzc⟩ := unit_cmp G4.out G6.out HM.out
            have CM : Hid _ := hz
            have zd : decide (zc ≤ 0) = true := decide_eq_true hzc
            clear hz hzc h0
            go_wp2_with fail
            refine wp_region_inv (JB wr [sRt (ft) (fz), sRt (p) (q), sRt (X) (Y), sRt (1) (2 * 10 ^ i), sEq (.int .i64 zc), sEq (.bool true), sEq (.bool true), sEq (.bool true), sEq (.bool true), sEq (.bool true)] []) 149 (by kernel_rfl) rfl (by kernel_rfl) (JB.start _ _ _) (fun HG HN => ⟨?_, ?_, ?_, ?_, ?_, ?_, ?_, ?_, ?_, ?_, trivial⟩) ?_
            · intro L vs a w' hJ hF hP hL
              have q20 : (a.tmps[20]?).getD undef = .pointer (some ⟨bt, 0, none⟩) := hF.old 20 rfl
              have cb := cell_later hJ.bel (SI.out.cel (bt) 0 (.slice aT nT cT))
              have cc := cell_later hJ.bel (SI.out.cel (bt) 1 (.slice dT mT gT))
              exact run_val (v := .agg #[.slice aT nT cT, .slice dT mT gT]) rfl (by simp [execOp, go_sem, q20, cb, cc]) ⟨_, rfl, hJ.step hL rfl (Below.refl _ _) (by exact ((SI.out.fr (.agg #[.slice aT nT cT, .slice dT mT gT]) (ft) (fz)).mono hJ.bel))⟩
            · intro L vs a w' hJ hF hP hL
              have q13 : (a.tmps[13]?).getD undef = .pointer (some ⟨b8, 0, none⟩) := hF.old 13 rfl
              have cb := cell_later hJ.bel (SI.out.cel (b8) 0 (.slice a8 n8 c8))
              have cc := cell_later hJ.bel (SI.out.cel (b8) 1 (.slice d8 m8 g8))
              exact run_val (v := .agg #[.slice a8 n8 c8, .slice d8 m8 g8]) rfl (by simp [execOp, go_sem, q13, cb, cc]) ⟨_, rfl, hJ.step hL rfl (Below.refl _ _) (by exact ((SI.out.fr (.agg #[.slice a8 n8 c8, .slice d8 m8 g8]) (p) (q)).mono hJ.bel))⟩
            · intro L vs a w' hJ hF hP hL
              have p0 : L 0 = true := hP ⟨0, .data⟩ (by simp) rfl
              have s0 : Rt w' (vs 0) (ft) (fz) := hJ.sp 0 p0
              have q140 := hF.slot 0 140 rfl p0
              have p1 : L 1 = true := hP ⟨1, .data⟩ (by simp) rfl
              have s1 : Rt w' (vs 1) (p) (q) := hJ.sp 1 p1
              have q141 := hF.slot 1 141 rfl p1
              refine run_call (f := 31) (args := #[vs 0, vs 1]) rfl (by simp [go_sem, q140, q141]) (G5.out _ _ _ s0 s1 (HT.out.go (bel_go SI.out.bel hJ.bel))) ?_
              rintro e w2 ⟨v, rfl, hv, hb⟩
              exact ⟨_, rfl, _, rfl, hJ.step hL rfl hb (by exact hv)⟩
            · intro L vs a w' hJ hF hP hL
              have q22 : (a.tmps[22]?).getD undef = .pointer (some ⟨bu, 0, none⟩) := hF.old 22 rfl
              have cb := cell_later hJ.bel (SI.out.cel (bu) 0 (.slice au nu cu))
              have cc := cell_later hJ.bel (SI.out.cel (bu) 1 (.slice du mu gu))
              exact run_val (v := .agg #[.slice au nu cu, .slice du mu gu]) rfl (by simp [execOp, go_sem, q22, cb, cc]) ⟨_, rfl, hJ.step hL rfl (Below.refl _ _) (by exact ((SI.out.fr (.agg #[.slice au nu cu, .slice du mu gu]) (1) (2 * 10 ^ i)).mono hJ.bel))⟩
            · intro L vs a w' hJ hF hP hL
              have p2 : L 2 = true := hP ⟨2, .data⟩ (by simp) rfl
              have s2 : Rt w' (vs 2) (X) (Y) := hJ.sp 2 p2
              have q142 := hF.slot 2 142 rfl p2
              have p3 : L 3 = true := hP ⟨3, .data⟩ (by simp) rfl
              have s3 : Rt w' (vs 3) (1) (2 * 10 ^ i) := hJ.sp 3 p3
              have q143 := hF.slot 3 143 rfl p3
              refine run_call (f := 30) (args := #[vs 2, vs 3]) rfl (by simp [go_sem, q142, q143]) (CM.out _ _ _ s2 s3) ?_
              rintro e w2 ⟨rfl, hb⟩
              exact ⟨_, rfl, _, rfl, hJ.step hL rfl hb (by exact rfl)⟩
            · intro L vs a w' hJ hF hP hL
              have p4 : L 4 = true := hP ⟨4, .data⟩ (by simp) rfl
              have s4 : vs 4 = .int .i64 zc := hJ.sp 4 p4
              have q144 := hF.slot 4 144 rfl p4
              exact run_val (v := .bool true) rfl (by simp [execOp, go_sem, q144, s4, zd]) ⟨_, rfl, hJ.step hL rfl (Below.refl _ _) (by exact rfl)⟩
            · intro L vs a w' hJ hF hP hL
              have p5 : L 5 = true := hP ⟨5, .data⟩ (by simp) rfl
              have s5 : vs 5 = .bool true := hJ.sp 5 p5
              have q145 := hF.slot 5 145 rfl p5
              exact run_val (v := .bool true) rfl (by simp [execOp, go_sem, q145, s5]) ⟨_, rfl, hJ.step hL rfl (Below.refl _ _) (by exact rfl)⟩
            · intro L vs a w' hJ hF hP hL
              refine run_call (f := 13) (args := #[]) (hF.wants 149 HN HG _ 6 true true rfl rfl (hP ⟨6, .guard⟩ (by simp) rfl) (hJ.sp 6 (hP ⟨6, .guard⟩ (by simp) rfl))) (by simp [go_sem]) (started3 _ (HT.out.go (bel_go SI.out.bel hJ.bel))) ?_
              rintro e w2 ⟨rfl, hb⟩
              exact ⟨_, rfl, _, rfl, hJ.step hL rfl hb (by exact rfl)⟩
            · intro L vs a w' hJ hF hP hL
              have p6 : L 6 = true := hP ⟨6, .data⟩ (by simp) rfl
              have s6 : vs 6 = .bool true := hJ.sp 6 p6
              have q146 := hF.slot 6 146 rfl p6
              have p7 : L 7 = true := hP ⟨7, .data⟩ (by simp) rfl
              have s7 : vs 7 = .bool true := hJ.sp 7 p7
              have q147 := hF.slot 7 147 rfl p7
              exact run_val (v := .bool true) rfl (by simp [execOp, go_sem, q146, s6, q147, s7]) ⟨_, rfl, hJ.step hL rfl (Below.refl _ _) (by exact rfl)⟩
            · intro L vs a w' hJ hF hP hL
              have p8 : L 8 = true := hP ⟨8, .data⟩ (by simp) rfl
              have s8 : vs 8 = .bool true := hJ.sp 8 p8
              have q148 := hF.slot 8 148 rfl p8
              exact run_val (v := .bool true) rfl (by simp [execOp, go_sem, q148, s8]) ⟨_, rfl, hJ.step hL rfl (Below.refl _ _) (by exact rfl)⟩
            intro L vs w' hA hJ
            have s9 : vs 9 = .bool true := hJ.sp 9 (hA 9 (by simp))
            simp only [putL, Act.put, List.setIfInBounds_toArray, List.set_cons_zero, List.set_cons_succ, Nat.reduceAdd]
            simp only [s9]
            have HB : Hid (Below w.heap.size w w') := (SI.out.go hJ.bel).bel
            clear s9 hJ hA SI
            go_wp2_with fail
            go_ret
            exact ⟨rfl, HB.out⟩
end Go.Proofs.YtmiiaomdenpceaaGreatDoor

namespace Go.Proofs.YtmiiaomdenpceaaGreatDoor
open Go.RowKit
set_option maxRecDepth 100000
set_option linter.unusedVariables false
end Go.Proofs.YtmiiaomdenpceaaGreatDoor

namespace Go.Proofs.YtmiiaomdenpceaaGreatDoor
open Go.ChangeShapes Go.WideShapes Go.ChangeAt Go.RowKit
set_option linter.unusedVariables false
theorem wf_u64 {n : Int} (h : (Lit.int .u64 n).wf = true) : ∃ u : Nat, n = (u : Int) ∧ u < 18446744073709551616 := by
  have hmin : IntKind.u64.min = 0 := rfl
  have hmax : IntKind.u64.max = 18446744073709551615 := rfl
  have h2 : IntKind.u64.min ≤ n ∧ n ≤ IntKind.u64.max := by simpa [Lit.wf] using h
  rw [hmin, hmax] at h2
  exact ⟨n.toNat, by omega, by omega⟩
theorem ownD : ownKnob Tryz.prog.godebug = none := by kernel_rfl
theorem laidOutD : laidOutB Tryz.prog = true := by kernel_rfl
def IsRow (k : IntKind) (w : World) (a : Option Addr) (len cap : Nat) (zs : List Int) : Prop :=
  (a = none ∧ len = 0 ∧ cap = 0 ∧ zs = []) ∨
  ∃ x, a = some x ∧ len ≤ cap ∧ cap ≤ maxLen ∧ zs.length = cap ∧ (∀ i, i < zs.length → w.cell? (x.add i) = some (.int k (zs.getD i 0))) ∧ ∀ n ∈ zs, (Lit.int k n).wf = true
theorem row_bsl {w : World} {a : Option Addr} {len cap : Nat} {zs : List Int} (h : IsRow .u8 w a len cap zs) : BSl w a len cap (fun i => (zs.getD i 0).toNat) := by
  rcases h with ⟨rfl, rfl, rfl, rfl⟩ | ⟨x, rfl, hl, hm, hz, hcell, hwz⟩
  · exact ⟨Nat.le_refl _, by omega, fun i hi => absurd hi (by omega), .inl rfl⟩
  · have hw : ∀ i, i < len → 0 ≤ zs.getD i 0 ∧ zs.getD i 0 < 256 := by
      intro i hi
      have hi2 : i < zs.length := by omega
      have := hwz (zs.getD i 0) (by rw [List.getD_eq_getElem?_getD, List.getElem?_eq_getElem hi2]; exact List.getElem_mem hi2)
      have hmin : IntKind.u8.min = 0 := rfl
      have hmax : IntKind.u8.max = 255 := rfl
      have h2 : IntKind.u8.min ≤ zs.getD i 0 ∧ zs.getD i 0 ≤ IntKind.u8.max := by simpa [Lit.wf] using this
      rw [hmin, hmax] at h2
      omega
    refine ⟨hl, by simp only [maxLen] at hm; omega, fun i hi => ?_, ?_⟩
    · have := hw i hi
      show (zs.getD i 0).toNat < 256
      omega
    · rcases Nat.eq_zero_or_pos len with e | e
      · exact .inl e
      · obtain ⟨b, off, spot⟩ := x
        have hc := hcell 0 (by omega)
        have hspot : spot = none := by simpa [Addr.add] using World.cell?_spot hc
        subst hspot
        refine .inr ⟨b, off, rfl, fun i hi => ?_⟩
        have h1 := hcell i (by omega)
        have h2 := hw i hi
        have h3 : (⟨b, off, none⟩ : Addr).add i = ⟨b, off + i, none⟩ := by unfold Addr.add; split <;> simp_all
        rw [h3] at h1
        rw [h1]
        show some (Value.int .u8 (zs.getD i 0)) = some (Value.int .u8 (((zs.getD i 0).toNat : Nat) : Int))
        rw [Int.toNat_of_nonneg h2.1]
theorem openB {W : World} {H : Type} {enc : TypeId × Value → H} {fuel : Nat} {a : Option Addr} {len cap : Nat} {y : DataW H × List MemPlace} (hf : DataW.trod enc Tryz.prog W 0 (fun _ => true) true fuel 22 (Value.slice a len cap).cells.toList = some y) : ∃ D, BSl W a len cap D := by
  rcases open_ints Tryz.underlying22 Tryz.underlying5 (by kernel_rfl) hf with ⟨hcs, _⟩ | ⟨x, l, c, zs, hcs, _, hl, hm, hz, _, hcell, hwz⟩
  · simp [Value.cells] at hcs
    obtain ⟨rfl, rfl, rfl⟩ := hcs
    exact ⟨_, row_bsl (zs := []) (.inl ⟨rfl, rfl, rfl, rfl⟩)⟩
  · simp [Value.cells] at hcs
    obtain ⟨rfl, rfl, rfl⟩ := hcs
    exact ⟨_, row_bsl (zs := zs) (.inr ⟨_, rfl, hl, hm, by simpa using hz, hcell, hwz⟩)⟩
end Go.Proofs.YtmiiaomdenpceaaGreatDoor

namespace Go.Proofs.YtmiiaomdenpceaaGreatDoor
open Go.RowKit
theorem made_fc {x y : Nat} (hx : x < P 38) (hy : y < P 38) : Fc (x / Nat.gcd x (orOne y)) (orOne y / Nat.gcd x (orOne y)) (x / Nat.gcd x (orOne y)) (orOne y / Nat.gcd x (orOne y)) 38 := by
  obtain ⟨e1, e2, e3⟩ := gcd_low (p := x) (orOne_pos y)
  exact Fc.own (n := 38) e2 e3 (Nat.lt_of_le_of_lt (Nat.div_le_self _ _) hx) (Nat.lt_of_le_of_lt (Nat.div_le_self _ _) (orOne_38 hy))
end Go.Proofs.YtmiiaomdenpceaaGreatDoor

namespace Go.Proofs.YtmiiaomdenpceaaGreatDoor
open Go.RowKit
theorem back_any {w : World} {u : Nat} {a0 : Option Addr} {l0 k0 : Nat} {a1 : Option Addr} {l1 k1 : Nat} {D0 D1 : Nat → Nat} {pl : Int} (hu : u < 18446744073709551616) (h0 : BSl w a0 l0 k0 D0) (h1 : BSl w a1 l1 k1 D1) (hT : Tab w) :
    Calls Tryz.prog 6 #[.int .u64 (u : Int), .slice a0 l0 k0, .slice a1 l1 k1, .int .i64 pl] w fun e w' => e = .returned (.bool true) ∧ Below w.heap.size w w' := by
  obtain ⟨m0, x, f0⟩ := fed3_of h0
  obtain ⟨m1, y, f1⟩ := fed3_of h1
  have F := made_fc f0.rs f1.rs
  obtain ⟨m, hm, hpl⟩ := and63_ex pl
  obtain ⟨k, hk⟩ := dec_ex (x / Nat.gcd x (orOne y))
  obtain ⟨l, hl⟩ := dec_ex (orOne y / Nat.gcd x (orOne y))
  obtain ⟨j, hj⟩ := dec_ex (nearN (x / Nat.gcd x (orOne y) * 10 ^ m) (orOne y / Nat.gcd x (orOne y)))
  exact back3 u a0 l0 k0 a1 l1 k1 m0 m1 x y _ _ m k l j pl w hu f0 f1 hT rfl rfl F hm hpl hk hl hj
end Go.Proofs.YtmiiaomdenpceaaGreatDoor

