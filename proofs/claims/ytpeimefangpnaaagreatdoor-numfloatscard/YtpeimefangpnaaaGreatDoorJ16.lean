/- Contracts of the program's functions, part 16: own work, joined in build order. -/
import Derived.Test.YtpeimefangpnaaaGreatDoorJ15
import Derived.Laws.Bits64b
import Derived.WalkKit
import Derived.ProofKit
import Derived.OpenShut
import Derived.ShutString
import Derived.ChangeOld
import Derived.Below
import Derived.LaidMore
import Derived.Lib.LaidTab
namespace Go.Proofs.YtpeimefangpnaaaGreatDoor
open Go.RowKit
set_option maxRecDepth 100000
set_option linter.unusedVariables false
/-- How many digits p has more than q. -/
def szI (p q : Nat) : Int := (bitLen p : Int) - (bitLen q : Int)
def tfB (p q : Nat) : Nat := bitsAt p q (flI p q (szI p q))
/-- The bits of the number near of p / q; is there one? -/
def tfV (p q : Nat) : Nat := if p = 0 then 0 else if tfB p q < 9218868437227405312 then tfB p q else 0
def tfOk (p q : Nat) : Bool := decide (p = 0) || decide (tfB p q < 9218868437227405312)
theorem sz_at {p q : Nat} (hp : 0 < p) (hq : 0 < q) : At p q (flI p q (szI p q)) := by
  obtain ⟨h1, h2⟩ := bitLen_spec p
  obtain ⟨k1, k2⟩ := bitLen_spec q
  have p1 := bitLen_pos hp
  have q1 := bitLen_pos hq
  have := flI_at (p := p) (q := q) (a := bitLen p - 1) (b := bitLen q - 1) (h2 (by omega)) (by rw [show bitLen p - 1 + 1 = bitLen p by omega]; exact h1) (k2 (by omega)) (by rw [show bitLen q - 1 + 1 = bitLen q by omega]; exact k1)
  rw [show ((bitLen p - 1 : Nat) : Int) - ((bitLen q - 1 : Nat) : Int) = szI p q by unfold szI; omega] at this
  exact this
theorem flI_le (p q : Nat) (s : Int) : flI p q s ≤ s ∧ s - 1 ≤ flI p q s := by unfold flI; split <;> omega
theorem tf_low {p q : Nat} (hp : 0 < p) (hq : 0 < q) (h : szI p q < -1075) : tfV p q = 0 ∧ tfOk p q = true := by
  have h1 := (sz_at hp hq).bits_low hq (by have := (flI_le p q (szI p q)).1; omega)
  unfold tfV tfOk tfB
  rw [h1]
  simp
theorem tf_high {p q : Nat} (hp : 0 < p) (hq : 0 < q) (h : 1024 < szI p q) : tfV p q = 0 ∧ tfOk p q = false := by
  have h1 := (sz_at hp hq).high hq (by have := (flI_le p q (szI p q)).2; omega)
  unfold tfV tfOk tfB
  rw [if_neg (by omega), if_neg (by omega)]
  simp
  omega
theorem tf_over {p q : Nat} (hp : 0 < p) (h : ¬ tfB p q < 9218868437227405312) : tfV p q = 0 ∧ tfOk p q = false := by
  unfold tfV tfOk
  rw [if_neg (by omega), if_neg h]
  simp
  omega
theorem tf_in {p q : Nat} (hp : 0 < p) (h : tfB p q < 9218868437227405312) : tfV p q = tfB p q ∧ tfOk p q = true := by
  unfold tfV tfOk
  rw [if_neg (by omega), if_pos h]
  simp [h]
/-- What both calls of inUnits tell. -/
theorem inUnits_any (v u : Value) (p q : Nat) (s : Int) (w : World) (h : IsNat w v p) (k : IsNat w u q) (hp : Fits p) (hq : Fits q) (h1 : -16777216 ≤ s) (h2 : s ≤ 16777216) :
    Calls Tryz.prog 42 #[v, u, .int .i64 s] w (Makes2N w (upN p s) (dnN q s)) := by
  unfold upN dnN
  by_cases hs : s < 0
  · have := inUnits_neg v u p q (-s).toNat s w h k hp (by omega) (by omega) (by omega)
    rw [show s.toNat = 0 by omega, Nat.pow_zero, Nat.mul_one]
    exact this
  · have := inUnits_pos v u p q s.toNat s w h k hq (by omega) (by omega)
    rw [show (-s).toNat = 0 by omega, Nat.pow_zero, Nat.mul_one]
    exact this
theorem up_P {p n m : Nat} {s : Int} (h : p < P n) (hs : -64 * (m : Int) < s) (hm : 0 < m) : upN p s < P (n + m) := by
  unfold upN
  rw [P_add]
  exact Nat.mul_lt_mul'' h (by rw [P_two]; exact Nat.pow_lt_pow_right (by omega) (by omega))
theorem dn_P {p n m : Nat} {s : Int} (h : p < P n) (hs : s < 64 * (m : Int)) (hm : 0 < m) : dnN p s < P (n + m) := by
  unfold dnN
  rw [P_add]
  exact Nat.mul_lt_mul'' h (by rw [P_two]; exact Nat.pow_lt_pow_right (by omega) (by omega))
theorem tf_rules {u : Int} {x y ct B : Nat} (hx : x = (u + 1074).toNat) (hy : y = x * 4503599627370496) (hB : y + ct = B) (h1 : -1074 ≤ u) (h2 : x ≤ 2046) (h3 : ct ≤ 9007199254740992) :
    wrap64 (u + 1074) = (x : Int) ∧ IntKind.u64.wrap (x : Int) = (x : Int) ∧ IntKind.u64.wrap ((x : Int) * 4503599627370496) = (y : Int) ∧ IntKind.u64.wrap ((y : Int) + (ct : Int)) = (B : Int) :=
  ⟨by rw [IntWalk.wrap64_in _ ⟨by omega, by omega⟩]; omega, by rw [IntKind.wrap_u64]; omega, by rw [IntKind.wrap_u64]; omega, by rw [IntKind.wrap_u64]; omega⟩
set_option maxHeartbeats 8000000 in
theorem toFloat_any (v : Value) (p q : Nat) (w : World) (h : Rt w v p q) (hp : RS p) (hq : RS q) (hq0 : 0 < q) :
    Calls Tryz.prog 15 #[v] w fun e w' => e = .returned (.tuple #[.float .f64 (tfV p q), .bool (tfOk p q)]) ∧ Below w.heap.size w w' := by
  have h' := h
  obtain ⟨a, n, c, a', n', c', e0, _, _⟩ := h'.raw
  subst e0
  have S1 : Hid _ := ((sy_start w).addF h).box (.slice a n c) (.slice a' n' c') 27 _ rfl
  obtain ⟨s, hs⟩ : ∃ s : Int, s = szI p q := ⟨_, rfl⟩
  have lp : bitLen p ≤ 5760 := bitLen_P hp.lt
  have lq : bitLen q ≤ 5760 := bitLen_P hq.lt
  have m1 : IntKind.i64.wrap ((bitLen p : Int) - (bitLen q : Int)) = s := by rw [IntKind.wrap_i64, hs]; unfold szI; omega
  have HS : Hid (s = szI p q ∧ -5760 ≤ s ∧ s ≤ 5760) := ⟨hs, by rw [hs]; unfold szI; omega, by rw [hs]; unfold szI; omega⟩
  have HH : Hid (RS p ∧ RS q ∧ 0 < q) := ⟨hp, hq, hq0⟩
  have HL : Hid (p ≠ 0 → 0 < bitLen p) := fun hh => bitLen_pos (by omega)
  clear h h' hp hq hq0 hs
  go_enter Tryz.func15, Tryz.ntmps15
  go_wp2_with fail
  refine (parts_any _ p q _ (S1.out.fr (.agg #[.slice a n c, .slice a' n' c']) p q) HH.out.2.1.fits).mono ?_
  rintro e w1 ⟨v1, u1, rfl, hv1, hu1, hb1⟩
  obtain ⟨a1, n1, c1, rfl⟩ := hv1.isAgg
  obtain ⟨a2, n2, c2, rfl⟩ := hu1.isAgg
  have S2 : Hid _ := ((((S1.out.go hb1).addN hv1).addN hu1).box1 (.slice a1 n1 c1) 25 _ rfl).box1 (.slice a2 n2 c2) 25 _ rfl
  simp only [World.size_alloc] at S2
  clear hv1 hu1 hb1 S1
  go_wp2_with fail
  obtain ⟨w2, hw2⟩ : ∃ w2, w2 = (w1.alloc (.cells #[.slice a1 n1 c1] 25)).alloc (.cells #[.slice a2 n2 c2] 25) := ⟨_, rfl⟩
  obtain ⟨g, hg⟩ : ∃ g, g = w1.heap.size := ⟨_, rfl⟩
  rw [← hw2, ← hg] at S2
  rw [← hw2, ← hg]
  clear hw2 hg
  refine wp_region_inv (JB w2 [sNat (p), sEq (.int .i64 ((bitLen p : Nat) : Int)), sNat (q), sEq (.int .i64 ((bitLen q : Nat) : Int)), sEq (.int .i64 s), sEq (.int .i64 s)] []) 71 (by kernel_rfl) rfl (by kernel_rfl) (JB.start _ _ _) (fun HG HN => ⟨?_, ?_, ?_, ?_, ?_, ?_, trivial⟩) ?_
  · intro L vs a w' hJ hF hP hL
    have q4 : (a.tmps[4]?).getD undef = .pointer (some ⟨g, 0, none⟩) := hF.old 4 rfl
    have cb := cell_later hJ.bel (S2.out.cell (g) (.slice a1 n1 c1))
    exact run_val (v := .agg #[.slice a1 n1 c1]) rfl (by simp [execOp, go_sem, q4, cb]) ⟨_, rfl, hJ.step hL rfl (Below.refl _ _) (by exact ((S2.out.at (.agg #[.slice a1 n1 c1]) (p)).mono hJ.bel))⟩
  · intro L vs a w' hJ hF hP hL
    have p0 : L 0 = true := hP ⟨0, .data⟩ (by simp) rfl
    have s0 : IsNat w' (vs 0) (p) := hJ.sp 0 p0
    have q18 := hF.slot 0 18 rfl p0
    refine run_call (f := 49) (args := #[vs 0]) rfl (by simp [go_sem, q18]) (len_any _ p _ s0 HH.out.1.fits) ?_
    rintro e w2 ⟨rfl, hb⟩
    exact ⟨_, rfl, _, rfl, hJ.step hL rfl hb (by exact rfl)⟩
  · intro L vs a w' hJ hF hP hL
    have q5 : (a.tmps[5]?).getD undef = .pointer (some ⟨g + 1, 0, none⟩) := hF.old 5 rfl
    have cb := cell_later hJ.bel (S2.out.cell (g + 1) (.slice a2 n2 c2))
    exact run_val (v := .agg #[.slice a2 n2 c2]) rfl (by simp [execOp, go_sem, q5, cb]) ⟨_, rfl, hJ.step hL rfl (Below.refl _ _) (by exact ((S2.out.at (.agg #[.slice a2 n2 c2]) (q)).mono hJ.bel))⟩
  · intro L vs a w' hJ hF hP hL
    have p2 : L 2 = true := hP ⟨2, .data⟩ (by simp) rfl
    have s2 : IsNat w' (vs 2) (q) := hJ.sp 2 p2
    have q20 := hF.slot 2 20 rfl p2
    refine run_call (f := 49) (args := #[vs 2]) rfl (by simp [go_sem, q20]) (len_any _ q _ s2 HH.out.2.1.fits) ?_
    rintro e w2 ⟨rfl, hb⟩
    exact ⟨_, rfl, _, rfl, hJ.step hL rfl hb (by exact rfl)⟩
  · intro L vs a w' hJ hF hP hL
    have p1 : L 1 = true := hP ⟨1, .data⟩ (by simp) rfl
    have s1 : vs 1 = .int .i64 ((bitLen p : Nat) : Int) := hJ.sp 1 p1
    have q19 := hF.slot 1 19 rfl p1
    have p3 : L 3 = true := hP ⟨3, .data⟩ (by simp) rfl
    have s3 : vs 3 = .int .i64 ((bitLen q : Nat) : Int) := hJ.sp 3 p3
    have q21 := hF.slot 3 21 rfl p3
    exact run_val (v := .int .i64 s) rfl (by simp [execOp, go_sem, q19, s1, q21, s3, m1]) ⟨_, rfl, hJ.step hL rfl (Below.refl _ _) (by exact rfl)⟩
  · intro L vs a w' hJ hF hP hL
    have p4 : L 4 = true := hP ⟨4, .data⟩ (by simp) rfl
    have s4 : vs 4 = .int .i64 s := hJ.sp 4 p4
    have q22 := hF.slot 4 22 rfl p4
    exact run_val (v := .int .i64 s) rfl (by simp [execOp, go_sem, q22, s4]) ⟨_, rfl, hJ.step hL rfl (Below.refl _ _) (by exact rfl)⟩
  intro L vs w' hA hJ
  have s5 : vs 5 = .int .i64 s := hJ.sp 5 (hA 5 (by simp))
  simp only [putL, Act.put, List.setIfInBounds_toArray, List.set_cons_zero, List.set_cons_succ, Nat.reduceAdd]
  simp only [s5]
  obtain ⟨w3, ew3⟩ : ∃ w3, w3 = w' := ⟨_, rfl⟩
  have S3 : Hid _ := S2.out.go (ew3 ▸ hJ.bel : Below w2.heap.size w2 w3)
  rw [← ew3]
  clear ew3 hJ hA s5 S2 m1 lp lq
  have k1 := S3.out.cel g 0 (.slice a1 n1 c1)
  go_wp2_with fail
  refine (len_any _ p _ (S3.out.at (.agg #[.slice a1 n1 c1]) p) HH.out.1.fits).mono ?_
  rintro e w4 ⟨rfl, hb4⟩
  have S4 : Hid _ := S3.out.go hb4
  clear hb4 S3 k1
  by_cases h0 : p = 0
  · have t1 : bitLen p = 0 := by rw [h0]; exact bitLen_zero
    have HV : Hid (tfV p q = 0 ∧ tfOk p q = true) := by constructor <;> simp [tfV, tfOk, h0]
    rw [t1]
    clear h0 t1
    go_wp2_with fail
    exact bodyPost_ret (v := .tuple #[.float .f64 (0), .bool true]) (by simp [results, Tryz.results15, go_sem]) rfl ⟨by rw [HV.out.1, HV.out.2], S4.out.bel⟩
  · obtain ⟨l, hl⟩ : ∃ l, bitLen p = l := ⟨_, rfl⟩
    rw [hl]
    have t1 : ((l : Int) == 0) = false := by have := HL.out h0; simp; omega
    have t2 : decide ((l : Int) = 0) = false := by have := HL.out h0; exact decide_eq_false (by omega)
    have HP : Hid (0 < p) := by show _ < _; omega
    clear h0 hl HL
    by_cases h1 : s < -1075
    · have t3 : decide (s < -1075) = true := decide_eq_true h1
      have HV : Hid (tfV p q = 0 ∧ tfOk p q = true) := tf_low HP.out HH.out.2.2 (by rw [← HS.out.1]; exact h1)
      clear h1
      go_wp2_with fail
      exact bodyPost_ret (v := .tuple #[.float .f64 (0), .bool true]) (by simp [results, Tryz.results15, go_sem]) rfl ⟨by rw [HV.out.1, HV.out.2], S4.out.bel⟩
    · have t3 : decide (s < -1075) = false := decide_eq_false h1
      by_cases h2 : 1024 < s
      · have t4 : decide (1024 < s) = true := decide_eq_true h2
        have HV : Hid (tfV p q = 0 ∧ tfOk p q = false) := tf_high HP.out HH.out.2.2 (by rw [← HS.out.1]; exact h2)
        clear h1 h2
        go_wp2_with fail
        exact bodyPost_ret (v := .tuple #[.float .f64 (0), .bool false]) (by simp [results, Tryz.results15, go_sem]) rfl ⟨by rw [HV.out.1, HV.out.2], S4.out.bel⟩
      · have t4 : decide (1024 < s) = false := decide_eq_false h2
        have HB : Hid (-1075 ≤ s ∧ s ≤ 1024) := ⟨by omega, by omega⟩
        have k1 := S4.out.cel g 0 (.slice a1 n1 c1)
        have k2 := S4.out.cel (g + 1) 0 (.slice a2 n2 c2)
        clear h1 h2
        go_wp2_with fail
        refine (inUnits_any _ _ p q s _ (S4.out.at (.agg #[.slice a1 n1 c1]) p) (S4.out.at (.agg #[.slice a2 n2 c2]) q) HH.out.1.fits HH.out.2.1.fits (by have := HB.out; omega) (by have := HB.out; omega)).mono ?_
        rintro e w5 ⟨v5, u5, rfl, hv5, hu5, hb5⟩
        obtain ⟨a5, n5, c5, rfl⟩ := hv5.isAgg
        obtain ⟨a6, n6, c6, rfl⟩ := hu5.isAgg
        have S5 : Hid _ := ((((S4.out.go hb5).addN hv5).addN hu5).box1 (.slice a5 n5 c5) 25 _ rfl).box1 (.slice a6 n6 c6) 25 _ rfl
        simp only [World.size_alloc] at S5
        clear hv5 hu5 hb5 S4 k1 k2
        go_wp2_with fail
        obtain ⟨w6, hw6⟩ : ∃ w6, w6 = (w5.alloc (.cells #[.slice a5 n5 c5] 25)).alloc (.cells #[.slice a6 n6 c6] 25) := ⟨_, rfl⟩
        rw [← hw6] at S5
        rw [← hw6]
        clear hw6
        obtain ⟨z, hz⟩ : ∃ z, cmpI (upN p s) (dnN q s) = z := ⟨_, rfl⟩
        obtain ⟨f, hf⟩ : ∃ f : Int, f = flI p q s := ⟨_, rfl⟩
        obtain ⟨u, hu⟩ : ∃ u : Int, u = unI f := ⟨_, rfl⟩
        have HF : Hid (f = flI p q s ∧ u = unI f ∧ (z < 0 ↔ upN p s < dnN q s) ∧ cmpI (upN p s) (dnN q s) = z) := ⟨hf, hu, by rw [← hz]; unfold cmpI; split <;> (try split) <;> omega, hz⟩
        have SU : Hid (upN p s < P 107 ∧ dnN q s < P 107) := ⟨up_P (n := 90) (m := 17) HH.out.1.lt (by have := HB.out; omega) (by omega), dn_P (n := 90) (m := 17) HH.out.2.1.lt (by have := HB.out; omega) (by omega)⟩
        clear hz hf hu
        refine (cmp_z _ _ (upN p s) (dnN q s) z _ (S5.out.at (.agg #[.slice a5 n5 c5]) (upN p s)) (S5.out.at (.agg #[.slice a6 n6 c6]) (dnN q s)) (fits_P SU.out.1 (by omega)) (fits_P SU.out.2 (by omega)) HF.out.2.2.2).mono ?_
        rintro e w7 ⟨rfl, hb7⟩
        have S7 : Hid _ := S5.out.go hb7
        clear hb7 S5 SU
        have hAt := sz_at HP.out HH.out.2.2
        rw [← HS.out.1, ← HF.out.1] at hAt
        have hfb := flI_le p q s
        rw [← HF.out.1] at hfb
        have hub : -1074 ≤ u ∧ u ≤ 972 := by rw [HF.out.2.1]; have := HB.out; unfold unI; split <;> omega
        have hct := hAt.ct HH.out.2.2
        rw [← HF.out.2.1] at hct
        obtain ⟨ct, ect⟩ : ∃ ct, ct = ctN p q u := ⟨_, rfl⟩
        rw [← ect] at hct
        obtain ⟨B, hB⟩ : ∃ B : Nat, B = (u + 1074).toNat * 4503599627370496 + ct := ⟨_, rfl⟩
        have hTB : tfB p q = B := by unfold tfB bitsAt; rw [← HS.out.1, ← HF.out.1, ← HF.out.2.1, ← ect, ← hB]
        have k1 := S7.out.cel g 0 (.slice a1 n1 c1)
        have k2 := S7.out.cel (g + 1) 0 (.slice a2 n2 c2)
        have g1 : wrap64 (f - 52) = f - 52 := IntWalk.wrap64_in _ ⟨by have := HB.out; omega, by have := HB.out; omega⟩
        have g2 : (if f - 52 < -1074 then (-1074 : Int) else f - 52) = u := by rw [HF.out.2.1]; rfl
        have g3 : max (f - 52) (-1074) = u := by rw [HF.out.2.1]; unfold unI; split <;> omega
        obtain ⟨x, hx⟩ : ∃ x : Nat, x = (u + 1074).toNat := ⟨_, rfl⟩
        obtain ⟨y, hy⟩ : ∃ y : Nat, y = x * 4503599627370496 := ⟨_, rfl⟩
        have hyB : y + ct = B := by rw [hB, ← hx, hy]
        have hx2 : x ≤ 2046 := by omega
        have hyl : y ≤ 9214364837600034816 := by omega
        obtain ⟨g4, g5, g6, g8⟩ := tf_rules (u := u) hx hy hyB hub.1 hx2 hct
        have HC : Hid (ct < 18446744073709551616 ∧ upN p u < P 107 ∧ dnN q u < P 107 ∧ 0 < dnN q u ∧ -16777216 ≤ u ∧ u ≤ 16777216 ∧ ct = nearN (upN p u) (dnN q u) ∧ tfB p q = B) := ⟨by omega, up_P (n := 90) (m := 17) HH.out.1.lt (by omega) (by omega), dn_P (n := 90) (m := 17) HH.out.2.1.lt (by omega) (by omega), dnN_pos HH.out.2.2 u, by omega, by omega, ect, hTB⟩
        have HG : Hid (wrap64 (f - 52) = f - 52) := g1
        clear hAt hfb hub hct ect hTB hx hx2 hB g1 hy hyB hyl
        by_cases h3 : z < 0
        · have t5 : decide (z < 0) = true := decide_eq_true h3
          have t6 : wrap64 (s - 1) = f := by rw [IntWalk.wrap64_in _ ⟨by have := HB.out; omega, by have := HB.out; omega⟩, HF.out.1]; unfold flI; rw [if_pos (HF.out.2.2.1.1 h3)]
          have g1 := HG.out
          clear h3
          go_wp2_with fail
          refine (inUnits_any _ _ p q u _ (S7.out.at (.agg #[.slice a1 n1 c1]) p) (S7.out.at (.agg #[.slice a2 n2 c2]) q) HH.out.1.fits HH.out.2.1.fits HC.out.2.2.2.2.1 HC.out.2.2.2.2.2.1).mono ?_
          rintro e w8 ⟨v8, u8, rfl, hv8, hu8, hb8⟩
          have S8 : Hid _ := (((S7.out.go hb8).addN hv8).addN hu8)
          clear hv8 hu8 hb8 S7 k1 k2
          go_wp2_with fail
          refine (nearest_any v8 u8 (upN p u) (dnN q u) _ (S8.out.at v8 (upN p u)) (S8.out.at u8 (dnN q u)) (P_up HC.out.2.1 (by omega)) (P_up HC.out.2.2.1 (by omega)) HC.out.2.2.2.1).mono ?_
          rintro e w9 ⟨v9, rfl, hv9, hb9⟩
          rw [← HC.out.2.2.2.2.2.2.1] at hv9
          have S9 : Hid _ := (S8.out.go hb9).addN hv9
          clear hv9 hb9 S8
          go_wp2_with fail
          refine (uint_yes v9 ct _ (S9.out.at v9 ct) HC.out.1).mono ?_
          rintro e w10 ⟨rfl, hb10⟩
          have S10 : Hid _ := S9.out.go hb10
          clear hb10 S9
          by_cases h3 : B < 9218868437227405312
          · have t5 : decide (9218868437227405312 ≤ B) = false := decide_eq_false (by omega)
            have t6 : decide ((9218868437227405312 : Int) ≤ (B : Int)) = false := decide_eq_false (by omega)
            have HV : Hid (tfV p q = B ∧ tfOk p q = true) := by have := tf_in (q := q) HP.out (by rw [HC.out.2.2.2.2.2.2.2]; exact h3); rw [HC.out.2.2.2.2.2.2.2] at this; exact this
            clear h3
            go_wp2_with fail
            refine (float_any B _).mono ?_
            rintro e w11 ⟨rfl, hw11⟩
            rw [hw11]
            clear hw11
            go_wp2_with fail
            exact bodyPost_ret (v := .tuple #[.float .f64 (B), .bool true]) (by simp [results, Tryz.results15, go_sem]) rfl ⟨by rw [HV.out.1, HV.out.2], S10.out.bel⟩
            
          · have t5 : decide (9218868437227405312 ≤ B) = true := decide_eq_true (by omega)
            have t6 : decide ((9218868437227405312 : Int) ≤ (B : Int)) = true := decide_eq_true (by omega)
            have HV : Hid (tfV p q = 0 ∧ tfOk p q = false) := tf_over HP.out (by rw [HC.out.2.2.2.2.2.2.2]; exact h3)
            clear h3
            go_wp2_with fail
            exact bodyPost_ret (v := .tuple #[.float .f64 (0), .bool false]) (by simp [results, Tryz.results15, go_sem]) rfl ⟨by rw [HV.out.1, HV.out.2], S10.out.bel⟩
            
        · have t5 : decide (z < 0) = false := decide_eq_false h3
          obtain rfl : f = s := by rw [HF.out.1]; unfold flI; rw [if_neg (fun hh => h3 (HF.out.2.2.1.2 hh))]
          have g1 := HG.out
          clear h3
          go_wp2_with fail
          refine (inUnits_any _ _ p q u _ (S7.out.at (.agg #[.slice a1 n1 c1]) p) (S7.out.at (.agg #[.slice a2 n2 c2]) q) HH.out.1.fits HH.out.2.1.fits HC.out.2.2.2.2.1 HC.out.2.2.2.2.2.1).mono ?_
          rintro e w8 ⟨v8, u8, rfl, hv8, hu8, hb8⟩
          have S8 : Hid _ := (((S7.out.go hb8).addN hv8).addN hu8)
          clear hv8 hu8 hb8 S7 k1 k2
          go_wp2_with fail
          refine (nearest_any v8 u8 (upN p u) (dnN q u) _ (S8.out.at v8 (upN p u)) (S8.out.at u8 (dnN q u)) (P_up HC.out.2.1 (by omega)) (P_up HC.out.2.2.1 (by omega)) HC.out.2.2.2.1).mono ?_
          rintro e w9 ⟨v9, rfl, hv9, hb9⟩
          rw [← HC.out.2.2.2.2.2.2.1] at hv9
          have S9 : Hid _ := (S8.out.go hb9).addN hv9
          clear hv9 hb9 S8
          go_wp2_with fail
          refine (uint_yes v9 ct _ (S9.out.at v9 ct) HC.out.1).mono ?_
          rintro e w10 ⟨rfl, hb10⟩
          have S10 : Hid _ := S9.out.go hb10
          clear hb10 S9
          by_cases h3 : B < 9218868437227405312
          · have t5 : decide (9218868437227405312 ≤ B) = false := decide_eq_false (by omega)
            have t6 : decide ((9218868437227405312 : Int) ≤ (B : Int)) = false := decide_eq_false (by omega)
            have HV : Hid (tfV p q = B ∧ tfOk p q = true) := by have := tf_in (q := q) HP.out (by rw [HC.out.2.2.2.2.2.2.2]; exact h3); rw [HC.out.2.2.2.2.2.2.2] at this; exact this
            clear h3
            go_wp2_with fail
            refine (float_any B _).mono ?_
            rintro e w11 ⟨rfl, hw11⟩
            rw [hw11]
            clear hw11
            go_wp2_with fail
            exact bodyPost_ret (v := .tuple #[.float .f64 (B), .bool true]) (by simp [results, Tryz.results15, go_sem]) rfl ⟨by rw [HV.out.1, HV.out.2], S10.out.bel⟩
            
          · have t5 : decide (9218868437227405312 ≤ B) = true := decide_eq_true (by omega)
            have t6 : decide ((9218868437227405312 : Int) ≤ (B : Int)) = true := decide_eq_true (by omega)
            have HV : Hid (tfV p q = 0 ∧ tfOk p q = false) := tf_over HP.out (by rw [HC.out.2.2.2.2.2.2.2]; exact h3)
            clear h3
            go_wp2_with fail
            exact bodyPost_ret (v := .tuple #[.float .f64 (0), .bool false]) (by simp [results, Tryz.results15, go_sem]) rfl ⟨by rw [HV.out.1, HV.out.2], S10.out.bel⟩
            
end Go.Proofs.YtpeimefangpnaaaGreatDoor
namespace Go.Proofs.YtpeimefangpnaaaGreatDoor
open Go.RowKit
set_option maxRecDepth 100000
set_option linter.unusedVariables false
set_option maxHeartbeats 4000000 in
theorem same_true (v u : Value) (x : Nat) (w : World) (h : IsNat w v x) (k : RNat w u x) (hx : Fits x) (hr : RFits x) :
    Calls Tryz.prog 46 #[v, u] w fun e w' => e = .returned (.bool true) ∧ Below w.heap.size w w' := by
  obtain ⟨ap, mp, cp, rfl⟩ := h.isAgg
  obtain ⟨aq, mq, cq, rfl⟩ := k.isAgg
  have HX : Hid (Fits x ∧ RFits x) := ⟨hx, hr⟩
  have S0 : Hid _ := ((((sr_start w).nat h).rnat k).box (.slice ap mp cp) 25 _ rfl).box (.slice aq mq cq) 33 _ rfl
  clear h k hx hr
  go_enter Tryz.func46, Tryz.ntmps46
  go_wp2_with fail
  have hsz : (w.alloc (Obj.cells #[Value.slice ap mp cp] 25)).heap.size = w.heap.size + 1 := by simp
  rw [hsz] at S0
  clear hsz
  obtain ⟨w2, hw2⟩ : ∃ w2, w2 = (w.alloc (Obj.cells #[Value.slice ap mp cp] 25)).alloc (Obj.cells #[Value.slice aq mq cq] 33) := ⟨_, rfl⟩
  obtain ⟨b, hb⟩ : ∃ b, b = w.heap.size := ⟨_, rfl⟩
  rw [← hw2, ← hb] at S0
  rw [← hw2, ← hb]
  clear hw2 hb
  refine wp_region_inv (JB w2 [sNat (x), sBy (x), sEq (.string (byteText (x))), sR (x), sBy (x), sEq (.string (byteText (x))), sEq (.bool true), sEq (.bool true), sNat (x), sEq (.int .i64 ((bitLen x : Nat) : Int)), sR (x), sEq (.int .i64 ((bitLen x : Nat) : Int)), sEq (.bool true), sEq (.bool true), sEq (.bool true)] []) 19 (by kernel_rfl) rfl (by kernel_rfl) (JB.start _ _ _) (fun HG HN => ⟨?_, ?_, ?_, ?_, ?_, ?_, ?_, ?_, ?_, ?_, ?_, ?_, ?_, ?_, ?_, trivial⟩) ?_
  · intro L vs a w' hJ hF hP hL
    have q2 : (a.tmps[2]?).getD undef = .pointer (some ⟨b, 0, none⟩) := hF.old 2 rfl
    have cb := cell_later hJ.bel (S0.out.cell (b) (.slice ap mp cp))
    exact run_val (v := .agg #[.slice ap mp cp]) rfl (by simp [execOp, go_sem, q2, cb]) ⟨_, rfl, hJ.step hL rfl (Below.refl _ _) (by exact ((S0.out.at (.agg #[.slice ap mp cp]) (x)).mono hJ.bel))⟩
  · intro L vs a w' hJ hF hP hL
    have p0 : L 0 = true := hP ⟨0, .data⟩ (by simp) rfl
    have s0 : IsNat w' (vs 0) (x) := hJ.sp 0 p0
    have q5 := hF.slot 0 5 rfl p0
    refine run_call (f := 89) (args := #[vs 0]) rfl (by simp [go_sem, q5]) (bytes_any _ x _ s0 HX.out.1) ?_
    rintro e w2 ⟨gb, rfl, hg, hR, hb⟩
    exact ⟨_, rfl, _, rfl, hJ.step hL rfl hb (by exact ⟨gb, rfl, fun i hi => hR.cell hi⟩)⟩
  · intro L vs a w' hJ hF hP hL
    have p1 : L 1 = true := hP ⟨1, .data⟩ (by simp) rfl
    have s1 : ByIs w' (vs 1) (x) := hJ.sp 1 p1
    have q6 := hF.slot 1 6 rfl p1
    obtain ⟨gb, e1, e2⟩ := s1
    have cv := conv_by e2
    exact run_val (v := .string (byteText (x))) rfl (by simp [execOp, go_sem, q6, e1, cv]) ⟨_, rfl, hJ.step hL rfl (Below.refl _ _) (by exact rfl)⟩
  · intro L vs a w' hJ hF hP hL
    have q3 : (a.tmps[3]?).getD undef = .pointer (some ⟨b + 1, 0, none⟩) := hF.old 3 rfl
    have cb := cell_later hJ.bel (S0.out.cell (b + 1) (.slice aq mq cq))
    exact run_val (v := .agg #[.slice aq mq cq]) rfl (by simp [execOp, go_sem, q3, cb]) ⟨_, rfl, hJ.step hL rfl (Below.refl _ _) (by exact ((S0.out.rat (.agg #[.slice aq mq cq]) (x)).mono hJ.bel))⟩
  · intro L vs a w' hJ hF hP hL
    have p3 : L 3 = true := hP ⟨3, .data⟩ (by simp) rfl
    have s3 : RNat w' (vs 3) (x) := hJ.sp 3 p3
    have q8 := hF.slot 3 8 rfl p3
    refine run_call (f := 27) (args := #[vs 3]) rfl (by simp [go_sem, q8]) (rbytes_any _ x _ s3 HX.out.2) ?_
    rintro e w2 ⟨gb, rfl, hg, hR, hb⟩
    exact ⟨_, rfl, _, rfl, hJ.step hL rfl hb (by exact ⟨gb, rfl, fun i hi => hR.cell hi⟩)⟩
  · intro L vs a w' hJ hF hP hL
    have p4 : L 4 = true := hP ⟨4, .data⟩ (by simp) rfl
    have s4 : ByIs w' (vs 4) (x) := hJ.sp 4 p4
    have q9 := hF.slot 4 9 rfl p4
    obtain ⟨gb, e1, e2⟩ := s4
    have cv := conv_by e2
    exact run_val (v := .string (byteText (x))) rfl (by simp [execOp, go_sem, q9, e1, cv]) ⟨_, rfl, hJ.step hL rfl (Below.refl _ _) (by exact rfl)⟩
  · intro L vs a w' hJ hF hP hL
    have p2 : L 2 = true := hP ⟨2, .data⟩ (by simp) rfl
    have s2 : vs 2 = .string (byteText (x)) := hJ.sp 2 p2
    have q7 := hF.slot 2 7 rfl p2
    have p5 : L 5 = true := hP ⟨5, .data⟩ (by simp) rfl
    have s5 : vs 5 = .string (byteText (x)) := hJ.sp 5 p5
    have q10 := hF.slot 5 10 rfl p5
    exact run_val (v := .bool true) rfl (by simp [execOp, go_sem, q7, s2, q10, s5]) ⟨_, rfl, hJ.step hL rfl (Below.refl _ _) (by exact rfl)⟩
  · intro L vs a w' hJ hF hP hL
    have p6 : L 6 = true := hP ⟨6, .data⟩ (by simp) rfl
    have s6 : vs 6 = .bool true := hJ.sp 6 p6
    have q11 := hF.slot 6 11 rfl p6
    exact run_val (v := .bool true) rfl (by simp [execOp, go_sem, q11, s6]) ⟨_, rfl, hJ.step hL rfl (Below.refl _ _) (by exact rfl)⟩
  · intro L vs a w' hJ hF hP hL
    have q2 : (a.tmps[2]?).getD undef = .pointer (some ⟨b, 0, none⟩) := hF.old 2 rfl
    have cb := cell_later hJ.bel (S0.out.cell (b) (.slice ap mp cp))
    exact run_val (v := .agg #[.slice ap mp cp]) (hF.wants 19 HN HG _ 7 true true rfl rfl (hP ⟨7, .guard⟩ (by simp) rfl) (hJ.sp 7 (hP ⟨7, .guard⟩ (by simp) rfl))) (by simp [execOp, go_sem, q2, cb]) ⟨_, rfl, hJ.step hL rfl (Below.refl _ _) (by exact ((S0.out.at (.agg #[.slice ap mp cp]) (x)).mono hJ.bel))⟩
  · intro L vs a w' hJ hF hP hL
    have p8 : L 8 = true := hP ⟨8, .data⟩ (by simp) rfl
    have s8 : IsNat w' (vs 8) (x) := hJ.sp 8 p8
    have q13 := hF.slot 8 13 rfl p8
    refine run_call (f := 49) (args := #[vs 8]) (hF.wants 19 HN HG _ 7 true true rfl rfl (hP ⟨7, .guard⟩ (by simp) rfl) (hJ.sp 7 (hP ⟨7, .guard⟩ (by simp) rfl))) (by simp [go_sem, q13]) (len_any _ x _ s8 HX.out.1) ?_
    rintro e w2 ⟨rfl, hb⟩
    exact ⟨_, rfl, _, rfl, hJ.step hL rfl hb (by exact rfl)⟩
  · intro L vs a w' hJ hF hP hL
    have q3 : (a.tmps[3]?).getD undef = .pointer (some ⟨b + 1, 0, none⟩) := hF.old 3 rfl
    have cb := cell_later hJ.bel (S0.out.cell (b + 1) (.slice aq mq cq))
    exact run_val (v := .agg #[.slice aq mq cq]) (hF.wants 19 HN HG _ 7 true true rfl rfl (hP ⟨7, .guard⟩ (by simp) rfl) (hJ.sp 7 (hP ⟨7, .guard⟩ (by simp) rfl))) (by simp [execOp, go_sem, q3, cb]) ⟨_, rfl, hJ.step hL rfl (Below.refl _ _) (by exact ((S0.out.rat (.agg #[.slice aq mq cq]) (x)).mono hJ.bel))⟩
  · intro L vs a w' hJ hF hP hL
    have p10 : L 10 = true := hP ⟨10, .data⟩ (by simp) rfl
    have s10 : RNat w' (vs 10) (x) := hJ.sp 10 p10
    have q15 := hF.slot 10 15 rfl p10
    refine run_call (f := 54) (args := #[vs 10]) (hF.wants 19 HN HG _ 7 true true rfl rfl (hP ⟨7, .guard⟩ (by simp) rfl) (hJ.sp 7 (hP ⟨7, .guard⟩ (by simp) rfl))) (by simp [go_sem, q15]) (rlen_any _ x _ s10 HX.out.2) ?_
    rintro e w2 ⟨rfl, hb⟩
    exact ⟨_, rfl, _, rfl, hJ.step hL rfl hb (by exact rfl)⟩
  · intro L vs a w' hJ hF hP hL
    have p9 : L 9 = true := hP ⟨9, .data⟩ (by simp) rfl
    have s9 : vs 9 = .int .i64 ((bitLen x : Nat) : Int) := hJ.sp 9 p9
    have q14 := hF.slot 9 14 rfl p9
    have p11 : L 11 = true := hP ⟨11, .data⟩ (by simp) rfl
    have s11 : vs 11 = .int .i64 ((bitLen x : Nat) : Int) := hJ.sp 11 p11
    have q16 := hF.slot 11 16 rfl p11
    exact run_val (v := .bool true) (hF.wants 19 HN HG _ 7 true true rfl rfl (hP ⟨7, .guard⟩ (by simp) rfl) (hJ.sp 7 (hP ⟨7, .guard⟩ (by simp) rfl))) (by simp [execOp, go_sem, q14, s9, q16, s11]) ⟨_, rfl, hJ.step hL rfl (Below.refl _ _) (by exact rfl)⟩
  · intro L vs a w' hJ hF hP hL
    have p7 : L 7 = true := hP ⟨7, .data⟩ (by simp) rfl
    have s7 : vs 7 = .bool true := hJ.sp 7 p7
    have q12 := hF.slot 7 12 rfl p7
    have p12 : L 12 = true := hP ⟨12, .data⟩ (by simp) rfl
    have s12 : vs 12 = .bool true := hJ.sp 12 p12
    have q17 := hF.slot 12 17 rfl p12
    exact run_val (v := .bool true) rfl (by simp [execOp, go_sem, q12, s7, q17, s12]) ⟨_, rfl, hJ.step hL rfl (Below.refl _ _) (by exact rfl)⟩
  · intro L vs a w' hJ hF hP hL
    have p13 : L 13 = true := hP ⟨13, .data⟩ (by simp) rfl
    have s13 : vs 13 = .bool true := hJ.sp 13 p13
    have q18 := hF.slot 13 18 rfl p13
    exact run_val (v := .bool true) rfl (by simp [execOp, go_sem, q18, s13]) ⟨_, rfl, hJ.step hL rfl (Below.refl _ _) (by exact rfl)⟩
  intro L vs w' hA hJ
  have s14 : vs 14 = .bool true := hJ.sp 14 (hA 14 (by simp))
  simp only [putL, Act.put, List.setIfInBounds_toArray, List.set_cons_zero, List.set_cons_succ, Nat.reduceAdd]
  simp only [s14]
  go_wp2_with fail
  go_ret
  exact ⟨rfl, (S0.out.go hJ.bel).bel⟩
end Go.Proofs.YtpeimefangpnaaaGreatDoor
namespace Go.Proofs.YtpeimefangpnaaaGreatDoor
open Go.RowKit
set_option maxRecDepth 100000
set_option linter.unusedVariables false
set_option maxHeartbeats 400000 in
theorem same3_true (v u : Value) (p q : Nat) (w : World) (h : Rt w v p q) (k : RRt w u p q) (hp : RS p) (hq : RS q) :
    Calls Tryz.prog 12 #[v, u] w fun e w' => e = .returned (.bool true) ∧ Below w.heap.size w w' := by
  obtain ⟨a, n, c, a', n', c', e0, _, _⟩ := h.raw
  subst e0
  obtain ⟨d, m, g, d', m', g', e1, k1, k2⟩ := k
  subst e1
  obtain ⟨w0, hw0⟩ : ∃ w0, w0 = (w.alloc (.cells #[.slice a n c, .slice a' n' c'] 27)).alloc (.cells #[.slice d m g, .slice d' m' g'] 35) := ⟨_, rfl⟩
  have ba : Below w.heap.size w w0 := by rw [hw0]; exact bel_al (bel_al (bel_refl w))
  have e0 : w0.cell? ⟨w.heap.size + 1, 0, none⟩ = some (.slice d m g) := by rw [hw0]; simp [go_sem]
  have e1 : w0.cell? ⟨w.heap.size + 1, 1, none⟩ = some (.slice d' m' g') := by rw [hw0]; simp [go_sem]
  have HH : Hid (Rt w0 (.agg #[.slice a n c, .slice a' n' c']) p q ∧ RNat w0 (.agg #[.slice d m g]) p ∧ RNat w0 (.agg #[.slice d' m' g']) q ∧ RS p ∧ RS q ∧ Below w.heap.size w w0) := ⟨h.mono ba, k1.mono ba, k2.mono ba, hp, hq, ba⟩
  clear h k1 k2 hp hq ba
  go_enter Tryz.func12, Tryz.ntmps12
  go_wp2_with fail
  rw [← hw0]
  clear hw0
  refine (parts_any _ p q _ HH.out.1 HH.out.2.2.2.2.1.fits).mono ?_
  rintro e w1 ⟨v1, u1, rfl, hv1, hu1, hb1⟩
  obtain ⟨a1, n1, c1, rfl⟩ := hv1.isAgg
  obtain ⟨a2, n2, c2, rfl⟩ := hu1.isAgg
  obtain ⟨w2, hw2⟩ : ∃ w2, w2 = (w1.alloc (.cells #[.slice a1 n1 c1] 25)).alloc (.cells #[.slice a2 n2 c2] 25) := ⟨_, rfl⟩
  have b12 : Below w1.heap.size w1 w2 := by rw [hw2]; exact bel_al (bel_al (bel_refl w1))
  have b2 : Below w0.heap.size w0 w2 := bel_go hb1 b12
  have d0 := cell_later b2 e0
  have d1 := cell_later b2 e1
  have x0 : w2.cell? ⟨w1.heap.size, 0, none⟩ = some (.slice a1 n1 c1) := by rw [hw2]; simp [go_sem]
  have x1 : w2.cell? ⟨w1.heap.size + 1, 0, none⟩ = some (.slice a2 n2 c2) := by rw [hw2]; simp [go_sem]
  have I2 : Hid (IsNat w2 (.agg #[.slice a1 n1 c1]) p ∧ IsNat w2 (.agg #[.slice a2 n2 c2]) q ∧ RNat w2 (.agg #[.slice d m g]) p ∧ RNat w2 (.agg #[.slice d' m' g']) q ∧ Below w.heap.size w w2) := ⟨hv1.mono b12, hu1.mono b12, HH.out.2.1.mono b2, HH.out.2.2.1.mono b2, bel_go HH.out.2.2.2.2.2 b2⟩
  clear hv1 hu1 hb1 b12 b2 e0 e1
  rw [hw2] at d0 d1 x0 x1
  go_wp2_with fail
  rw [← hw2] at d0 d1 x0 x1
  rw [← hw2]
  clear hw2
  refine (same_true _ _ p _ I2.out.1 I2.out.2.2.1 HH.out.2.2.2.1.fits HH.out.2.2.2.1.rfits).mono ?_
  rintro e w3 ⟨rfl, hb3⟩
  have y1 := cell_later hb3 x1
  have f1 := cell_later hb3 d1
  have I3 : Hid (IsNat w3 (.agg #[.slice a2 n2 c2]) q ∧ RNat w3 (.agg #[.slice d' m' g']) q ∧ Below w.heap.size w w3) := ⟨I2.out.2.1.mono hb3, I2.out.2.2.2.1.mono hb3, bel_go I2.out.2.2.2.2 hb3⟩
  clear hb3 I2 x0 x1 d0 d1
  go_wp2_with fail
  refine (same_true _ _ q _ I3.out.1 I3.out.2.1 HH.out.2.2.2.2.1.fits HH.out.2.2.2.2.1.rfits).mono ?_
  rintro e w4 ⟨rfl, hb4⟩
  have B4 : Hid (Below w.heap.size w w4) := bel_go I3.out.2.2 hb4
  clear hb4
  go_wp2_with fail
  go_ret
  exact ⟨rfl, B4.out⟩
theorem and3_2047 (x : Nat) (h : x < 18446744073709551616) : bits .and .u64 (x : Int) 2047 = ((x % 2048 : Nat) : Int) := by
  have := bits_and_u64_nat x 2047 h (by omega)
  rw [show (2047 : Nat) = 2 ^ 11 - 1 from rfl, Nat.and_two_pow_sub_one_eq_mod] at this
  exact this
theorem and3_low52 (x : Nat) (h : x < 18446744073709551616) : bits .and .u64 (x : Int) 4503599627370495 = ((x % 4503599627370496 : Nat) : Int) := by
  have := bits_and_u64_nat x 4503599627370495 h (by omega)
  rw [show (4503599627370495 : Nat) = 2 ^ 52 - 1 from rfl, Nat.and_two_pow_sub_one_eq_mod] at this
  exact this
/-- What FromFloat looks at. -/
structure Flk (u x0 E m t s : Nat) : Prop where
  lt : u < 18446744073709551616
  x : x0 = u / 4503599627370496
  e : E = x0 % 2048
  m : m = u % 4503599627370496
  t : t = u / 9223372036854775808
  s : s = u * 2 % 18446744073709551616
theorem fl_of (u : Nat) (h : u < 18446744073709551616) : ∃ x0 E m t s, Flk u x0 E m t s := ⟨_, _, _, _, _, h, rfl, rfl, rfl, rfl, rfl⟩
structure Frl (u x0 E m t s : Nat) : Prop where
  r2 : (u : Int) / 4503599627370496 = (x0 : Int)
  r3 : bits .and .u64 (x0 : Int) 2047 = (E : Int)
  r5 : bits .and .u64 (u : Int) 4503599627370495 = (m : Int)
  r6 : (u : Int) / 9223372036854775808 = (t : Int)
  r7 : IntKind.u64.wrap ((u : Int) * 2) = (s : Int)
  r8 : wrap64 (E : Int) = (E : Int)
  r9 : IntKind.i64.wrap (E : Int) = (E : Int)
theorem Flk.rules {u x0 E m t s : Nat} (h : Flk u x0 E m t s) : Frl u x0 E m t s := by
  obtain ⟨h0, h1, h2, h3, h4, h5⟩ := h
  have hE : E < 2048 := by rw [h2]; exact Nat.mod_lt _ (by omega)
  refine ⟨by omega, ?_, ?_, by omega, by rw [IntKind.wrap_u64]; omega, IntWalk.wrap64_in _ ⟨by omega, by omega⟩, by rw [IntKind.wrap_i64]; omega⟩
  · rw [h2]; exact and3_2047 x0 (by omega)
  · rw [h3]; exact and3_low52 u h0
set_option maxHeartbeats 400000 in
theorem rfrom3_zero (u x0 E m t s : Nat) (w : World) (h : Flk u x0 E m t s) (h0 : s = 0) : Calls Tryz.prog 11 #[.int .u64 (u : Int)] w (MakesRRB w 0 1 true) := by
  have RR : Hid (Frl u x0 E m t s) := h.rules
  have d3 : decide (s = 0) = true := decide_eq_true h0
  have d3' : ((s : Int) == 0) = true := by simp; omega
  clear h0
  clear h
  obtain ⟨r2, r3, r5, r6, r7, r8, r9⟩ := RR.out
  go_enter Tryz.func11, Tryz.ntmps11
  go_wp2_with fail
  refine (rzero2_any _).mono ?_
  rintro e w1 ⟨v1, rfl, hv1, hb1⟩
  have hv' := hv1
  obtain ⟨a6, n6, c6, a7, n7, c7, ev, _, _⟩ := hv'
  subst ev
  have z0 : w1.cell? ⟨w.heap.size, 0, none⟩ = some (.slice none 0 0) := cell_later hb1 (by simp [go_sem])
  have z1 : w1.cell? ⟨w.heap.size, 1, none⟩ = some (.slice none 0 0) := cell_later hb1 (by simp [go_sem])
  have y0 : w1.frozen? ⟨w.heap.size, 0, none⟩ = false := (hb1.frozen (by simp)).trans (by simp [go_sem])
  have y1 : w1.frozen? ⟨w.heap.size, 1, none⟩ = false := (hb1.frozen (by simp)).trans (by simp [go_sem])
  have Z : Hid _ := rrat_put (v := .slice a6 n6 c6) (u := .slice a7 n7 c7) z0 z1 hv1 (bel_go (bel_al (bel_refl w)) hb1) (Nat.le_refl _)
  clear hv1 hb1
  go_wp2_with fail
  exact bodyPost_ret (v := .tuple #[.agg #[.slice a6 n6 c6, .slice a7 n7 c7], .bool true]) (by simp [results, Tryz.results11, go_sem, z0, z1]) rfl ⟨_, rfl, Z.out.1, Z.out.2⟩
set_option maxHeartbeats 400000 in
theorem rfrom3_bad1 (u x0 E m t s : Nat) (w : World) (h : Flk u x0 E m t s) (h0 : s ≠ 0) (h1 : E = 2047) : Calls Tryz.prog 11 #[.int .u64 (u : Int)] w (MakesRRB w 0 1 false) := by
  have RR : Hid (Frl u x0 E m t s) := h.rules
  have d3 : decide (s = 0) = false := decide_eq_false (by omega)
  have d3' : ((s : Int) == 0) = false := by simp; omega
  have d32 : ¬ s = 0 := by omega
  have d1 : decide (E = 2047) = true := decide_eq_true h1
  have d1' : ((E : Int) == 2047) = true := by simp; omega
  clear h1
  clear h
  obtain ⟨r2, r3, r5, r6, r7, r8, r9⟩ := RR.out
  go_enter Tryz.func11, Tryz.ntmps11
  go_wp2_with fail
  refine (rzero2_any _).mono ?_
  rintro e w1 ⟨v1, rfl, hv1, hb1⟩
  have hv' := hv1
  obtain ⟨a6, n6, c6, a7, n7, c7, ev, _, _⟩ := hv'
  subst ev
  have z0 : w1.cell? ⟨w.heap.size, 0, none⟩ = some (.slice none 0 0) := cell_later hb1 (by simp [go_sem])
  have z1 : w1.cell? ⟨w.heap.size, 1, none⟩ = some (.slice none 0 0) := cell_later hb1 (by simp [go_sem])
  have y0 : w1.frozen? ⟨w.heap.size, 0, none⟩ = false := (hb1.frozen (by simp)).trans (by simp [go_sem])
  have y1 : w1.frozen? ⟨w.heap.size, 1, none⟩ = false := (hb1.frozen (by simp)).trans (by simp [go_sem])
  have Z : Hid _ := rrat_put (v := .slice a6 n6 c6) (u := .slice a7 n7 c7) z0 z1 hv1 (bel_go (bel_al (bel_refl w)) hb1) (Nat.le_refl _)
  clear hv1 hb1
  go_wp2_with fail
  exact bodyPost_ret (v := .tuple #[.agg #[.slice a6 n6 c6, .slice a7 n7 c7], .bool false]) (by simp [results, Tryz.results11, go_sem, z0, z1]) rfl ⟨_, rfl, Z.out.1, Z.out.2⟩
set_option maxHeartbeats 400000 in
theorem rfrom3_bad2 (u x0 E m t s : Nat) (w : World) (h : Flk u x0 E m t s) (h0 : s ≠ 0) (h1 : E ≠ 2047) (h2 : t = 1) : Calls Tryz.prog 11 #[.int .u64 (u : Int)] w (MakesRRB w 0 1 false) := by
  have RR : Hid (Frl u x0 E m t s) := h.rules
  have d3 : decide (s = 0) = false := decide_eq_false (by omega)
  have d3' : ((s : Int) == 0) = false := by simp; omega
  have d32 : ¬ s = 0 := by omega
  have d1 : decide (E = 2047) = false := decide_eq_false (by omega)
  have d1' : ((E : Int) == 2047) = false := by simp; omega
  have d12 : ¬ E = 2047 := by omega
  have d2 : decide (t = 1) = true := decide_eq_true h2
  have d2' : ((t : Int) == 1) = true := by simp; omega
  clear h2
  clear h
  obtain ⟨r2, r3, r5, r6, r7, r8, r9⟩ := RR.out
  go_enter Tryz.func11, Tryz.ntmps11
  go_wp2_with fail
  refine (rzero2_any _).mono ?_
  rintro e w1 ⟨v1, rfl, hv1, hb1⟩
  have hv' := hv1
  obtain ⟨a6, n6, c6, a7, n7, c7, ev, _, _⟩ := hv'
  subst ev
  have z0 : w1.cell? ⟨w.heap.size, 0, none⟩ = some (.slice none 0 0) := cell_later hb1 (by simp [go_sem])
  have z1 : w1.cell? ⟨w.heap.size, 1, none⟩ = some (.slice none 0 0) := cell_later hb1 (by simp [go_sem])
  have y0 : w1.frozen? ⟨w.heap.size, 0, none⟩ = false := (hb1.frozen (by simp)).trans (by simp [go_sem])
  have y1 : w1.frozen? ⟨w.heap.size, 1, none⟩ = false := (hb1.frozen (by simp)).trans (by simp [go_sem])
  have Z : Hid _ := rrat_put (v := .slice a6 n6 c6) (u := .slice a7 n7 c7) z0 z1 hv1 (bel_go (bel_al (bel_refl w)) hb1) (Nat.le_refl _)
  clear hv1 hb1
  go_wp2_with fail
  exact bodyPost_ret (v := .tuple #[.agg #[.slice a6 n6 c6, .slice a7 n7 c7], .bool false]) (by simp [results, Tryz.results11, go_sem, z0, z1]) rfl ⟨_, rfl, Z.out.1, Z.out.2⟩
/-- What comes of it. -/
structure Fg (u mm : Nat) (z : Int) : Prop where
  mlt : mm < 9007199254740992
  lo : -1074 ≤ z
  hi : z ≤ 971
  eN : fN u = mm * 2 ^ z.toNat
  eD : fD u = 2 ^ (-z).toNat
theorem fg_of {u E m : Nat} (hE : E = u / 4503599627370496) (hm : m = u % 4503599627370496) (h : E < 2047) : Fg u (if E = 0 then m else m + 4503599627370496) ((if E = 0 then 0 else (E : Int) - 1) - 1074) := by
  refine ⟨by split <;> omega, by split <;> omega, by split <;> omega, ?_, ?_⟩
  · unfold fN fm fe
    rw [← hE, ← hm]
    congr 2
    split <;> omega
  · unfold fD fe
    rw [← hE]
    congr 1
    split <;> omega
theorem Fg.sN {u mm : Nat} {z : Int} (h : Fg u mm z) : RS (mm * 2 ^ z.toNat) := ⟨P_up (fN_gen (n := 17) (Nat.lt_of_lt_of_eq h.mlt (by decide)) (by have := h.hi; omega)) (by omega)⟩
theorem Fg.sD {u mm : Nat} {z : Int} (h : Fg u mm z) : RS (2 ^ (-z).toNat) := ⟨P_up (two_P (n := 17) (by have := h.lo; omega)) (by omega)⟩
theorem w64_at {x y : Int} (h1 : -9223372036854775808 ≤ x) (h2 : x ≤ 9223372036854775807) (h : x = y) : wrap64 x = y := by rw [IntWalk.wrap64_in _ ⟨h1, h2⟩, h]
theorem fl_rules {E f : Nat} {z : Int} (hf : f = E - 1) (hz : z = (E : Int) - 1 - 1074) (h3 : 0 < E) (h1 : -1074 ≤ z) (h2 : z ≤ 971) : wrap64 ((E : Int) - 1) = (f : Int) ∧ wrap64 ((f : Int) + -1074) = z ∧ wrap64 ((f : Int) - 1074) = z :=
  ⟨w64_at (by omega) (by omega) (by omega), w64_at (by omega) (by omega) (by omega), w64_at (by omega) (by omega) (by omega)⟩
set_option maxHeartbeats 400000 in
theorem rfrom3_sub (u x0 E m t s : Nat) (z : Int) (w : World) (h : Flk u x0 E m t s) (h0 : s ≠ 0) (h1 : E ≠ 2047) (h2 : t ≠ 1) (h3 : E = 0) (hg : Fg u m z) (hz : z = -1074) : Calls Tryz.prog 11 #[.int .u64 (u : Int)] w (MakesRRB w (fN u / Nat.gcd (fN u) (fD u)) (fD u / Nat.gcd (fN u) (fD u)) true) := by
  have RR : Hid (Frl u x0 E m t s) := h.rules
  have HG : Hid (Fg u m z) := hg
  obtain ⟨d, hd⟩ : ∃ d, d = (-z).toNat := ⟨_, rfl⟩
  have d3 : decide (s = 0) = false := decide_eq_false (by omega)
  have d3' : ((s : Int) == 0) = false := by simp; omega
  have d32 : ¬ s = 0 := by omega
  have d1 : decide (E = 2047) = false := decide_eq_false (by omega)
  have d1' : ((E : Int) == 2047) = false := by simp; omega
  have d12 : ¬ E = 2047 := by omega
  have d2 : decide (t = 1) = false := decide_eq_false (by omega)
  have d2' : ((t : Int) == 1) = false := by simp; omega
  have d22 : ¬ t = 1 := by omega
  have HN : Hid (fN u = m ∧ fD u = 2 ^ d ∧ RSome (m) ∧ RSome (2 ^ d) ∧ 0 < 2 ^ d) := by
    have a1 := hg.sN.rsome
    have a2 := hg.sD.rsome
    have e1 := hg.eN
    have e2 := hg.eD
    rw [show z.toNat = 0 by omega, Nat.pow_zero, Nat.mul_one] at a1 e1
    rw [← hd] at a2 e2
    exact ⟨e1, e2, a1, a2, Nat.two_pow_pos _⟩
  have e0 : (E : Int) = 0 := by omega
  have e74 : (d : Int) = 1074 := by omega
  have LF : Hid (∀ v w, RNat w v 1 → Calls Tryz.prog 22 #[v, .int .i64 1074] w (RMakes w (2 ^ d))) := fun v w h => by
    have := rleft_any v 1 d w h (rs_word (by omega)).rfits (by have := hg.lo; omega)
    rw [Nat.one_mul, e74] at this
    exact this
  rw [HN.out.1, HN.out.2.1]
  clear h hg hd h0 h1 h2 h3 hz e74
  obtain ⟨r2, r3, r5, r6, r7, r8, r9⟩ := RR.out
  have S1 : Hid _ := (sy_start w).box (.slice none 0 0) (.slice none 0 0) 35 _ rfl
  go_enter Tryz.func11, Tryz.ntmps11
  go_wp2_with fail
  refine (rof_any m _ (by have := HG.out.mlt; omega)).mono ?_
  rintro e w2 ⟨v2, rfl, hv2, hb2⟩
  obtain ⟨a1, n1, c1, rfl⟩ := hv2.isAgg
  have S2 : Hid _ := ((S1.out.go hb2).addM hv2).box1 (.slice a1 n1 c1) 33 _ rfl
  have BG : w.heap.size < w2.heap.size := (S1.out.go hb2).lt w.heap.size
  clear hv2 hb2 S1
  go_wp2_with fail
  obtain ⟨g, hg⟩ : ∃ g, g = w2.heap.size := ⟨_, rfl⟩
  obtain ⟨w3, hw3⟩ : ∃ w3, w3 = w2.alloc (.cells #[.slice a1 n1 c1] 33) := ⟨_, rfl⟩
  obtain ⟨b, hb⟩ : ∃ b, b = w.heap.size := ⟨_, rfl⟩
  have HBG : Hid (b < g) := by
    show b < g
    rw [hg, hb]
    exact BG
  rw [← hw3, ← hg, ← hb] at S2
  rw [← hw3, ← hg, ← hb]
  clear hw3 hg hb BG
  refine (rof_any 1 _ (by omega)).mono ?_
  rintro e w4 ⟨v4, rfl, hv4, hb4⟩
  obtain ⟨a2, n2, c2, rfl⟩ := hv4.isAgg
  have GH : g < w4.heap.size := (S2.out.go hb4).lt g
  have S3 : Hid _ := ((S2.out.go hb4).addM hv4).box1 (.slice a2 n2 c2) 33 _ rfl
  clear hv4 hb4 S2
  have k1 := S3.out.cel g 0 (.slice a1 n1 c1)
  have k2 : (w4.alloc (.cells #[.slice a2 n2 c2] 33)).cell? ⟨w4.heap.size, 0, none⟩ = some (.slice a2 n2 c2) := S3.out.cel w4.heap.size 0 (.slice a2 n2 c2)
  go_wp2_with fail
  obtain ⟨h, hh⟩ : ∃ h, h = w4.heap.size := ⟨_, rfl⟩
  obtain ⟨w5, hw5⟩ : ∃ w5, w5 = w4.alloc (.cells #[.slice a2 n2 c2] 33) := ⟨_, rfl⟩
  rw [← hw5, ← hh] at S3
  rw [← hw5, ← hh]
  have HGH : Hid (g < h) := by show g < h; rw [hh]; exact GH
  clear hw5 hh GH k1 k2
  refine (LF.out _ _ (S3.out.rat (.agg #[.slice a2 n2 c2]) 1)).mono ?_
  rintro e w6 ⟨v6, rfl, hv6, hb6⟩
  obtain ⟨a3, n3, c3, rfl⟩ := hv6.isAgg
  have S4 : Hid _ := (S3.out.go hb6).addM hv6
  clear hv6 hb6 S3
  have k1 := S4.out.cel h 0 (.slice a2 n2 c2)
  have k0 := S4.out.cel g 0 (.slice a1 n1 c1)
  have f1 := S4.out.fz h 0
  have S5 : Hid _ := (S4.out.set (b := h) (i := 0) k1 (S4.out.lo h) [(g, 0, .slice a1 n1 c1), (b, 0, .slice none 0 0), (b, 1, .slice none 0 0)] (by have := HBG.out; have := HGH.out; simp; omega) (.slice a3 n3 c3)).addC (b := h) (i := 0) (v := .slice a3 n3 c3) (by simp [go_sem, k1])
  have k3 : (w6.setCell ⟨h, 0, none⟩ (.slice a3 n3 c3)).cell? ⟨g, 0, none⟩ = some (.slice a1 n1 c1) := S5.out.cel g 0 (.slice a1 n1 c1)
  have k4 : (w6.setCell ⟨h, 0, none⟩ (.slice a3 n3 c3)).cell? ⟨h, 0, none⟩ = some (.slice a3 n3 c3) := S5.out.cel h 0 (.slice a3 n3 c3)
  go_wp2_with fail
  obtain ⟨w7, hw7⟩ : ∃ w7, w7 = w6.setCell ⟨h, 0, none⟩ (.slice a3 n3 c3) := ⟨_, rfl⟩
  rw [← hw7] at S5
  rw [← hw7]
  clear hw7 k0 k1 k3 k4 f1 S4
  refine (rfrom2_yes _ _ (m) (2 ^ d) _ (S5.out.rat (.agg #[.slice a1 n1 c1]) (m)) (S5.out.rat (.agg #[.slice a3 n3 c3]) (2 ^ d)) HN.out.2.2.1 HN.out.2.2.2.1 HN.out.2.2.2.2).mono ?_
  rintro e w8 ⟨v8, rfl, hv8, hb8⟩
  have hv' := hv8
  obtain ⟨a6, n6, c6, a7, n7, c7, ev, _, _⟩ := hv'
  subst ev
  have S6 : Hid _ := (S5.out.go hb8).addG hv8
  clear hv8 hb8 S5
  have z0 := S6.out.cel b 0 (.slice none 0 0)
  have z1 := S6.out.cel b 1 (.slice none 0 0)
  have y0 := S6.out.fz b 0
  have y1 := S6.out.fz b 1
  have Z : Hid _ := rrat_put (w0 := w) (v := .slice a6 n6 c6) (u := .slice a7 n7 c7) z0 z1 (S6.out.rfr (.agg #[.slice a6 n6 c6, .slice a7 n7 c7]) ((m) / Nat.gcd (m) (2 ^ d)) ((2 ^ d) / Nat.gcd (m) (2 ^ d))) S6.out.bel (S6.out.lo b)
  go_wp2_with fail
  exact bodyPost_ret (v := .tuple #[.agg #[.slice a6 n6 c6, .slice a7 n7 c7], .bool true]) (by simp [results, Tryz.results11, go_sem, z0, z1]) rfl ⟨_, rfl, Z.out.1, Z.out.2⟩
set_option maxHeartbeats 400000 in
theorem rfrom3_low (u x0 E m t s : Nat) (mm : Nat) (z : Int) (w : World) (h : Flk u x0 E m t s) (h0 : s ≠ 0) (h1 : E ≠ 2047) (h2 : t ≠ 1) (h3 : 0 < E) (h4 : ¬ 0 < z) (hg : Fg u mm z) (hm : m + 4503599627370496 = mm) (hz : z = (E : Int) - 1 - 1074) : Calls Tryz.prog 11 #[.int .u64 (u : Int)] w (MakesRRB w (fN u / Nat.gcd (fN u) (fD u)) (fD u / Nat.gcd (fN u) (fD u)) true) := by
  have RR : Hid (Frl u x0 E m t s) := h.rules
  have HG : Hid (Fg u mm z) := hg
  obtain ⟨d, hd⟩ : ∃ d, d = (-z).toNat := ⟨_, rfl⟩
  have d3 : decide (s = 0) = false := decide_eq_false (by omega)
  have d3' : ((s : Int) == 0) = false := by simp; omega
  have d32 : ¬ s = 0 := by omega
  have d1 : decide (E = 2047) = false := decide_eq_false (by omega)
  have d1' : ((E : Int) == 2047) = false := by simp; omega
  have d12 : ¬ E = 2047 := by omega
  have d2 : decide (t = 1) = false := decide_eq_false (by omega)
  have d2' : ((t : Int) == 1) = false := by simp; omega
  have d22 : ¬ t = 1 := by omega
  have HN : Hid (fN u = mm ∧ fD u = 2 ^ d ∧ RSome (mm) ∧ RSome (2 ^ d) ∧ 0 < 2 ^ d) := by
    have a1 := hg.sN.rsome
    have a2 := hg.sD.rsome
    have e1 := hg.eN
    have e2 := hg.eD
    rw [show z.toNat = 0 by omega, Nat.pow_zero, Nat.mul_one] at a1 e1
    rw [← hd] at a2 e2
    exact ⟨e1, e2, a1, a2, Nat.two_pow_pos _⟩
  have hzl := hg.lo
  have hzh := hg.hi
  obtain ⟨f, hf⟩ : ∃ f, f = E - 1 := ⟨_, rfl⟩
  have p4 : 0 < E := h3
  have q4 : IntKind.u64.wrap ((m : Int) + 4503599627370496) = (mm : Int) := by rw [IntKind.wrap_u64]; have := hg.mlt; omega
  obtain ⟨q1, q2, q3⟩ := fl_rules (E := E) hf hz h3 hzl hzh
  have n5 : ¬ 0 < z := h4
  have q5 : IntKind.i64.wrap (-z) = (d : Int) := by rw [IntKind.wrap_i64]; clear q1 q2 q3; omega
  have LF : Hid (∀ v w, RNat w v 1 → Calls Tryz.prog 22 #[v, .int .i64 (d : Int)] w (RMakes w (2 ^ d))) := fun v w h => by
    have := rleft_any v 1 d w h (rs_word (by omega)).rfits (by have := hg.lo; clear q1 q2 q3; omega)
    rw [Nat.one_mul] at this
    exact this
  rw [HN.out.1, HN.out.2.1]
  clear h hg hd h0 h1 h2 h3 h4 hm hz hf hzl hzh
  obtain ⟨r2, r3, r5, r6, r7, r8, r9⟩ := RR.out
  have S1 : Hid _ := (sy_start w).box (.slice none 0 0) (.slice none 0 0) 35 _ rfl
  go_enter Tryz.func11, Tryz.ntmps11
  go_wp2_with fail
  refine (rof_any mm _ (by have := HG.out.mlt; omega)).mono ?_
  rintro e w2 ⟨v2, rfl, hv2, hb2⟩
  obtain ⟨a1, n1, c1, rfl⟩ := hv2.isAgg
  have S2 : Hid _ := ((S1.out.go hb2).addM hv2).box1 (.slice a1 n1 c1) 33 _ rfl
  have BG : w.heap.size < w2.heap.size := (S1.out.go hb2).lt w.heap.size
  clear hv2 hb2 S1
  go_wp2_with fail
  obtain ⟨g, hg⟩ : ∃ g, g = w2.heap.size := ⟨_, rfl⟩
  obtain ⟨w3, hw3⟩ : ∃ w3, w3 = w2.alloc (.cells #[.slice a1 n1 c1] 33) := ⟨_, rfl⟩
  obtain ⟨b, hb⟩ : ∃ b, b = w.heap.size := ⟨_, rfl⟩
  have HBG : Hid (b < g) := by
    show b < g
    rw [hg, hb]
    exact BG
  rw [← hw3, ← hg, ← hb] at S2
  rw [← hw3, ← hg, ← hb]
  clear hw3 hg hb BG
  refine (rof_any 1 _ (by omega)).mono ?_
  rintro e w4 ⟨v4, rfl, hv4, hb4⟩
  obtain ⟨a2, n2, c2, rfl⟩ := hv4.isAgg
  have GH : g < w4.heap.size := (S2.out.go hb4).lt g
  have S3 : Hid _ := ((S2.out.go hb4).addM hv4).box1 (.slice a2 n2 c2) 33 _ rfl
  clear hv4 hb4 S2
  have k1 := S3.out.cel g 0 (.slice a1 n1 c1)
  have k2 : (w4.alloc (.cells #[.slice a2 n2 c2] 33)).cell? ⟨w4.heap.size, 0, none⟩ = some (.slice a2 n2 c2) := S3.out.cel w4.heap.size 0 (.slice a2 n2 c2)
  go_wp2_with fail
  obtain ⟨h, hh⟩ : ∃ h, h = w4.heap.size := ⟨_, rfl⟩
  obtain ⟨w5, hw5⟩ : ∃ w5, w5 = w4.alloc (.cells #[.slice a2 n2 c2] 33) := ⟨_, rfl⟩
  rw [← hw5, ← hh] at S3
  rw [← hw5, ← hh]
  have HGH : Hid (g < h) := by show g < h; rw [hh]; exact GH
  clear hw5 hh GH k1 k2
  refine (LF.out _ _ (S3.out.rat (.agg #[.slice a2 n2 c2]) 1)).mono ?_
  rintro e w6 ⟨v6, rfl, hv6, hb6⟩
  obtain ⟨a3, n3, c3, rfl⟩ := hv6.isAgg
  have S4 : Hid _ := (S3.out.go hb6).addM hv6
  clear hv6 hb6 S3
  have k1 := S4.out.cel h 0 (.slice a2 n2 c2)
  have k0 := S4.out.cel g 0 (.slice a1 n1 c1)
  have f1 := S4.out.fz h 0
  have S5 : Hid _ := (S4.out.set (b := h) (i := 0) k1 (S4.out.lo h) [(g, 0, .slice a1 n1 c1), (b, 0, .slice none 0 0), (b, 1, .slice none 0 0)] (by have := HBG.out; have := HGH.out; simp; omega) (.slice a3 n3 c3)).addC (b := h) (i := 0) (v := .slice a3 n3 c3) (by simp [go_sem, k1])
  have k3 : (w6.setCell ⟨h, 0, none⟩ (.slice a3 n3 c3)).cell? ⟨g, 0, none⟩ = some (.slice a1 n1 c1) := S5.out.cel g 0 (.slice a1 n1 c1)
  have k4 : (w6.setCell ⟨h, 0, none⟩ (.slice a3 n3 c3)).cell? ⟨h, 0, none⟩ = some (.slice a3 n3 c3) := S5.out.cel h 0 (.slice a3 n3 c3)
  go_wp2_with fail
  obtain ⟨w7, hw7⟩ : ∃ w7, w7 = w6.setCell ⟨h, 0, none⟩ (.slice a3 n3 c3) := ⟨_, rfl⟩
  rw [← hw7] at S5
  rw [← hw7]
  clear hw7 k0 k1 k3 k4 f1 S4
  refine (rfrom2_yes _ _ (mm) (2 ^ d) _ (S5.out.rat (.agg #[.slice a1 n1 c1]) (mm)) (S5.out.rat (.agg #[.slice a3 n3 c3]) (2 ^ d)) HN.out.2.2.1 HN.out.2.2.2.1 HN.out.2.2.2.2).mono ?_
  rintro e w8 ⟨v8, rfl, hv8, hb8⟩
  have hv' := hv8
  obtain ⟨a6, n6, c6, a7, n7, c7, ev, _, _⟩ := hv'
  subst ev
  have S6 : Hid _ := (S5.out.go hb8).addG hv8
  clear hv8 hb8 S5
  have z0 := S6.out.cel b 0 (.slice none 0 0)
  have z1 := S6.out.cel b 1 (.slice none 0 0)
  have y0 := S6.out.fz b 0
  have y1 := S6.out.fz b 1
  have Z : Hid _ := rrat_put (w0 := w) (v := .slice a6 n6 c6) (u := .slice a7 n7 c7) z0 z1 (S6.out.rfr (.agg #[.slice a6 n6 c6, .slice a7 n7 c7]) ((mm) / Nat.gcd (mm) (2 ^ d)) ((2 ^ d) / Nat.gcd (mm) (2 ^ d))) S6.out.bel (S6.out.lo b)
  go_wp2_with fail
  exact bodyPost_ret (v := .tuple #[.agg #[.slice a6 n6 c6, .slice a7 n7 c7], .bool true]) (by simp [results, Tryz.results11, go_sem, z0, z1]) rfl ⟨_, rfl, Z.out.1, Z.out.2⟩
set_option maxHeartbeats 400000 in
theorem rfrom3_high (u x0 E m t s : Nat) (mm : Nat) (z : Int) (w : World) (h : Flk u x0 E m t s) (h0 : s ≠ 0) (h1 : E ≠ 2047) (h2 : t ≠ 1) (h3 : 0 < E) (h4 : 0 < z) (hg : Fg u mm z) (hm : m + 4503599627370496 = mm) (hz : z = (E : Int) - 1 - 1074) : Calls Tryz.prog 11 #[.int .u64 (u : Int)] w (MakesRRB w (fN u / Nat.gcd (fN u) (fD u)) (fD u / Nat.gcd (fN u) (fD u)) true) := by
  have RR : Hid (Frl u x0 E m t s) := h.rules
  have HG : Hid (Fg u mm z) := hg
  obtain ⟨d, hd⟩ : ∃ d, d = z.toNat := ⟨_, rfl⟩
  have d3 : decide (s = 0) = false := decide_eq_false (by omega)
  have d3' : ((s : Int) == 0) = false := by simp; omega
  have d32 : ¬ s = 0 := by omega
  have d1 : decide (E = 2047) = false := decide_eq_false (by omega)
  have d1' : ((E : Int) == 2047) = false := by simp; omega
  have d12 : ¬ E = 2047 := by omega
  have d2 : decide (t = 1) = false := decide_eq_false (by omega)
  have d2' : ((t : Int) == 1) = false := by simp; omega
  have d22 : ¬ t = 1 := by omega
  have HN : Hid (fN u = mm * 2 ^ d ∧ fD u = 1 ∧ RSome (mm * 2 ^ d) ∧ RSome (1) ∧ 0 < 1) := by
    have a1 := hg.sN.rsome
    have a2 := hg.sD.rsome
    have e1 := hg.eN
    have e2 := hg.eD
    rw [show (-z).toNat = 0 by omega, Nat.pow_zero] at a2 e2
    rw [← hd] at a1 e1
    exact ⟨e1, e2, a1, a2, by omega⟩
  have hzl := hg.lo
  have hzh := hg.hi
  obtain ⟨f, hf⟩ : ∃ f, f = E - 1 := ⟨_, rfl⟩
  have p4 : 0 < E := h3
  have q4 : IntKind.u64.wrap ((m : Int) + 4503599627370496) = (mm : Int) := by rw [IntKind.wrap_u64]; have := hg.mlt; omega
  obtain ⟨q1, q2, q3⟩ := fl_rules (E := E) hf hz h3 hzl hzh
  have p5 : 0 < z := h4
  have ez : z = (d : Int) := by clear q1 q2 q3; omega
  have LF : Hid (∀ v w, RNat w v mm → Calls Tryz.prog 22 #[v, .int .i64 z] w (RMakes w (mm * 2 ^ d))) := fun v w h => by
    rw [ez]
    exact rleft_any v mm d w h (rs_word (by have := hg.mlt; clear q1 q2 q3; omega)).rfits (by have := hg.hi; clear q1 q2 q3; omega)
  rw [HN.out.1, HN.out.2.1]
  clear h hg hd h0 h1 h2 h3 h4 hm hz hf ez hzl hzh
  obtain ⟨r2, r3, r5, r6, r7, r8, r9⟩ := RR.out
  have S1 : Hid _ := (sy_start w).box (.slice none 0 0) (.slice none 0 0) 35 _ rfl
  go_enter Tryz.func11, Tryz.ntmps11
  go_wp2_with fail
  refine (rof_any mm _ (by have := HG.out.mlt; omega)).mono ?_
  rintro e w2 ⟨v2, rfl, hv2, hb2⟩
  obtain ⟨a1, n1, c1, rfl⟩ := hv2.isAgg
  have S2 : Hid _ := ((S1.out.go hb2).addM hv2).box1 (.slice a1 n1 c1) 33 _ rfl
  have BG : w.heap.size < w2.heap.size := (S1.out.go hb2).lt w.heap.size
  clear hv2 hb2 S1
  go_wp2_with fail
  obtain ⟨g, hg⟩ : ∃ g, g = w2.heap.size := ⟨_, rfl⟩
  obtain ⟨w3, hw3⟩ : ∃ w3, w3 = w2.alloc (.cells #[.slice a1 n1 c1] 33) := ⟨_, rfl⟩
  obtain ⟨b, hb⟩ : ∃ b, b = w.heap.size := ⟨_, rfl⟩
  have HBG : Hid (b < g) := by
    show b < g
    rw [hg, hb]
    exact BG
  rw [← hw3, ← hg, ← hb] at S2
  rw [← hw3, ← hg, ← hb]
  clear hw3 hg hb BG
  refine (rof_any 1 _ (by omega)).mono ?_
  rintro e w4 ⟨v4, rfl, hv4, hb4⟩
  obtain ⟨a2, n2, c2, rfl⟩ := hv4.isAgg
  have GH : g < w4.heap.size := (S2.out.go hb4).lt g
  have S3 : Hid _ := ((S2.out.go hb4).addM hv4).box1 (.slice a2 n2 c2) 33 _ rfl
  clear hv4 hb4 S2
  have k1 := S3.out.cel g 0 (.slice a1 n1 c1)
  have k2 : (w4.alloc (.cells #[.slice a2 n2 c2] 33)).cell? ⟨w4.heap.size, 0, none⟩ = some (.slice a2 n2 c2) := S3.out.cel w4.heap.size 0 (.slice a2 n2 c2)
  go_wp2_with fail
  obtain ⟨h, hh⟩ : ∃ h, h = w4.heap.size := ⟨_, rfl⟩
  obtain ⟨w5, hw5⟩ : ∃ w5, w5 = w4.alloc (.cells #[.slice a2 n2 c2] 33) := ⟨_, rfl⟩
  rw [← hw5, ← hh] at S3
  rw [← hw5, ← hh]
  have HGH : Hid (g < h) := by show g < h; rw [hh]; exact GH
  clear hw5 hh GH k1 k2
  refine (LF.out _ _ (S3.out.rat (.agg #[.slice a1 n1 c1]) mm)).mono ?_
  rintro e w6 ⟨v6, rfl, hv6, hb6⟩
  obtain ⟨a3, n3, c3, rfl⟩ := hv6.isAgg
  have S4 : Hid _ := (S3.out.go hb6).addM hv6
  clear hv6 hb6 S3
  have k1 := S4.out.cel g 0 (.slice a1 n1 c1)
  have k0 := S4.out.cel h 0 (.slice a2 n2 c2)
  have f1 := S4.out.fz g 0
  have S5 : Hid _ := (S4.out.set (b := g) (i := 0) k1 (S4.out.lo g) [(h, 0, .slice a2 n2 c2), (b, 0, .slice none 0 0), (b, 1, .slice none 0 0)] (by have := HBG.out; have := HGH.out; simp; omega) (.slice a3 n3 c3)).addC (b := g) (i := 0) (v := .slice a3 n3 c3) (by simp [go_sem, k1])
  have k3 : (w6.setCell ⟨g, 0, none⟩ (.slice a3 n3 c3)).cell? ⟨h, 0, none⟩ = some (.slice a2 n2 c2) := S5.out.cel h 0 (.slice a2 n2 c2)
  have k4 : (w6.setCell ⟨g, 0, none⟩ (.slice a3 n3 c3)).cell? ⟨g, 0, none⟩ = some (.slice a3 n3 c3) := S5.out.cel g 0 (.slice a3 n3 c3)
  go_wp2_with fail
  obtain ⟨w7, hw7⟩ : ∃ w7, w7 = w6.setCell ⟨g, 0, none⟩ (.slice a3 n3 c3) := ⟨_, rfl⟩
  rw [← hw7] at S5
  rw [← hw7]
  clear hw7 k0 k1 k3 k4 f1 S4
  refine (rfrom2_yes _ _ (mm * 2 ^ d) (1) _ (S5.out.rat (.agg #[.slice a3 n3 c3]) (mm * 2 ^ d)) (S5.out.rat (.agg #[.slice a2 n2 c2]) (1)) HN.out.2.2.1 HN.out.2.2.2.1 HN.out.2.2.2.2).mono ?_
  rintro e w8 ⟨v8, rfl, hv8, hb8⟩
  have hv' := hv8
  obtain ⟨a6, n6, c6, a7, n7, c7, ev, _, _⟩ := hv'
  subst ev
  have S6 : Hid _ := (S5.out.go hb8).addG hv8
  clear hv8 hb8 S5
  have z0 := S6.out.cel b 0 (.slice none 0 0)
  have z1 := S6.out.cel b 1 (.slice none 0 0)
  have y0 := S6.out.fz b 0
  have y1 := S6.out.fz b 1
  have Z : Hid _ := rrat_put (w0 := w) (v := .slice a6 n6 c6) (u := .slice a7 n7 c7) z0 z1 (S6.out.rfr (.agg #[.slice a6 n6 c6, .slice a7 n7 c7]) ((mm * 2 ^ d) / Nat.gcd (mm * 2 ^ d) (1)) ((1) / Nat.gcd (mm * 2 ^ d) (1))) S6.out.bel (S6.out.lo b)
  go_wp2_with fail
  exact bodyPost_ret (v := .tuple #[.agg #[.slice a6 n6 c6, .slice a7 n7 c7], .bool true]) (by simp [results, Tryz.results11, go_sem, z0, z1]) rfl ⟨_, rfl, Z.out.1, Z.out.2⟩
/-- What FromFloat tells, of all bits. -/
def isFb (u : Nat) : Bool := decide (u = 9223372036854775808) || decide (u < 9218868437227405312)
def ffP (u : Nat) : Nat := if isFb u then fN (nz u) / Nat.gcd (fN (nz u)) (fD (nz u)) else 0
def ffQ (u : Nat) : Nat := if isFb u then fD (nz u) / Nat.gcd (fN (nz u)) (fD (nz u)) else 1
theorem fN_zero : fN 0 = 0 := by unfold fN fm; simp
theorem fD_gcd (u : Nat) (h : fN u = 0) : fN u / Nat.gcd (fN u) (fD u) = 0 ∧ fD u / Nat.gcd (fN u) (fD u) = 1 := by
  rw [h, Nat.gcd_zero_left, Nat.zero_div, Nat.div_self (fD_pos u)]
  exact ⟨rfl, rfl⟩
theorem ff_no {u : Nat} (h : isFb u = false) : ffP u = 0 ∧ ffQ u = 1 := by unfold ffP ffQ; rw [h]; exact ⟨rfl, rfl⟩
theorem ff_zero : ffP 9223372036854775808 = 0 ∧ ffQ 9223372036854775808 = 1 := by
  have h : isFb 9223372036854775808 = true := by decide
  unfold ffP ffQ
  rw [h, if_pos rfl, if_pos rfl]
  have : nz 9223372036854775808 = 0 := by unfold nz; simp
  rw [this]
  exact fD_gcd 0 fN_zero
theorem ff_yes {u : Nat} (h : u < 9218868437227405312) : ffP u = fN u / Nat.gcd (fN u) (fD u) ∧ ffQ u = fD u / Nat.gcd (fN u) (fD u) := by
  have h1 : isFb u = true := by unfold isFb; simp; omega
  have h2 : nz u = u := by unfold nz; rw [if_neg (by omega)]
  unfold ffP ffQ
  rw [h1, h2]
  exact ⟨rfl, rfl⟩
theorem fromFloat_all (u : Nat) (w : World) (hu : u < 18446744073709551616) (hT : Tab w) : Calls Tryz.prog 9 #[.float .f64 u] w (MakesRB w (ffP u) (ffQ u) (isFb u)) := by
  by_cases h1 : u = 9223372036854775808
  · subst h1
    have h : isFb 9223372036854775808 = true := by decide
    rw [ff_zero.1, ff_zero.2, h]
    exact fromFloat_zero w
  · by_cases h2 : u < 9218868437227405312
    · have h : isFb u = true := by unfold isFb; simp; omega
      rw [(ff_yes h2).1, (ff_yes h2).2, h]
      exact fromFloat_yes u w h2 hT
    · have h : isFb u = false := by unfold isFb; simp; omega
      rw [(ff_no h).1, (ff_no h).2, h]
      exact fromFloat_no u w (fun hh => by rcases hh with e | e <;> omega) hu
theorem rfromFloat_all (u : Nat) (w : World) (hu : u < 18446744073709551616) : Calls Tryz.prog 11 #[.int .u64 (u : Int)] w (MakesRRB w (ffP u) (ffQ u) (isFb u)) := by
  obtain ⟨x0, E, m, t, s, h⟩ := fl_of u hu
  have h' := h
  obtain ⟨h0, hx, hE, hm, ht, hs⟩ := h'
  by_cases c0 : s = 0
  · have := rfrom3_zero u x0 E m t s w h c0
    have e : u = 0 ∨ u = 9223372036854775808 := by omega
    rcases e with e | e
    · subst e
      have h9 : isFb 0 = true := by decide
      rw [(ff_yes (u := 0) (by omega)).1, (ff_yes (u := 0) (by omega)).2, (fD_gcd 0 fN_zero).1, (fD_gcd 0 fN_zero).2, h9]
      exact this
    · subst e
      have h9 : isFb 9223372036854775808 = true := by decide
      rw [ff_zero.1, ff_zero.2, h9]
      exact this
  · by_cases c1 : E = 2047
    · have h9 : isFb u = false := by unfold isFb; simp; omega
      rw [(ff_no h9).1, (ff_no h9).2, h9]
      exact rfrom3_bad1 u x0 E m t s w h c0 c1
    · by_cases c2 : t = 1
      · have h9 : isFb u = false := by unfold isFb; simp; omega
        rw [(ff_no h9).1, (ff_no h9).2, h9]
        exact rfrom3_bad2 u x0 E m t s w h c0 c1 c2
      · have hl : u < 9218868437227405312 := by omega
        have h9 : isFb u = true := by unfold isFb; simp; omega
        have hE2 : E = u / 4503599627370496 := by omega
        have hg := fg_of hE2 hm (by omega)
        rw [(ff_yes hl).1, (ff_yes hl).2, h9]
        by_cases c3 : E = 0
        · rw [if_pos c3, if_pos c3] at hg
          exact rfrom3_sub u x0 E m t s _ w h c0 c1 c2 c3 hg (by omega)
        · rw [if_neg c3, if_neg c3] at hg
          by_cases c4 : 0 < (E : Int) - 1 - 1074
          · exact rfrom3_high u x0 E m t s _ _ w h c0 c1 c2 (by omega) c4 hg rfl rfl
          · exact rfrom3_low u x0 E m t s _ _ w h c0 c1 c2 (by omega) c4 hg rfl rfl
end Go.Proofs.YtpeimefangpnaaaGreatDoor
namespace Go.Proofs.YtpeimefangpnaaaGreatDoor
open Go.RowKit
set_option maxRecDepth 100000
set_option linter.unusedVariables false
theorem endC_some {s : ByteArray} {i f : Nat} {p r : PtS} (h : endC s i f p = some r) : r = p ∧ f < i ∧ i = s.size := by
  unfold endC at h
  split at h
  · rename_i hh
    exact ⟨(Option.some.inj h).symm, hh⟩
  · cases h
theorem em_dig : Digits em em.size := fun i hi => by
  have : em.size = 0 := rfl
  omega
/-- So far the parts are runs of digits within the first i bytes. -/
structure Sofar (s : ByteArray) (p : PtS) (i : Nat) : Prop where
  w0 : 0 < p.whole.size
  dw : Digits p.whole p.whole.size
  dp : Digits p.places p.places.size
  db : Digits p.below p.below.size
  dx : Digits p.power p.power.size
  sz : p.whole.size + p.places.size ≤ i
  sb : p.below.size ≤ s.size
  sx : p.power.size ≤ 3
theorem powC_good {s : ByteArray} {i : Nat} {p r : PtS} (hs : s.size ≤ 400) (hi : i ≤ s.size) (g : Sofar s p i) (h : powC s i i p = some r) : GoodP r := by
  unfold powC at h
  split at h
  · cases h
  · rename_i h3
    obtain ⟨rfl, h1, h2⟩ := endC_some h
    have hz := size_ext (s := s) (a := i) (b := runE s i) (runE_le hi)
    exact ⟨g.w0, g.dw, g.dp, g.db, dig_ext hi, by have := g.sz; simp only; omega, by have := g.sb; simp only; omega, by simp only; rw [hz]; omega⟩
theorem sgnC_good {s : ByteArray} {i : Nat} {p r : PtS} (hs : s.size ≤ 400) (hi : i ≤ s.size) (g : Sofar s p i) (h : sgnC s i p = some r) : GoodP r := by
  unfold sgnC at h
  split at h
  · rename_i hc
    have : i < s.size := by unfold isSgn at hc; simp at hc; exact hc.1
    exact powC_good (p := { p with minus := sb s i == 45 }) hs this ⟨g.w0, g.dw, g.dp, g.db, g.dx, Nat.le_succ_of_le g.sz, g.sb, g.sx⟩ h
  · exact powC_good hs hi g h
theorem isD_not {s : ByteArray} {i : Nat} (h : i ≤ s.size) (hn : ¬ i = s.size) : i < s.size := by omega
theorem em_le (n : Nat) : em.size ≤ n := by rw [show em.size = 0 from rfl]; omega
theorem sofar_mk {s A B : ByteArray} {i : Nat} (hA : 0 < A.size) (dA : Digits A A.size) (dB : Digits B B.size) (hz : A.size + B.size ≤ i) : Sofar s ⟨A, em, B, em, false⟩ i :=
  ⟨hA, dA, dB, em_dig, em_dig, hz, em_le _, em_le _⟩
theorem good_mk {A B C : ByteArray} (hA : 0 < A.size) (dA : Digits A A.size) (dB : Digits B B.size) (dC : Digits C C.size) (hz : A.size + B.size ≤ 400) (hc : C.size ≤ 400) : GoodP ⟨A, C, B, em, false⟩ :=
  ⟨hA, dA, dB, dC, em_dig, hz, hc, em_le _⟩
theorem cutP_good {s : ByteArray} {r : PtS} (hs : s.size ≤ 400) (h : cutP s = some r) : GoodP r := by
  unfold cutP whoC at h
  have l0 := runE_le (s := s) (i := 0) (Nat.zero_le _)
  have z0 := size_ext (s := s) (a := 0) (b := runE s 0) l0
  have d0 := dig_ext (s := s) (i := 0) (Nat.zero_le _)
  have E : em.size = 0 := rfl
  generalize runE s 0 = i0 at *
  generalize s.extract 0 i0 = A at *
  split at h
  · obtain ⟨rfl, h1, h2⟩ := endC_some h
    exact good_mk (A := A) (B := em) (C := em) (by omega) d0 em_dig em_dig (by omega) (em_le _)
  · rename_i hc
    have n0 : ¬ i0 = 0 := fun e => hc (.inl e)
    have n1 : ¬ i0 = s.size := fun e => hc (.inr e)
    have l1 : i0 + 1 ≤ s.size := by omega
    have l2 := runE_le l1
    have z1 := size_ext (s := s) (a := i0 + 1) (b := runE s (i0 + 1)) l2
    have d1 := dig_ext l1
    have ge1 := runE_ge s (i0 + 1)
    unfold belC plaC at h
    generalize runE s (i0 + 1) = i1 at *
    generalize s.extract (i0 + 1) i1 = B at *
    have W0 : 0 < A.size := by omega
    split at h
    · obtain ⟨rfl, h1, h2⟩ := endC_some h
      exact good_mk (A := A) (B := em) (C := B) W0 d0 em_dig d1 (by omega) (by omega)
    · split at h
      · split at h
        · obtain ⟨rfl, h1, h2⟩ := endC_some h
          exact good_mk (A := A) (B := B) (C := em) W0 d0 d1 em_dig (by omega) (em_le _)
        · rename_i hc2
          have n2 : ¬ i1 = s.size := fun e => hc2 (.inr (.inl e))
          exact sgnC_good hs (by omega) (sofar_mk (A := A) (B := B) W0 d0 d1 (by omega)) h
      · split at h
        · exact sgnC_good hs l1 (sofar_mk (A := A) (B := em) W0 d0 em_dig (by omega)) h
        · cases h
theorem value_all (p : PtS) (w : World) (hg : GoodP p) (hT : Tab w) : Calls Tryz.prog 73 #[PAgg p] w (MakesV w p) := by
  by_cases h : p.below.size = 0
  · exact value_pow p w hg h hT
  · exact value_below p w hg h hT
/-- What Parse tells of a text. -/
def npOk (s : ByteArray) : Bool := decide (s.size ≤ 400) && (match cutP s with | some p => !decide (vD p = 0) | none => false)
def npP (s : ByteArray) : Nat := if npOk s then (match cutP s with | some p => vN p / Nat.gcd (vN p) (vD p) | none => 0) else 0
def npQ (s : ByteArray) : Nat := if npOk s then (match cutP s with | some p => vD p / Nat.gcd (vN p) (vD p) | none => 1) else 1
def npE (s : ByteArray) : Int := if npOk s then 0 else 30
def MakesP (w : World) (s : ByteArray) (e : Ending) (w' : World) : Prop := ∃ v, e = .returned (.tuple #[v, .int .i64 (npE s)]) ∧ Rt w' v (npP s) (npQ s) ∧ Below w.heap.size w w'
theorem np_no {s : ByteArray} (h : npOk s = false) : npP s = 0 ∧ npQ s = 1 ∧ npE s = 30 := by
  unfold npP npQ npE
  rw [h]
  exact ⟨rfl, rfl, rfl⟩
theorem np_yes {s : ByteArray} {p : PtS} (h1 : s.size ≤ 400) (h2 : cutP s = some p) (h3 : ¬ vD p = 0) : npP s = vN p / Nat.gcd (vN p) (vD p) ∧ npQ s = vD p / Nat.gcd (vN p) (vD p) ∧ npE s = 0 := by
  have h : npOk s = true := by unfold npOk; rw [h2]; simp [h1, h3]
  unfold npP npQ npE
  rw [h, h2]
  exact ⟨rfl, rfl, rfl⟩
set_option maxHeartbeats 1000000 in
theorem nparse_any (s : ByteArray) (w : World) (hs : s.size ≤ 9223372036854775807) (hT : Tab w) : Calls Tryz.prog 28 #[.string s] w (MakesP w s) := by
  have HT : Hid (Tab w) := hT
  have S0 : Hid _ := (sy_start w).box (.slice none 0 0) (.slice none 0 0) 27 _ rfl
  obtain ⟨b, hb⟩ : ∃ b, b = w.heap.size := ⟨_, rfl⟩
  obtain ⟨w0, hw0⟩ : ∃ w0, w0 = w.alloc (.cells #[.slice none 0 0, .slice none 0 0] 27) := ⟨_, rfl⟩
  rw [← hw0, ← hb] at S0
  clear hT
  by_cases h4 : 400 < s.size
  · have HV : Hid (npP s = 0 ∧ npQ s = 1 ∧ npE s = 30) := np_no (by unfold npOk; simp; omega)
    have t1 : decide (400 < (s.size : Int)) = true := decide_eq_true (by omega)
    go_enter Tryz.func28, Tryz.ntmps28
    go_wp2_with fail
    refine bodyPost_ret (v := .tuple #[.agg #[.slice none 0 0, .slice none 0 0], .int .i64 30]) (by simp [results, Tryz.results28, go_sem]) rfl ?_
    unfold MakesP
    rw [HV.out.1, HV.out.2.1, HV.out.2.2]
    exact ⟨_, rfl, rt_zero _, bel_al (bel_refl w)⟩
  · have HS : Hid (s.size ≤ 400) := by show _ ≤ _; omega
    have t1 : decide (400 < (s.size : Int)) = false := decide_eq_false (by omega)
    have n1 : ¬ 400 < s.size := h4
    clear h4
    go_enter Tryz.func28, Tryz.ntmps28
    go_wp2_with fail
    rw [← hw0, ← hb]
    clear hw0 hb
    refine (ncut_any s _ HS.out).mono ?_
    rintro e w1 ⟨p, ok, rfl, hc, hb1⟩
    have S1 : Hid _ := S0.out.go hb1
    clear hb1 S0
    cases ok with
    | false =>
      have HV : Hid (npP s = 0 ∧ npQ s = 1 ∧ npE s = 30) := np_no (by unfold npOk; rw [hc]; simp)
      clear hc
      have S2 : Hid _ := S1.out.go (w' := w1.alloc (.cells #[.string p.whole, .string p.below, .string p.places, .string p.power, .bool p.minus] 111)) (bel_al (bel_refl _))
      clear S1
      have S9 := S2.out
      have x0 := S9.cel b 0 (.slice none 0 0)
      have x1 := S9.cel b 1 (.slice none 0 0)
      have f0 := S9.fz b 0
      have f1 := S9.fz b 1
      have Z : Hid _ := rat_put (w0 := w) (v := .slice none 0 0) (u := .slice none 0 0) x0 x1 (rt_zero _) S9.bel (S9.lo b)
      clear S9
      go_wp2_with fail
      refine bodyPost_ret (v := .tuple #[.agg #[.slice none 0 0, .slice none 0 0], .int .i64 30]) (by simp [results, Tryz.results28, go_sem, x0, x1]) rfl ?_
      unfold MakesP
      rw [HV.out.1, HV.out.2.1, HV.out.2.2]
      exact ⟨_, rfl, Z.out.1, Z.out.2⟩
    | true =>
      have HC : Hid (cutP s = some p) := hc
      have HG : Hid (GoodP p) := cutP_good HS.out HC.out
      clear hc
      have S2 : Hid _ := S1.out.go (w' := w1.alloc (.cells #[.string p.whole, .string p.below, .string p.places, .string p.power, .bool p.minus] 111)) (bel_al (bel_refl _))
      have k0 : (w1.alloc (.cells #[.string p.whole, .string p.below, .string p.places, .string p.power, .bool p.minus] 111)).cell? ⟨w1.heap.size, 0, none⟩ = some (.string p.whole) := by simp [go_sem]
      clear S1
      go_wp2_with fail
      refine (value_all p _ HG.out (HT.out.go S2.out.bel)).mono ?_
      intro e w3 hV
      unfold MakesV at hV
      by_cases hz : vD p = 0
      · rw [if_pos hz] at hV
        obtain ⟨v3, rfl, hv3, hb3⟩ := hV
        obtain ⟨a5, n5, c5, a6, n6, c6, ev, _, _⟩ := hv3.raw
        subst ev
        have HV : Hid (npP s = 0 ∧ npQ s = 1 ∧ npE s = 30) := np_no (by unfold npOk; rw [HC.out]; simp [hz])
        have S3 : Hid _ := (S2.out.go hb3).go (w' := w3.alloc (.cells #[.slice a5 n5 c5, .slice a6 n6 c6] 27)) (bel_al (bel_refl _))
        clear hv3 hb3 S2 k0 hz
        have S9 := S3.out
        have x0 := S9.cel b 0 (.slice none 0 0)
        have x1 := S9.cel b 1 (.slice none 0 0)
        have f0 := S9.fz b 0
        have f1 := S9.fz b 1
        have Z : Hid _ := rat_put (w0 := w) (v := .slice none 0 0) (u := .slice none 0 0) x0 x1 (rt_zero _) S9.bel (S9.lo b)
        clear S9
        go_wp2_with fail
        refine bodyPost_ret (v := .tuple #[.agg #[.slice none 0 0, .slice none 0 0], .int .i64 30]) (by simp [results, Tryz.results28, go_sem, x0, x1]) rfl ?_
        unfold MakesP
        rw [HV.out.1, HV.out.2.1, HV.out.2.2]
        exact ⟨_, rfl, Z.out.1, Z.out.2⟩
      · rw [if_neg hz] at hV
        obtain ⟨v3, rfl, hv3, hb3⟩ := hV
        obtain ⟨a5, n5, c5, a6, n6, c6, ev, _, _⟩ := hv3.raw
        subst ev
        have HV : Hid (npP s = vN p / Nat.gcd (vN p) (vD p) ∧ npQ s = vD p / Nat.gcd (vN p) (vD p) ∧ npE s = 0) := np_yes HS.out HC.out hz
        have S3 : Hid _ := ((S2.out.go hb3).addF hv3).go (w' := w3.alloc (.cells #[.slice a5 n5 c5, .slice a6 n6 c6] 27)) (bel_al (bel_refl _))
        have y0 : (w3.alloc (.cells #[.slice a5 n5 c5, .slice a6 n6 c6] 27)).cell? ⟨w3.heap.size, 0, none⟩ = some (.slice a5 n5 c5) := by simp [go_sem]
        have y1 : (w3.alloc (.cells #[.slice a5 n5 c5, .slice a6 n6 c6] 27)).cell? ⟨w3.heap.size, 1, none⟩ = some (.slice a6 n6 c6) := by simp [go_sem]
        clear hv3 hb3 S2 k0 hz
        have S9 := S3.out
        have x0 := S9.cel b 0 (.slice none 0 0)
        have x1 := S9.cel b 1 (.slice none 0 0)
        have f0 := S9.fz b 0
        have f1 := S9.fz b 1
        have Z : Hid _ := rat_put (w0 := w) (v := .slice a5 n5 c5) (u := .slice a6 n6 c6) x0 x1 (S9.fr (.agg #[.slice a5 n5 c5, .slice a6 n6 c6]) (vN p / Nat.gcd (vN p) (vD p)) (vD p / Nat.gcd (vN p) (vD p))) S9.bel (S9.lo b)
        clear S9
        go_wp2_with fail
        refine bodyPost_ret (v := .tuple #[.agg #[.slice a5 n5 c5, .slice a6 n6 c6], .int .i64 0]) (by simp [results, Tryz.results28, go_sem, x0, x1]) rfl ?_
        unfold MakesP
        rw [HV.out.1, HV.out.2.1, HV.out.2.2]
        exact ⟨_, rfl, Z.out.1, Z.out.2⟩
end Go.Proofs.YtpeimefangpnaaaGreatDoor
namespace Go.Proofs.YtpeimefangpnaaaGreatDoor
open Go.RowKit
set_option maxRecDepth 100000
set_option linter.unusedVariables false
theorem zrs_one : zrs 1 = ⟨#[48]⟩ := by rfl
theorem zrs_none : zrs 0 = ⟨#[]⟩ := by rfl
set_option maxHeartbeats 400000 in
theorem rep_one : RepIs 1 := fun w => by
  rw [zrs_one]
  show Calls Tryz.prog 82 #[.string ⟨#[48]⟩, .int .i64 1] w _
  go_enter Tryz.func82, Tryz.ntmps82
  go_wp2_with fail
  go_ret
  exact ⟨rfl, bel_refl w⟩
set_option maxHeartbeats 400000 in
theorem rep_none : RepIs 0 := fun w => by
  rw [zrs_none]
  show Calls Tryz.prog 82 #[.string ⟨#[48]⟩, .int .i64 0] w _
  go_enter Tryz.func82, Tryz.ntmps82
  go_wp2_with fail
  go_ret
  exact ⟨rfl, bel_refl w⟩
theorem st_x (w : World) (hT : Tab w) : Calls Tryz.prog 9 #[.float .f64 4604930618986332160] w (MakesRB w 3 4 true) := by
  have h := fromFloat_all 4604930618986332160 w (by omega) hT
  rw [show ffP 4604930618986332160 = 3 by decide +kernel, show ffQ 4604930618986332160 = 4 by decide +kernel, show isFb 4604930618986332160 = true by decide +kernel] at h
  exact h
def s75 : ByteArray := ⟨#[55, 53, 101, 45, 50]⟩
def s10 : ByteArray := ⟨#[49, 47, 48]⟩
theorem np_75 : npP s75 = 3 ∧ npQ s75 = 4 ∧ npE s75 = 0 := by decide +kernel
theorem np_10 : npP s10 = 0 ∧ npQ s10 = 1 ∧ npE s10 = 30 := by decide +kernel
theorem st_y (w : World) (hT : Tab w) : Calls Tryz.prog 28 #[.string ⟨#[55, 53, 101, 45, 50]⟩] w fun e w' => ∃ v, e = .returned (.tuple #[v, .int .i64 0]) ∧ Rt w' v 3 4 ∧ Below w.heap.size w w' := by
  have h := nparse_any s75 w (by decide +kernel) hT
  unfold MakesP at h
  rw [np_75.1, np_75.2.1, np_75.2.2] at h
  exact h
theorem st_f (w : World) (hT : Tab w) : Calls Tryz.prog 28 #[.string ⟨#[49, 47, 48]⟩] w fun e w' => ∃ v, e = .returned (.tuple #[v, .int .i64 30]) ∧ Rt w' v 0 1 ∧ Below w.heap.size w w' := by
  have h := nparse_any s10 w (by decide +kernel) hT
  unfold MakesP at h
  rw [np_10.1, np_10.2.1, np_10.2.2] at h
  exact h
theorem st_a (v : Value) (w : World) (h : Rt w v 1 3) : Calls Tryz.prog 15 #[v] w fun e w' => e = .returned (.tuple #[.float .f64 4599676419421066581, .bool true]) ∧ Below w.heap.size w w' := by
  have k := toFloat_any v 1 3 w h (rs_few (by omega)) (rs_few (by omega)) (by omega)
  rw [show tfV 1 3 = 4599676419421066581 by decide +kernel, show tfOk 1 3 = true by decide +kernel] at k
  exact k
theorem few_P {x : Nat} (h : x < 100) : x < P 80 := Nat.lt_of_lt_of_le (by rw [P_one]; omega) (P_le (show 1 ≤ 80 by omega))
theorem st_s (v : Value) (w : World) (h : Rt w v 3 4) : Calls Tryz.prog 33 #[v, .int .i64 1] w fun e w' => e = .returned (.tuple #[.string ⟨#[48, 46, 56]⟩, .bool true]) ∧ Below w.heap.size w w' := by
  have k := decimal_any v 3 4 1 1 w h (few_P (by omega)) (few_P (by omega)) (by omega) (by omega) ⟨by omega, by decide +kernel, .inl rfl⟩ rep_one
  rw [show decimalT 3 4 1 1 = ⟨#[48, 46, 56]⟩ by decide +kernel] at k
  exact k
theorem st_t (v : Value) (w : World) (h : Rt w v 3 4) : Calls Tryz.prog 31 #[v] w fun e w' => e = .returned (.string ⟨#[51, 47, 52]⟩) ∧ Below w.heap.size w w' := by
  have k := format_any v 3 4 1 1 w h (rs_few (by omega)) (rs_few (by omega)) ⟨by omega, by omega, .inl rfl⟩ ⟨by omega, by omega, .inl rfl⟩
  rw [show fmtT 3 4 1 1 = ⟨#[51, 47, 52]⟩ by decide +kernel] at k
  exact k
theorem st_c (v u : Value) (w : World) (h : Rt w v 3 4) (k : Rt w u 3 4) : Calls Tryz.prog 37 #[v, u] w fun e w' => e = .returned (.int .i64 0) ∧ Below w.heap.size w w' := by
  have c := ratCmp_any v u 3 4 3 4 w h k (rs_few (by omega)) (rs_few (by omega)) (rs_few (by omega)) (rs_few (by omega))
  rw [show cmpI (3 * 4) (3 * 4) = 0 by decide] at c
  exact c
set_option maxHeartbeats 400000 in
theorem errno3_any (z : Int) (w : World) : Calls Tryz.prog 30 #[.int .i64 z] w fun e w' => e = .returned (.int .i64 z) ∧ w' = w := by
  go_enter Tryz.func30, Tryz.ntmps30
  go_wp2_with fail
  go_ret
  exact ⟨rfl, rfl⟩
set_option maxHeartbeats 1000000 in
theorem started3 (w : World) (hT : Tab w) : Calls Tryz.prog 13 #[] w fun e w' => e = .returned (.bool true) ∧ Below w.heap.size w w' := by
  have HT : Hid (Tab w) := hT
  clear hT
  go_enter Tryz.func13, Tryz.ntmps13
  go_wp2_with fail
  refine (st_x _ HT.out).mono ?_
  rintro e w1 ⟨v1, rfl, hv1, hb1⟩
  have hv1' := hv1
  obtain ⟨a1, n1, c1, d1, m1, g1, ev1, _, _⟩ := hv1'.raw
  subst ev1
  have S1 : Hid _ := (((sy_start w).go hb1).addF hv1).box (.slice a1 n1 c1) (.slice d1 m1 g1) 27 _ rfl
  clear hv1 hv1' hb1
  go_wp2_with fail
  obtain ⟨b1, hb1⟩ : ∃ b1, b1 = w1.heap.size := ⟨_, rfl⟩
  obtain ⟨W1, hW1⟩ : ∃ W1, W1 = w1.alloc (.cells #[.slice a1 n1 c1, .slice d1 m1 g1] 27) := ⟨_, rfl⟩
  rw [← hW1, ← hb1] at S1
  rw [← hW1, ← hb1]
  clear hW1 hb1
  refine (st_y _ (HT.out.go S1.out.bel)).mono ?_
  rintro e w2 ⟨v2, rfl, hv2, hb2⟩
  have hv2' := hv2
  obtain ⟨a2, n2, c2, d2, m2, g2, ev2, _, _⟩ := hv2'.raw
  subst ev2
  have S2 : Hid _ := ((S1.out.go hb2).addF hv2).box (.slice a2 n2 c2) (.slice d2 m2 g2) 27 _ rfl
  clear hv2 hv2' hb2 S1
  go_wp2_with fail
  obtain ⟨b2, hb2⟩ : ∃ b2, b2 = w2.heap.size := ⟨_, rfl⟩
  obtain ⟨W2, hW2⟩ : ∃ W2, W2 = w2.alloc (.cells #[.slice a2 n2 c2, .slice d2 m2 g2] 27) := ⟨_, rfl⟩
  rw [← hW2, ← hb2] at S2
  rw [← hW2, ← hb2]
  clear hW2 hb2
  refine (told_b _ (HT.out.go S2.out.bel)).mono ?_
  rintro e w3 ⟨v3, rfl, hv3, hb3⟩
  have hv3' := hv3
  obtain ⟨a3, n3, c3, d3, m3, g3, ev3, _, _⟩ := hv3'.raw
  subst ev3
  have S3 : Hid _ := ((S2.out.go hb3).addF hv3).box (.slice a3 n3 c3) (.slice d3 m3 g3) 27 _ rfl
  clear hv3 hv3' hb3 S2
  go_wp2_with fail
  obtain ⟨b3, hb3⟩ : ∃ b3, b3 = w3.heap.size := ⟨_, rfl⟩
  obtain ⟨W3, hW3⟩ : ∃ W3, W3 = w3.alloc (.cells #[.slice a3 n3 c3, .slice d3 m3 g3] 27) := ⟨_, rfl⟩
  rw [← hW3, ← hb3] at S3
  rw [← hW3, ← hb3]
  clear hW3 hb3
  refine (st_a _ _ (S3.out.fr (.agg #[.slice a3 n3 c3, .slice d3 m3 g3]) 1 3)).mono ?_
  rintro e w4 ⟨rfl, hb4⟩
  have S4 : Hid _ := S3.out.go hb4
  clear hb4 S3
  have k0 := S4.out.cel b1 0 (.slice a1 n1 c1)
  have k1 := S4.out.cel b1 1 (.slice d1 m1 g1)
  go_wp2_with fail
  refine (st_s _ _ (S4.out.fr (.agg #[.slice a1 n1 c1, .slice d1 m1 g1]) 3 4)).mono ?_
  rintro e w5 ⟨rfl, hb5⟩
  have S5 : Hid _ := S4.out.go hb5
  clear hb5 S4 k0 k1
  go_wp2_with fail
  refine (st_f _ (HT.out.go S5.out.bel)).mono ?_
  rintro e w6 ⟨v6, rfl, hv6, hb6⟩
  have hv6' := hv6
  obtain ⟨a6, n6, c6, d6, m6, g6, ev6, _, _⟩ := hv6'.raw
  subst ev6
  have S6 : Hid _ := (S5.out.go hb6).box (.slice a6 n6 c6) (.slice d6 m6 g6) 27 _ rfl
  clear hv6 hv6' hb6 S5
  go_wp2_with fail
  obtain ⟨W6, hW6⟩ : ∃ W6, W6 = w6.alloc (.cells #[.slice a6 n6 c6, .slice d6 m6 g6] 27) := ⟨_, rfl⟩
  rw [← hW6] at S6
  rw [← hW6]
  clear hW6
  refine (errno3_any 0 _).mono ?_
  rintro e wx ⟨rfl, hwx⟩
  rw [hwx]
  clear hwx wx
  have k0 := S6.out.cel b1 0 (.slice a1 n1 c1)
  have k1 := S6.out.cel b1 1 (.slice d1 m1 g1)
  have k2 := S6.out.cel b2 0 (.slice a2 n2 c2)
  have k3 := S6.out.cel b2 1 (.slice d2 m2 g2)
  go_wp2_with fail
  refine (st_c _ _ _ (S6.out.fr (.agg #[.slice a1 n1 c1, .slice d1 m1 g1]) 3 4) (S6.out.fr (.agg #[.slice a2 n2 c2, .slice d2 m2 g2]) 3 4)).mono ?_
  rintro e w7 ⟨rfl, hb7⟩
  have S7 : Hid _ := S6.out.go hb7
  clear hb7 S6 k0 k1 k2 k3
  go_wp2_with fail
  refine (bits_any 4599676419421066581 _).mono ?_
  rintro e wx ⟨rfl, hwx⟩
  rw [hwx]
  clear hwx wx
  have k0 := S7.out.cel b1 0 (.slice a1 n1 c1)
  have k1 := S7.out.cel b1 1 (.slice d1 m1 g1)
  go_wp2_with fail
  refine (st_t _ _ (S7.out.fr (.agg #[.slice a1 n1 c1, .slice d1 m1 g1]) 3 4)).mono ?_
  rintro e w8 ⟨rfl, hb8⟩
  have S8 : Hid _ := S7.out.go hb8
  clear hb8 S7 k0 k1
  go_wp2_with fail
  refine (errno3_any 30 _).mono ?_
  rintro e wx ⟨rfl, hwx⟩
  rw [hwx]
  clear hwx wx
  go_wp2_with fail
  go_ret
  exact ⟨rfl, S8.out.bel⟩
end Go.Proofs.YtpeimefangpnaaaGreatDoor
namespace Go.Proofs.YtpeimefangpnaaaGreatDoor
open Go.RowKit
set_option maxRecDepth 100000
set_option linter.unusedVariables false
theorem ff_RS (u : Nat) (hu : u < 18446744073709551616) : RS (ffP u) ∧ RS (ffQ u) := by
  cases h : isFb u with
  | false =>
    rw [(ff_no h).1, (ff_no h).2]
    exact ⟨rs_word (by omega), rs_word (by omega)⟩
  | true =>
    by_cases h1 : u = 9223372036854775808
    · rw [h1, ff_zero.1, ff_zero.2]
      exact ⟨rs_word (by omega), rs_word (by omega)⟩
    · have h2 : u < 9218868437227405312 := by unfold isFb at h; simp at h; omega
      rw [(ff_yes h2).1, (ff_yes h2).2]
      exact ⟨⟨P_up (Nat.lt_of_le_of_lt (Nat.div_le_self _ _) (fN_lt h2)) (by omega)⟩, ⟨P_up (Nat.lt_of_le_of_lt (Nat.div_le_self _ _) (fD_lt u)) (by omega)⟩⟩
set_option maxHeartbeats 1000000 in
theorem floats_any (u : Nat) (w : World) (hu : u < 18446744073709551616) (hT : Tab w) : Calls Tryz.prog 3 #[.int .u64 (u : Int)] w fun e w' => e = .returned (.bool true) ∧ Below w.heap.size w w' := by
  have HT : Hid (Tab w ∧ u < 18446744073709551616 ∧ RS (ffP u) ∧ RS (ffQ u)) := ⟨hT, hu, (ff_RS u hu).1, (ff_RS u hu).2⟩
  clear hT hu
  obtain ⟨ok, hok⟩ : ∃ ok, isFb u = ok := ⟨_, rfl⟩
  have HO : Hid (isFb u = ok) := hok
  clear hok
  go_enter Tryz.func3, Tryz.ntmps3
  go_wp2_with fail
  go_loopw [3] (fun t wr => ∃ i : Nat, i ≤ 2 ∧ t = .int .i64 (i : Int) ∧ Below w.heap.size w wr) (fun t _ => 2 - (intOf t).toNat)
  case atStart => exact ⟨0, by omega, rfl, Below.refl _ _⟩
  case round =>
    obtain ⟨i, hi, rfl, hbl⟩ := hrel
    have HB : Hid (Below w.heap.size w wr) := hbl
    clear hbl
    by_cases h2 : i < 2
    · have t0 : decide ((i : Int) < 2) = true := decide_eq_true (by omega)
      go_wp2_with fail
      refine (float_any u _).mono ?_
      rintro e wx ⟨rfl, hwx⟩
      rw [hwx]
      clear hwx wx
      go_wp2_with fail
      refine (fromFloat_all u _ HT.out.2.1 (HT.out.1.go HB.out)).mono ?_
      rintro e w1 ⟨v1, rfl, hv1, hb1⟩
      rw [HO.out]
      have hv1' := hv1
      obtain ⟨a1, n1, c1, d1, m1, g1, ev1, _, _⟩ := hv1'.raw
      subst ev1
      have S1 : Hid _ := (((sy_start wr).go hb1).addF hv1).box (.slice a1 n1 c1) (.slice d1 m1 g1) 27 _ rfl
      clear hv1 hv1' hb1
      go_wp2_with fail
      obtain ⟨b1, hb1⟩ : ∃ b1, b1 = w1.heap.size := ⟨_, rfl⟩
      obtain ⟨W1, hW1⟩ : ∃ W1, W1 = w1.alloc (.cells #[.slice a1 n1 c1, .slice d1 m1 g1] 27) := ⟨_, rfl⟩
      rw [← hW1, ← hb1] at S1
      rw [← hW1, ← hb1]
      clear hW1 hb1
      refine (rfromFloat_all u _ HT.out.2.1).mono ?_
      rintro e w2 ⟨v2, rfl, hv2, hb2⟩
      rw [HO.out]
      have hv2' := hv2
      obtain ⟨a2, n2, c2, d2, m2, g2, ev2, _, _⟩ := hv2'
      subst ev2
      have S2 : Hid _ := ((S1.out.go hb2).addG hv2).box (.slice a2 n2 c2) (.slice d2 m2 g2) 35 _ rfl
      clear hv2 hb2 S1
      have k0 := S2.out.cel b1 0 (.slice a1 n1 c1)
      have k1 := S2.out.cel b1 1 (.slice d1 m1 g1)
      go_wp2_with fail
      obtain ⟨W2, hW2⟩ : ∃ W2, W2 = w2.alloc (.cells #[.slice a2 n2 c2, .slice d2 m2 g2] 35) := ⟨_, rfl⟩
      rw [← hW2] at S2
      rw [← hW2]
      clear hW2 k0 k1
      refine (same3_true _ _ (ffP u) (ffQ u) _ (S2.out.fr (.agg #[.slice a1 n1 c1, .slice d1 m1 g1]) (ffP u) (ffQ u)) (S2.out.rfr (.agg #[.slice a2 n2 c2, .slice d2 m2 g2]) (ffP u) (ffQ u)) HT.out.2.2.1 HT.out.2.2.2).mono ?_
      rintro e w3 ⟨rfl, hb3⟩
      have HB3 : Hid (Below w.heap.size w w3) := bel_go HB.out (S2.out.go hb3).bel
      clear hb3 S2 HB
      go_wp2_with fail
      go_roundw
      case rel => exact ⟨i + 1, by omega, by go_num, HB3.out⟩
      case measure => simp [intOf]; omega
    · have t0 : decide ((i : Int) < 2) = false := decide_eq_false (by omega)
      go_wp2_with fail
      refine (started3 _ (HT.out.1.go HB.out)).mono ?_
      rintro e w3 ⟨rfl, hb3⟩
      have HB3 : Hid (Below w.heap.size w w3) := bel_go HB.out hb3
      clear hb3 HB
      go_wp2_with fail
      go_ret
      exact ⟨rfl, HB3.out⟩
end Go.Proofs.YtpeimefangpnaaaGreatDoor
namespace Go.Proofs.YtpeimefangpnaaaGreatDoor
open Go.ChangeShapes Go.WideShapes Go.ChangeAt Go.RowKit
set_option linter.unusedVariables false
theorem wf_i64 {n : Int} (h : (Lit.int .i64 n).wf = true) : -9223372036854775808 ≤ n ∧ n ≤ 9223372036854775807 := by
  have hmin : IntKind.i64.min = -9223372036854775808 := rfl
  have hmax : IntKind.i64.max = 9223372036854775807 := rfl
  have h2 : IntKind.i64.min ≤ n ∧ n ≤ IntKind.i64.max := by simpa [Lit.wf] using h
  rw [hmin, hmax] at h2
  exact h2
theorem wf_u64 {n : Int} (h : (Lit.int .u64 n).wf = true) : ∃ u : Nat, n = (u : Int) ∧ u < 18446744073709551616 := by
  have hmin : IntKind.u64.min = 0 := rfl
  have hmax : IntKind.u64.max = 18446744073709551615 := rfl
  have h2 : IntKind.u64.min ≤ n ∧ n ≤ IntKind.u64.max := by simpa [Lit.wf] using h
  rw [hmin, hmax] at h2
  exact ⟨n.toNat, by omega, by omega⟩
theorem ownD : ownKnob Tryz.prog.godebug = none := by kernel_rfl
theorem laidOutD : laidOutB Tryz.prog = true := by kernel_rfl
def IsRow (k : IntKind) (w : World) (a : Option Addr) (len cap : Nat) (zs : List Int) : Prop :=
  (a = none ∧ len = 0 ∧ cap = 0 ∧ zs = []) ∨
  ∃ x, a = some x ∧ len ≤ cap ∧ cap ≤ maxLen ∧ zs.length = cap ∧ (∀ i, i < zs.length → w.cell? (x.add i) = some (.int k (zs.getD i 0))) ∧ ∀ n ∈ zs, (Lit.int k n).wf = true
theorem row_bsl {w : World} {a : Option Addr} {len cap : Nat} {zs : List Int} (h : IsRow .u8 w a len cap zs) : BSl w a len cap (fun i => (zs.getD i 0).toNat) := by
  rcases h with ⟨rfl, rfl, rfl, rfl⟩ | ⟨x, rfl, hl, hm, hz, hcell, hwz⟩
  · exact ⟨Nat.le_refl _, by omega, fun i hi => absurd hi (by omega), .inl rfl⟩
  · have hw : ∀ i, i < len → 0 ≤ zs.getD i 0 ∧ zs.getD i 0 < 256 := by
      intro i hi
      have hi2 : i < zs.length := by omega
      have := hwz (zs.getD i 0) (by rw [List.getD_eq_getElem?_getD, List.getElem?_eq_getElem hi2]; exact List.getElem_mem hi2)
      have hmin : IntKind.u8.min = 0 := rfl
      have hmax : IntKind.u8.max = 255 := rfl
      have h2 : IntKind.u8.min ≤ zs.getD i 0 ∧ zs.getD i 0 ≤ IntKind.u8.max := by simpa [Lit.wf] using this
      rw [hmin, hmax] at h2
      omega
    refine ⟨hl, by simp only [maxLen] at hm; omega, fun i hi => ?_, ?_⟩
    · have := hw i hi
      show (zs.getD i 0).toNat < 256
      omega
    · rcases Nat.eq_zero_or_pos len with e | e
      · exact .inl e
      · obtain ⟨b, off, spot⟩ := x
        have hc := hcell 0 (by omega)
        have hspot : spot = none := by simpa [Addr.add] using World.cell?_spot hc
        subst hspot
        refine .inr ⟨b, off, rfl, fun i hi => ?_⟩
        have h1 := hcell i (by omega)
        have h2 := hw i hi
        have h3 : (⟨b, off, none⟩ : Addr).add i = ⟨b, off + i, none⟩ := by unfold Addr.add; split <;> simp_all
        rw [h3] at h1
        rw [h1]
        show some (Value.int .u8 (zs.getD i 0)) = some (Value.int .u8 (((zs.getD i 0).toNat : Nat) : Int))
        rw [Int.toNat_of_nonneg h2.1]
theorem openB {W : World} {H : Type} {enc : TypeId × Value → H} {fuel : Nat} {a : Option Addr} {len cap : Nat} {y : DataW H × List MemPlace} (hf : DataW.trod enc Tryz.prog W 0 (fun _ => true) true fuel 41 (Value.slice a len cap).cells.toList = some y) : ∃ D, BSl W a len cap D := by
  rcases open_ints Tryz.underlying41 Tryz.underlying5 (by kernel_rfl) hf with ⟨hcs, _⟩ | ⟨x, l, c, zs, hcs, _, hl, hm, hz, _, hcell, hwz⟩
  · simp [Value.cells] at hcs
    obtain ⟨rfl, rfl, rfl⟩ := hcs
    exact ⟨_, row_bsl (zs := []) (.inl ⟨rfl, rfl, rfl, rfl⟩)⟩
  · simp [Value.cells] at hcs
    obtain ⟨rfl, rfl, rfl⟩ := hcs
    exact ⟨_, row_bsl (zs := zs) (.inr ⟨_, rfl, hl, hm, by simpa using hz, hcell, hwz⟩)⟩
end Go.Proofs.YtpeimefangpnaaaGreatDoor
