/- Contracts of the program's functions, part 18: own work, joined in build order. -/
import Derived.Test.YtpeimefangpnaaaGreatDoorJ17
import Derived.Laws.Bits64b
namespace Go.Proofs.YtpeimefangpnaaaGreatDoor
open Go.RowKit
set_option maxRecDepth 100000
set_option linter.unusedVariables false
/-- How many digits p has more than q. -/
def szI (p q : Nat) : Int := (bitLen p : Int) - (bitLen q : Int)
def tfB (p q : Nat) : Nat := bitsAt p q (flI p q (szI p q))
/-- The bits of the number near of p / q; is there one? -/
def tfV (p q : Nat) : Nat := if p = 0 then 0 else if tfB p q < 9218868437227405312 then tfB p q else 0
def tfOk (p q : Nat) : Bool := decide (p = 0) || decide (tfB p q < 9218868437227405312)
theorem sz_at {p q : Nat} (hp : 0 < p) (hq : 0 < q) : At p q (flI p q (szI p q)) := by
  obtain ⟨h1, h2⟩ := bitLen_spec p
  obtain ⟨k1, k2⟩ := bitLen_spec q
  have p1 := bitLen_pos hp
  have q1 := bitLen_pos hq
  have := flI_at (p := p) (q := q) (a := bitLen p - 1) (b := bitLen q - 1) (h2 (by omega)) (by rw [show bitLen p - 1 + 1 = bitLen p by omega]; exact h1) (k2 (by omega)) (by rw [show bitLen q - 1 + 1 = bitLen q by omega]; exact k1)
  rw [show ((bitLen p - 1 : Nat) : Int) - ((bitLen q - 1 : Nat) : Int) = szI p q by unfold szI; omega] at this
  exact this
theorem flI_le (p q : Nat) (s : Int) : flI p q s ≤ s ∧ s - 1 ≤ flI p q s := by unfold flI; split <;> omega
theorem tf_low {p q : Nat} (hp : 0 < p) (hq : 0 < q) (h : szI p q < -1075) : tfV p q = 0 ∧ tfOk p q = true := by
  have h1 := (sz_at hp hq).bits_low hq (by have := (flI_le p q (szI p q)).1; omega)
  unfold tfV tfOk tfB
  rw [h1]
  simp
theorem tf_high {p q : Nat} (hp : 0 < p) (hq : 0 < q) (h : 1024 < szI p q) : tfV p q = 0 ∧ tfOk p q = false := by
  have h1 := (sz_at hp hq).high hq (by have := (flI_le p q (szI p q)).2; omega)
  unfold tfV tfOk tfB
  rw [if_neg (by omega), if_neg (by omega)]
  simp
  omega
theorem tf_over {p q : Nat} (hp : 0 < p) (h : ¬ tfB p q < 9218868437227405312) : tfV p q = 0 ∧ tfOk p q = false := by
  unfold tfV tfOk
  rw [if_neg (by omega), if_neg h]
  simp
  omega
theorem tf_in {p q : Nat} (hp : 0 < p) (h : tfB p q < 9218868437227405312) : tfV p q = tfB p q ∧ tfOk p q = true := by
  unfold tfV tfOk
  rw [if_neg (by omega), if_pos h]
  simp [h]
/-- What both calls of inUnits tell. -/
theorem inUnits_any (v u : Value) (p q : Nat) (s : Int) (w : World) (h : IsNat w v p) (k : IsNat w u q) (hp : Fits p) (hq : Fits q) (h1 : -16777216 ≤ s) (h2 : s ≤ 16777216) :
    Calls Tryz.prog 42 #[v, u, .int .i64 s] w (Makes2N w (upN p s) (dnN q s)) := by
  unfold upN dnN
  by_cases hs : s < 0
  · have := inUnits_neg v u p q (-s).toNat s w h k hp (by omega) (by omega) (by omega)
    rw [show s.toNat = 0 by omega, Nat.pow_zero, Nat.mul_one]
    exact this
  · have := inUnits_pos v u p q s.toNat s w h k hq (by omega) (by omega)
    rw [show (-s).toNat = 0 by omega, Nat.pow_zero, Nat.mul_one]
    exact this
theorem up_P {p n m : Nat} {s : Int} (h : p < P n) (hs : -64 * (m : Int) < s) (hm : 0 < m) : upN p s < P (n + m) := by
  unfold upN
  rw [P_add]
  exact Nat.mul_lt_mul'' h (by rw [P_two]; exact Nat.pow_lt_pow_right (by omega) (by omega))
theorem dn_P {p n m : Nat} {s : Int} (h : p < P n) (hs : s < 64 * (m : Int)) (hm : 0 < m) : dnN p s < P (n + m) := by
  unfold dnN
  rw [P_add]
  exact Nat.mul_lt_mul'' h (by rw [P_two]; exact Nat.pow_lt_pow_right (by omega) (by omega))
theorem tf_rules {u : Int} {x y ct B : Nat} (hx : x = (u + 1074).toNat) (hy : y = x * 4503599627370496) (hB : y + ct = B) (h1 : -1074 ≤ u) (h2 : x ≤ 2046) (h3 : ct ≤ 9007199254740992) :
    wrap64 (u + 1074) = (x : Int) ∧ IntKind.u64.wrap (x : Int) = (x : Int) ∧ IntKind.u64.wrap ((x : Int) * 4503599627370496) = (y : Int) ∧ IntKind.u64.wrap ((y : Int) + (ct : Int)) = (B : Int) :=
  ⟨by rw [IntWalk.wrap64_in _ ⟨by omega, by omega⟩]; omega, by rw [IntKind.wrap_u64]; omega, by rw [IntKind.wrap_u64]; omega, by rw [IntKind.wrap_u64]; omega⟩
set_option maxHeartbeats 8000000 in
theorem toFloat_any (v : Value) (p q : Nat) (w : World) (h : Rt w v p q) (hp : RS p) (hq : RS q) (hq0 : 0 < q) :
    Calls Tryz.prog 15 #[v] w fun e w' => e = .returned (.tuple #[.float .f64 (tfV p q), .bool (tfOk p q)]) ∧ Below w.heap.size w w' := by
  have h' := h
  obtain ⟨a, n, c, a', n', c', e0, _, _⟩ := h'.raw
  subst e0
  have S1 : Hid _ := ((sy_start w).addF h).box (.slice a n c) (.slice a' n' c') 27 _ rfl
  obtain ⟨s, hs⟩ : ∃ s : Int, s = szI p q := ⟨_, rfl⟩
  have lp : bitLen p ≤ 5760 := bitLen_P hp.lt
  have lq : bitLen q ≤ 5760 := bitLen_P hq.lt
  have m1 : IntKind.i64.wrap ((bitLen p : Int) - (bitLen q : Int)) = s := by rw [IntKind.wrap_i64, hs]; unfold szI; omega
  have HS : Hid (s = szI p q ∧ -5760 ≤ s ∧ s ≤ 5760) := ⟨hs, by rw [hs]; unfold szI; omega, by rw [hs]; unfold szI; omega⟩
  have HH : Hid (RS p ∧ RS q ∧ 0 < q) := ⟨hp, hq, hq0⟩
  have HL : Hid (p ≠ 0 → 0 < bitLen p) := fun hh => bitLen_pos (by omega)
  clear h h' hp hq hq0 hs
  go_enter Tryz.func15, Tryz.ntmps15
  go_wp2_with fail
  refine (parts_any _ p q _ (S1.out.fr (.agg #[.slice a n c, .slice a' n' c']) p q) HH.out.2.1.fits).mono ?_
  rintro e w1 ⟨v1, u1, rfl, hv1, hu1, hb1⟩
  obtain ⟨a1, n1, c1, rfl⟩ := hv1.isAgg
  obtain ⟨a2, n2, c2, rfl⟩ := hu1.isAgg
  have S2 : Hid _ := ((((S1.out.go hb1).addN hv1).addN hu1).box1 (.slice a1 n1 c1) 25 _ rfl).box1 (.slice a2 n2 c2) 25 _ rfl
  simp only [World.size_alloc] at S2
  clear hv1 hu1 hb1 S1
  go_wp2_with fail
  obtain ⟨w2, hw2⟩ : ∃ w2, w2 = (w1.alloc (.cells #[.slice a1 n1 c1] 25)).alloc (.cells #[.slice a2 n2 c2] 25) := ⟨_, rfl⟩
  obtain ⟨g, hg⟩ : ∃ g, g = w1.heap.size := ⟨_, rfl⟩
  rw [← hw2, ← hg] at S2
  rw [← hw2, ← hg]
  clear hw2 hg
  refine wp_region_inv (JB w2 [sNat (p), sEq (.int .i64 ((bitLen p : Nat) : Int)), sNat (q), sEq (.int .i64 ((bitLen q : Nat) : Int)), sEq (.int .i64 s), sEq (.int .i64 s)] []) 71 (by kernel_rfl) rfl (by kernel_rfl) (JB.start _ _ _) (fun HG HN => ⟨?_, ?_, ?_, ?_, ?_, ?_, trivial⟩) ?_
  · intro L vs a w' hJ hF hP hL
    have q4 : (a.tmps[4]?).getD undef = .pointer (some ⟨g, 0, none⟩) := hF.old 4 rfl
    have cb := cell_later hJ.bel (S2.out.cell (g) (.slice a1 n1 c1))
    exact run_val (v := .agg #[.slice a1 n1 c1]) rfl (by simp [execOp, go_sem, q4, cb]) ⟨_, rfl, hJ.step hL rfl (Below.refl _ _) (by exact ((S2.out.at (.agg #[.slice a1 n1 c1]) (p)).mono hJ.bel))⟩
  · intro L vs a w' hJ hF hP hL
    have p0 : L 0 = true := hP ⟨0, .data⟩ (by simp) rfl
    have s0 : IsNat w' (vs 0) (p) := hJ.sp 0 p0
    have q18 := hF.slot 0 18 rfl p0
    refine run_call (f := 49) (args := #[vs 0]) rfl (by simp [go_sem, q18]) (len_any _ p _ s0 HH.out.1.fits) ?_
    rintro e w2 ⟨rfl, hb⟩
    exact ⟨_, rfl, _, rfl, hJ.step hL rfl hb (by exact rfl)⟩
  · intro L vs a w' hJ hF hP hL
    have q5 : (a.tmps[5]?).getD undef = .pointer (some ⟨g + 1, 0, none⟩) := hF.old 5 rfl
    have cb := cell_later hJ.bel (S2.out.cell (g + 1) (.slice a2 n2 c2))
    exact run_val (v := .agg #[.slice a2 n2 c2]) rfl (by simp [execOp, go_sem, q5, cb]) ⟨_, rfl, hJ.step hL rfl (Below.refl _ _) (by exact ((S2.out.at (.agg #[.slice a2 n2 c2]) (q)).mono hJ.bel))⟩
  · intro L vs a w' hJ hF hP hL
    have p2 : L 2 = true := hP ⟨2, .data⟩ (by simp) rfl
    have s2 : IsNat w' (vs 2) (q) := hJ.sp 2 p2
    have q20 := hF.slot 2 20 rfl p2
    refine run_call (f := 49) (args := #[vs 2]) rfl (by simp [go_sem, q20]) (len_any _ q _ s2 HH.out.2.1.fits) ?_
    rintro e w2 ⟨rfl, hb⟩
    exact ⟨_, rfl, _, rfl, hJ.step hL rfl hb (by exact rfl)⟩
  · intro L vs a w' hJ hF hP hL
    have p1 : L 1 = true := hP ⟨1, .data⟩ (by simp) rfl
    have s1 : vs 1 = .int .i64 ((bitLen p : Nat) : Int) := hJ.sp 1 p1
    have q19 := hF.slot 1 19 rfl p1
    have p3 : L 3 = true := hP ⟨3, .data⟩ (by simp) rfl
    have s3 : vs 3 = .int .i64 ((bitLen q : Nat) : Int) := hJ.sp 3 p3
    have q21 := hF.slot 3 21 rfl p3
    exact run_val (v := .int .i64 s) rfl (by simp [execOp, go_sem, q19, s1, q21, s3, m1]) ⟨_, rfl, hJ.step hL rfl (Below.refl _ _) (by exact rfl)⟩
  · intro L vs a w' hJ hF hP hL
    have p4 : L 4 = true := hP ⟨4, .data⟩ (by simp) rfl
    have s4 : vs 4 = .int .i64 s := hJ.sp 4 p4
    have q22 := hF.slot 4 22 rfl p4
    exact run_val (v := .int .i64 s) rfl (by simp [execOp, go_sem, q22, s4]) ⟨_, rfl, hJ.step hL rfl (Below.refl _ _) (by exact rfl)⟩
  intro L vs w' hA hJ
  have s5 : vs 5 = .int .i64 s := hJ.sp 5 (hA 5 (by simp))
  simp only [putL, Act.put, List.setIfInBounds_toArray, List.set_cons_zero, List.set_cons_succ, Nat.reduceAdd]
  simp only [s5]
  obtain ⟨w3, ew3⟩ : ∃ w3, w3 = w' := ⟨_, rfl⟩
  have S3 : Hid _ := S2.out.go (ew3 ▸ hJ.bel : Below w2.heap.size w2 w3)
  rw [← ew3]
  clear ew3 hJ hA s5 S2 m1 lp lq
  have k1 := S3.out.cel g 0 (.slice a1 n1 c1)
  go_wp2_with fail
  refine (len_any _ p _ (S3.out.at (.agg #[.slice a1 n1 c1]) p) HH.out.1.fits).mono ?_
  rintro e w4 ⟨rfl, hb4⟩
  have S4 : Hid _ := S3.out.go hb4
  clear hb4 S3 k1
  by_cases h0 : p = 0
  · have t1 : bitLen p = 0 := by rw [h0]; exact bitLen_zero
    have HV : Hid (tfV p q = 0 ∧ tfOk p q = true) := by constructor <;> simp [tfV, tfOk, h0]
    rw [t1]
    clear h0 t1
    go_wp2_with fail
    exact bodyPost_ret (v := .tuple #[.float .f64 (0), .bool true]) (by simp [results, Tryz.results15, go_sem]) rfl ⟨by rw [HV.out.1, HV.out.2], S4.out.bel⟩
  · obtain ⟨l, hl⟩ : ∃ l, bitLen p = l := ⟨_, rfl⟩
    rw [hl]
    have t1 : ((l : Int) == 0) = false := by have := HL.out h0; simp; omega
    have t2 : decide ((l : Int) = 0) = false := by have := HL.out h0; exact decide_eq_false (by omega)
    have HP : Hid (0 < p) := by show _ < _; omega
    clear h0 hl HL
    by_cases h1 : s < -1075
    · have t3 : decide (s < -1075) = true := decide_eq_true h1
      have HV : Hid (tfV p q = 0 ∧ tfOk p q = true) := tf_low HP.out HH.out.2.2 (by rw [← HS.out.1]; exact h1)
      clear h1
      go_wp2_with fail
      exact bodyPost_ret (v := .tuple #[.float .f64 (0), .bool true]) (by simp [results, Tryz.results15, go_sem]) rfl ⟨by rw [HV.out.1, HV.out.2], S4.out.bel⟩
    · have t3 : decide (s < -1075) = false := decide_eq_false h1
      by_cases h2 : 1024 < s
      · have t4 : decide (1024 < s) = true := decide_eq_true h2
        have HV : Hid (tfV p q = 0 ∧ tfOk p q = false) := tf_high HP.out HH.out.2.2 (by rw [← HS.out.1]; exact h2)
        clear h1 h2
        go_wp2_with fail
        exact bodyPost_ret (v := .tuple #[.float .f64 (0), .bool false]) (by simp [results, Tryz.results15, go_sem]) rfl ⟨by rw [HV.out.1, HV.out.2], S4.out.bel⟩
      · have t4 : decide (1024 < s) = false := decide_eq_false h2
        have HB : Hid (-1075 ≤ s ∧ s ≤ 1024) := ⟨by omega, by omega⟩
        have k1 := S4.out.cel g 0 (.slice a1 n1 c1)
        have k2 := S4.out.cel (g + 1) 0 (.slice a2 n2 c2)
        clear h1 h2
        go_wp2_with fail
        refine (inUnits_any _ _ p q s _ (S4.out.at (.agg #[.slice a1 n1 c1]) p) (S4.out.at (.agg #[.slice a2 n2 c2]) q) HH.out.1.fits HH.out.2.1.fits (by have := HB.out; omega) (by have := HB.out; omega)).mono ?_
        rintro e w5 ⟨v5, u5, rfl, hv5, hu5, hb5⟩
        obtain ⟨a5, n5, c5, rfl⟩ := hv5.isAgg
        obtain ⟨a6, n6, c6, rfl⟩ := hu5.isAgg
        have S5 : Hid _ := ((((S4.out.go hb5).addN hv5).addN hu5).box1 (.slice a5 n5 c5) 25 _ rfl).box1 (.slice a6 n6 c6) 25 _ rfl
        simp only [World.size_alloc] at S5
        clear hv5 hu5 hb5 S4 k1 k2
        go_wp2_with fail
        obtain ⟨w6, hw6⟩ : ∃ w6, w6 = (w5.alloc (.cells #[.slice a5 n5 c5] 25)).alloc (.cells #[.slice a6 n6 c6] 25) := ⟨_, rfl⟩
        rw [← hw6] at S5
        rw [← hw6]
        clear hw6
        obtain ⟨z, hz⟩ : ∃ z, cmpI (upN p s) (dnN q s) = z := ⟨_, rfl⟩
        obtain ⟨f, hf⟩ : ∃ f : Int, f = flI p q s := ⟨_, rfl⟩
        obtain ⟨u, hu⟩ : ∃ u : Int, u = unI f := ⟨_, rfl⟩
        have HF : Hid (f = flI p q s ∧ u = unI f ∧ (z < 0 ↔ upN p s < dnN q s) ∧ cmpI (upN p s) (dnN q s) = z) := ⟨hf, hu, by rw [← hz]; unfold cmpI; split <;> (try split) <;> omega, hz⟩
        have SU : Hid (upN p s < P 107 ∧ dnN q s < P 107) := ⟨up_P (n := 90) (m := 17) HH.out.1.lt (by have := HB.out; omega) (by omega), dn_P (n := 90) (m := 17) HH.out.2.1.lt (by have := HB.out; omega) (by omega)⟩
        clear hz hf hu
        refine (cmp_z _ _ (upN p s) (dnN q s) z _ (S5.out.at (.agg #[.slice a5 n5 c5]) (upN p s)) (S5.out.at (.agg #[.slice a6 n6 c6]) (dnN q s)) (fits_P SU.out.1 (by omega)) (fits_P SU.out.2 (by omega)) HF.out.2.2.2).mono ?_
        rintro e w7 ⟨rfl, hb7⟩
        have S7 : Hid _ := S5.out.go hb7
        clear hb7 S5 SU
        have hAt := sz_at HP.out HH.out.2.2
        rw [← HS.out.1, ← HF.out.1] at hAt
        have hfb := flI_le p q s
        rw [← HF.out.1] at hfb
        have hub : -1074 ≤ u ∧ u ≤ 972 := by rw [HF.out.2.1]; have := HB.out; unfold unI; split <;> omega
        have hct := hAt.ct HH.out.2.2
        rw [← HF.out.2.1] at hct
        obtain ⟨ct, ect⟩ : ∃ ct, ct = ctN p q u := ⟨_, rfl⟩
        rw [← ect] at hct
        obtain ⟨B, hB⟩ : ∃ B : Nat, B = (u + 1074).toNat * 4503599627370496 + ct := ⟨_, rfl⟩
        have hTB : tfB p q = B := by unfold tfB bitsAt; rw [← HS.out.1, ← HF.out.1, ← HF.out.2.1, ← ect, ← hB]
        have k1 := S7.out.cel g 0 (.slice a1 n1 c1)
        have k2 := S7.out.cel (g + 1) 0 (.slice a2 n2 c2)
        have g1 : wrap64 (f - 52) = f - 52 := IntWalk.wrap64_in _ ⟨by have := HB.out; omega, by have := HB.out; omega⟩
        have g2 : (if f - 52 < -1074 then (-1074 : Int) else f - 52) = u := by rw [HF.out.2.1]; rfl
        have g3 : max (f - 52) (-1074) = u := by rw [HF.out.2.1]; unfold unI; split <;> omega
        obtain ⟨x, hx⟩ : ∃ x : Nat, x = (u + 1074).toNat := ⟨_, rfl⟩
        obtain ⟨y, hy⟩ : ∃ y : Nat, y = x * 4503599627370496 := ⟨_, rfl⟩
        have hyB : y + ct = B := by rw [hB, ← hx, hy]
        have hx2 : x ≤ 2046 := by omega
        have hyl : y ≤ 9214364837600034816 := by omega
        obtain ⟨g4, g5, g6, g8⟩ := tf_rules (u := u) hx hy hyB hub.1 hx2 hct
        have HC : Hid (ct < 18446744073709551616 ∧ upN p u < P 107 ∧ dnN q u < P 107 ∧ 0 < dnN q u ∧ -16777216 ≤ u ∧ u ≤ 16777216 ∧ ct = nearN (upN p u) (dnN q u) ∧ tfB p q = B) := ⟨by omega, up_P (n := 90) (m := 17) HH.out.1.lt (by omega) (by omega), dn_P (n := 90) (m := 17) HH.out.2.1.lt (by omega) (by omega), dnN_pos HH.out.2.2 u, by omega, by omega, ect, hTB⟩
        have HG : Hid (wrap64 (f - 52) = f - 52) := g1
        clear hAt hfb hub hct ect hTB hx hx2 hB g1 hy hyB hyl
        by_cases h3 : z < 0
        · have t5 : decide (z < 0) = true := decide_eq_true h3
          have t6 : wrap64 (s - 1) = f := by rw [IntWalk.wrap64_in _ ⟨by have := HB.out; omega, by have := HB.out; omega⟩, HF.out.1]; unfold flI; rw [if_pos (HF.out.2.2.1.1 h3)]
          have g1 := HG.out
          clear h3
          go_wp2_with fail
          refine (inUnits_any _ _ p q u _ (S7.out.at (.agg #[.slice a1 n1 c1]) p) (S7.out.at (.agg #[.slice a2 n2 c2]) q) HH.out.1.fits HH.out.2.1.fits HC.out.2.2.2.2.1 HC.out.2.2.2.2.2.1).mono ?_
          rintro e w8 ⟨v8, u8, rfl, hv8, hu8, hb8⟩
          have S8 : Hid _ := (((S7.out.go hb8).addN hv8).addN hu8)
          clear hv8 hu8 hb8 S7 k1 k2
          go_wp2_with fail
          refine (nearest_any v8 u8 (upN p u) (dnN q u) _ (S8.out.at v8 (upN p u)) (S8.out.at u8 (dnN q u)) (P_up HC.out.2.1 (by omega)) (P_up HC.out.2.2.1 (by omega)) HC.out.2.2.2.1).mono ?_
          rintro e w9 ⟨v9, rfl, hv9, hb9⟩
          rw [← HC.out.2.2.2.2.2.2.1] at hv9
          have S9 : Hid _ := (S8.out.go hb9).addN hv9
          clear hv9 hb9 S8
          go_wp2_with fail
          refine (uint_yes v9 ct _ (S9.out.at v9 ct) HC.out.1).mono ?_
          rintro e w10 ⟨rfl, hb10⟩
          have S10 : Hid _ := S9.out.go hb10
          clear hb10 S9
          by_cases h3 : B < 9218868437227405312
          · have t5 : decide (9218868437227405312 ≤ B) = false := decide_eq_false (by omega)
            have t6 : decide ((9218868437227405312 : Int) ≤ (B : Int)) = false := decide_eq_false (by omega)
            have HV : Hid (tfV p q = B ∧ tfOk p q = true) := by have := tf_in (q := q) HP.out (by rw [HC.out.2.2.2.2.2.2.2]; exact h3); rw [HC.out.2.2.2.2.2.2.2] at this; exact this
            clear h3
            go_wp2_with fail
            refine (float_any B _).mono ?_
            rintro e w11 ⟨rfl, hw11⟩
            rw [hw11]
            clear hw11
            go_wp2_with fail
            exact bodyPost_ret (v := .tuple #[.float .f64 (B), .bool true]) (by simp [results, Tryz.results15, go_sem]) rfl ⟨by rw [HV.out.1, HV.out.2], S10.out.bel⟩
            
          · have t5 : decide (9218868437227405312 ≤ B) = true := decide_eq_true (by omega)
            have t6 : decide ((9218868437227405312 : Int) ≤ (B : Int)) = true := decide_eq_true (by omega)
            have HV : Hid (tfV p q = 0 ∧ tfOk p q = false) := tf_over HP.out (by rw [HC.out.2.2.2.2.2.2.2]; exact h3)
            clear h3
            go_wp2_with fail
            exact bodyPost_ret (v := .tuple #[.float .f64 (0), .bool false]) (by simp [results, Tryz.results15, go_sem]) rfl ⟨by rw [HV.out.1, HV.out.2], S10.out.bel⟩
            
        · have t5 : decide (z < 0) = false := decide_eq_false h3
          obtain rfl : f = s := by rw [HF.out.1]; unfold flI; rw [if_neg (fun hh => h3 (HF.out.2.2.1.2 hh))]
          have g1 := HG.out
          clear h3
          go_wp2_with fail
          refine (inUnits_any _ _ p q u _ (S7.out.at (.agg #[.slice a1 n1 c1]) p) (S7.out.at (.agg #[.slice a2 n2 c2]) q) HH.out.1.fits HH.out.2.1.fits HC.out.2.2.2.2.1 HC.out.2.2.2.2.2.1).mono ?_
          rintro e w8 ⟨v8, u8, rfl, hv8, hu8, hb8⟩
          have S8 : Hid _ := (((S7.out.go hb8).addN hv8).addN hu8)
          clear hv8 hu8 hb8 S7 k1 k2
          go_wp2_with fail
          refine (nearest_any v8 u8 (upN p u) (dnN q u) _ (S8.out.at v8 (upN p u)) (S8.out.at u8 (dnN q u)) (P_up HC.out.2.1 (by omega)) (P_up HC.out.2.2.1 (by omega)) HC.out.2.2.2.1).mono ?_
          rintro e w9 ⟨v9, rfl, hv9, hb9⟩
          rw [← HC.out.2.2.2.2.2.2.1] at hv9
          have S9 : Hid _ := (S8.out.go hb9).addN hv9
          clear hv9 hb9 S8
          go_wp2_with fail
          refine (uint_yes v9 ct _ (S9.out.at v9 ct) HC.out.1).mono ?_
          rintro e w10 ⟨rfl, hb10⟩
          have S10 : Hid _ := S9.out.go hb10
          clear hb10 S9
          by_cases h3 : B < 9218868437227405312
          · have t5 : decide (9218868437227405312 ≤ B) = false := decide_eq_false (by omega)
            have t6 : decide ((9218868437227405312 : Int) ≤ (B : Int)) = false := decide_eq_false (by omega)
            have HV : Hid (tfV p q = B ∧ tfOk p q = true) := by have := tf_in (q := q) HP.out (by rw [HC.out.2.2.2.2.2.2.2]; exact h3); rw [HC.out.2.2.2.2.2.2.2] at this; exact this
            clear h3
            go_wp2_with fail
            refine (float_any B _).mono ?_
            rintro e w11 ⟨rfl, hw11⟩
            rw [hw11]
            clear hw11
            go_wp2_with fail
            exact bodyPost_ret (v := .tuple #[.float .f64 (B), .bool true]) (by simp [results, Tryz.results15, go_sem]) rfl ⟨by rw [HV.out.1, HV.out.2], S10.out.bel⟩
            
          · have t5 : decide (9218868437227405312 ≤ B) = true := decide_eq_true (by omega)
            have t6 : decide ((9218868437227405312 : Int) ≤ (B : Int)) = true := decide_eq_true (by omega)
            have HV : Hid (tfV p q = 0 ∧ tfOk p q = false) := tf_over HP.out (by rw [HC.out.2.2.2.2.2.2.2]; exact h3)
            clear h3
            go_wp2_with fail
            exact bodyPost_ret (v := .tuple #[.float .f64 (0), .bool false]) (by simp [results, Tryz.results15, go_sem]) rfl ⟨by rw [HV.out.1, HV.out.2], S10.out.bel⟩
            
end Go.Proofs.YtpeimefangpnaaaGreatDoor

namespace Go.Proofs.YtpeimefangpnaaaGreatDoor
open Go.RowKit
set_option maxRecDepth 100000
set_option linter.unusedVariables false
end Go.Proofs.YtpeimefangpnaaaGreatDoor

namespace Go.Proofs.YtpeimefangpnaaaGreatDoor
open Go.RowKit
set_option maxRecDepth 100000
set_option linter.unusedVariables false
theorem and3_2047 (x : Nat) (h : x < 18446744073709551616) : bits .and .u64 (x : Int) 2047 = ((x % 2048 : Nat) : Int) := by
  have := bits_and_u64_nat x 2047 h (by omega)
  rw [show (2047 : Nat) = 2 ^ 11 - 1 from rfl, Nat.and_two_pow_sub_one_eq_mod] at this
  exact this
theorem and3_low52 (x : Nat) (h : x < 18446744073709551616) : bits .and .u64 (x : Int) 4503599627370495 = ((x % 4503599627370496 : Nat) : Int) := by
  have := bits_and_u64_nat x 4503599627370495 h (by omega)
  rw [show (4503599627370495 : Nat) = 2 ^ 52 - 1 from rfl, Nat.and_two_pow_sub_one_eq_mod] at this
  exact this
/-- What FromFloat looks at. -/
structure Flk (u x0 E m t s : Nat) : Prop where
  lt : u < 18446744073709551616
  x : x0 = u / 4503599627370496
  e : E = x0 % 2048
  m : m = u % 4503599627370496
  t : t = u / 9223372036854775808
  s : s = u * 2 % 18446744073709551616
theorem fl_of (u : Nat) (h : u < 18446744073709551616) : ∃ x0 E m t s, Flk u x0 E m t s := ⟨_, _, _, _, _, h, rfl, rfl, rfl, rfl, rfl⟩
structure Frl (u x0 E m t s : Nat) : Prop where
  r2 : (u : Int) / 4503599627370496 = (x0 : Int)
  r3 : bits .and .u64 (x0 : Int) 2047 = (E : Int)
  r5 : bits .and .u64 (u : Int) 4503599627370495 = (m : Int)
  r6 : (u : Int) / 9223372036854775808 = (t : Int)
  r7 : IntKind.u64.wrap ((u : Int) * 2) = (s : Int)
  r8 : wrap64 (E : Int) = (E : Int)
  r9 : IntKind.i64.wrap (E : Int) = (E : Int)
theorem Flk.rules {u x0 E m t s : Nat} (h : Flk u x0 E m t s) : Frl u x0 E m t s := by
  obtain ⟨h0, h1, h2, h3, h4, h5⟩ := h
  have hE : E < 2048 := by rw [h2]; exact Nat.mod_lt _ (by omega)
  refine ⟨by omega, ?_, ?_, by omega, by rw [IntKind.wrap_u64]; omega, IntWalk.wrap64_in _ ⟨by omega, by omega⟩, by rw [IntKind.wrap_i64]; omega⟩
  · rw [h2]; exact and3_2047 x0 (by omega)
  · rw [h3]; exact and3_low52 u h0
/-- What comes of it. -/
structure Fg (u mm : Nat) (z : Int) : Prop where
  mlt : mm < 9007199254740992
  lo : -1074 ≤ z
  hi : z ≤ 971
  eN : fN u = mm * 2 ^ z.toNat
  eD : fD u = 2 ^ (-z).toNat
theorem Fg.sN {u mm : Nat} {z : Int} (h : Fg u mm z) : RS (mm * 2 ^ z.toNat) := ⟨P_up (fN_gen (n := 17) (Nat.lt_of_lt_of_eq h.mlt (by decide)) (by have := h.hi; omega)) (by omega)⟩
theorem Fg.sD {u mm : Nat} {z : Int} (h : Fg u mm z) : RS (2 ^ (-z).toNat) := ⟨P_up (two_P (n := 17) (by have := h.lo; omega)) (by omega)⟩
theorem w64_at {x y : Int} (h1 : -9223372036854775808 ≤ x) (h2 : x ≤ 9223372036854775807) (h : x = y) : wrap64 x = y := by rw [IntWalk.wrap64_in _ ⟨h1, h2⟩, h]
/-- What FromFloat tells, of all bits. -/
def isFb (u : Nat) : Bool := decide (u = 9223372036854775808) || decide (u < 9218868437227405312)
def ffP (u : Nat) : Nat := if isFb u then fN (nz u) / Nat.gcd (fN (nz u)) (fD (nz u)) else 0
def ffQ (u : Nat) : Nat := if isFb u then fD (nz u) / Nat.gcd (fN (nz u)) (fD (nz u)) else 1
theorem fN_zero : fN 0 = 0 := by unfold fN fm; simp
theorem fD_gcd (u : Nat) (h : fN u = 0) : fN u / Nat.gcd (fN u) (fD u) = 0 ∧ fD u / Nat.gcd (fN u) (fD u) = 1 := by
  rw [h, Nat.gcd_zero_left, Nat.zero_div, Nat.div_self (fD_pos u)]
  exact ⟨rfl, rfl⟩
theorem ff_no {u : Nat} (h : isFb u = false) : ffP u = 0 ∧ ffQ u = 1 := by unfold ffP ffQ; rw [h]; exact ⟨rfl, rfl⟩
theorem ff_zero : ffP 9223372036854775808 = 0 ∧ ffQ 9223372036854775808 = 1 := by
  have h : isFb 9223372036854775808 = true := by decide
  unfold ffP ffQ
  rw [h, if_pos rfl, if_pos rfl]
  have : nz 9223372036854775808 = 0 := by unfold nz; simp
  rw [this]
  exact fD_gcd 0 fN_zero
theorem ff_yes {u : Nat} (h : u < 9218868437227405312) : ffP u = fN u / Nat.gcd (fN u) (fD u) ∧ ffQ u = fD u / Nat.gcd (fN u) (fD u) := by
  have h1 : isFb u = true := by unfold isFb; simp; omega
  have h2 : nz u = u := by unfold nz; rw [if_neg (by omega)]
  unfold ffP ffQ
  rw [h1, h2]
  exact ⟨rfl, rfl⟩
theorem fromFloat_all (u : Nat) (w : World) (hu : u < 18446744073709551616) (hT : Tab w) : Calls Tryz.prog 9 #[.float .f64 u] w (MakesRB w (ffP u) (ffQ u) (isFb u)) := by
  by_cases h1 : u = 9223372036854775808
  · subst h1
    have h : isFb 9223372036854775808 = true := by decide
    rw [ff_zero.1, ff_zero.2, h]
    exact fromFloat_zero w
  · by_cases h2 : u < 9218868437227405312
    · have h : isFb u = true := by unfold isFb; simp; omega
      rw [(ff_yes h2).1, (ff_yes h2).2, h]
      exact fromFloat_yes u w h2 hT
    · have h : isFb u = false := by unfold isFb; simp; omega
      rw [(ff_no h).1, (ff_no h).2, h]
      exact fromFloat_no u w (fun hh => by rcases hh with e | e <;> omega) hu
end Go.Proofs.YtpeimefangpnaaaGreatDoor

namespace Go.Proofs.YtpeimefangpnaaaGreatDoor
open Go.RowKit
set_option maxRecDepth 100000
set_option linter.unusedVariables false
/-- How far two numbers are from one another. -/
def dst (a b : Nat) : Nat := (a - b) + (b - a)
theorem dst_ge {a b : Nat} (h : b ≤ a) : dst a b = a - b := by unfold dst; omega
theorem dst_lt {a b : Nat} (h : a < b) : dst a b = b - a := by unfold dst; omega
set_option maxHeartbeats 1000000 in
theorem gap3_ge (v u : Value) (p q x y A B : Nat) (w : World) (h : Rt w v p q) (k : Rt w u x y) (hT : Tab w) (hS : ∀ v u w, Rt w v p q → Rt w u x y → Tab w → Calls Tryz.prog 87 #[v, u] w (MakesRB w A B true)) :
    Calls Tryz.prog 38 #[v, u] w (MakesR w A B) := by
  have hv1' := h
  obtain ⟨a1, n1, c1, d1, m1, g1, ev1, _, _⟩ := hv1'.raw
  subst ev1
  have hv2' := k
  obtain ⟨a2, n2, c2, d2, m2, g2, ev2, _, _⟩ := hv2'.raw
  subst ev2
  have S0 : Hid _ := (((((sy_start w).addF h).addF k).box (.slice a1 n1 c1) (.slice d1 m1 g1) 27 _ rfl).box (.slice a2 n2 c2) (.slice d2 m2 g2) 27 _ rfl).box (.slice none 0 0) (.slice none 0 0) 27 _ rfl
  simp only [World.size_alloc] at S0
  have HH : Hid (Tab w ∧ ∀ v u w, Rt w v p q → Rt w u x y → Tab w → Calls Tryz.prog 87 #[v, u] w (MakesRB w A B true)) := ⟨hT, hS⟩
  clear h k hv1' hv2' hT hS
  go_enter Tryz.func38, Tryz.ntmps38
  go_wp2_with fail
  obtain ⟨r, hr⟩ : ∃ r, r = w.heap.size := ⟨_, rfl⟩
  obtain ⟨w0, hw0⟩ : ∃ w0, w0 = ((w.alloc (.cells #[.slice a1 n1 c1, .slice d1 m1 g1] 27)).alloc (.cells #[.slice a2 n2 c2, .slice d2 m2 g2] 27)).alloc (.cells #[.slice none 0 0, .slice none 0 0] 27) := ⟨_, rfl⟩
  rw [← hw0, ← hr] at S0
  rw [← hw0, ← hr]
  clear hw0 hr
  refine (HH.out.2 _ _ _ (S0.out.fr (.agg #[.slice a1 n1 c1, .slice d1 m1 g1]) p q) (S0.out.fr (.agg #[.slice a2 n2 c2, .slice d2 m2 g2]) x y) (HH.out.1.go S0.out.bel)).mono ?_
  rintro e w3 ⟨v3, rfl, hv3, hb3⟩
  have hv3' := hv3
  obtain ⟨a3, n3, c3, d3, m3, g3, ev3, _, _⟩ := hv3'.raw
  subst ev3
  have S3 : Hid _ := ((S0.out.go hb3).addF hv3).go (w' := w3.alloc (.cells #[.slice a3 n3 c3, .slice d3 m3 g3] 27)) (bel_al (bel_refl _))
  have q0 : (w3.alloc (.cells #[.slice a3 n3 c3, .slice d3 m3 g3] 27)).cell? ⟨w3.heap.size, 0, none⟩ = some (.slice a3 n3 c3) := by simp [go_sem]
  have q1 : (w3.alloc (.cells #[.slice a3 n3 c3, .slice d3 m3 g3] 27)).cell? ⟨w3.heap.size, 1, none⟩ = some (.slice d3 m3 g3) := by simp [go_sem]
  clear hv3 hv3' hb3 S0
  have x0 := S3.out.cel (r + 1 + 1) 0 (.slice none 0 0)
  have x1 := S3.out.cel (r + 1 + 1) 1 (.slice none 0 0)
  have f0 := S3.out.fz (r + 1 + 1) 0
  have f1 := S3.out.fz (r + 1 + 1) 1
  have Z : Hid _ := rat_put (w0 := w) (v := .slice a3 n3 c3) (u := .slice d3 m3 g3) x0 x1 (S3.out.fr (.agg #[.slice a3 n3 c3, .slice d3 m3 g3]) A B) S3.out.bel (S3.out.lo (r + 1 + 1))
  go_wp2_with fail
  exact bodyPost_ret (v := .agg #[.slice a3 n3 c3, .slice d3 m3 g3]) (by simp [results, Tryz.results38, go_sem, x0, x1]) rfl ⟨_, rfl, Z.out.1, Z.out.2⟩
set_option maxHeartbeats 1000000 in
theorem gap3_lt (v u : Value) (p q x y A B : Nat) (w : World) (h : Rt w v p q) (k : Rt w u x y) (hT : Tab w) (hN : ∀ v u w, Rt w v p q → Rt w u x y → Tab w → Calls Tryz.prog 87 #[v, u] w (MakesRB w 0 1 false)) (hS : ∀ v u w, Rt w v x y → Rt w u p q → Tab w → Calls Tryz.prog 87 #[v, u] w (MakesRB w A B true)) :
    Calls Tryz.prog 38 #[v, u] w (MakesR w A B) := by
  have hv1' := h
  obtain ⟨a1, n1, c1, d1, m1, g1, ev1, _, _⟩ := hv1'.raw
  subst ev1
  have hv2' := k
  obtain ⟨a2, n2, c2, d2, m2, g2, ev2, _, _⟩ := hv2'.raw
  subst ev2
  have S0 : Hid _ := (((((sy_start w).addF h).addF k).box (.slice a1 n1 c1) (.slice d1 m1 g1) 27 _ rfl).box (.slice a2 n2 c2) (.slice d2 m2 g2) 27 _ rfl).box (.slice none 0 0) (.slice none 0 0) 27 _ rfl
  simp only [World.size_alloc] at S0
  have HH : Hid (Tab w ∧ (∀ v u w, Rt w v p q → Rt w u x y → Tab w → Calls Tryz.prog 87 #[v, u] w (MakesRB w 0 1 false)) ∧ ∀ v u w, Rt w v x y → Rt w u p q → Tab w → Calls Tryz.prog 87 #[v, u] w (MakesRB w A B true)) := ⟨hT, hN, hS⟩
  clear h k hv1' hv2' hT hS hN
  go_enter Tryz.func38, Tryz.ntmps38
  go_wp2_with fail
  obtain ⟨r, hr⟩ : ∃ r, r = w.heap.size := ⟨_, rfl⟩
  obtain ⟨w0, hw0⟩ : ∃ w0, w0 = ((w.alloc (.cells #[.slice a1 n1 c1, .slice d1 m1 g1] 27)).alloc (.cells #[.slice a2 n2 c2, .slice d2 m2 g2] 27)).alloc (.cells #[.slice none 0 0, .slice none 0 0] 27) := ⟨_, rfl⟩
  rw [← hw0, ← hr] at S0
  rw [← hw0, ← hr]
  clear hw0 hr
  refine (HH.out.2.1 _ _ _ (S0.out.fr (.agg #[.slice a1 n1 c1, .slice d1 m1 g1]) p q) (S0.out.fr (.agg #[.slice a2 n2 c2, .slice d2 m2 g2]) x y) (HH.out.1.go S0.out.bel)).mono ?_
  rintro e w3 ⟨v3, rfl, hv3, hb3⟩
  have hv3' := hv3
  obtain ⟨a3, n3, c3, d3, m3, g3, ev3, _, _⟩ := hv3'.raw
  subst ev3
  have HL : Hid (r + 1 + 1 < w3.heap.size) := (S0.out.go hb3).lt (r + 1 + 1)
  have S3 : Hid _ := ((S0.out.go hb3).addF hv3).box (.slice a3 n3 c3) (.slice d3 m3 g3) 27 _ rfl
  clear hv3 hv3' hb3 S0
  have y0 := S3.out.cel (r + 1) 0 (.slice a2 n2 c2)
  have y1 := S3.out.cel (r + 1) 1 (.slice d2 m2 g2)
  have y2 := S3.out.cel r 0 (.slice a1 n1 c1)
  have y3 := S3.out.cel r 1 (.slice d1 m1 g1)
  go_wp2_with fail
  obtain ⟨g, hg⟩ : ∃ g, g = w3.heap.size := ⟨_, rfl⟩
  obtain ⟨w4, hw4⟩ : ∃ w4, w4 = w3.alloc (.cells #[.slice a3 n3 c3, .slice d3 m3 g3] 27) := ⟨_, rfl⟩
  rw [← hw4, ← hg] at S3
  rw [← hw4, ← hg]
  have HG : Hid (r + 1 + 1 < g) := by rw [hg]; exact HL
  clear hw4 hg HL y0 y1 y2 y3
  refine (HH.out.2.2 _ _ _ (S3.out.fr (.agg #[.slice a2 n2 c2, .slice d2 m2 g2]) x y) (S3.out.fr (.agg #[.slice a1 n1 c1, .slice d1 m1 g1]) p q) (HH.out.1.go S3.out.bel)).mono ?_
  rintro e w5 ⟨v5, rfl, hv5, hb5⟩
  have hv5' := hv5
  obtain ⟨a5, n5, c5, d5, m5, g5, ev5, _, _⟩ := hv5'.raw
  subst ev5
  have S5 : Hid _ := (S3.out.go hb5).addF hv5
  clear hv5 hv5' hb5 S3
  have q0 := S5.out.cel g 0 (.slice a3 n3 c3)
  have q1 := S5.out.cel g 1 (.slice d3 m3 g3)
  have f0 := S5.out.fz g 0
  have f1 := S5.out.fz g 1
  have S6 : Hid _ := ((S5.out.set (b := g) (i := 0) q0 (S5.out.lo g) [(r + 1 + 1, 0, .slice none 0 0), (r + 1 + 1, 1, .slice none 0 0)] (by have := HG.out; simp; omega) (.slice a5 n5 c5)).set (b := g) (i := 1) (show (w5.setCell ⟨g, 0, none⟩ (.slice a5 n5 c5)).cell? ⟨g, 1, none⟩ = some (.slice d3 m3 g3) by simp [go_sem, q1]) (S5.out.lo g) [(r + 1 + 1, 0, .slice none 0 0), (r + 1 + 1, 1, .slice none 0 0)] (by have := HG.out; simp; omega) (.slice d5 m5 g5))
  have e0 : ((w5.setCell ⟨g, 0, none⟩ (.slice a5 n5 c5)).setCell ⟨g, 1, none⟩ (.slice d5 m5 g5)).cell? ⟨g, 0, none⟩ = some (.slice a5 n5 c5) := by simp [go_sem, q0]
  have e1 : ((w5.setCell ⟨g, 0, none⟩ (.slice a5 n5 c5)).setCell ⟨g, 1, none⟩ (.slice d5 m5 g5)).cell? ⟨g, 1, none⟩ = some (.slice d5 m5 g5) := by simp [go_sem, q1]
  have x0 := S6.out.cel (r + 1 + 1) 0 (.slice none 0 0)
  have x1 := S6.out.cel (r + 1 + 1) 1 (.slice none 0 0)
  have j0 := S6.out.fz (r + 1 + 1) 0
  have j1 := S6.out.fz (r + 1 + 1) 1
  have Z : Hid _ := rat_put (w0 := w) (v := .slice a5 n5 c5) (u := .slice d5 m5 g5) x0 x1 (S6.out.fr (.agg #[.slice a5 n5 c5, .slice d5 m5 g5]) A B) S6.out.bel (S6.out.lo (r + 1 + 1))
  go_wp2_with fail
  exact bodyPost_ret (v := .agg #[.slice a5 n5 c5, .slice d5 m5 g5]) (by simp [results, Tryz.results38, go_sem, x0, x1]) rfl ⟨_, rfl, Z.out.1, Z.out.2⟩
/-- What gap tells of two fractions. -/
theorem Fc.gap {p q N1 D1 n x y N2 D2 m : Nat} (h : Fc p q N1 D1 n) (k : Fc x y N2 D2 m) (hn : n ≤ 90) (hm : m ≤ 90) : ∃ A B, Fc A B (dst (N1 * D2) (N2 * D1)) (D1 * D2) (n + m) ∧ ∀ v u w, Rt w v p q → Rt w u x y → Tab w → Calls Tryz.prog 38 #[v, u] w (MakesR w A B) := by
  by_cases hle : N2 * D1 ≤ N1 * D2
  · obtain ⟨A, B, f, c⟩ := h.sub k hn hm hle
    exact ⟨A, B, by rw [dst_ge hle]; exact f, fun v u w e1 e2 e3 => gap3_ge v u p q x y A B w e1 e2 e3 c⟩
  · have hlt : N1 * D2 < N2 * D1 := by omega
    obtain ⟨A, B, f, c⟩ := k.sub h hm hn (by omega)
    exact ⟨A, B, by rw [dst_lt hlt, Nat.mul_comm D1 D2, Nat.add_comm n m]; exact f, fun v u w e1 e2 e3 => gap3_lt v u p q x y A B w e1 e2 e3 (h.sub_no k hn hm hlt) c⟩
set_option maxHeartbeats 1000000 in
theorem value3_zero (u x0 E m t s : Nat) (w : World) (h : Flk u x0 E m t s) (hu : u < 9218868437227405312) (hE : E < 2047) (h3 : E = 0) (hm5 : m < 4503599627370496) (hT : Tab w) (hN : fN u = m * 2 ^ 0) (hDD : ∃ d, d = 1074 ∧ fD u = 2 ^ d) :
    Calls Tryz.prog 39 #[.int .u64 (u : Int)] w (MakesR w (fN u / Nat.gcd (fN u) (fD u)) (fD u / Nat.gcd (fN u) (fD u))) := by
  have RR : Hid (Frl u x0 E m t s) := h.rules
  have HT : Hid (Tab w) := hT
  obtain ⟨d, hd, hD⟩ := hDD
  rw [Nat.pow_zero, Nat.mul_one] at hN
  have HN : Hid (fN u = m ∧ fD u = 2 ^ d ∧ RS (m) ∧ RS (2 ^ d) ∧ 0 < 2 ^ d ∧ m < 18446744073709551616 ∧ d ≤ 16777216) := ⟨hN, hD, by rw [← hN]; exact ⟨P_up (fN_lt hu) (by omega)⟩, by rw [← hD]; exact ⟨P_up (fD_lt u) (by omega)⟩, by rw [← hD]; exact fD_pos u, by omega, by omega⟩
  have e0 : (E : Int) = 0 := by omega
  have HED : Hid ((1074 : Int) = (d : Int)) := by show _ = _; omega
  rw [HN.out.1, HN.out.2.1]
  clear h hu hE hN hD hT hd hm5 h3
  obtain ⟨r2, r3, r5, r6, r7, r8, r9⟩ := RR.out
  have S1 : Hid _ := (sy_start w).box (.slice none 0 0) (.slice none 0 0) 27 _ rfl
  go_enter Tryz.func39, Tryz.ntmps39
  go_wp2_with fail
  refine (of_any m _ HN.out.2.2.2.2.2.1).mono ?_
  rintro e w2 ⟨v2, rfl, hv2, hb2⟩
  obtain ⟨a1, n1, c1, rfl⟩ := hv2.isAgg
  have S2 : Hid _ := (S1.out.go hb2).addN hv2
  clear hv2 hb2 S1
  go_wp2_with fail
  refine (of_any 1 _ (by omega)).mono ?_
  rintro e w3 ⟨v3, rfl, hv3, hb3⟩
  obtain ⟨a2, n2, c2, rfl⟩ := hv3.isAgg
  have HL : Hid (w.heap.size < w3.heap.size) := (S2.out.go hb3).lt w.heap.size
  have S3 : Hid _ := (((S2.out.go hb3).addN hv3).box1 (.slice a1 n1 c1) 25 _ rfl).box1 (.slice a2 n2 c2) 25 _ rfl
  simp only [World.size_alloc] at S3
  clear hv3 hb3 S2
  go_wp2_with fail
  obtain ⟨g, hg⟩ : ∃ g, g = w3.heap.size := ⟨_, rfl⟩
  obtain ⟨b, hb⟩ : ∃ b, b = w.heap.size := ⟨_, rfl⟩
  obtain ⟨w4, hw4⟩ : ∃ w4, w4 = (w3.alloc (.cells #[.slice a1 n1 c1] 25)).alloc (.cells #[.slice a2 n2 c2] 25) := ⟨_, rfl⟩
  rw [← hw4, ← hg, ← hb] at S3
  rw [← hw4, ← hg, ← hb]
  have HG : Hid (b < g) := by rw [hg, hb]; exact HL
  clear hw4 hg hb HL
  rw [HED.out]
  refine (left_yes _ 1 d _ (S3.out.at (.agg #[.slice a2 n2 c2]) 1) (rs_word (by have := HN.out.2.2.2.2.2.1; omega)).fits HN.out.2.2.2.2.2.2).mono ?_
  rintro e w5 ⟨v5, rfl, hv5, hb5⟩
  obtain ⟨a5, n5', c5, rfl⟩ := hv5.isAgg
  have S5 : Hid _ := (S3.out.go hb5).addN hv5
  clear hv5 hb5 S3
  have k1 := S5.out.cel (g + 1) 0 (.slice a2 n2 c2)
  have f1 := S5.out.fz (g + 1) 0
  have S6 : Hid _ := (S5.out.set (b := g + 1) (i := 0) k1 (S5.out.lo (g + 1)) [(g, 0, .slice a1 n1 c1), (b, 0, .slice none 0 0), (b, 1, .slice none 0 0)] (by have := HG.out; simp; omega) (.slice a5 n5' c5)).addC (b := g + 1) (i := 0) (v := .slice a5 n5' c5) (by simp [go_sem, k1])
  have k3 : (w5.setCell ⟨g + 1, 0, none⟩ (.slice a5 n5' c5)).cell? ⟨g, 0, none⟩ = some (.slice a1 n1 c1) := S6.out.cel (g) 0 (.slice a1 n1 c1)
  have k4 : (w5.setCell ⟨g + 1, 0, none⟩ (.slice a5 n5' c5)).cell? ⟨g + 1, 0, none⟩ = some (.slice a5 n5' c5) := S6.out.cel (g + 1) 0 (.slice a5 n5' c5)
  go_wp2_with fail
  obtain ⟨w6, hw6⟩ : ∃ w6, w6 = w5.setCell ⟨g + 1, 0, none⟩ (.slice a5 n5' c5) := ⟨_, rfl⟩
  rw [← hw6] at S6
  rw [← hw6]
  clear hw6 k1 k3 k4 f1 S5
  have NV := S6.out.at (.agg #[.slice a5 n5' c5]) (1 * 2 ^ d)
  rw [Nat.one_mul] at NV
  have HNV : Hid _ := NV
  clear NV
  refine (from_any _ _ (m) (2 ^ d) _ (S6.out.at (.agg #[.slice a1 n1 c1]) m) (HNV.out) HN.out.2.2.1 HN.out.2.2.2.1 HN.out.2.2.2.2.1 (HT.out.go S6.out.bel)).mono ?_
  rintro e w7 ⟨v7, rfl, hv7, hb7⟩
  have hv7' := hv7
  obtain ⟨a7, n7, c7, d7, m7, g7, ev7, _, _⟩ := hv7'.raw
  subst ev7
  have S7 : Hid _ := ((S6.out.go hb7).addF hv7).go (w' := w7.alloc (.cells #[.slice a7 n7 c7, .slice d7 m7 g7] 27)) (bel_al (bel_refl _))
  have q0 : (w7.alloc (.cells #[.slice a7 n7 c7, .slice d7 m7 g7] 27)).cell? ⟨w7.heap.size, 0, none⟩ = some (.slice a7 n7 c7) := by simp [go_sem]
  have q1' : (w7.alloc (.cells #[.slice a7 n7 c7, .slice d7 m7 g7] 27)).cell? ⟨w7.heap.size, 1, none⟩ = some (.slice d7 m7 g7) := by simp [go_sem]
  clear hv7 hv7' hb7 S6
  have z0 := S7.out.cel b 0 (.slice none 0 0)
  have z1 := S7.out.cel b 1 (.slice none 0 0)
  have y0 := S7.out.fz b 0
  have y1 := S7.out.fz b 1
  have Z : Hid _ := rat_put (w0 := w) (v := .slice a7 n7 c7) (u := .slice d7 m7 g7) z0 z1 (S7.out.fr (.agg #[.slice a7 n7 c7, .slice d7 m7 g7]) ((m) / Nat.gcd (m) (2 ^ d)) ((2 ^ d) / Nat.gcd (m) (2 ^ d))) S7.out.bel (S7.out.lo b)
  go_wp2_with fail
  exact bodyPost_ret (v := .agg #[.slice a7 n7 c7, .slice d7 m7 g7]) (by simp [results, Tryz.results39, go_sem, z0, z1]) rfl ⟨_, rfl, Z.out.1, Z.out.2⟩
set_option maxHeartbeats 1000000 in
theorem value3_low (u x0 E m t s : Nat) (mm : Nat) (w : World) (h : Flk u x0 E m t s) (hu : u < 9218868437227405312) (hE : E < 2047) (h3 : 0 < E) (h4 : E - 1 < 1074) (hm : m + 4503599627370496 = mm) (hm5 : m < 4503599627370496) (hT : Tab w) (hN : fN u = mm * 2 ^ 0) (hD : fD u = 2 ^ (1074 - (E - 1))) :
    Calls Tryz.prog 39 #[.int .u64 (u : Int)] w (MakesR w (fN u / Nat.gcd (fN u) (fD u)) (fD u / Nat.gcd (fN u) (fD u))) := by
  have RR : Hid (Frl u x0 E m t s) := h.rules
  have HT : Hid (Tab w) := hT
  obtain ⟨d, hd⟩ : ∃ d, d = 1074 - (E - 1) := ⟨_, rfl⟩
  rw [← hd] at hD
  rw [Nat.pow_zero, Nat.mul_one] at hN
  have HN : Hid (fN u = mm ∧ fD u = 2 ^ d ∧ RS (mm) ∧ RS (2 ^ d) ∧ 0 < 2 ^ d ∧ mm < 18446744073709551616 ∧ d ≤ 16777216) := ⟨hN, hD, by rw [← hN]; exact ⟨P_up (fN_lt hu) (by omega)⟩, by rw [← hD]; exact ⟨P_up (fD_lt u) (by omega)⟩, by rw [← hD]; exact fD_pos u, by omega, by omega⟩
  obtain ⟨f, hf⟩ : ∃ f, f = E - 1 := ⟨_, rfl⟩
  have p4 : 0 < E := h3
  have q4 : IntKind.u64.wrap ((m : Int) + 4503599627370496) = (mm : Int) := by rw [IntKind.wrap_u64]; omega
  have HED : Hid ((1074 : Int) - (f : Int) = (d : Int)) := by show _ = _; omega
  have n5 : ¬ 1074 ≤ f := by omega
  have n6 : decide ((1074 : Int) ≤ (f : Int)) = false := decide_eq_false (by omega)
  obtain ⟨q1, q2⟩ : wrap64 ((E : Int) - 1) = (f : Int) ∧ wrap64 (1074 - (f : Int)) = (d : Int) := ⟨w64_at (by omega) (by omega) (by omega), w64_at (by omega) (by omega) (by omega)⟩
  rw [HN.out.1, HN.out.2.1]
  clear h hu hE hN hD hT hd hm5 h3 h4 hm hf
  obtain ⟨r2, r3, r5, r6, r7, r8, r9⟩ := RR.out
  have S1 : Hid _ := (sy_start w).box (.slice none 0 0) (.slice none 0 0) 27 _ rfl
  go_enter Tryz.func39, Tryz.ntmps39
  go_wp2_with fail
  refine (of_any mm _ HN.out.2.2.2.2.2.1).mono ?_
  rintro e w2 ⟨v2, rfl, hv2, hb2⟩
  obtain ⟨a1, n1, c1, rfl⟩ := hv2.isAgg
  have S2 : Hid _ := (S1.out.go hb2).addN hv2
  clear hv2 hb2 S1
  go_wp2_with fail
  refine (of_any 1 _ (by omega)).mono ?_
  rintro e w3 ⟨v3, rfl, hv3, hb3⟩
  obtain ⟨a2, n2, c2, rfl⟩ := hv3.isAgg
  have HL : Hid (w.heap.size < w3.heap.size) := (S2.out.go hb3).lt w.heap.size
  have S3 : Hid _ := (((S2.out.go hb3).addN hv3).box1 (.slice a1 n1 c1) 25 _ rfl).box1 (.slice a2 n2 c2) 25 _ rfl
  simp only [World.size_alloc] at S3
  clear hv3 hb3 S2
  go_wp2_with fail
  obtain ⟨g, hg⟩ : ∃ g, g = w3.heap.size := ⟨_, rfl⟩
  obtain ⟨b, hb⟩ : ∃ b, b = w.heap.size := ⟨_, rfl⟩
  obtain ⟨w4, hw4⟩ : ∃ w4, w4 = (w3.alloc (.cells #[.slice a1 n1 c1] 25)).alloc (.cells #[.slice a2 n2 c2] 25) := ⟨_, rfl⟩
  rw [← hw4, ← hg, ← hb] at S3
  rw [← hw4, ← hg, ← hb]
  have HG : Hid (b < g) := by rw [hg, hb]; exact HL
  clear hw4 hg hb HL
  try rw [HED.out]
  refine (left_yes _ 1 d _ (S3.out.at (.agg #[.slice a2 n2 c2]) 1) (rs_word (by have := HN.out.2.2.2.2.2.1; omega)).fits HN.out.2.2.2.2.2.2).mono ?_
  rintro e w5 ⟨v5, rfl, hv5, hb5⟩
  obtain ⟨a5, n5', c5, rfl⟩ := hv5.isAgg
  have S5 : Hid _ := (S3.out.go hb5).addN hv5
  clear hv5 hb5 S3
  have k1 := S5.out.cel (g + 1) 0 (.slice a2 n2 c2)
  have f1 := S5.out.fz (g + 1) 0
  have S6 : Hid _ := (S5.out.set (b := g + 1) (i := 0) k1 (S5.out.lo (g + 1)) [(g, 0, .slice a1 n1 c1), (b, 0, .slice none 0 0), (b, 1, .slice none 0 0)] (by have := HG.out; simp; omega) (.slice a5 n5' c5)).addC (b := g + 1) (i := 0) (v := .slice a5 n5' c5) (by simp [go_sem, k1])
  have k3 : (w5.setCell ⟨g + 1, 0, none⟩ (.slice a5 n5' c5)).cell? ⟨g, 0, none⟩ = some (.slice a1 n1 c1) := S6.out.cel (g) 0 (.slice a1 n1 c1)
  have k4 : (w5.setCell ⟨g + 1, 0, none⟩ (.slice a5 n5' c5)).cell? ⟨g + 1, 0, none⟩ = some (.slice a5 n5' c5) := S6.out.cel (g + 1) 0 (.slice a5 n5' c5)
  go_wp2_with fail
  obtain ⟨w6, hw6⟩ : ∃ w6, w6 = w5.setCell ⟨g + 1, 0, none⟩ (.slice a5 n5' c5) := ⟨_, rfl⟩
  rw [← hw6] at S6
  rw [← hw6]
  clear hw6 k1 k3 k4 f1 S5
  have NV := S6.out.at (.agg #[.slice a5 n5' c5]) (1 * 2 ^ d)
  rw [Nat.one_mul] at NV
  have HNV : Hid _ := NV
  clear NV
  refine (from_any _ _ (mm) (2 ^ d) _ (S6.out.at (.agg #[.slice a1 n1 c1]) mm) (HNV.out) HN.out.2.2.1 HN.out.2.2.2.1 HN.out.2.2.2.2.1 (HT.out.go S6.out.bel)).mono ?_
  rintro e w7 ⟨v7, rfl, hv7, hb7⟩
  have hv7' := hv7
  obtain ⟨a7, n7, c7, d7, m7, g7, ev7, _, _⟩ := hv7'.raw
  subst ev7
  have S7 : Hid _ := ((S6.out.go hb7).addF hv7).go (w' := w7.alloc (.cells #[.slice a7 n7 c7, .slice d7 m7 g7] 27)) (bel_al (bel_refl _))
  have q0 : (w7.alloc (.cells #[.slice a7 n7 c7, .slice d7 m7 g7] 27)).cell? ⟨w7.heap.size, 0, none⟩ = some (.slice a7 n7 c7) := by simp [go_sem]
  have q1' : (w7.alloc (.cells #[.slice a7 n7 c7, .slice d7 m7 g7] 27)).cell? ⟨w7.heap.size, 1, none⟩ = some (.slice d7 m7 g7) := by simp [go_sem]
  clear hv7 hv7' hb7 S6
  have z0 := S7.out.cel b 0 (.slice none 0 0)
  have z1 := S7.out.cel b 1 (.slice none 0 0)
  have y0 := S7.out.fz b 0
  have y1 := S7.out.fz b 1
  have Z : Hid _ := rat_put (w0 := w) (v := .slice a7 n7 c7) (u := .slice d7 m7 g7) z0 z1 (S7.out.fr (.agg #[.slice a7 n7 c7, .slice d7 m7 g7]) ((mm) / Nat.gcd (mm) (2 ^ d)) ((2 ^ d) / Nat.gcd (mm) (2 ^ d))) S7.out.bel (S7.out.lo b)
  go_wp2_with fail
  exact bodyPost_ret (v := .agg #[.slice a7 n7 c7, .slice d7 m7 g7]) (by simp [results, Tryz.results39, go_sem, z0, z1]) rfl ⟨_, rfl, Z.out.1, Z.out.2⟩
set_option maxHeartbeats 1000000 in
theorem value3_high (u x0 E m t s : Nat) (mm : Nat) (w : World) (h : Flk u x0 E m t s) (hu : u < 9218868437227405312) (hE : E < 2047) (h3 : 0 < E) (h4 : ¬ E - 1 < 1074) (hm : m + 4503599627370496 = mm) (hm5 : m < 4503599627370496) (hT : Tab w) (hN : fN u = mm * 2 ^ (E - 1 - 1074)) (hD : fD u = 2 ^ 0) :
    Calls Tryz.prog 39 #[.int .u64 (u : Int)] w (MakesR w (fN u / Nat.gcd (fN u) (fD u)) (fD u / Nat.gcd (fN u) (fD u))) := by
  have RR : Hid (Frl u x0 E m t s) := h.rules
  have HT : Hid (Tab w) := hT
  obtain ⟨d, hd⟩ : ∃ d, d = E - 1 - 1074 := ⟨_, rfl⟩
  rw [← hd] at hN
  rw [Nat.pow_zero] at hD
  have HN : Hid (fN u = mm * 2 ^ d ∧ fD u = 1 ∧ RS (mm * 2 ^ d) ∧ RS (1) ∧ 0 < 1 ∧ mm < 18446744073709551616 ∧ d ≤ 16777216) := ⟨hN, hD, by rw [← hN]; exact ⟨P_up (fN_lt hu) (by omega)⟩, by rw [← hD]; exact ⟨P_up (fD_lt u) (by omega)⟩, by rw [← hD]; exact fD_pos u, by omega, by omega⟩
  obtain ⟨f, hf⟩ : ∃ f, f = E - 1 := ⟨_, rfl⟩
  have p4 : 0 < E := h3
  have q4 : IntKind.u64.wrap ((m : Int) + 4503599627370496) = (mm : Int) := by rw [IntKind.wrap_u64]; omega
  have n5 : 1074 ≤ f := by omega
  have n6 : decide ((1074 : Int) ≤ (f : Int)) = true := decide_eq_true (by omega)
  obtain ⟨q1, q2⟩ : wrap64 ((E : Int) - 1) = (f : Int) ∧ wrap64 ((f : Int) - 1074) = (d : Int) := ⟨w64_at (by omega) (by omega) (by omega), w64_at (by omega) (by omega) (by omega)⟩
  rw [HN.out.1, HN.out.2.1]
  clear h hu hE hN hD hT hd hm5 h3 h4 hm hf
  obtain ⟨r2, r3, r5, r6, r7, r8, r9⟩ := RR.out
  have S1 : Hid _ := (sy_start w).box (.slice none 0 0) (.slice none 0 0) 27 _ rfl
  go_enter Tryz.func39, Tryz.ntmps39
  go_wp2_with fail
  refine (of_any mm _ HN.out.2.2.2.2.2.1).mono ?_
  rintro e w2 ⟨v2, rfl, hv2, hb2⟩
  obtain ⟨a1, n1, c1, rfl⟩ := hv2.isAgg
  have S2 : Hid _ := (S1.out.go hb2).addN hv2
  clear hv2 hb2 S1
  go_wp2_with fail
  refine (of_any 1 _ (by omega)).mono ?_
  rintro e w3 ⟨v3, rfl, hv3, hb3⟩
  obtain ⟨a2, n2, c2, rfl⟩ := hv3.isAgg
  have HL : Hid (w.heap.size < w3.heap.size) := (S2.out.go hb3).lt w.heap.size
  have S3 : Hid _ := (((S2.out.go hb3).addN hv3).box1 (.slice a1 n1 c1) 25 _ rfl).box1 (.slice a2 n2 c2) 25 _ rfl
  simp only [World.size_alloc] at S3
  clear hv3 hb3 S2
  go_wp2_with fail
  obtain ⟨g, hg⟩ : ∃ g, g = w3.heap.size := ⟨_, rfl⟩
  obtain ⟨b, hb⟩ : ∃ b, b = w.heap.size := ⟨_, rfl⟩
  obtain ⟨w4, hw4⟩ : ∃ w4, w4 = (w3.alloc (.cells #[.slice a1 n1 c1] 25)).alloc (.cells #[.slice a2 n2 c2] 25) := ⟨_, rfl⟩
  rw [← hw4, ← hg, ← hb] at S3
  rw [← hw4, ← hg, ← hb]
  have HG : Hid (b < g) := by rw [hg, hb]; exact HL
  clear hw4 hg hb HL
  refine (left_yes _ mm d _ (S3.out.at (.agg #[.slice a1 n1 c1]) mm) (rs_word (by have := HN.out.2.2.2.2.2.1; omega)).fits HN.out.2.2.2.2.2.2).mono ?_
  rintro e w5 ⟨v5, rfl, hv5, hb5⟩
  obtain ⟨a5, n5', c5, rfl⟩ := hv5.isAgg
  have S5 : Hid _ := (S3.out.go hb5).addN hv5
  clear hv5 hb5 S3
  have k1 := S5.out.cel (g) 0 (.slice a1 n1 c1)
  have f1 := S5.out.fz (g) 0
  have S6 : Hid _ := (S5.out.set (b := g) (i := 0) k1 (S5.out.lo (g)) [(g + 1, 0, .slice a2 n2 c2), (b, 0, .slice none 0 0), (b, 1, .slice none 0 0)] (by have := HG.out; simp; omega) (.slice a5 n5' c5)).addC (b := g) (i := 0) (v := .slice a5 n5' c5) (by simp [go_sem, k1])
  have k3 : (w5.setCell ⟨g, 0, none⟩ (.slice a5 n5' c5)).cell? ⟨g + 1, 0, none⟩ = some (.slice a2 n2 c2) := S6.out.cel (g + 1) 0 (.slice a2 n2 c2)
  have k4 : (w5.setCell ⟨g, 0, none⟩ (.slice a5 n5' c5)).cell? ⟨g, 0, none⟩ = some (.slice a5 n5' c5) := S6.out.cel (g) 0 (.slice a5 n5' c5)
  go_wp2_with fail
  obtain ⟨w6, hw6⟩ : ∃ w6, w6 = w5.setCell ⟨g, 0, none⟩ (.slice a5 n5' c5) := ⟨_, rfl⟩
  rw [← hw6] at S6
  rw [← hw6]
  clear hw6 k1 k3 k4 f1 S5
  have NV := S6.out.at (.agg #[.slice a5 n5' c5]) (mm * 2 ^ d)
  have HNV : Hid _ := NV
  clear NV
  refine (from_any _ _ (mm * 2 ^ d) (1) _ (HNV.out) (S6.out.at (.agg #[.slice a2 n2 c2]) 1) HN.out.2.2.1 HN.out.2.2.2.1 HN.out.2.2.2.2.1 (HT.out.go S6.out.bel)).mono ?_
  rintro e w7 ⟨v7, rfl, hv7, hb7⟩
  have hv7' := hv7
  obtain ⟨a7, n7, c7, d7, m7, g7, ev7, _, _⟩ := hv7'.raw
  subst ev7
  have S7 : Hid _ := ((S6.out.go hb7).addF hv7).go (w' := w7.alloc (.cells #[.slice a7 n7 c7, .slice d7 m7 g7] 27)) (bel_al (bel_refl _))
  have q0 : (w7.alloc (.cells #[.slice a7 n7 c7, .slice d7 m7 g7] 27)).cell? ⟨w7.heap.size, 0, none⟩ = some (.slice a7 n7 c7) := by simp [go_sem]
  have q1' : (w7.alloc (.cells #[.slice a7 n7 c7, .slice d7 m7 g7] 27)).cell? ⟨w7.heap.size, 1, none⟩ = some (.slice d7 m7 g7) := by simp [go_sem]
  clear hv7 hv7' hb7 S6
  have z0 := S7.out.cel b 0 (.slice none 0 0)
  have z1 := S7.out.cel b 1 (.slice none 0 0)
  have y0 := S7.out.fz b 0
  have y1 := S7.out.fz b 1
  have Z : Hid _ := rat_put (w0 := w) (v := .slice a7 n7 c7) (u := .slice d7 m7 g7) z0 z1 (S7.out.fr (.agg #[.slice a7 n7 c7, .slice d7 m7 g7]) ((mm * 2 ^ d) / Nat.gcd (mm * 2 ^ d) (1)) ((1) / Nat.gcd (mm * 2 ^ d) (1))) S7.out.bel (S7.out.lo b)
  go_wp2_with fail
  exact bodyPost_ret (v := .agg #[.slice a7 n7 c7, .slice d7 m7 g7]) (by simp [results, Tryz.results39, go_sem, z0, z1]) rfl ⟨_, rfl, Z.out.1, Z.out.2⟩
theorem value3_any (u : Nat) (w : World) (hu : u < 9218868437227405312) (hT : Tab w) : Calls Tryz.prog 39 #[.int .u64 (u : Int)] w (MakesR w (fN u / Nat.gcd (fN u) (fD u)) (fD u / Nat.gcd (fN u) (fD u))) := by
  obtain ⟨x0, E, m, t, s, h⟩ := fl_of u (by omega)
  have h' := h
  obtain ⟨h0, hx, hE, hm, ht, hs⟩ := h'
  have hE2 : E = u / 4503599627370496 := by omega
  have hE3 : E < 2047 := by omega
  by_cases c3 : E = 0
  · refine value3_zero u x0 E m t s w h hu hE3 c3 (by omega) hT ?_ ?_
    · unfold fN fm fe
      rw [← hE2, if_pos c3, ← hm, c3]
    · exact ⟨1074 - (E - 1), by omega, by unfold fD fe; rw [← hE2]⟩
  · by_cases c4 : E - 1 < 1074
    · refine value3_low u x0 E m t s _ w h hu hE3 (by omega) c4 rfl (by omega) hT ?_ ?_
      · unfold fN fm fe
        rw [← hE2, if_neg c3, ← hm, show E - 1 - 1074 = 0 by omega]
      · unfold fD fe
        rw [← hE2]
    · refine value3_high u x0 E m t s _ w h hu hE3 (by omega) c4 rfl (by omega) hT ?_ ?_
      · unfold fN fm fe
        rw [← hE2, if_neg c3, ← hm]
      · unfold fD fe
        rw [← hE2, show 1074 - (E - 1) = 0 by omega]
end Go.Proofs.YtpeimefangpnaaaGreatDoor

