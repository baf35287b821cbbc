/- Contracts of the program's functions, part 22: own work, joined in build order. -/
import Derived.Test.YtmiiaomdenpceaaGreatDoorJ21
import Derived.Laws.Bits64b
namespace Go.Proofs.YtmiiaomdenpceaaGreatDoor
open Go.RowKit
set_option maxRecDepth 100000
set_option linter.unusedVariables false
/-- How many digits p has more than q. -/
def szI (p q : Nat) : Int := (bitLen p : Int) - (bitLen q : Int)
def tfB (p q : Nat) : Nat := bitsAt p q (flI p q (szI p q))
/-- The bits of the number near of p / q; is there one? -/
def tfV (p q : Nat) : Nat := if p = 0 then 0 else if tfB p q < 9218868437227405312 then tfB p q else 0
def tfOk (p q : Nat) : Bool := decide (p = 0) || decide (tfB p q < 9218868437227405312)
theorem sz_at {p q : Nat} (hp : 0 < p) (hq : 0 < q) : At p q (flI p q (szI p q)) := by
  obtain ⟨h1, h2⟩ := bitLen_spec p
  obtain ⟨k1, k2⟩ := bitLen_spec q
  have p1 := bitLen_pos hp
  have q1 := bitLen_pos hq
  have := flI_at (p := p) (q := q) (a := bitLen p - 1) (b := bitLen q - 1) (h2 (by omega)) (by rw [show bitLen p - 1 + 1 = bitLen p by omega]; exact h1) (k2 (by omega)) (by rw [show bitLen q - 1 + 1 = bitLen q by omega]; exact k1)
  rw [show ((bitLen p - 1 : Nat) : Int) - ((bitLen q - 1 : Nat) : Int) = szI p q by unfold szI; omega] at this
  exact this
theorem flI_le (p q : Nat) (s : Int) : flI p q s ≤ s ∧ s - 1 ≤ flI p q s := by unfold flI; split <;> omega
theorem tf_low {p q : Nat} (hp : 0 < p) (hq : 0 < q) (h : szI p q < -1075) : tfV p q = 0 ∧ tfOk p q = true := by
  have h1 := (sz_at hp hq).bits_low hq (by have := (flI_le p q (szI p q)).1; omega)
  unfold tfV tfOk tfB
  rw [h1]
  simp
theorem tf_high {p q : Nat} (hp : 0 < p) (hq : 0 < q) (h : 1024 < szI p q) : tfV p q = 0 ∧ tfOk p q = false := by
  have h1 := (sz_at hp hq).high hq (by have := (flI_le p q (szI p q)).2; omega)
  unfold tfV tfOk tfB
  rw [if_neg (by omega), if_neg (by omega)]
  simp
  omega
theorem tf_over {p q : Nat} (hp : 0 < p) (h : ¬ tfB p q < 9218868437227405312) : tfV p q = 0 ∧ tfOk p q = false := by
  unfold tfV tfOk
  rw [if_neg (by omega), if_neg h]
  simp
  omega
theorem tf_in {p q : Nat} (hp : 0 < p) (h : tfB p q < 9218868437227405312) : tfV p q = tfB p q ∧ tfOk p q = true := by
  unfold tfV tfOk
  rw [if_neg (by omega), if_pos h]
  simp [h]
/-- What both calls of inUnits tell. -/
theorem inUnits_any (v u : Value) (p q : Nat) (s : Int) (w : World) (h : IsNat w v p) (k : IsNat w u q) (hp : Fits p) (hq : Fits q) (h1 : -16777216 ≤ s) (h2 : s ≤ 16777216) :
    Calls Tryz.prog 44 #[v, u, .int .i64 s] w (Makes2N w (upN p s) (dnN q s)) := by
  unfold upN dnN
  by_cases hs : s < 0
  · have := inUnits_neg v u p q (-s).toNat s w h k hp (by omega) (by omega) (by omega)
    rw [show s.toNat = 0 by omega, Nat.pow_zero, Nat.mul_one]
    exact this
  · have := inUnits_pos v u p q s.toNat s w h k hq (by omega) (by omega)
    rw [show (-s).toNat = 0 by omega, Nat.pow_zero, Nat.mul_one]
    exact this
theorem up_P {p n m : Nat} {s : Int} (h : p < P n) (hs : -64 * (m : Int) < s) (hm : 0 < m) : upN p s < P (n + m) := by
  unfold upN
  rw [P_add]
  exact Nat.mul_lt_mul'' h (by rw [P_two]; exact Nat.pow_lt_pow_right (by omega) (by omega))
theorem dn_P {p n m : Nat} {s : Int} (h : p < P n) (hs : s < 64 * (m : Int)) (hm : 0 < m) : dnN p s < P (n + m) := by
  unfold dnN
  rw [P_add]
  exact Nat.mul_lt_mul'' h (by rw [P_two]; exact Nat.pow_lt_pow_right (by omega) (by omega))
theorem tf_rules {u : Int} {x y ct B : Nat} (hx : x = (u + 1074).toNat) (hy : y = x * 4503599627370496) (hB : y + ct = B) (h1 : -1074 ≤ u) (h2 : x ≤ 2046) (h3 : ct ≤ 9007199254740992) :
    wrap64 (u + 1074) = (x : Int) ∧ IntKind.u64.wrap (x : Int) = (x : Int) ∧ IntKind.u64.wrap ((x : Int) * 4503599627370496) = (y : Int) ∧ IntKind.u64.wrap ((y : Int) + (ct : Int)) = (B : Int) :=
  ⟨by rw [IntWalk.wrap64_in _ ⟨by omega, by omega⟩]; omega, by rw [IntKind.wrap_u64]; omega, by rw [IntKind.wrap_u64]; omega, by rw [IntKind.wrap_u64]; omega⟩
set_option maxHeartbeats 8000000 in
theorem toFloat_any (v : Value) (p q : Nat) (w : World) (h : Rt w v p q) (hp : RS p) (hq : RS q) (hq0 : 0 < q) :
    Calls Tryz.prog 9 #[v] w fun e w' => e = .returned (.tuple #[.float .f64 (tfV p q), .bool (tfOk p q)]) ∧ Below w.heap.size w w' := by
  have h' := h
  obtain ⟨a, n, c, a', n', c', e0, _, _⟩ := h'.raw
  subst e0
  have S1 : Hid _ := ((sy_start w).addF h).box (.slice a n c) (.slice a' n' c') 28 _ rfl
  obtain ⟨s, hs⟩ : ∃ s : Int, s = szI p q := ⟨_, rfl⟩
  have lp : bitLen p ≤ 5760 := bitLen_P hp.lt
  have lq : bitLen q ≤ 5760 := bitLen_P hq.lt
  have m1 : IntKind.i64.wrap ((bitLen p : Int) - (bitLen q : Int)) = s := by rw [IntKind.wrap_i64, hs]; unfold szI; omega
  have HS : Hid (s = szI p q ∧ -5760 ≤ s ∧ s ≤ 5760) := ⟨hs, by rw [hs]; unfold szI; omega, by rw [hs]; unfold szI; omega⟩
  have HH : Hid (RS p ∧ RS q ∧ 0 < q) := ⟨hp, hq, hq0⟩
  have HL : Hid (p ≠ 0 → 0 < bitLen p) := fun hh => bitLen_pos (by omega)
  clear h h' hp hq hq0 hs
  go_enter Tryz.func9, Tryz.ntmps9
  go_wp2_with fail
  refine (parts_any _ p q _ (S1.out.fr (.agg #[.slice a n c, .slice a' n' c']) p q) HH.out.2.1.fits).mono ?_
  rintro e w1 ⟨v1, u1, rfl, hv1, hu1, hb1⟩
  obtain ⟨a1, n1, c1, rfl⟩ := hv1.isAgg
  obtain ⟨a2, n2, c2, rfl⟩ := hu1.isAgg
  have S2 : Hid _ := ((((S1.out.go hb1).addN hv1).addN hu1).box1 (.slice a1 n1 c1) 26 _ rfl).box1 (.slice a2 n2 c2) 26 _ rfl
  simp only [World.size_alloc] at S2
  clear hv1 hu1 hb1 S1
  go_wp2_with fail
  obtain ⟨w2, hw2⟩ : ∃ w2, w2 = (w1.alloc (.cells #[.slice a1 n1 c1] 26)).alloc (.cells #[.slice a2 n2 c2] 26) := ⟨_, rfl⟩
  obtain ⟨g, hg⟩ : ∃ g, g = w1.heap.size := ⟨_, rfl⟩
  rw [← hw2, ← hg] at S2
  rw [← hw2, ← hg]
  clear hw2 hg
  refine wp_region_inv (JB w2 [sNat (p), sEq (.int .i64 ((bitLen p : Nat) : Int)), sNat (q), sEq (.int .i64 ((bitLen q : Nat) : Int)), sEq (.int .i64 s), sEq (.int .i64 s)] []) 71 (by kernel_rfl) rfl (by kernel_rfl) (JB.start _ _ _) (fun HG HN => ⟨?_, ?_, ?_, ?_, ?_, ?_, trivial⟩) ?_
  · intro L vs a w' hJ hF hP hL
    have q4 : (a.tmps[4]?).getD undef = .pointer (some ⟨g, 0, none⟩) := hF.old 4 rfl
    have cb := cell_later hJ.bel (S2.out.cell (g) (.slice a1 n1 c1))
    exact run_val (v := .agg #[.slice a1 n1 c1]) rfl (by simp [execOp, go_sem, q4, cb]) ⟨_, rfl, hJ.step hL rfl (Below.refl _ _) (by exact ((S2.out.at (.agg #[.slice a1 n1 c1]) (p)).mono hJ.bel))⟩
  · intro L vs a w' hJ hF hP hL
    have p0 : L 0 = true := hP ⟨0, .data⟩ (by simp) rfl
    have s0 : IsNat w' (vs 0) (p) := hJ.sp 0 p0
    have q18 := hF.slot 0 18 rfl p0
    refine run_call (f := 43) (args := #[vs 0]) rfl (by simp [go_sem, q18]) (len_any _ p _ s0 HH.out.1.fits) ?_
    rintro e w2 ⟨rfl, hb⟩
    exact ⟨_, rfl, _, rfl, hJ.step hL rfl hb (by exact rfl)⟩
  · intro L vs a w' hJ hF hP hL
    have q5 : (a.tmps[5]?).getD undef = .pointer (some ⟨g + 1, 0, none⟩) := hF.old 5 rfl
    have cb := cell_later hJ.bel (S2.out.cell (g + 1) (.slice a2 n2 c2))
    exact run_val (v := .agg #[.slice a2 n2 c2]) rfl (by simp [execOp, go_sem, q5, cb]) ⟨_, rfl, hJ.step hL rfl (Below.refl _ _) (by exact ((S2.out.at (.agg #[.slice a2 n2 c2]) (q)).mono hJ.bel))⟩
  · intro L vs a w' hJ hF hP hL
    have p2 : L 2 = true := hP ⟨2, .data⟩ (by simp) rfl
    have s2 : IsNat w' (vs 2) (q) := hJ.sp 2 p2
    have q20 := hF.slot 2 20 rfl p2
    refine run_call (f := 43) (args := #[vs 2]) rfl (by simp [go_sem, q20]) (len_any _ q _ s2 HH.out.2.1.fits) ?_
    rintro e w2 ⟨rfl, hb⟩
    exact ⟨_, rfl, _, rfl, hJ.step hL rfl hb (by exact rfl)⟩
  · intro L vs a w' hJ hF hP hL
    have p1 : L 1 = true := hP ⟨1, .data⟩ (by simp) rfl
    have s1 : vs 1 = .int .i64 ((bitLen p : Nat) : Int) := hJ.sp 1 p1
    have q19 := hF.slot 1 19 rfl p1
    have p3 : L 3 = true := hP ⟨3, .data⟩ (by simp) rfl
    have s3 : vs 3 = .int .i64 ((bitLen q : Nat) : Int) := hJ.sp 3 p3
    have q21 := hF.slot 3 21 rfl p3
    exact run_val (v := .int .i64 s) rfl (by simp [execOp, go_sem, q19, s1, q21, s3, m1]) ⟨_, rfl, hJ.step hL rfl (Below.refl _ _) (by exact rfl)⟩
  · intro L vs a w' hJ hF hP hL
    have p4 : L 4 = true := hP ⟨4, .data⟩ (by simp) rfl
    have s4 : vs 4 = .int .i64 s := hJ.sp 4 p4
    have q22 := hF.slot 4 22 rfl p4
    exact run_val (v := .int .i64 s) rfl (by simp [execOp, go_sem, q22, s4]) ⟨_, rfl, hJ.step hL rfl (Below.refl _ _) (by exact rfl)⟩
  intro L vs w' hA hJ
  have s5 : vs 5 = .int .i64 s := hJ.sp 5 (hA 5 (by simp))
  simp only [putL, Act.put, List.setIfInBounds_toArray, List.set_cons_zero, List.set_cons_succ, Nat.reduceAdd]
  simp only [s5]
  obtain ⟨w3, ew3⟩ : ∃ w3, w3 = w' := ⟨_, rfl⟩
  have S3 : Hid _ := S2.out.go (ew3 ▸ hJ.bel : Below w2.heap.size w2 w3)
  rw [← ew3]
  clear ew3 hJ hA s5 S2 m1 lp lq
  have k1 := S3.out.cel g 0 (.slice a1 n1 c1)
  go_wp2_with fail
  refine (len_any _ p _ (S3.out.at (.agg #[.slice a1 n1 c1]) p) HH.out.1.fits).mono ?_
  rintro e w4 ⟨rfl, hb4⟩
  have S4 : Hid _ := S3.out.go hb4
  clear hb4 S3 k1
  by_cases h0 : p = 0
  · have t1 : bitLen p = 0 := by rw [h0]; exact bitLen_zero
    have HV : Hid (tfV p q = 0 ∧ tfOk p q = true) := by constructor <;> simp [tfV, tfOk, h0]
    rw [t1]
    clear h0 t1
    go_wp2_with fail
    exact bodyPost_ret (v := .tuple #[.float .f64 (0), .bool true]) (by simp [results, Tryz.results9, go_sem]) rfl ⟨by rw [HV.out.1, HV.out.2], S4.out.bel⟩
  · obtain ⟨l, hl⟩ : ∃ l, bitLen p = l := ⟨_, rfl⟩
    rw [hl]
    have t1 : ((l : Int) == 0) = false := by have := HL.out h0; simp; omega
    have t2 : decide ((l : Int) = 0) = false := by have := HL.out h0; exact decide_eq_false (by omega)
    have HP : Hid (0 < p) := by show _ < _; omega
    clear h0 hl HL
    by_cases h1 : s < -1075
    · have t3 : decide (s < -1075) = true := decide_eq_true h1
      have HV : Hid (tfV p q = 0 ∧ tfOk p q = true) := tf_low HP.out HH.out.2.2 (by rw [← HS.out.1]; exact h1)
      clear h1
      go_wp2_with fail
      exact bodyPost_ret (v := .tuple #[.float .f64 (0), .bool true]) (by simp [results, Tryz.results9, go_sem]) rfl ⟨by rw [HV.out.1, HV.out.2], S4.out.bel⟩
    · have t3 : decide (s < -1075) = false := decide_eq_false h1
      by_cases h2 : 1024 < s
      · have t4 : decide (1024 < s) = true := decide_eq_true h2
        have HV : Hid (tfV p q = 0 ∧ tfOk p q = false) := tf_high HP.out HH.out.2.2 (by rw [← HS.out.1]; exact h2)
        clear h1 h2
        go_wp2_with fail
        exact bodyPost_ret (v := .tuple #[.float .f64 (0), .bool false]) (by simp [results, Tryz.results9, go_sem]) rfl ⟨by rw [HV.out.1, HV.out.2], S4.out.bel⟩
      · have t4 : decide (1024 < s) = false := decide_eq_false h2
        have HB : Hid (-1075 ≤ s ∧ s ≤ 1024) := ⟨by omega, by omega⟩
        have k1 := S4.out.cel g 0 (.slice a1 n1 c1)
        have k2 := S4.out.cel (g + 1) 0 (.slice a2 n2 c2)
        clear h1 h2
        go_wp2_with fail
        refine (inUnits_any _ _ p q s _ (S4.out.at (.agg #[.slice a1 n1 c1]) p) (S4.out.at (.agg #[.slice a2 n2 c2]) q) HH.out.1.fits HH.out.2.1.fits (by have := HB.out; omega) (by have := HB.out; omega)).mono ?_
        rintro e w5 ⟨v5, u5, rfl, hv5, hu5, hb5⟩
        obtain ⟨a5, n5, c5, rfl⟩ := hv5.isAgg
        obtain ⟨a6, n6, c6, rfl⟩ := hu5.isAgg
        have S5 : Hid _ := ((((S4.out.go hb5).addN hv5).addN hu5).box1 (.slice a5 n5 c5) 26 _ rfl).box1 (.slice a6 n6 c6) 26 _ rfl
        simp only [World.size_alloc] at S5
        clear hv5 hu5 hb5 S4 k1 k2
        go_wp2_with fail
        obtain ⟨w6, hw6⟩ : ∃ w6, w6 = (w5.alloc (.cells #[.slice a5 n5 c5] 26)).alloc (.cells #[.slice a6 n6 c6] 26) := ⟨_, rfl⟩
        rw [← hw6] at S5
        rw [← hw6]
        clear hw6
        obtain ⟨z, hz⟩ : ∃ z, cmpI (upN p s) (dnN q s) = z := ⟨_, rfl⟩
        obtain ⟨f, hf⟩ : ∃ f : Int, f = flI p q s := ⟨_, rfl⟩
        obtain ⟨u, hu⟩ : ∃ u : Int, u = unI f := ⟨_, rfl⟩
        have HF : Hid (f = flI p q s ∧ u = unI f ∧ (z < 0 ↔ upN p s < dnN q s) ∧ cmpI (upN p s) (dnN q s) = z) := ⟨hf, hu, by rw [← hz]; unfold cmpI; split <;> (try split) <;> omega, hz⟩
        have SU : Hid (upN p s < P 107 ∧ dnN q s < P 107) := ⟨up_P (n := 90) (m := 17) HH.out.1.lt (by have := HB.out; omega) (by omega), dn_P (n := 90) (m := 17) HH.out.2.1.lt (by have := HB.out; omega) (by omega)⟩
        clear hz hf hu
        refine (cmp_z _ _ (upN p s) (dnN q s) z _ (S5.out.at (.agg #[.slice a5 n5 c5]) (upN p s)) (S5.out.at (.agg #[.slice a6 n6 c6]) (dnN q s)) (fits_P SU.out.1 (by omega)) (fits_P SU.out.2 (by omega)) HF.out.2.2.2).mono ?_
        rintro e w7 ⟨rfl, hb7⟩
        have S7 : Hid _ := S5.out.go hb7
        clear hb7 S5 SU
        have hAt := sz_at HP.out HH.out.2.2
        rw [← HS.out.1, ← HF.out.1] at hAt
        have hfb := flI_le p q s
        rw [← HF.out.1] at hfb
        have hub : -1074 ≤ u ∧ u ≤ 972 := by rw [HF.out.2.1]; have := HB.out; unfold unI; split <;> omega
        have hct := hAt.ct HH.out.2.2
        rw [← HF.out.2.1] at hct
        obtain ⟨ct, ect⟩ : ∃ ct, ct = ctN p q u := ⟨_, rfl⟩
        rw [← ect] at hct
        obtain ⟨B, hB⟩ : ∃ B : Nat, B = (u + 1074).toNat * 4503599627370496 + ct := ⟨_, rfl⟩
        have hTB : tfB p q = B := by unfold tfB bitsAt; rw [← HS.out.1, ← HF.out.1, ← HF.out.2.1, ← ect, ← hB]
        have k1 := S7.out.cel g 0 (.slice a1 n1 c1)
        have k2 := S7.out.cel (g + 1) 0 (.slice a2 n2 c2)
        have g1 : wrap64 (f - 52) = f - 52 := IntWalk.wrap64_in _ ⟨by have := HB.out; omega, by have := HB.out; omega⟩
        have g2 : (if f - 52 < -1074 then (-1074 : Int) else f - 52) = u := by rw [HF.out.2.1]; rfl
        have g3 : max (f - 52) (-1074) = u := by rw [HF.out.2.1]; unfold unI; split <;> omega
        obtain ⟨x, hx⟩ : ∃ x : Nat, x = (u + 1074).toNat := ⟨_, rfl⟩
        obtain ⟨y, hy⟩ : ∃ y : Nat, y = x * 4503599627370496 := ⟨_, rfl⟩
        have hyB : y + ct = B := by rw [hB, ← hx, hy]
        have hx2 : x ≤ 2046 := by omega
        have hyl : y ≤ 9214364837600034816 := by omega
        obtain ⟨g4, g5, g6, g8⟩ := tf_rules (u := u) hx hy hyB hub.1 hx2 hct
        have HC : Hid (ct < 18446744073709551616 ∧ upN p u < P 107 ∧ dnN q u < P 107 ∧ 0 < dnN q u ∧ -16777216 ≤ u ∧ u ≤ 16777216 ∧ ct = nearN (upN p u) (dnN q u) ∧ tfB p q = B) := ⟨by omega, up_P (n := 90) (m := 17) HH.out.1.lt (by omega) (by omega), dn_P (n := 90) (m := 17) HH.out.2.1.lt (by omega) (by omega), dnN_pos HH.out.2.2 u, by omega, by omega, ect, hTB⟩
        have HG : Hid (wrap64 (f - 52) = f - 52) := g1
        clear hAt hfb hub hct ect hTB hx hx2 hB g1 hy hyB hyl
        by_cases h3 : z < 0
        · have t5 : decide (z < 0) = true := decide_eq_true h3
          have t6 : wrap64 (s - 1) = f := by rw [IntWalk.wrap64_in _ ⟨by have := HB.out; omega, by have := HB.out; omega⟩, HF.out.1]; unfold flI; rw [if_pos (HF.out.2.2.1.1 h3)]
          have g1 := HG.out
          clear h3
          go_wp2_with fail
          refine (inUnits_any _ _ p q u _ (S7.out.at (.agg #[.slice a1 n1 c1]) p) (S7.out.at (.agg #[.slice a2 n2 c2]) q) HH.out.1.fits HH.out.2.1.fits HC.out.2.2.2.2.1 HC.out.2.2.2.2.2.1).mono ?_
          rintro e w8 ⟨v8, u8, rfl, hv8, hu8, hb8⟩
          have S8 : Hid _ := (((S7.out.go hb8).addN hv8).addN hu8)
          clear hv8 hu8 hb8 S7 k1 k2
          go_wp2_with fail
          refine (nearest_any v8 u8 (upN p u) (dnN q u) _ (S8.out.at v8 (upN p u)) (S8.out.at u8 (dnN q u)) (P_up HC.out.2.1 (by omega)) (P_up HC.out.2.2.1 (by omega)) HC.out.2.2.2.1).mono ?_
          rintro e w9 ⟨v9, rfl, hv9, hb9⟩
          rw [← HC.out.2.2.2.2.2.2.1] at hv9
          have S9 : Hid _ := (S8.out.go hb9).addN hv9
          clear hv9 hb9 S8
          go_wp2_with fail
          refine (uint_yes v9 ct _ (S9.out.at v9 ct) HC.out.1).mono ?_
          rintro e w10 ⟨rfl, hb10⟩
          have S10 : Hid _ := S9.out.go hb10
          clear hb10 S9
          by_cases h3 : B < 9218868437227405312
          · have t5 : decide (9218868437227405312 ≤ B) = false := decide_eq_false (by omega)
            have t6 : decide ((9218868437227405312 : Int) ≤ (B : Int)) = false := decide_eq_false (by omega)
            have HV : Hid (tfV p q = B ∧ tfOk p q = true) := by have := tf_in (q := q) HP.out (by rw [HC.out.2.2.2.2.2.2.2]; exact h3); rw [HC.out.2.2.2.2.2.2.2] at this; exact this
            clear h3
            go_wp2_with fail
            refine (float_any B _).mono ?_
            rintro e w11 ⟨rfl, hw11⟩
            rw [hw11]
            clear hw11
            go_wp2_with fail
            exact bodyPost_ret (v := .tuple #[.float .f64 (B), .bool true]) (by simp [results, Tryz.results9, go_sem]) rfl ⟨by rw [HV.out.1, HV.out.2], S10.out.bel⟩
            
          · have t5 : decide (9218868437227405312 ≤ B) = true := decide_eq_true (by omega)
            have t6 : decide ((9218868437227405312 : Int) ≤ (B : Int)) = true := decide_eq_true (by omega)
            have HV : Hid (tfV p q = 0 ∧ tfOk p q = false) := tf_over HP.out (by rw [HC.out.2.2.2.2.2.2.2]; exact h3)
            clear h3
            go_wp2_with fail
            exact bodyPost_ret (v := .tuple #[.float .f64 (0), .bool false]) (by simp [results, Tryz.results9, go_sem]) rfl ⟨by rw [HV.out.1, HV.out.2], S10.out.bel⟩
            
        · have t5 : decide (z < 0) = false := decide_eq_false h3
          obtain rfl : f = s := by rw [HF.out.1]; unfold flI; rw [if_neg (fun hh => h3 (HF.out.2.2.1.2 hh))]
          have g1 := HG.out
          clear h3
          go_wp2_with fail
          refine (inUnits_any _ _ p q u _ (S7.out.at (.agg #[.slice a1 n1 c1]) p) (S7.out.at (.agg #[.slice a2 n2 c2]) q) HH.out.1.fits HH.out.2.1.fits HC.out.2.2.2.2.1 HC.out.2.2.2.2.2.1).mono ?_
          rintro e w8 ⟨v8, u8, rfl, hv8, hu8, hb8⟩
          have S8 : Hid _ := (((S7.out.go hb8).addN hv8).addN hu8)
          clear hv8 hu8 hb8 S7 k1 k2
          go_wp2_with fail
          refine (nearest_any v8 u8 (upN p u) (dnN q u) _ (S8.out.at v8 (upN p u)) (S8.out.at u8 (dnN q u)) (P_up HC.out.2.1 (by omega)) (P_up HC.out.2.2.1 (by omega)) HC.out.2.2.2.1).mono ?_
          rintro e w9 ⟨v9, rfl, hv9, hb9⟩
          rw [← HC.out.2.2.2.2.2.2.1] at hv9
          have S9 : Hid _ := (S8.out.go hb9).addN hv9
          clear hv9 hb9 S8
          go_wp2_with fail
          refine (uint_yes v9 ct _ (S9.out.at v9 ct) HC.out.1).mono ?_
          rintro e w10 ⟨rfl, hb10⟩
          have S10 : Hid _ := S9.out.go hb10
          clear hb10 S9
          by_cases h3 : B < 9218868437227405312
          · have t5 : decide (9218868437227405312 ≤ B) = false := decide_eq_false (by omega)
            have t6 : decide ((9218868437227405312 : Int) ≤ (B : Int)) = false := decide_eq_false (by omega)
            have HV : Hid (tfV p q = B ∧ tfOk p q = true) := by have := tf_in (q := q) HP.out (by rw [HC.out.2.2.2.2.2.2.2]; exact h3); rw [HC.out.2.2.2.2.2.2.2] at this; exact this
            clear h3
            go_wp2_with fail
            refine (float_any B _).mono ?_
            rintro e w11 ⟨rfl, hw11⟩
            rw [hw11]
            clear hw11
            go_wp2_with fail
            exact bodyPost_ret (v := .tuple #[.float .f64 (B), .bool true]) (by simp [results, Tryz.results9, go_sem]) rfl ⟨by rw [HV.out.1, HV.out.2], S10.out.bel⟩
            
          · have t5 : decide (9218868437227405312 ≤ B) = true := decide_eq_true (by omega)
            have t6 : decide ((9218868437227405312 : Int) ≤ (B : Int)) = true := decide_eq_true (by omega)
            have HV : Hid (tfV p q = 0 ∧ tfOk p q = false) := tf_over HP.out (by rw [HC.out.2.2.2.2.2.2.2]; exact h3)
            clear h3
            go_wp2_with fail
            exact bodyPost_ret (v := .tuple #[.float .f64 (0), .bool false]) (by simp [results, Tryz.results9, go_sem]) rfl ⟨by rw [HV.out.1, HV.out.2], S10.out.bel⟩
            
end Go.Proofs.YtmiiaomdenpceaaGreatDoor

namespace Go.Proofs.YtmiiaomdenpceaaGreatDoor
open Go.RowKit
set_option maxRecDepth 100000
set_option linter.unusedVariables false
end Go.Proofs.YtmiiaomdenpceaaGreatDoor

namespace Go.Proofs.YtmiiaomdenpceaaGreatDoor
open Go.RowKit
set_option maxRecDepth 100000
set_option linter.unusedVariables false
theorem and3_2047 (x : Nat) (h : x < 18446744073709551616) : bits .and .u64 (x : Int) 2047 = ((x % 2048 : Nat) : Int) := by
  have := bits_and_u64_nat x 2047 h (by omega)
  rw [show (2047 : Nat) = 2 ^ 11 - 1 from rfl, Nat.and_two_pow_sub_one_eq_mod] at this
  exact this
theorem and3_low52 (x : Nat) (h : x < 18446744073709551616) : bits .and .u64 (x : Int) 4503599627370495 = ((x % 4503599627370496 : Nat) : Int) := by
  have := bits_and_u64_nat x 4503599627370495 h (by omega)
  rw [show (4503599627370495 : Nat) = 2 ^ 52 - 1 from rfl, Nat.and_two_pow_sub_one_eq_mod] at this
  exact this
/-- What FromFloat looks at. -/
structure Flk (u x0 E m t s : Nat) : Prop where
  lt : u < 18446744073709551616
  x : x0 = u / 4503599627370496
  e : E = x0 % 2048
  m : m = u % 4503599627370496
  t : t = u / 9223372036854775808
  s : s = u * 2 % 18446744073709551616
theorem fl_of (u : Nat) (h : u < 18446744073709551616) : ∃ x0 E m t s, Flk u x0 E m t s := ⟨_, _, _, _, _, h, rfl, rfl, rfl, rfl, rfl⟩
structure Frl (u x0 E m t s : Nat) : Prop where
  r2 : (u : Int) / 4503599627370496 = (x0 : Int)
  r3 : bits .and .u64 (x0 : Int) 2047 = (E : Int)
  r5 : bits .and .u64 (u : Int) 4503599627370495 = (m : Int)
  r6 : (u : Int) / 9223372036854775808 = (t : Int)
  r7 : IntKind.u64.wrap ((u : Int) * 2) = (s : Int)
  r8 : wrap64 (E : Int) = (E : Int)
  r9 : IntKind.i64.wrap (E : Int) = (E : Int)
theorem Flk.rules {u x0 E m t s : Nat} (h : Flk u x0 E m t s) : Frl u x0 E m t s := by
  obtain ⟨h0, h1, h2, h3, h4, h5⟩ := h
  have hE : E < 2048 := by rw [h2]; exact Nat.mod_lt _ (by omega)
  refine ⟨by omega, ?_, ?_, by omega, by rw [IntKind.wrap_u64]; omega, IntWalk.wrap64_in _ ⟨by omega, by omega⟩, by rw [IntKind.wrap_i64]; omega⟩
  · rw [h2]; exact and3_2047 x0 (by omega)
  · rw [h3]; exact and3_low52 u h0
set_option maxHeartbeats 400000 in
theorem rfrom3_zero (u x0 E m t s : Nat) (w : World) (h : Flk u x0 E m t s) (h0 : s = 0) : Calls Tryz.prog 12 #[.int .u64 (u : Int)] w (MakesRRB w 0 1 true) := by
  have RR : Hid (Frl u x0 E m t s) := h.rules
  have d3 : decide (s = 0) = true := decide_eq_true h0
  have d3' : ((s : Int) == 0) = true := by simp; omega
  clear h0
  clear h
  obtain ⟨r2, r3, r5, r6, r7, r8, r9⟩ := RR.out
  go_enter Tryz.func12, Tryz.ntmps12
  go_wp2_with fail
  refine (rzero2_any _).mono ?_
  rintro e w1 ⟨v1, rfl, hv1, hb1⟩
  have hv' := hv1
  obtain ⟨a6, n6, c6, a7, n7, c7, ev, _, _⟩ := hv'
  subst ev
  have z0 : w1.cell? ⟨w.heap.size, 0, none⟩ = some (.slice none 0 0) := cell_later hb1 (by simp [go_sem])
  have z1 : w1.cell? ⟨w.heap.size, 1, none⟩ = some (.slice none 0 0) := cell_later hb1 (by simp [go_sem])
  have y0 : w1.frozen? ⟨w.heap.size, 0, none⟩ = false := (hb1.frozen (by simp)).trans (by simp [go_sem])
  have y1 : w1.frozen? ⟨w.heap.size, 1, none⟩ = false := (hb1.frozen (by simp)).trans (by simp [go_sem])
  have Z : Hid _ := rrat_put (v := .slice a6 n6 c6) (u := .slice a7 n7 c7) z0 z1 hv1 (bel_go (bel_al (bel_refl w)) hb1) (Nat.le_refl _)
  clear hv1 hb1
  go_wp2_with fail
  exact bodyPost_ret (v := .tuple #[.agg #[.slice a6 n6 c6, .slice a7 n7 c7], .bool true]) (by simp [results, Tryz.results12, go_sem, z0, z1]) rfl ⟨_, rfl, Z.out.1, Z.out.2⟩
set_option maxHeartbeats 400000 in
theorem rfrom3_bad1 (u x0 E m t s : Nat) (w : World) (h : Flk u x0 E m t s) (h0 : s ≠ 0) (h1 : E = 2047) : Calls Tryz.prog 12 #[.int .u64 (u : Int)] w (MakesRRB w 0 1 false) := by
  have RR : Hid (Frl u x0 E m t s) := h.rules
  have d3 : decide (s = 0) = false := decide_eq_false (by omega)
  have d3' : ((s : Int) == 0) = false := by simp; omega
  have d32 : ¬ s = 0 := by omega
  have d1 : decide (E = 2047) = true := decide_eq_true h1
  have d1' : ((E : Int) == 2047) = true := by simp; omega
  clear h1
  clear h
  obtain ⟨r2, r3, r5, r6, r7, r8, r9⟩ := RR.out
  go_enter Tryz.func12, Tryz.ntmps12
  go_wp2_with fail
  refine (rzero2_any _).mono ?_
  rintro e w1 ⟨v1, rfl, hv1, hb1⟩
  have hv' := hv1
  obtain ⟨a6, n6, c6, a7, n7, c7, ev, _, _⟩ := hv'
  subst ev
  have z0 : w1.cell? ⟨w.heap.size, 0, none⟩ = some (.slice none 0 0) := cell_later hb1 (by simp [go_sem])
  have z1 : w1.cell? ⟨w.heap.size, 1, none⟩ = some (.slice none 0 0) := cell_later hb1 (by simp [go_sem])
  have y0 : w1.frozen? ⟨w.heap.size, 0, none⟩ = false := (hb1.frozen (by simp)).trans (by simp [go_sem])
  have y1 : w1.frozen? ⟨w.heap.size, 1, none⟩ = false := (hb1.frozen (by simp)).trans (by simp [go_sem])
  have Z : Hid _ := rrat_put (v := .slice a6 n6 c6) (u := .slice a7 n7 c7) z0 z1 hv1 (bel_go (bel_al (bel_refl w)) hb1) (Nat.le_refl _)
  clear hv1 hb1
  go_wp2_with fail
  exact bodyPost_ret (v := .tuple #[.agg #[.slice a6 n6 c6, .slice a7 n7 c7], .bool false]) (by simp [results, Tryz.results12, go_sem, z0, z1]) rfl ⟨_, rfl, Z.out.1, Z.out.2⟩
set_option maxHeartbeats 400000 in
theorem rfrom3_bad2 (u x0 E m t s : Nat) (w : World) (h : Flk u x0 E m t s) (h0 : s ≠ 0) (h1 : E ≠ 2047) (h2 : t = 1) : Calls Tryz.prog 12 #[.int .u64 (u : Int)] w (MakesRRB w 0 1 false) := by
  have RR : Hid (Frl u x0 E m t s) := h.rules
  have d3 : decide (s = 0) = false := decide_eq_false (by omega)
  have d3' : ((s : Int) == 0) = false := by simp; omega
  have d32 : ¬ s = 0 := by omega
  have d1 : decide (E = 2047) = false := decide_eq_false (by omega)
  have d1' : ((E : Int) == 2047) = false := by simp; omega
  have d12 : ¬ E = 2047 := by omega
  have d2 : decide (t = 1) = true := decide_eq_true h2
  have d2' : ((t : Int) == 1) = true := by simp; omega
  clear h2
  clear h
  obtain ⟨r2, r3, r5, r6, r7, r8, r9⟩ := RR.out
  go_enter Tryz.func12, Tryz.ntmps12
  go_wp2_with fail
  refine (rzero2_any _).mono ?_
  rintro e w1 ⟨v1, rfl, hv1, hb1⟩
  have hv' := hv1
  obtain ⟨a6, n6, c6, a7, n7, c7, ev, _, _⟩ := hv'
  subst ev
  have z0 : w1.cell? ⟨w.heap.size, 0, none⟩ = some (.slice none 0 0) := cell_later hb1 (by simp [go_sem])
  have z1 : w1.cell? ⟨w.heap.size, 1, none⟩ = some (.slice none 0 0) := cell_later hb1 (by simp [go_sem])
  have y0 : w1.frozen? ⟨w.heap.size, 0, none⟩ = false := (hb1.frozen (by simp)).trans (by simp [go_sem])
  have y1 : w1.frozen? ⟨w.heap.size, 1, none⟩ = false := (hb1.frozen (by simp)).trans (by simp [go_sem])
  have Z : Hid _ := rrat_put (v := .slice a6 n6 c6) (u := .slice a7 n7 c7) z0 z1 hv1 (bel_go (bel_al (bel_refl w)) hb1) (Nat.le_refl _)
  clear hv1 hb1
  go_wp2_with fail
  exact bodyPost_ret (v := .tuple #[.agg #[.slice a6 n6 c6, .slice a7 n7 c7], .bool false]) (by simp [results, Tryz.results12, go_sem, z0, z1]) rfl ⟨_, rfl, Z.out.1, Z.out.2⟩
/-- What comes of it. -/
structure Fg (u mm : Nat) (z : Int) : Prop where
  mlt : mm < 9007199254740992
  lo : -1074 ≤ z
  hi : z ≤ 971
  eN : fN u = mm * 2 ^ z.toNat
  eD : fD u = 2 ^ (-z).toNat
theorem fg_of {u E m : Nat} (hE : E = u / 4503599627370496) (hm : m = u % 4503599627370496) (h : E < 2047) : Fg u (if E = 0 then m else m + 4503599627370496) ((if E = 0 then 0 else (E : Int) - 1) - 1074) := by
  refine ⟨by split <;> omega, by split <;> omega, by split <;> omega, ?_, ?_⟩
  · unfold fN fm fe
    rw [← hE, ← hm]
    congr 2
    split <;> omega
  · unfold fD fe
    rw [← hE]
    congr 1
    split <;> omega
theorem Fg.sN {u mm : Nat} {z : Int} (h : Fg u mm z) : RS (mm * 2 ^ z.toNat) := ⟨P_up (fN_gen (n := 17) (Nat.lt_of_lt_of_eq h.mlt (by decide)) (by have := h.hi; omega)) (by omega)⟩
theorem Fg.sD {u mm : Nat} {z : Int} (h : Fg u mm z) : RS (2 ^ (-z).toNat) := ⟨P_up (two_P (n := 17) (by have := h.lo; omega)) (by omega)⟩
theorem w64_at {x y : Int} (h1 : -9223372036854775808 ≤ x) (h2 : x ≤ 9223372036854775807) (h : x = y) : wrap64 x = y := by rw [IntWalk.wrap64_in _ ⟨h1, h2⟩, h]
theorem fl_rules {E f : Nat} {z : Int} (hf : f = E - 1) (hz : z = (E : Int) - 1 - 1074) (h3 : 0 < E) (h1 : -1074 ≤ z) (h2 : z ≤ 971) : wrap64 ((E : Int) - 1) = (f : Int) ∧ wrap64 ((f : Int) + -1074) = z ∧ wrap64 ((f : Int) - 1074) = z :=
  ⟨w64_at (by omega) (by omega) (by omega), w64_at (by omega) (by omega) (by omega), w64_at (by omega) (by omega) (by omega)⟩
set_option maxHeartbeats 400000 in
theorem rfrom3_sub (u x0 E m t s : Nat) (z : Int) (w : World) (h : Flk u x0 E m t s) (h0 : s ≠ 0) (h1 : E ≠ 2047) (h2 : t ≠ 1) (h3 : E = 0) (hg : Fg u m z) (hz : z = -1074) : Calls Tryz.prog 12 #[.int .u64 (u : Int)] w (MakesRRB w (fN u / Nat.gcd (fN u) (fD u)) (fD u / Nat.gcd (fN u) (fD u)) true) := by
  have RR : Hid (Frl u x0 E m t s) := h.rules
  have HG : Hid (Fg u m z) := hg
  obtain ⟨d, hd⟩ : ∃ d, d = (-z).toNat := ⟨_, rfl⟩
  have d3 : decide (s = 0) = false := decide_eq_false (by omega)
  have d3' : ((s : Int) == 0) = false := by simp; omega
  have d32 : ¬ s = 0 := by omega
  have d1 : decide (E = 2047) = false := decide_eq_false (by omega)
  have d1' : ((E : Int) == 2047) = false := by simp; omega
  have d12 : ¬ E = 2047 := by omega
  have d2 : decide (t = 1) = false := decide_eq_false (by omega)
  have d2' : ((t : Int) == 1) = false := by simp; omega
  have d22 : ¬ t = 1 := by omega
  have HN : Hid (fN u = m ∧ fD u = 2 ^ d ∧ RSome (m) ∧ RSome (2 ^ d) ∧ 0 < 2 ^ d) := by
    have a1 := hg.sN.rsome
    have a2 := hg.sD.rsome
    have e1 := hg.eN
    have e2 := hg.eD
    rw [show z.toNat = 0 by omega, Nat.pow_zero, Nat.mul_one] at a1 e1
    rw [← hd] at a2 e2
    exact ⟨e1, e2, a1, a2, Nat.two_pow_pos _⟩
  have e0 : (E : Int) = 0 := by omega
  have e74 : (d : Int) = 1074 := by omega
  have LF : Hid (∀ v w, RNat w v 1 → Calls Tryz.prog 18 #[v, .int .i64 1074] w (RMakes w (2 ^ d))) := fun v w h => by
    have := rleft_any v 1 d w h (rs_word (by omega)).rfits (by have := hg.lo; omega)
    rw [Nat.one_mul, e74] at this
    exact this
  rw [HN.out.1, HN.out.2.1]
  clear h hg hd h0 h1 h2 h3 hz e74
  obtain ⟨r2, r3, r5, r6, r7, r8, r9⟩ := RR.out
  have S1 : Hid _ := (sy_start w).box (.slice none 0 0) (.slice none 0 0) 32 _ rfl
  go_enter Tryz.func12, Tryz.ntmps12
  go_wp2_with fail
  refine (rof_any m _ (by have := HG.out.mlt; omega)).mono ?_
  rintro e w2 ⟨v2, rfl, hv2, hb2⟩
  obtain ⟨a1, n1, c1, rfl⟩ := hv2.isAgg
  have S2 : Hid _ := ((S1.out.go hb2).addM hv2).box1 (.slice a1 n1 c1) 30 _ rfl
  have BG : w.heap.size < w2.heap.size := (S1.out.go hb2).lt w.heap.size
  clear hv2 hb2 S1
  go_wp2_with fail
  obtain ⟨g, hg⟩ : ∃ g, g = w2.heap.size := ⟨_, rfl⟩
  obtain ⟨w3, hw3⟩ : ∃ w3, w3 = w2.alloc (.cells #[.slice a1 n1 c1] 30) := ⟨_, rfl⟩
  obtain ⟨b, hb⟩ : ∃ b, b = w.heap.size := ⟨_, rfl⟩
  have HBG : Hid (b < g) := by
    show b < g
    rw [hg, hb]
    exact BG
  rw [← hw3, ← hg, ← hb] at S2
  rw [← hw3, ← hg, ← hb]
  clear hw3 hg hb BG
  refine (rof_any 1 _ (by omega)).mono ?_
  rintro e w4 ⟨v4, rfl, hv4, hb4⟩
  obtain ⟨a2, n2, c2, rfl⟩ := hv4.isAgg
  have GH : g < w4.heap.size := (S2.out.go hb4).lt g
  have S3 : Hid _ := ((S2.out.go hb4).addM hv4).box1 (.slice a2 n2 c2) 30 _ rfl
  clear hv4 hb4 S2
  have k1 := S3.out.cel g 0 (.slice a1 n1 c1)
  have k2 : (w4.alloc (.cells #[.slice a2 n2 c2] 30)).cell? ⟨w4.heap.size, 0, none⟩ = some (.slice a2 n2 c2) := S3.out.cel w4.heap.size 0 (.slice a2 n2 c2)
  go_wp2_with fail
  obtain ⟨h, hh⟩ : ∃ h, h = w4.heap.size := ⟨_, rfl⟩
  obtain ⟨w5, hw5⟩ : ∃ w5, w5 = w4.alloc (.cells #[.slice a2 n2 c2] 30) := ⟨_, rfl⟩
  rw [← hw5, ← hh] at S3
  rw [← hw5, ← hh]
  have HGH : Hid (g < h) := by show g < h; rw [hh]; exact GH
  clear hw5 hh GH k1 k2
  refine (LF.out _ _ (S3.out.rat (.agg #[.slice a2 n2 c2]) 1)).mono ?_
  rintro e w6 ⟨v6, rfl, hv6, hb6⟩
  obtain ⟨a3, n3, c3, rfl⟩ := hv6.isAgg
  have S4 : Hid _ := (S3.out.go hb6).addM hv6
  clear hv6 hb6 S3
  have k1 := S4.out.cel h 0 (.slice a2 n2 c2)
  have k0 := S4.out.cel g 0 (.slice a1 n1 c1)
  have f1 := S4.out.fz h 0
  have S5 : Hid _ := (S4.out.set (b := h) (i := 0) k1 (S4.out.lo h) [(g, 0, .slice a1 n1 c1), (b, 0, .slice none 0 0), (b, 1, .slice none 0 0)] (by have := HBG.out; have := HGH.out; simp; omega) (.slice a3 n3 c3)).addC (b := h) (i := 0) (v := .slice a3 n3 c3) (by simp [go_sem, k1])
  have k3 : (w6.setCell ⟨h, 0, none⟩ (.slice a3 n3 c3)).cell? ⟨g, 0, none⟩ = some (.slice a1 n1 c1) := S5.out.cel g 0 (.slice a1 n1 c1)
  have k4 : (w6.setCell ⟨h, 0, none⟩ (.slice a3 n3 c3)).cell? ⟨h, 0, none⟩ = some (.slice a3 n3 c3) := S5.out.cel h 0 (.slice a3 n3 c3)
  go_wp2_with fail
  obtain ⟨w7, hw7⟩ : ∃ w7, w7 = w6.setCell ⟨h, 0, none⟩ (.slice a3 n3 c3) := ⟨_, rfl⟩
  rw [← hw7] at S5
  rw [← hw7]
  clear hw7 k0 k1 k3 k4 f1 S4
  refine (rfrom2_yes _ _ (m) (2 ^ d) _ (S5.out.rat (.agg #[.slice a1 n1 c1]) (m)) (S5.out.rat (.agg #[.slice a3 n3 c3]) (2 ^ d)) HN.out.2.2.1 HN.out.2.2.2.1 HN.out.2.2.2.2).mono ?_
  rintro e w8 ⟨v8, rfl, hv8, hb8⟩
  have hv' := hv8
  obtain ⟨a6, n6, c6, a7, n7, c7, ev, _, _⟩ := hv'
  subst ev
  have S6 : Hid _ := (S5.out.go hb8).addG hv8
  clear hv8 hb8 S5
  have z0 := S6.out.cel b 0 (.slice none 0 0)
  have z1 := S6.out.cel b 1 (.slice none 0 0)
  have y0 := S6.out.fz b 0
  have y1 := S6.out.fz b 1
  have Z : Hid _ := rrat_put (w0 := w) (v := .slice a6 n6 c6) (u := .slice a7 n7 c7) z0 z1 (S6.out.rfr (.agg #[.slice a6 n6 c6, .slice a7 n7 c7]) ((m) / Nat.gcd (m) (2 ^ d)) ((2 ^ d) / Nat.gcd (m) (2 ^ d))) S6.out.bel (S6.out.lo b)
  go_wp2_with fail
  exact bodyPost_ret (v := .tuple #[.agg #[.slice a6 n6 c6, .slice a7 n7 c7], .bool true]) (by simp [results, Tryz.results12, go_sem, z0, z1]) rfl ⟨_, rfl, Z.out.1, Z.out.2⟩
set_option maxHeartbeats 400000 in
theorem rfrom3_low (u x0 E m t s : Nat) (mm : Nat) (z : Int) (w : World) (h : Flk u x0 E m t s) (h0 : s ≠ 0) (h1 : E ≠ 2047) (h2 : t ≠ 1) (h3 : 0 < E) (h4 : ¬ 0 < z) (hg : Fg u mm z) (hm : m + 4503599627370496 = mm) (hz : z = (E : Int) - 1 - 1074) : Calls Tryz.prog 12 #[.int .u64 (u : Int)] w (MakesRRB w (fN u / Nat.gcd (fN u) (fD u)) (fD u / Nat.gcd (fN u) (fD u)) true) := by
  have RR : Hid (Frl u x0 E m t s) := h.rules
  have HG : Hid (Fg u mm z) := hg
  obtain ⟨d, hd⟩ : ∃ d, d = (-z).toNat := ⟨_, rfl⟩
  have d3 : decide (s = 0) = false := decide_eq_false (by omega)
  have d3' : ((s : Int) == 0) = false := by simp; omega
  have d32 : ¬ s = 0 := by omega
  have d1 : decide (E = 2047) = false := decide_eq_false (by omega)
  have d1' : ((E : Int) == 2047) = false := by simp; omega
  have d12 : ¬ E = 2047 := by omega
  have d2 : decide (t = 1) = false := decide_eq_false (by omega)
  have d2' : ((t : Int) == 1) = false := by simp; omega
  have d22 : ¬ t = 1 := by omega
  have HN : Hid (fN u = mm ∧ fD u = 2 ^ d ∧ RSome (mm) ∧ RSome (2 ^ d) ∧ 0 < 2 ^ d) := by
    have a1 := hg.sN.rsome
    have a2 := hg.sD.rsome
    have e1 := hg.eN
    have e2 := hg.eD
    rw [show z.toNat = 0 by omega, Nat.pow_zero, Nat.mul_one] at a1 e1
    rw [← hd] at a2 e2
    exact ⟨e1, e2, a1, a2, Nat.two_pow_pos _⟩
  have hzl := hg.lo
  have hzh := hg.hi
  obtain ⟨f, hf⟩ : ∃ f, f = E - 1 := ⟨_, rfl⟩
  have p4 : 0 < E := h3
  have q4 : IntKind.u64.wrap ((m : Int) + 4503599627370496) = (mm : Int) := by rw [IntKind.wrap_u64]; have := hg.mlt; omega
  obtain ⟨q1, q2, q3⟩ := fl_rules (E := E) hf hz h3 hzl hzh
  have n5 : ¬ 0 < z := h4
  have q5 : IntKind.i64.wrap (-z) = (d : Int) := by rw [IntKind.wrap_i64]; clear q1 q2 q3; omega
  have LF : Hid (∀ v w, RNat w v 1 → Calls Tryz.prog 18 #[v, .int .i64 (d : Int)] w (RMakes w (2 ^ d))) := fun v w h => by
    have := rleft_any v 1 d w h (rs_word (by omega)).rfits (by have := hg.lo; clear q1 q2 q3; omega)
    rw [Nat.one_mul] at this
    exact this
  rw [HN.out.1, HN.out.2.1]
  clear h hg hd h0 h1 h2 h3 h4 hm hz hf hzl hzh
  obtain ⟨r2, r3, r5, r6, r7, r8, r9⟩ := RR.out
  have S1 : Hid _ := (sy_start w).box (.slice none 0 0) (.slice none 0 0) 32 _ rfl
  go_enter Tryz.func12, Tryz.ntmps12
  go_wp2_with fail
  refine (rof_any mm _ (by have := HG.out.mlt; omega)).mono ?_
  rintro e w2 ⟨v2, rfl, hv2, hb2⟩
  obtain ⟨a1, n1, c1, rfl⟩ := hv2.isAgg
  have S2 : Hid _ := ((S1.out.go hb2).addM hv2).box1 (.slice a1 n1 c1) 30 _ rfl
  have BG : w.heap.size < w2.heap.size := (S1.out.go hb2).lt w.heap.size
  clear hv2 hb2 S1
  go_wp2_with fail
  obtain ⟨g, hg⟩ : ∃ g, g = w2.heap.size := ⟨_, rfl⟩
  obtain ⟨w3, hw3⟩ : ∃ w3, w3 = w2.alloc (.cells #[.slice a1 n1 c1] 30) := ⟨_, rfl⟩
  obtain ⟨b, hb⟩ : ∃ b, b = w.heap.size := ⟨_, rfl⟩
  have HBG : Hid (b < g) := by
    show b < g
    rw [hg, hb]
    exact BG
  rw [← hw3, ← hg, ← hb] at S2
  rw [← hw3, ← hg, ← hb]
  clear hw3 hg hb BG
  refine (rof_any 1 _ (by omega)).mono ?_
  rintro e w4 ⟨v4, rfl, hv4, hb4⟩
  obtain ⟨a2, n2, c2, rfl⟩ := hv4.isAgg
  have GH : g < w4.heap.size := (S2.out.go hb4).lt g
  have S3 : Hid _ := ((S2.out.go hb4).addM hv4).box1 (.slice a2 n2 c2) 30 _ rfl
  clear hv4 hb4 S2
  have k1 := S3.out.cel g 0 (.slice a1 n1 c1)
  have k2 : (w4.alloc (.cells #[.slice a2 n2 c2] 30)).cell? ⟨w4.heap.size, 0, none⟩ = some (.slice a2 n2 c2) := S3.out.cel w4.heap.size 0 (.slice a2 n2 c2)
  go_wp2_with fail
  obtain ⟨h, hh⟩ : ∃ h, h = w4.heap.size := ⟨_, rfl⟩
  obtain ⟨w5, hw5⟩ : ∃ w5, w5 = w4.alloc (.cells #[.slice a2 n2 c2] 30) := ⟨_, rfl⟩
  rw [← hw5, ← hh] at S3
  rw [← hw5, ← hh]
  have HGH : Hid (g < h) := by show g < h; rw [hh]; exact GH
  clear hw5 hh GH k1 k2
  refine (LF.out _ _ (S3.out.rat (.agg #[.slice a2 n2 c2]) 1)).mono ?_
  rintro e w6 ⟨v6, rfl, hv6, hb6⟩
  obtain ⟨a3, n3, c3, rfl⟩ := hv6.isAgg
  have S4 : Hid _ := (S3.out.go hb6).addM hv6
  clear hv6 hb6 S3
  have k1 := S4.out.cel h 0 (.slice a2 n2 c2)
  have k0 := S4.out.cel g 0 (.slice a1 n1 c1)
  have f1 := S4.out.fz h 0
  have S5 : Hid _ := (S4.out.set (b := h) (i := 0) k1 (S4.out.lo h) [(g, 0, .slice a1 n1 c1), (b, 0, .slice none 0 0), (b, 1, .slice none 0 0)] (by have := HBG.out; have := HGH.out; simp; omega) (.slice a3 n3 c3)).addC (b := h) (i := 0) (v := .slice a3 n3 c3) (by simp [go_sem, k1])
  have k3 : (w6.setCell ⟨h, 0, none⟩ (.slice a3 n3 c3)).cell? ⟨g, 0, none⟩ = some (.slice a1 n1 c1) := S5.out.cel g 0 (.slice a1 n1 c1)
  have k4 : (w6.setCell ⟨h, 0, none⟩ (.slice a3 n3 c3)).cell? ⟨h, 0, none⟩ = some (.slice a3 n3 c3) := S5.out.cel h 0 (.slice a3 n3 c3)
  go_wp2_with fail
  obtain ⟨w7, hw7⟩ : ∃ w7, w7 = w6.setCell ⟨h, 0, none⟩ (.slice a3 n3 c3) := ⟨_, rfl⟩
  rw [← hw7] at S5
  rw [← hw7]
  clear hw7 k0 k1 k3 k4 f1 S4
  refine (rfrom2_yes _ _ (mm) (2 ^ d) _ (S5.out.rat (.agg #[.slice a1 n1 c1]) (mm)) (S5.out.rat (.agg #[.slice a3 n3 c3]) (2 ^ d)) HN.out.2.2.1 HN.out.2.2.2.1 HN.out.2.2.2.2).mono ?_
  rintro e w8 ⟨v8, rfl, hv8, hb8⟩
  have hv' := hv8
  obtain ⟨a6, n6, c6, a7, n7, c7, ev, _, _⟩ := hv'
  subst ev
  have S6 : Hid _ := (S5.out.go hb8).addG hv8
  clear hv8 hb8 S5
  have z0 := S6.out.cel b 0 (.slice none 0 0)
  have z1 := S6.out.cel b 1 (.slice none 0 0)
  have y0 := S6.out.fz b 0
  have y1 := S6.out.fz b 1
  have Z : Hid _ := rrat_put (w0 := w) (v := .slice a6 n6 c6) (u := .slice a7 n7 c7) z0 z1 (S6.out.rfr (.agg #[.slice a6 n6 c6, .slice a7 n7 c7]) ((mm) / Nat.gcd (mm) (2 ^ d)) ((2 ^ d) / Nat.gcd (mm) (2 ^ d))) S6.out.bel (S6.out.lo b)
  go_wp2_with fail
  exact bodyPost_ret (v := .tuple #[.agg #[.slice a6 n6 c6, .slice a7 n7 c7], .bool true]) (by simp [results, Tryz.results12, go_sem, z0, z1]) rfl ⟨_, rfl, Z.out.1, Z.out.2⟩
set_option maxHeartbeats 400000 in
theorem rfrom3_high (u x0 E m t s : Nat) (mm : Nat) (z : Int) (w : World) (h : Flk u x0 E m t s) (h0 : s ≠ 0) (h1 : E ≠ 2047) (h2 : t ≠ 1) (h3 : 0 < E) (h4 : 0 < z) (hg : Fg u mm z) (hm : m + 4503599627370496 = mm) (hz : z = (E : Int) - 1 - 1074) : Calls Tryz.prog 12 #[.int .u64 (u : Int)] w (MakesRRB w (fN u / Nat.gcd (fN u) (fD u)) (fD u / Nat.gcd (fN u) (fD u)) true) := by
  have RR : Hid (Frl u x0 E m t s) := h.rules
  have HG : Hid (Fg u mm z) := hg
  obtain ⟨d, hd⟩ : ∃ d, d = z.toNat := ⟨_, rfl⟩
  have d3 : decide (s = 0) = false := decide_eq_false (by omega)
  have d3' : ((s : Int) == 0) = false := by simp; omega
  have d32 : ¬ s = 0 := by omega
  have d1 : decide (E = 2047) = false := decide_eq_false (by omega)
  have d1' : ((E : Int) == 2047) = false := by simp; omega
  have d12 : ¬ E = 2047 := by omega
  have d2 : decide (t = 1) = false := decide_eq_false (by omega)
  have d2' : ((t : Int) == 1) = false := by simp; omega
  have d22 : ¬ t = 1 := by omega
  have HN : Hid (fN u = mm * 2 ^ d ∧ fD u = 1 ∧ RSome (mm * 2 ^ d) ∧ RSome (1) ∧ 0 < 1) := by
    have a1 := hg.sN.rsome
    have a2 := hg.sD.rsome
    have e1 := hg.eN
    have e2 := hg.eD
    rw [show (-z).toNat = 0 by omega, Nat.pow_zero] at a2 e2
    rw [← hd] at a1 e1
    exact ⟨e1, e2, a1, a2, by omega⟩
  have hzl := hg.lo
  have hzh := hg.hi
  obtain ⟨f, hf⟩ : ∃ f, f = E - 1 := ⟨_, rfl⟩
  have p4 : 0 < E := h3
  have q4 : IntKind.u64.wrap ((m : Int) + 4503599627370496) = (mm : Int) := by rw [IntKind.wrap_u64]; have := hg.mlt; omega
  obtain ⟨q1, q2, q3⟩ := fl_rules (E := E) hf hz h3 hzl hzh
  have p5 : 0 < z := h4
  have ez : z = (d : Int) := by clear q1 q2 q3; omega
  have LF : Hid (∀ v w, RNat w v mm → Calls Tryz.prog 18 #[v, .int .i64 z] w (RMakes w (mm * 2 ^ d))) := fun v w h => by
    rw [ez]
    exact rleft_any v mm d w h (rs_word (by have := hg.mlt; clear q1 q2 q3; omega)).rfits (by have := hg.hi; clear q1 q2 q3; omega)
  rw [HN.out.1, HN.out.2.1]
  clear h hg hd h0 h1 h2 h3 h4 hm hz hf ez hzl hzh
  obtain ⟨r2, r3, r5, r6, r7, r8, r9⟩ := RR.out
  have S1 : Hid _ := (sy_start w).box (.slice none 0 0) (.slice none 0 0) 32 _ rfl
  go_enter Tryz.func12, Tryz.ntmps12
  go_wp2_with fail
  refine (rof_any mm _ (by have := HG.out.mlt; omega)).mono ?_
  rintro e w2 ⟨v2, rfl, hv2, hb2⟩
  obtain ⟨a1, n1, c1, rfl⟩ := hv2.isAgg
  have S2 : Hid _ := ((S1.out.go hb2).addM hv2).box1 (.slice a1 n1 c1) 30 _ rfl
  have BG : w.heap.size < w2.heap.size := (S1.out.go hb2).lt w.heap.size
  clear hv2 hb2 S1
  go_wp2_with fail
  obtain ⟨g, hg⟩ : ∃ g, g = w2.heap.size := ⟨_, rfl⟩
  obtain ⟨w3, hw3⟩ : ∃ w3, w3 = w2.alloc (.cells #[.slice a1 n1 c1] 30) := ⟨_, rfl⟩
  obtain ⟨b, hb⟩ : ∃ b, b = w.heap.size := ⟨_, rfl⟩
  have HBG : Hid (b < g) := by
    show b < g
    rw [hg, hb]
    exact BG
  rw [← hw3, ← hg, ← hb] at S2
  rw [← hw3, ← hg, ← hb]
  clear hw3 hg hb BG
  refine (rof_any 1 _ (by omega)).mono ?_
  rintro e w4 ⟨v4, rfl, hv4, hb4⟩
  obtain ⟨a2, n2, c2, rfl⟩ := hv4.isAgg
  have GH : g < w4.heap.size := (S2.out.go hb4).lt g
  have S3 : Hid _ := ((S2.out.go hb4).addM hv4).box1 (.slice a2 n2 c2) 30 _ rfl
  clear hv4 hb4 S2
  have k1 := S3.out.cel g 0 (.slice a1 n1 c1)
  have k2 : (w4.alloc (.cells #[.slice a2 n2 c2] 30)).cell? ⟨w4.heap.size, 0, none⟩ = some (.slice a2 n2 c2) := S3.out.cel w4.heap.size 0 (.slice a2 n2 c2)
  go_wp2_with fail
  obtain ⟨h, hh⟩ : ∃ h, h = w4.heap.size := ⟨_, rfl⟩
  obtain ⟨w5, hw5⟩ : ∃ w5, w5 = w4.alloc (.cells #[.slice a2 n2 c2] 30) := ⟨_, rfl⟩
  rw [← hw5, ← hh] at S3
  rw [← hw5, ← hh]
  have HGH : Hid (g < h) := by show g < h; rw [hh]; exact GH
  clear hw5 hh GH k1 k2
  refine (LF.out _ _ (S3.out.rat (.agg #[.slice a1 n1 c1]) mm)).mono ?_
  rintro e w6 ⟨v6, rfl, hv6, hb6⟩
  obtain ⟨a3, n3, c3, rfl⟩ := hv6.isAgg
  have S4 : Hid _ := (S3.out.go hb6).addM hv6
  clear hv6 hb6 S3
  have k1 := S4.out.cel g 0 (.slice a1 n1 c1)
  have k0 := S4.out.cel h 0 (.slice a2 n2 c2)
  have f1 := S4.out.fz g 0
  have S5 : Hid _ := (S4.out.set (b := g) (i := 0) k1 (S4.out.lo g) [(h, 0, .slice a2 n2 c2), (b, 0, .slice none 0 0), (b, 1, .slice none 0 0)] (by have := HBG.out; have := HGH.out; simp; omega) (.slice a3 n3 c3)).addC (b := g) (i := 0) (v := .slice a3 n3 c3) (by simp [go_sem, k1])
  have k3 : (w6.setCell ⟨g, 0, none⟩ (.slice a3 n3 c3)).cell? ⟨h, 0, none⟩ = some (.slice a2 n2 c2) := S5.out.cel h 0 (.slice a2 n2 c2)
  have k4 : (w6.setCell ⟨g, 0, none⟩ (.slice a3 n3 c3)).cell? ⟨g, 0, none⟩ = some (.slice a3 n3 c3) := S5.out.cel g 0 (.slice a3 n3 c3)
  go_wp2_with fail
  obtain ⟨w7, hw7⟩ : ∃ w7, w7 = w6.setCell ⟨g, 0, none⟩ (.slice a3 n3 c3) := ⟨_, rfl⟩
  rw [← hw7] at S5
  rw [← hw7]
  clear hw7 k0 k1 k3 k4 f1 S4
  refine (rfrom2_yes _ _ (mm * 2 ^ d) (1) _ (S5.out.rat (.agg #[.slice a3 n3 c3]) (mm * 2 ^ d)) (S5.out.rat (.agg #[.slice a2 n2 c2]) (1)) HN.out.2.2.1 HN.out.2.2.2.1 HN.out.2.2.2.2).mono ?_
  rintro e w8 ⟨v8, rfl, hv8, hb8⟩
  have hv' := hv8
  obtain ⟨a6, n6, c6, a7, n7, c7, ev, _, _⟩ := hv'
  subst ev
  have S6 : Hid _ := (S5.out.go hb8).addG hv8
  clear hv8 hb8 S5
  have z0 := S6.out.cel b 0 (.slice none 0 0)
  have z1 := S6.out.cel b 1 (.slice none 0 0)
  have y0 := S6.out.fz b 0
  have y1 := S6.out.fz b 1
  have Z : Hid _ := rrat_put (w0 := w) (v := .slice a6 n6 c6) (u := .slice a7 n7 c7) z0 z1 (S6.out.rfr (.agg #[.slice a6 n6 c6, .slice a7 n7 c7]) ((mm * 2 ^ d) / Nat.gcd (mm * 2 ^ d) (1)) ((1) / Nat.gcd (mm * 2 ^ d) (1))) S6.out.bel (S6.out.lo b)
  go_wp2_with fail
  exact bodyPost_ret (v := .tuple #[.agg #[.slice a6 n6 c6, .slice a7 n7 c7], .bool true]) (by simp [results, Tryz.results12, go_sem, z0, z1]) rfl ⟨_, rfl, Z.out.1, Z.out.2⟩
/-- What FromFloat tells, of all bits. -/
def isFb (u : Nat) : Bool := decide (u = 9223372036854775808) || decide (u < 9218868437227405312)
def ffP (u : Nat) : Nat := if isFb u then fN (nz u) / Nat.gcd (fN (nz u)) (fD (nz u)) else 0
def ffQ (u : Nat) : Nat := if isFb u then fD (nz u) / Nat.gcd (fN (nz u)) (fD (nz u)) else 1
theorem fN_zero : fN 0 = 0 := by unfold fN fm; simp
theorem fD_gcd (u : Nat) (h : fN u = 0) : fN u / Nat.gcd (fN u) (fD u) = 0 ∧ fD u / Nat.gcd (fN u) (fD u) = 1 := by
  rw [h, Nat.gcd_zero_left, Nat.zero_div, Nat.div_self (fD_pos u)]
  exact ⟨rfl, rfl⟩
theorem ff_no {u : Nat} (h : isFb u = false) : ffP u = 0 ∧ ffQ u = 1 := by unfold ffP ffQ; rw [h]; exact ⟨rfl, rfl⟩
theorem ff_zero : ffP 9223372036854775808 = 0 ∧ ffQ 9223372036854775808 = 1 := by
  have h : isFb 9223372036854775808 = true := by decide
  unfold ffP ffQ
  rw [h, if_pos rfl, if_pos rfl]
  have : nz 9223372036854775808 = 0 := by unfold nz; simp
  rw [this]
  exact fD_gcd 0 fN_zero
theorem ff_yes {u : Nat} (h : u < 9218868437227405312) : ffP u = fN u / Nat.gcd (fN u) (fD u) ∧ ffQ u = fD u / Nat.gcd (fN u) (fD u) := by
  have h1 : isFb u = true := by unfold isFb; simp; omega
  have h2 : nz u = u := by unfold nz; rw [if_neg (by omega)]
  unfold ffP ffQ
  rw [h1, h2]
  exact ⟨rfl, rfl⟩
theorem fromFloat_all (u : Nat) (w : World) (hu : u < 18446744073709551616) (hT : Tab w) : Calls Tryz.prog 33 #[.float .f64 u] w (MakesRB w (ffP u) (ffQ u) (isFb u)) := by
  by_cases h1 : u = 9223372036854775808
  · subst h1
    have h : isFb 9223372036854775808 = true := by decide
    rw [ff_zero.1, ff_zero.2, h]
    exact fromFloat_zero w
  · by_cases h2 : u < 9218868437227405312
    · have h : isFb u = true := by unfold isFb; simp; omega
      rw [(ff_yes h2).1, (ff_yes h2).2, h]
      exact fromFloat_yes u w h2 hT
    · have h : isFb u = false := by unfold isFb; simp; omega
      rw [(ff_no h).1, (ff_no h).2, h]
      exact fromFloat_no u w (fun hh => by rcases hh with e | e <;> omega) hu
theorem rfromFloat_all (u : Nat) (w : World) (hu : u < 18446744073709551616) : Calls Tryz.prog 12 #[.int .u64 (u : Int)] w (MakesRRB w (ffP u) (ffQ u) (isFb u)) := by
  obtain ⟨x0, E, m, t, s, h⟩ := fl_of u hu
  have h' := h
  obtain ⟨h0, hx, hE, hm, ht, hs⟩ := h'
  by_cases c0 : s = 0
  · have := rfrom3_zero u x0 E m t s w h c0
    have e : u = 0 ∨ u = 9223372036854775808 := by omega
    rcases e with e | e
    · subst e
      have h9 : isFb 0 = true := by decide
      rw [(ff_yes (u := 0) (by omega)).1, (ff_yes (u := 0) (by omega)).2, (fD_gcd 0 fN_zero).1, (fD_gcd 0 fN_zero).2, h9]
      exact this
    · subst e
      have h9 : isFb 9223372036854775808 = true := by decide
      rw [ff_zero.1, ff_zero.2, h9]
      exact this
  · by_cases c1 : E = 2047
    · have h9 : isFb u = false := by unfold isFb; simp; omega
      rw [(ff_no h9).1, (ff_no h9).2, h9]
      exact rfrom3_bad1 u x0 E m t s w h c0 c1
    · by_cases c2 : t = 1
      · have h9 : isFb u = false := by unfold isFb; simp; omega
        rw [(ff_no h9).1, (ff_no h9).2, h9]
        exact rfrom3_bad2 u x0 E m t s w h c0 c1 c2
      · have hl : u < 9218868437227405312 := by omega
        have h9 : isFb u = true := by unfold isFb; simp; omega
        have hE2 : E = u / 4503599627370496 := by omega
        have hg := fg_of hE2 hm (by omega)
        rw [(ff_yes hl).1, (ff_yes hl).2, h9]
        by_cases c3 : E = 0
        · rw [if_pos c3, if_pos c3] at hg
          exact rfrom3_sub u x0 E m t s _ w h c0 c1 c2 c3 hg (by omega)
        · rw [if_neg c3, if_neg c3] at hg
          by_cases c4 : 0 < (E : Int) - 1 - 1074
          · exact rfrom3_high u x0 E m t s _ _ w h c0 c1 c2 (by omega) c4 hg rfl rfl
          · exact rfrom3_low u x0 E m t s _ _ w h c0 c1 c2 (by omega) c4 hg rfl rfl
end Go.Proofs.YtmiiaomdenpceaaGreatDoor


