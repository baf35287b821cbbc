/- Contracts of the program's functions, part 22: own work, joined in build order. -/
import Derived.Test.YtmiiaomdenpceaaGreatDoorJ21
import Derived.Laws.Bits64b
import Derived.Laws.Cover1
namespace Go.Proofs.YtmiiaomdenpceaaGreatDoor
open Go.RowKit
set_option maxRecDepth 100000
set_option linter.unusedVariables false
/-- How many digits p has more than q. -/
def szI (p q : Nat) : Int := (bitLen p : Int) - (bitLen q : Int)
def tfB (p q : Nat) : Nat := bitsAt p q (flI p q (szI p q))
/-- The bits of the number near of p / q; is there one? -/
def tfV (p q : Nat) : Nat := if p = 0 then 0 else if tfB p q < 9218868437227405312 then tfB p q else 0
def tfOk (p q : Nat) : Bool := decide (p = 0) || decide (tfB p q < 9218868437227405312)
theorem sz_at {p q : Nat} (hp : 0 < p) (hq : 0 < q) : At p q (flI p q (szI p q)) := by
  obtain ⟨h1, h2⟩ := bitLen_spec p
  obtain ⟨k1, k2⟩ := bitLen_spec q
  have p1 := bitLen_pos hp
  have q1 := bitLen_pos hq
  have := flI_at (p := p) (q := q) (a := bitLen p - 1) (b := bitLen q - 1) (h2 (by omega)) (by rw [show bitLen p - 1 + 1 = bitLen p by omega]; exact h1) (k2 (by omega)) (by rw [show bitLen q - 1 + 1 = bitLen q by omega]; exact k1)
  rw [show ((bitLen p - 1 : Nat) : Int) - ((bitLen q - 1 : Nat) : Int) = szI p q by unfold szI; omega] at this
  exact this
theorem flI_le (p q : Nat) (s : Int) : flI p q s ≤ s ∧ s - 1 ≤ flI p q s := by unfold flI; split <;> omega
theorem tf_low {p q : Nat} (hp : 0 < p) (hq : 0 < q) (h : szI p q < -1075) : tfV p q = 0 ∧ tfOk p q = true := by
  have h1 := (sz_at hp hq).bits_low hq (by have := (flI_le p q (szI p q)).1; omega)
  unfold tfV tfOk tfB
  rw [h1]
  simp
theorem tf_high {p q : Nat} (hp : 0 < p) (hq : 0 < q) (h : 1024 < szI p q) : tfV p q = 0 ∧ tfOk p q = false := by
  have h1 := (sz_at hp hq).high hq (by have := (flI_le p q (szI p q)).2; omega)
  unfold tfV tfOk tfB
  rw [if_neg (by omega), if_neg (by omega)]
  simp
  omega
theorem tf_over {p q : Nat} (hp : 0 < p) (h : ¬ tfB p q < 9218868437227405312) : tfV p q = 0 ∧ tfOk p q = false := by
  unfold tfV tfOk
  rw [if_neg (by omega), if_neg h]
  simp
  omega
theorem tf_in {p q : Nat} (hp : 0 < p) (h : tfB p q < 9218868437227405312) : tfV p q = tfB p q ∧ tfOk p q = true := by
  unfold tfV tfOk
  rw [if_neg (by omega), if_pos h]
  simp [h]
/-- What both calls of inUnits tell. -/
theorem inUnits_any (v u : Value) (p q : Nat) (s : Int) (w : World) (h : IsNat w v p) (k : IsNat w u q) (hp : Fits p) (hq : Fits q) (h1 : -16777216 ≤ s) (h2 : s ≤ 16777216) :
    Calls Tryz.prog 44 #[v, u, .int .i64 s] w (Makes2N w (upN p s) (dnN q s)) := by
  unfold upN dnN
  by_cases hs : s < 0
  · have := inUnits_neg v u p q (-s).toNat s w h k hp (by omega) (by omega) (by omega)
    rw [show s.toNat = 0 by omega, Nat.pow_zero, Nat.mul_one]
    exact this
  · have := inUnits_pos v u p q s.toNat s w h k hq (by omega) (by omega)
    rw [show (-s).toNat = 0 by omega, Nat.pow_zero, Nat.mul_one]
    exact this
theorem up_P {p n m : Nat} {s : Int} (h : p < P n) (hs : -64 * (m : Int) < s) (hm : 0 < m) : upN p s < P (n + m) := by
  unfold upN
  rw [P_add]
  exact Nat.mul_lt_mul'' h (by rw [P_two]; exact Nat.pow_lt_pow_right (by omega) (by omega))
theorem dn_P {p n m : Nat} {s : Int} (h : p < P n) (hs : s < 64 * (m : Int)) (hm : 0 < m) : dnN p s < P (n + m) := by
  unfold dnN
  rw [P_add]
  exact Nat.mul_lt_mul'' h (by rw [P_two]; exact Nat.pow_lt_pow_right (by omega) (by omega))
theorem tf_rules {u : Int} {x y ct B : Nat} (hx : x = (u + 1074).toNat) (hy : y = x * 4503599627370496) (hB : y + ct = B) (h1 : -1074 ≤ u) (h2 : x ≤ 2046) (h3 : ct ≤ 9007199254740992) :
    wrap64 (u + 1074) = (x : Int) ∧ IntKind.u64.wrap (x : Int) = (x : Int) ∧ IntKind.u64.wrap ((x : Int) * 4503599627370496) = (y : Int) ∧ IntKind.u64.wrap ((y : Int) + (ct : Int)) = (B : Int) :=
  ⟨by rw [IntWalk.wrap64_in _ ⟨by omega, by omega⟩]; omega, by rw [IntKind.wrap_u64]; omega, by rw [IntKind.wrap_u64]; omega, by rw [IntKind.wrap_u64]; omega⟩
set_option maxHeartbeats 8000000 in
theorem toFloat_any (v : Value) (p q : Nat) (w : World) (h : Rt w v p q) (hp : RS p) (hq : RS q) (hq0 : 0 < q) :
    Calls Tryz.prog 9 #[v] w fun e w' => e = .returned (.tuple #[.float .f64 (tfV p q), .bool (tfOk p q)]) ∧ Below w.heap.size w w' := by
  have h' := h
  obtain ⟨a, n, c, a', n', c', e0, _, _⟩ := h'.raw
  subst e0
  have S1 : Hid _ := ((sy_start w).addF h).box (.slice a n c) (.slice a' n' c') 28 _ rfl
  obtain ⟨s, hs⟩ : ∃ s : Int, s = szI p q := ⟨_, rfl⟩
  have lp : bitLen p ≤ 5760 := bitLen_P hp.lt
  have lq : bitLen q ≤ 5760 := bitLen_P hq.lt
  have m1 : IntKind.i64.wrap ((bitLen p : Int) - (bitLen q : Int)) = s := by rw [IntKind.wrap_i64, hs]; unfold szI; omega
  have HS : Hid (s = szI p q ∧ -5760 ≤ s ∧ s ≤ 5760) := ⟨hs, by rw [hs]; unfold szI; omega, by rw [hs]; unfold szI; omega⟩
  have HH : Hid (RS p ∧ RS q ∧ 0 < q) := ⟨hp, hq, hq0⟩
  have HL : Hid (p ≠ 0 → 0 < bitLen p) := fun hh => bitLen_pos (by omega)
  clear h h' hp hq hq0 hs
  go_enter Tryz.func9, Tryz.ntmps9
  go_wp2_with fail
  refine (parts_any _ p q _ (S1.out.fr (.agg #[.slice a n c, .slice a' n' c']) p q) HH.out.2.1.fits).mono ?_
  rintro e w1 ⟨v1, u1, rfl, hv1, hu1, hb1⟩
  obtain ⟨a1, n1, c1, rfl⟩ := hv1.isAgg
  obtain ⟨a2, n2, c2, rfl⟩ := hu1.isAgg
  have S2 : Hid _ := ((((S1.out.go hb1).addN hv1).addN hu1).box1 (.slice a1 n1 c1) 26 _ rfl).box1 (.slice a2 n2 c2) 26 _ rfl
  simp only [World.size_alloc] at S2
  clear hv1 hu1 hb1 S1
  go_wp2_with fail
  obtain ⟨w2, hw2⟩ : ∃ w2, w2 = (w1.alloc (.cells #[.slice a1 n1 c1] 26)).alloc (.cells #[.slice a2 n2 c2] 26) := ⟨_, rfl⟩
  obtain ⟨g, hg⟩ : ∃ g, g = w1.heap.size := ⟨_, rfl⟩
  rw [← hw2, ← hg] at S2
  rw [← hw2, ← hg]
  clear hw2 hg
  refine wp_region_inv (JB w2 [sNat (p), sEq (.int .i64 ((bitLen p : Nat) : Int)), sNat (q), sEq (.int .i64 ((bitLen q : Nat) : Int)), sEq (.int .i64 s), sEq (.int .i64 s)] []) 71 (by kernel_rfl) rfl (by kernel_rfl) (JB.start _ _ _) (fun HG HN => ⟨?_, ?_, ?_, ?_, ?_, ?_, trivial⟩) ?_
  · intro L vs a w' hJ hF hP hL
    have q4 : (a.tmps[4]?).getD undef = .pointer (some ⟨g, 0, none⟩) := hF.old 4 rfl
    have cb := cell_later hJ.bel (S2.out.cell (g) (.slice a1 n1 c1))
    exact run_val (v := .agg #[.slice a1 n1 c1]) rfl (by simp [execOp, go_sem, q4, cb]) ⟨_, rfl, hJ.step hL rfl (Below.refl _ _) (by exact ((S2.out.at (.agg #[.slice a1 n1 c1]) (p)).mono hJ.bel))⟩
  · intro L vs a w' hJ hF hP hL
    have p0 : L 0 = true := hP ⟨0, .data⟩ (by simp) rfl
    have s0 : IsNat w' (vs 0) (p) := hJ.sp 0 p0
    have q18 := hF.slot 0 18 rfl p0
    refine run_call (f := 43) (args := #[vs 0]) rfl (by simp [go_sem, q18]) (len_any _ p _ s0 HH.out.1.fits) ?_
    rintro e w2 ⟨rfl, hb⟩
    exact ⟨_, rfl, _, rfl, hJ.step hL rfl hb (by exact rfl)⟩
  · intro L vs a w' hJ hF hP hL
    have q5 : (a.tmps[5]?).getD undef = .pointer (some ⟨g + 1, 0, none⟩) := hF.old 5 rfl
    have cb := cell_later hJ.bel (S2.out.cell (g + 1) (.slice a2 n2 c2))
    exact run_val (v := .agg #[.slice a2 n2 c2]) rfl (by simp [execOp, go_sem, q5, cb]) ⟨_, rfl, hJ.step hL rfl (Below.refl _ _) (by exact ((S2.out.at (.agg #[.slice a2 n2 c2]) (q)).mono hJ.bel))⟩
  · intro L vs a w' hJ hF hP hL
    have p2 : L 2 = true := hP ⟨2, .data⟩ (by simp) rfl
    have s2 : IsNat w' (vs 2) (q) := hJ.sp 2 p2
    have q20 := hF.slot 2 20 rfl p2
    refine run_call (f := 43) (args := #[vs 2]) rfl (by simp [go_sem, q20]) (len_any _ q _ s2 HH.out.2.1.fits) ?_
    rintro e w2 ⟨rfl, hb⟩
    exact ⟨_, rfl, _, rfl, hJ.step hL rfl hb (by exact rfl)⟩
  · intro L vs a w' hJ hF hP hL
    have p1 : L 1 = true := hP ⟨1, .data⟩ (by simp) rfl
    have s1 : vs 1 = .int .i64 ((bitLen p : Nat) : Int) := hJ.sp 1 p1
    have q19 := hF.slot 1 19 rfl p1
    have p3 : L 3 = true := hP ⟨3, .data⟩ (by simp) rfl
    have s3 : vs 3 = .int .i64 ((bitLen q : Nat) : Int) := hJ.sp 3 p3
    have q21 := hF.slot 3 21 rfl p3
    exact run_val (v := .int .i64 s) rfl (by simp [execOp, go_sem, q19, s1, q21, s3, m1]) ⟨_, rfl, hJ.step hL rfl (Below.refl _ _) (by exact rfl)⟩
  · intro L vs a w' hJ hF hP hL
    have p4 : L 4 = true := hP ⟨4, .data⟩ (by simp) rfl
    have s4 : vs 4 = .int .i64 s := hJ.sp 4 p4
    have q22 := hF.slot 4 22 rfl p4
    exact run_val (v := .int .i64 s) rfl (by simp [execOp, go_sem, q22, s4]) ⟨_, rfl, hJ.step hL rfl (Below.refl _ _) (by exact rfl)⟩
  intro L vs w' hA hJ
  have s5 : vs 5 = .int .i64 s := hJ.sp 5 (hA 5 (by simp))
  simp only [putL, Act.put, List.setIfInBounds_toArray, List.set_cons_zero, List.set_cons_succ, Nat.reduceAdd]
  simp only [s5]
  obtain ⟨w3, ew3⟩ : ∃ w3, w3 = w' := ⟨_, rfl⟩
  have S3 : Hid _ := S2.out.go (ew3 ▸ hJ.bel : Below w2.heap.size w2 w3)
  rw [← ew3]
  clear ew3 hJ hA s5 S2 m1 lp lq
  have k1 := S3.out.cel g 0 (.slice a1 n1 c1)
  go_wp2_with fail
  refine (len_any _ p _ (S3.out.at (.agg #[.slice a1 n1 c1]) p) HH.out.1.fits).mono ?_
  rintro e w4 ⟨rfl, hb4⟩
  have S4 : Hid _ := S3.out.go hb4
  clear hb4 S3 k1
  by_cases h0 : p = 0
  · have t1 : bitLen p = 0 := by rw [h0]; exact bitLen_zero
    have HV : Hid (tfV p q = 0 ∧ tfOk p q = true) := by constructor <;> simp [tfV, tfOk, h0]
    rw [t1]
    clear h0 t1
    go_wp2_with fail
    exact bodyPost_ret (v := .tuple #[.float .f64 (0), .bool true]) (by simp [results, Tryz.results9, go_sem]) rfl ⟨by rw [HV.out.1, HV.out.2], S4.out.bel⟩
  · obtain ⟨l, hl⟩ : ∃ l, bitLen p = l := ⟨_, rfl⟩
    rw [hl]
    have t1 : ((l : Int) == 0) = false := by have := HL.out h0; simp; omega
    have t2 : decide ((l : Int) = 0) = false := by have := HL.out h0; exact decide_eq_false (by omega)
    have HP : Hid (0 < p) := by show _ < _; omega
    clear h0 hl HL
    by_cases h1 : s < -1075
    · have t3 : decide (s < -1075) = true := decide_eq_true h1
      have HV : Hid (tfV p q = 0 ∧ tfOk p q = true) := tf_low HP.out HH.out.2.2 (by rw [← HS.out.1]; exact h1)
      clear h1
      go_wp2_with fail
      exact bodyPost_ret (v := .tuple #[.float .f64 (0), .bool true]) (by simp [results, Tryz.results9, go_sem]) rfl ⟨by rw [HV.out.1, HV.out.2], S4.out.bel⟩
    · have t3 : decide (s < -1075) = false := decide_eq_false h1
      by_cases h2 : 1024 < s
      · have t4 : decide (1024 < s) = true := decide_eq_true h2
        have HV : Hid (tfV p q = 0 ∧ tfOk p q = false) := tf_high HP.out HH.out.2.2 (by rw [← HS.out.1]; exact h2)
        clear h1 h2
        go_wp2_with fail
        exact bodyPost_ret (v := .tuple #[.float .f64 (0), .bool false]) (by simp [results, Tryz.results9, go_sem]) rfl ⟨by rw [HV.out.1, HV.out.2], S4.out.bel⟩
      · have t4 : decide (1024 < s) = false := decide_eq_false h2
        have HB : Hid (-1075 ≤ s ∧ s ≤ 1024) := ⟨by omega, by omega⟩
        have k1 := S4.out.cel g 0 (.slice a1 n1 c1)
        have k2 := S4.out.cel (g + 1) 0 (.slice a2 n2 c2)
        clear h1 h2
        go_wp2_with fail
        refine (inUnits_any _ _ p q s _ (S4.out.at (.agg #[.slice a1 n1 c1]) p) (S4.out.at (.agg #[.slice a2 n2 c2]) q) HH.out.1.fits HH.out.2.1.fits (by have := HB.out; omega) (by have := HB.out; omega)).mono ?_
        rintro e w5 ⟨v5, u5, rfl, hv5, hu5, hb5⟩
        obtain ⟨a5, n5, c5, rfl⟩ := hv5.isAgg
        obtain ⟨a6, n6, c6, rfl⟩ := hu5.isAgg
        have S5 : Hid _ := ((((S4.out.go hb5).addN hv5).addN hu5).box1 (.slice a5 n5 c5) 26 _ rfl).box1 (.slice a6 n6 c6) 26 _ rfl
        simp only [World.size_alloc] at S5
        clear hv5 hu5 hb5 S4 k1 k2
        go_wp2_with fail
        obtain ⟨w6, hw6⟩ : ∃ w6, w6 = (w5.alloc (.cells #[.slice a5 n5 c5] 26)).alloc (.cells #[.slice a6 n6 c6] 26) := ⟨_, rfl⟩
        rw [← hw6] at S5
        rw [← hw6]
        clear hw6
        obtain ⟨z, hz⟩ : ∃ z, cmpI (upN p s) (dnN q s) = z := ⟨_, rfl⟩
        obtain ⟨f, hf⟩ : ∃ f : Int, f = flI p q s := ⟨_, rfl⟩
        obtain ⟨u, hu⟩ : ∃ u : Int, u = unI f := ⟨_, rfl⟩
        have HF : Hid (f = flI p q s ∧ u = unI f ∧ (z < 0 ↔ upN p s < dnN q s) ∧ cmpI (upN p s) (dnN q s) = z) := ⟨hf, hu, by rw [← hz]; unfold cmpI; split <;> (try split) <;> omega, hz⟩
        have SU : Hid (upN p s < P 107 ∧ dnN q s < P 107) := ⟨up_P (n := 90) (m := 17) HH.out.1.lt (by have := HB.out; omega) (by omega), dn_P (n := 90) (m := 17) HH.out.2.1.lt (by have := HB.out; omega) (by omega)⟩
        clear hz hf hu
        refine (cmp_z _ _ (upN p s) (dnN q s) z _ (S5.out.at (.agg #[.slice a5 n5 c5]) (upN p s)) (S5.out.at (.agg #[.slice a6 n6 c6]) (dnN q s)) (fits_P SU.out.1 (by omega)) (fits_P SU.out.2 (by omega)) HF.out.2.2.2).mono ?_
        rintro e w7 ⟨rfl, hb7⟩
        have S7 : Hid _ := S5.out.go hb7
        clear hb7 S5 SU
        have hAt := sz_at HP.out HH.out.2.2
        rw [← HS.out.1, ← HF.out.1] at hAt
        have hfb := flI_le p q s
        rw [← HF.out.1] at hfb
        have hub : -1074 ≤ u ∧ u ≤ 972 := by rw [HF.out.2.1]; have := HB.out; unfold unI; split <;> omega
        have hct := hAt.ct HH.out.2.2
        rw [← HF.out.2.1] at hct
        obtain ⟨ct, ect⟩ : ∃ ct, ct = ctN p q u := ⟨_, rfl⟩
        rw [← ect] at hct
        obtain ⟨B, hB⟩ : ∃ B : Nat, B = (u + 1074).toNat * 4503599627370496 + ct := ⟨_, rfl⟩
        have hTB : tfB p q = B := by unfold tfB bitsAt; rw [← HS.out.1, ← HF.out.1, ← HF.out.2.1, ← ect, ← hB]
        have k1 := S7.out.cel g 0 (.slice a1 n1 c1)
        have k2 := S7.out.cel (g + 1) 0 (.slice a2 n2 c2)
        have g1 : wrap64 (f - 52) = f - 52 := IntWalk.wrap64_in _ ⟨by have := HB.out; omega, by have := HB.out; omega⟩
        have g2 : (if f - 52 < -1074 then (-1074 : Int) else f - 52) = u := by rw [HF.out.2.1]; rfl
        have g3 : max (f - 52) (-1074) = u := by rw [HF.out.2.1]; unfold unI; split <;> omega
        obtain ⟨x, hx⟩ : ∃ x : Nat, x = (u + 1074).toNat := ⟨_, rfl⟩
        obtain ⟨y, hy⟩ : ∃ y : Nat, y = x * 4503599627370496 := ⟨_, rfl⟩
        have hyB : y + ct = B := by rw [hB, ← hx, hy]
        have hx2 : x ≤ 2046 := by omega
        have hyl : y ≤ 9214364837600034816 := by omega
        obtain ⟨g4, g5, g6, g8⟩ := tf_rules (u := u) hx hy hyB hub.1 hx2 hct
        have HC : Hid (ct < 18446744073709551616 ∧ upN p u < P 107 ∧ dnN q u < P 107 ∧ 0 < dnN q u ∧ -16777216 ≤ u ∧ u ≤ 16777216 ∧ ct = nearN (upN p u) (dnN q u) ∧ tfB p q = B) := ⟨by omega, up_P (n := 90) (m := 17) HH.out.1.lt (by omega) (by omega), dn_P (n := 90) (m := 17) HH.out.2.1.lt (by omega) (by omega), dnN_pos HH.out.2.2 u, by omega, by omega, ect, hTB⟩
        have HG : Hid (wrap64 (f - 52) = f - 52) := g1
        clear hAt hfb hub hct ect hTB hx hx2 hB g1 hy hyB hyl
        by_cases h3 : z < 0
        · have t5 : decide (z < 0) = true := decide_eq_true h3
          have t6 : wrap64 (s - 1) = f := by rw [IntWalk.wrap64_in _ ⟨by have := HB.out; omega, by have := HB.out; omega⟩, HF.out.1]; unfold flI; rw [if_pos (HF.out.2.2.1.1 h3)]
          have g1 := HG.out
          clear h3
          go_wp2_with fail
          refine (inUnits_any _ _ p q u _ (S7.out.at (.agg #[.slice a1 n1 c1]) p) (S7.out.at (.agg #[.slice a2 n2 c2]) q) HH.out.1.fits HH.out.2.1.fits HC.out.2.2.2.2.1 HC.out.2.2.2.2.2.1).mono ?_
          rintro e w8 ⟨v8, u8, rfl, hv8, hu8, hb8⟩
          have S8 : Hid _ := (((S7.out.go hb8).addN hv8).addN hu8)
          clear hv8 hu8 hb8 S7 k1 k2
          go_wp2_with fail
          refine (nearest_any v8 u8 (upN p u) (dnN q u) _ (S8.out.at v8 (upN p u)) (S8.out.at u8 (dnN q u)) (P_up HC.out.2.1 (by omega)) (P_up HC.out.2.2.1 (by omega)) HC.out.2.2.2.1).mono ?_
          rintro e w9 ⟨v9, rfl, hv9, hb9⟩
          rw [← HC.out.2.2.2.2.2.2.1] at hv9
          have S9 : Hid _ := (S8.out.go hb9).addN hv9
          clear hv9 hb9 S8
          go_wp2_with fail
          refine (uint_yes v9 ct _ (S9.out.at v9 ct) HC.out.1).mono ?_
          rintro e w10 ⟨rfl, hb10⟩
          have S10 : Hid _ := S9.out.go hb10
          clear hb10 S9
          by_cases h3 : B < 9218868437227405312
          · have t5 : decide (9218868437227405312 ≤ B) = false := decide_eq_false (by omega)
            have t6 : decide ((9218868437227405312 : Int) ≤ (B : Int)) = false := decide_eq_false (by omega)
            have HV : Hid (tfV p q = B ∧ tfOk p q = true) := by have := tf_in (q := q) HP.out (by rw [HC.out.2.2.2.2.2.2.2]; exact h3); rw [HC.out.2.2.2.2.2.2.2] at this; exact this
            clear h3
            go_wp2_with fail
            refine (float_any B _).mono ?_
            rintro e w11 ⟨rfl, hw11⟩
            rw [hw11]
            clear hw11
            go_wp2_with fail
            exact bodyPost_ret (v := .tuple #[.float .f64 (B), .bool true]) (by simp [results, Tryz.results9, go_sem]) rfl ⟨by rw [HV.out.1, HV.out.2], S10.out.bel⟩
            
          · have t5 : decide (9218868437227405312 ≤ B) = true := decide_eq_true (by omega)
            have t6 : decide ((9218868437227405312 : Int) ≤ (B : Int)) = true := decide_eq_true (by omega)
            have HV : Hid (tfV p q = 0 ∧ tfOk p q = false) := tf_over HP.out (by rw [HC.out.2.2.2.2.2.2.2]; exact h3)
            clear h3
            go_wp2_with fail
            exact bodyPost_ret (v := .tuple #[.float .f64 (0), .bool false]) (by simp [results, Tryz.results9, go_sem]) rfl ⟨by rw [HV.out.1, HV.out.2], S10.out.bel⟩
            
        · have t5 : decide (z < 0) = false := decide_eq_false h3
          obtain rfl : f = s := by rw [HF.out.1]; unfold flI; rw [if_neg (fun hh => h3 (HF.out.2.2.1.2 hh))]
          have g1 := HG.out
          clear h3
          go_wp2_with fail
          refine (inUnits_any _ _ p q u _ (S7.out.at (.agg #[.slice a1 n1 c1]) p) (S7.out.at (.agg #[.slice a2 n2 c2]) q) HH.out.1.fits HH.out.2.1.fits HC.out.2.2.2.2.1 HC.out.2.2.2.2.2.1).mono ?_
          rintro e w8 ⟨v8, u8, rfl, hv8, hu8, hb8⟩
          have S8 : Hid _ := (((S7.out.go hb8).addN hv8).addN hu8)
          clear hv8 hu8 hb8 S7 k1 k2
          go_wp2_with fail
          refine (nearest_any v8 u8 (upN p u) (dnN q u) _ (S8.out.at v8 (upN p u)) (S8.out.at u8 (dnN q u)) (P_up HC.out.2.1 (by omega)) (P_up HC.out.2.2.1 (by omega)) HC.out.2.2.2.1).mono ?_
          rintro e w9 ⟨v9, rfl, hv9, hb9⟩
          rw [← HC.out.2.2.2.2.2.2.1] at hv9
          have S9 : Hid _ := (S8.out.go hb9).addN hv9
          clear hv9 hb9 S8
          go_wp2_with fail
          refine (uint_yes v9 ct _ (S9.out.at v9 ct) HC.out.1).mono ?_
          rintro e w10 ⟨rfl, hb10⟩
          have S10 : Hid _ := S9.out.go hb10
          clear hb10 S9
          by_cases h3 : B < 9218868437227405312
          · have t5 : decide (9218868437227405312 ≤ B) = false := decide_eq_false (by omega)
            have t6 : decide ((9218868437227405312 : Int) ≤ (B : Int)) = false := decide_eq_false (by omega)
            have HV : Hid (tfV p q = B ∧ tfOk p q = true) := by have := tf_in (q := q) HP.out (by rw [HC.out.2.2.2.2.2.2.2]; exact h3); rw [HC.out.2.2.2.2.2.2.2] at this; exact this
            clear h3
            go_wp2_with fail
            refine (float_any B _).mono ?_
            rintro e w11 ⟨rfl, hw11⟩
            rw [hw11]
            clear hw11
            go_wp2_with fail
            exact bodyPost_ret (v := .tuple #[.float .f64 (B), .bool true]) (by simp [results, Tryz.results9, go_sem]) rfl ⟨by rw [HV.out.1, HV.out.2], S10.out.bel⟩
            
          · have t5 : decide (9218868437227405312 ≤ B) = true := decide_eq_true (by omega)
            have t6 : decide ((9218868437227405312 : Int) ≤ (B : Int)) = true := decide_eq_true (by omega)
            have HV : Hid (tfV p q = 0 ∧ tfOk p q = false) := tf_over HP.out (by rw [HC.out.2.2.2.2.2.2.2]; exact h3)
            clear h3
            go_wp2_with fail
            exact bodyPost_ret (v := .tuple #[.float .f64 (0), .bool false]) (by simp [results, Tryz.results9, go_sem]) rfl ⟨by rw [HV.out.1, HV.out.2], S10.out.bel⟩
            
end Go.Proofs.YtmiiaomdenpceaaGreatDoor

namespace Go.Proofs.YtmiiaomdenpceaaGreatDoor
open Go.RowKit
set_option maxRecDepth 100000
set_option linter.unusedVariables false
end Go.Proofs.YtmiiaomdenpceaaGreatDoor

namespace Go.Proofs.YtmiiaomdenpceaaGreatDoor
open Go.RowKit
set_option maxRecDepth 100000
set_option linter.unusedVariables false
theorem and3_2047 (x : Nat) (h : x < 18446744073709551616) : bits .and .u64 (x : Int) 2047 = ((x % 2048 : Nat) : Int) := by
  have := bits_and_u64_nat x 2047 h (by omega)
  rw [show (2047 : Nat) = 2 ^ 11 - 1 from rfl, Nat.and_two_pow_sub_one_eq_mod] at this
  exact this
theorem and3_low52 (x : Nat) (h : x < 18446744073709551616) : bits .and .u64 (x : Int) 4503599627370495 = ((x % 4503599627370496 : Nat) : Int) := by
  have := bits_and_u64_nat x 4503599627370495 h (by omega)
  rw [show (4503599627370495 : Nat) = 2 ^ 52 - 1 from rfl, Nat.and_two_pow_sub_one_eq_mod] at this
  exact this
/-- What FromFloat looks at. -/
structure Flk (u x0 E m t s : Nat) : Prop where
  lt : u < 18446744073709551616
  x : x0 = u / 4503599627370496
  e : E = x0 % 2048
  m : m = u % 4503599627370496
  t : t = u / 9223372036854775808
  s : s = u * 2 % 18446744073709551616
structure Frl (u x0 E m t s : Nat) : Prop where
  r2 : (u : Int) / 4503599627370496 = (x0 : Int)
  r3 : bits .and .u64 (x0 : Int) 2047 = (E : Int)
  r5 : bits .and .u64 (u : Int) 4503599627370495 = (m : Int)
  r6 : (u : Int) / 9223372036854775808 = (t : Int)
  r7 : IntKind.u64.wrap ((u : Int) * 2) = (s : Int)
  r8 : wrap64 (E : Int) = (E : Int)
  r9 : IntKind.i64.wrap (E : Int) = (E : Int)
theorem Flk.rules {u x0 E m t s : Nat} (h : Flk u x0 E m t s) : Frl u x0 E m t s := by
  obtain ⟨h0, h1, h2, h3, h4, h5⟩ := h
  have hE : E < 2048 := by rw [h2]; exact Nat.mod_lt _ (by omega)
  refine ⟨by omega, ?_, ?_, by omega, by rw [IntKind.wrap_u64]; omega, IntWalk.wrap64_in _ ⟨by omega, by omega⟩, by rw [IntKind.wrap_i64]; omega⟩
  · rw [h2]; exact and3_2047 x0 (by omega)
  · rw [h3]; exact and3_low52 u h0
/-- What comes of it. -/
structure Fg (u mm : Nat) (z : Int) : Prop where
  mlt : mm < 9007199254740992
  lo : -1074 ≤ z
  hi : z ≤ 971
  eN : fN u = mm * 2 ^ z.toNat
  eD : fD u = 2 ^ (-z).toNat
theorem Fg.sN {u mm : Nat} {z : Int} (h : Fg u mm z) : RS (mm * 2 ^ z.toNat) := ⟨P_up (fN_gen (n := 17) (Nat.lt_of_lt_of_eq h.mlt (by decide)) (by have := h.hi; omega)) (by omega)⟩
theorem Fg.sD {u mm : Nat} {z : Int} (h : Fg u mm z) : RS (2 ^ (-z).toNat) := ⟨P_up (two_P (n := 17) (by have := h.lo; omega)) (by omega)⟩
/-- What FromFloat tells, of all bits. -/
def isFb (u : Nat) : Bool := decide (u = 9223372036854775808) || decide (u < 9218868437227405312)
def ffP (u : Nat) : Nat := if isFb u then fN (nz u) / Nat.gcd (fN (nz u)) (fD (nz u)) else 0
def ffQ (u : Nat) : Nat := if isFb u then fD (nz u) / Nat.gcd (fN (nz u)) (fD (nz u)) else 1
theorem fN_zero : fN 0 = 0 := by unfold fN fm; simp
theorem fD_gcd (u : Nat) (h : fN u = 0) : fN u / Nat.gcd (fN u) (fD u) = 0 ∧ fD u / Nat.gcd (fN u) (fD u) = 1 := by
  rw [h, Nat.gcd_zero_left, Nat.zero_div, Nat.div_self (fD_pos u)]
  exact ⟨rfl, rfl⟩
theorem ff_no {u : Nat} (h : isFb u = false) : ffP u = 0 ∧ ffQ u = 1 := by unfold ffP ffQ; rw [h]; exact ⟨rfl, rfl⟩
theorem ff_zero : ffP 9223372036854775808 = 0 ∧ ffQ 9223372036854775808 = 1 := by
  have h : isFb 9223372036854775808 = true := by decide
  unfold ffP ffQ
  rw [h, if_pos rfl, if_pos rfl]
  have : nz 9223372036854775808 = 0 := by unfold nz; simp
  rw [this]
  exact fD_gcd 0 fN_zero
theorem ff_yes {u : Nat} (h : u < 9218868437227405312) : ffP u = fN u / Nat.gcd (fN u) (fD u) ∧ ffQ u = fD u / Nat.gcd (fN u) (fD u) := by
  have h1 : isFb u = true := by unfold isFb; simp; omega
  have h2 : nz u = u := by unfold nz; rw [if_neg (by omega)]
  unfold ffP ffQ
  rw [h1, h2]
  exact ⟨rfl, rfl⟩
theorem fromFloat_all (u : Nat) (w : World) (hu : u < 18446744073709551616) (hT : Tab w) : Calls Tryz.prog 33 #[.float .f64 u] w (MakesRB w (ffP u) (ffQ u) (isFb u)) := by
  by_cases h1 : u = 9223372036854775808
  · subst h1
    have h : isFb 9223372036854775808 = true := by decide
    rw [ff_zero.1, ff_zero.2, h]
    exact fromFloat_zero w
  · by_cases h2 : u < 9218868437227405312
    · have h : isFb u = true := by unfold isFb; simp; omega
      rw [(ff_yes h2).1, (ff_yes h2).2, h]
      exact fromFloat_yes u w h2 hT
    · have h : isFb u = false := by unfold isFb; simp; omega
      rw [(ff_no h).1, (ff_no h).2, h]
      exact fromFloat_no u w (fun hh => by rcases hh with e | e <;> omega) hu
end Go.Proofs.YtmiiaomdenpceaaGreatDoor

namespace Go.Proofs.YtmiiaomdenpceaaGreatDoor
open Go.RowKit
set_option maxRecDepth 100000
set_option linter.unusedVariables false
theorem endC_some {s : ByteArray} {i f : Nat} {p r : PtS} (h : endC s i f p = some r) : r = p ∧ f < i ∧ i = s.size := by
  unfold endC at h
  split at h
  · rename_i hh
    exact ⟨(Option.some.inj h).symm, hh⟩
  · cases h
theorem em_dig : Digits em em.size := fun i hi => by
  have : em.size = 0 := rfl
  omega
/-- So far the parts are runs of digits within the first i bytes. -/
structure Sofar (s : ByteArray) (p : PtS) (i : Nat) : Prop where
  w0 : 0 < p.whole.size
  dw : Digits p.whole p.whole.size
  dp : Digits p.places p.places.size
  db : Digits p.below p.below.size
  dx : Digits p.power p.power.size
  sz : p.whole.size + p.places.size ≤ i
  sb : p.below.size ≤ s.size
  sx : p.power.size ≤ 3
theorem powC_good {s : ByteArray} {i : Nat} {p r : PtS} (hs : s.size ≤ 400) (hi : i ≤ s.size) (g : Sofar s p i) (h : powC s i i p = some r) : GoodP r := by
  unfold powC at h
  split at h
  · cases h
  · rename_i h3
    obtain ⟨rfl, h1, h2⟩ := endC_some h
    have hz := size_ext (s := s) (a := i) (b := runE s i) (runE_le hi)
    exact ⟨g.w0, g.dw, g.dp, g.db, dig_ext hi, by have := g.sz; simp only; omega, by have := g.sb; simp only; omega, by simp only; rw [hz]; omega⟩
theorem sgnC_good {s : ByteArray} {i : Nat} {p r : PtS} (hs : s.size ≤ 400) (hi : i ≤ s.size) (g : Sofar s p i) (h : sgnC s i p = some r) : GoodP r := by
  unfold sgnC at h
  split at h
  · rename_i hc
    have : i < s.size := by unfold isSgn at hc; simp at hc; exact hc.1
    exact powC_good (p := { p with minus := sb s i == 45 }) hs this ⟨g.w0, g.dw, g.dp, g.db, g.dx, Nat.le_succ_of_le g.sz, g.sb, g.sx⟩ h
  · exact powC_good hs hi g h
theorem em_le (n : Nat) : em.size ≤ n := by rw [show em.size = 0 from rfl]; omega
theorem sofar_mk {s A B : ByteArray} {i : Nat} (hA : 0 < A.size) (dA : Digits A A.size) (dB : Digits B B.size) (hz : A.size + B.size ≤ i) : Sofar s ⟨A, em, B, em, false⟩ i :=
  ⟨hA, dA, dB, em_dig, em_dig, hz, em_le _, em_le _⟩
theorem good_mk {A B C : ByteArray} (hA : 0 < A.size) (dA : Digits A A.size) (dB : Digits B B.size) (dC : Digits C C.size) (hz : A.size + B.size ≤ 400) (hc : C.size ≤ 400) : GoodP ⟨A, C, B, em, false⟩ :=
  ⟨hA, dA, dB, dC, em_dig, hz, hc, em_le _⟩
theorem cutP_good {s : ByteArray} {r : PtS} (hs : s.size ≤ 400) (h : cutP s = some r) : GoodP r := by
  unfold cutP whoC at h
  have l0 := runE_le (s := s) (i := 0) (Nat.zero_le _)
  have z0 := size_ext (s := s) (a := 0) (b := runE s 0) l0
  have d0 := dig_ext (s := s) (i := 0) (Nat.zero_le _)
  have E : em.size = 0 := rfl
  generalize runE s 0 = i0 at *
  generalize s.extract 0 i0 = A at *
  split at h
  · obtain ⟨rfl, h1, h2⟩ := endC_some h
    exact good_mk (A := A) (B := em) (C := em) (by omega) d0 em_dig em_dig (by omega) (em_le _)
  · rename_i hc
    have n0 : ¬ i0 = 0 := fun e => hc (.inl e)
    have n1 : ¬ i0 = s.size := fun e => hc (.inr e)
    have l1 : i0 + 1 ≤ s.size := by omega
    have l2 := runE_le l1
    have z1 := size_ext (s := s) (a := i0 + 1) (b := runE s (i0 + 1)) l2
    have d1 := dig_ext l1
    have ge1 := runE_ge s (i0 + 1)
    unfold belC plaC at h
    generalize runE s (i0 + 1) = i1 at *
    generalize s.extract (i0 + 1) i1 = B at *
    have W0 : 0 < A.size := by omega
    split at h
    · obtain ⟨rfl, h1, h2⟩ := endC_some h
      exact good_mk (A := A) (B := em) (C := B) W0 d0 em_dig d1 (by omega) (by omega)
    · split at h
      · split at h
        · obtain ⟨rfl, h1, h2⟩ := endC_some h
          exact good_mk (A := A) (B := B) (C := em) W0 d0 d1 em_dig (by omega) (em_le _)
        · rename_i hc2
          have n2 : ¬ i1 = s.size := fun e => hc2 (.inr (.inl e))
          exact sgnC_good hs (by omega) (sofar_mk (A := A) (B := B) W0 d0 d1 (by omega)) h
      · split at h
        · exact sgnC_good hs l1 (sofar_mk (A := A) (B := em) W0 d0 em_dig (by omega)) h
        · cases h
theorem value_all (p : PtS) (w : World) (hg : GoodP p) (hT : Tab w) : Calls Tryz.prog 81 #[PAgg p] w (MakesV w p) := by
  by_cases h : p.below.size = 0
  · exact value_pow p w hg h hT
  · exact value_below p w hg h hT
/-- What Parse tells of a text. -/
def npOk (s : ByteArray) : Bool := decide (s.size ≤ 400) && (match cutP s with | some p => !decide (vD p = 0) | none => false)
def npP (s : ByteArray) : Nat := if npOk s then (match cutP s with | some p => vN p / Nat.gcd (vN p) (vD p) | none => 0) else 0
def npQ (s : ByteArray) : Nat := if npOk s then (match cutP s with | some p => vD p / Nat.gcd (vN p) (vD p) | none => 1) else 1
def npE (s : ByteArray) : Int := if npOk s then 0 else 30
def MakesP (w : World) (s : ByteArray) (e : Ending) (w' : World) : Prop := ∃ v, e = .returned (.tuple #[v, .int .i64 (npE s)]) ∧ Rt w' v (npP s) (npQ s) ∧ Below w.heap.size w w'
theorem np_no {s : ByteArray} (h : npOk s = false) : npP s = 0 ∧ npQ s = 1 ∧ npE s = 30 := by
  unfold npP npQ npE
  rw [h]
  exact ⟨rfl, rfl, rfl⟩
theorem np_yes {s : ByteArray} {p : PtS} (h1 : s.size ≤ 400) (h2 : cutP s = some p) (h3 : ¬ vD p = 0) : npP s = vN p / Nat.gcd (vN p) (vD p) ∧ npQ s = vD p / Nat.gcd (vN p) (vD p) ∧ npE s = 0 := by
  have h : npOk s = true := by unfold npOk; rw [h2]; simp [h1, h3]
  unfold npP npQ npE
  rw [h, h2]
  exact ⟨rfl, rfl, rfl⟩
set_option maxHeartbeats 1000000 in
theorem nparse_any (s : ByteArray) (w : World) (hs : s.size ≤ 9223372036854775807) (hT : Tab w) : Calls Tryz.prog 35 #[.string s] w (MakesP w s) := by
  have HT : Hid (Tab w) := hT
  have S0 : Hid _ := (sy_start w).box (.slice none 0 0) (.slice none 0 0) 28 _ rfl
  obtain ⟨b, hb⟩ : ∃ b, b = w.heap.size := ⟨_, rfl⟩
  obtain ⟨w0, hw0⟩ : ∃ w0, w0 = w.alloc (.cells #[.slice none 0 0, .slice none 0 0] 28) := ⟨_, rfl⟩
  rw [← hw0, ← hb] at S0
  clear hT
  by_cases h4 : 400 < s.size
  · have HV : Hid (npP s = 0 ∧ npQ s = 1 ∧ npE s = 30) := np_no (by unfold npOk; simp; omega)
    have t1 : decide (400 < (s.size : Int)) = true := decide_eq_true (by omega)
    go_enter Tryz.func35, Tryz.ntmps35
    go_wp2_with fail
    refine bodyPost_ret (v := .tuple #[.agg #[.slice none 0 0, .slice none 0 0], .int .i64 30]) (by simp [results, Tryz.results35, go_sem]) rfl ?_
    unfold MakesP
    rw [HV.out.1, HV.out.2.1, HV.out.2.2]
    exact ⟨_, rfl, rt_zero _, bel_al (bel_refl w)⟩
  · have HS : Hid (s.size ≤ 400) := by show _ ≤ _; omega
    have t1 : decide (400 < (s.size : Int)) = false := decide_eq_false (by omega)
    have n1 : ¬ 400 < s.size := h4
    clear h4
    go_enter Tryz.func35, Tryz.ntmps35
    go_wp2_with fail
    rw [← hw0, ← hb]
    clear hw0 hb
    refine (ncut_any s _ HS.out).mono ?_
    rintro e w1 ⟨p, ok, rfl, hc, hb1⟩
    have S1 : Hid _ := S0.out.go hb1
    clear hb1 S0
    cases ok with
    | false =>
      have HV : Hid (npP s = 0 ∧ npQ s = 1 ∧ npE s = 30) := np_no (by unfold npOk; rw [hc]; simp)
      clear hc
      have S2 : Hid _ := S1.out.go (w' := w1.alloc (.cells #[.string p.whole, .string p.below, .string p.places, .string p.power, .bool p.minus] 117)) (bel_al (bel_refl _))
      clear S1
      have S9 := S2.out
      have x0 := S9.cel b 0 (.slice none 0 0)
      have x1 := S9.cel b 1 (.slice none 0 0)
      have f0 := S9.fz b 0
      have f1 := S9.fz b 1
      have Z : Hid _ := rat_put (w0 := w) (v := .slice none 0 0) (u := .slice none 0 0) x0 x1 (rt_zero _) S9.bel (S9.lo b)
      clear S9
      go_wp2_with fail
      refine bodyPost_ret (v := .tuple #[.agg #[.slice none 0 0, .slice none 0 0], .int .i64 30]) (by simp [results, Tryz.results35, go_sem, x0, x1]) rfl ?_
      unfold MakesP
      rw [HV.out.1, HV.out.2.1, HV.out.2.2]
      exact ⟨_, rfl, Z.out.1, Z.out.2⟩
    | true =>
      have HC : Hid (cutP s = some p) := hc
      have HG : Hid (GoodP p) := cutP_good HS.out HC.out
      clear hc
      have S2 : Hid _ := S1.out.go (w' := w1.alloc (.cells #[.string p.whole, .string p.below, .string p.places, .string p.power, .bool p.minus] 117)) (bel_al (bel_refl _))
      have k0 : (w1.alloc (.cells #[.string p.whole, .string p.below, .string p.places, .string p.power, .bool p.minus] 117)).cell? ⟨w1.heap.size, 0, none⟩ = some (.string p.whole) := by simp [go_sem]
      clear S1
      go_wp2_with fail
      refine (value_all p _ HG.out (HT.out.go S2.out.bel)).mono ?_
      intro e w3 hV
      unfold MakesV at hV
      by_cases hz : vD p = 0
      · rw [if_pos hz] at hV
        obtain ⟨v3, rfl, hv3, hb3⟩ := hV
        obtain ⟨a5, n5, c5, a6, n6, c6, ev, _, _⟩ := hv3.raw
        subst ev
        have HV : Hid (npP s = 0 ∧ npQ s = 1 ∧ npE s = 30) := np_no (by unfold npOk; rw [HC.out]; simp [hz])
        have S3 : Hid _ := (S2.out.go hb3).go (w' := w3.alloc (.cells #[.slice a5 n5 c5, .slice a6 n6 c6] 28)) (bel_al (bel_refl _))
        clear hv3 hb3 S2 k0 hz
        have S9 := S3.out
        have x0 := S9.cel b 0 (.slice none 0 0)
        have x1 := S9.cel b 1 (.slice none 0 0)
        have f0 := S9.fz b 0
        have f1 := S9.fz b 1
        have Z : Hid _ := rat_put (w0 := w) (v := .slice none 0 0) (u := .slice none 0 0) x0 x1 (rt_zero _) S9.bel (S9.lo b)
        clear S9
        go_wp2_with fail
        refine bodyPost_ret (v := .tuple #[.agg #[.slice none 0 0, .slice none 0 0], .int .i64 30]) (by simp [results, Tryz.results35, go_sem, x0, x1]) rfl ?_
        unfold MakesP
        rw [HV.out.1, HV.out.2.1, HV.out.2.2]
        exact ⟨_, rfl, Z.out.1, Z.out.2⟩
      · rw [if_neg hz] at hV
        obtain ⟨v3, rfl, hv3, hb3⟩ := hV
        obtain ⟨a5, n5, c5, a6, n6, c6, ev, _, _⟩ := hv3.raw
        subst ev
        have HV : Hid (npP s = vN p / Nat.gcd (vN p) (vD p) ∧ npQ s = vD p / Nat.gcd (vN p) (vD p) ∧ npE s = 0) := np_yes HS.out HC.out hz
        have S3 : Hid _ := ((S2.out.go hb3).addF hv3).go (w' := w3.alloc (.cells #[.slice a5 n5 c5, .slice a6 n6 c6] 28)) (bel_al (bel_refl _))
        have y0 : (w3.alloc (.cells #[.slice a5 n5 c5, .slice a6 n6 c6] 28)).cell? ⟨w3.heap.size, 0, none⟩ = some (.slice a5 n5 c5) := by simp [go_sem]
        have y1 : (w3.alloc (.cells #[.slice a5 n5 c5, .slice a6 n6 c6] 28)).cell? ⟨w3.heap.size, 1, none⟩ = some (.slice a6 n6 c6) := by simp [go_sem]
        clear hv3 hb3 S2 k0 hz
        have S9 := S3.out
        have x0 := S9.cel b 0 (.slice none 0 0)
        have x1 := S9.cel b 1 (.slice none 0 0)
        have f0 := S9.fz b 0
        have f1 := S9.fz b 1
        have Z : Hid _ := rat_put (w0 := w) (v := .slice a5 n5 c5) (u := .slice a6 n6 c6) x0 x1 (S9.fr (.agg #[.slice a5 n5 c5, .slice a6 n6 c6]) (vN p / Nat.gcd (vN p) (vD p)) (vD p / Nat.gcd (vN p) (vD p))) S9.bel (S9.lo b)
        clear S9
        go_wp2_with fail
        refine bodyPost_ret (v := .tuple #[.agg #[.slice a5 n5 c5, .slice a6 n6 c6], .int .i64 0]) (by simp [results, Tryz.results35, go_sem, x0, x1]) rfl ?_
        unfold MakesP
        rw [HV.out.1, HV.out.2.1, HV.out.2.2]
        exact ⟨_, rfl, Z.out.1, Z.out.2⟩
end Go.Proofs.YtmiiaomdenpceaaGreatDoor

namespace Go.Proofs.YtmiiaomdenpceaaGreatDoor
open Go.RowKit
set_option maxRecDepth 100000
set_option linter.unusedVariables false
def Rt10 (w : World) (b g : Nat) (wr : World) (x : Nat) (a1 : Option Addr) (n1 c1 : Nat) : Prop :=
  SY w wr [] [(.agg #[.slice a1 n1 c1], x)] [] [] [(g, 0, .slice a1 n1 c1), (b, 0, .slice none 0 0)] [g, b] ∧ b < g
theorem SY.rret1 {w0 w : World} {N M : List (Value × Nat)} {F G : List (Value × Nat × Nat)} {C : List (Nat × Nat × Value)} {Z : List Nat} (h : SY w0 w N M F G C Z) {r : Nat} {v : Value} {x : Nat} (hc : w.cell? ⟨r, 0, none⟩ = some (.slice none 0 0)) (hz : r ∈ Z) (hv : RNat w v x) (u : Value) : RNat (w.setCell ⟨r, 0, none⟩ u) v x ∧ Below w0.heap.size w0 (w.setCell ⟨r, 0, none⟩ u) :=
  ⟨hv.setCell (no_int_slice hc) u, h.bel.setCell (p := ⟨r, 0, none⟩) (h.lo r hz) u⟩
set_option maxHeartbeats 2000000 in
theorem rten_any (n : Nat) (w : World) (hn : n ≤ 1500) :
    Calls Tryz.prog 74 #[.int .i64 (n : Int)] w (RMakes w (10 ^ n)) := by
  have S0 : Hid _ := (sy_start w).box1 (.slice none 0 0) 30 _ rfl
  go_enter Tryz.func74, Tryz.ntmps74
  go_wp2_with fail
  refine (rof_any 1 _ (by omega)).mono ?_
  rintro e w1 ⟨v1, rfl, hv1, hb1⟩
  obtain ⟨a1, n1, c1, rfl⟩ := hv1.isAgg
  have HB : Hid (w.heap.size < w1.heap.size) := (S0.out.go hb1).lt w.heap.size
  have S1 : Hid _ := ((S0.out.go hb1).addM hv1).box1 (.slice a1 n1 c1) 30 _ rfl
  clear hv1 hb1 S0
  go_wp2_with fail
  obtain ⟨w3, hw3⟩ : ∃ w3, w3 = w1.alloc (.cells #[.slice a1 n1 c1] 30) := ⟨_, rfl⟩
  obtain ⟨g, hg⟩ : ∃ g, g = w1.heap.size := ⟨_, rfl⟩
  obtain ⟨b, hb⟩ : ∃ b, b = w.heap.size := ⟨_, rfl⟩
  rw [← hw3, ← hg, ← hb] at S1
  rw [← hw3, ← hg, ← hb]
  have hbg : b < g := by rw [hg, hb]; exact HB.out
  clear hw3 hg hb
  have A0 : Hid (Rt10 w b g w3 1 a1 n1 c1) := ⟨S1.out.sub _ _ _ _ _ _ (by simp) (by simp) (by simp) (by simp) (by simp) (by simp), hbg⟩
  clear S1 hbg HB
  go_loopw [4] (fun t wr => ∃ (m : Nat) (a1 : Option Addr) (n1 c1 : Nat), t = .int .i64 (m : Int) ∧ m ≤ n ∧ Rt10 w b g wr (10 ^ m) a1 n1 c1) (fun t _ => n - (intOf t).toNat)
  case atStart => exact ⟨0, _, _, _, rfl, by omega, A0.out⟩
  case round =>
    clear A0
    obtain ⟨m, a1, n1, c1, rfl, hm, hT⟩ := hrel
    have I : Hid _ := hT
    clear hT
    have k1 := I.out.1.cel g 0 (.slice a1 n1 c1)
    have k3 := I.out.1.cel b 0 (.slice none 0 0)
    have f1 := I.out.1.fz g 0
    have f3 := I.out.1.fz b 0
    by_cases h0 : m < n
    · have SI : Hid _ := I.out.1
      have SF : Hid (RFits (10 ^ m)) := rfits_P (ten_P90 (show m ≤ 1500 by omega)) (by omega)
      go_wp2_with fail
      refine wp_region_inv (JD wr [sR (10 ^ m), sR (10), sR (10 ^ m * 10), sAny] [[], [], [0, 1], [2]] 3 2 [0, 1, 2] (Sto1 (g))) 15 (by kernel_rfl) rfl (by kernel_rfl) (JD.start _ _ _ _ _ _ _) (fun HG HN => ⟨?_, ?_, ?_, ?_, trivial⟩) ?_
      · intro L vs a w' hJ hF hP hL
        have hK := hJ
        have hJ := hK.open hL (by decide)
        have q3 : (a.tmps[3]?).getD undef = .pointer (some ⟨g, 0, none⟩) := hF.old 3 rfl
        have cb := cell_later hJ.bel (SI.out.cell (g) (.slice a1 n1 c1))
        exact run_val (v := .agg #[.slice a1 n1 c1]) rfl (by simp [execOp, go_sem, q3, cb]) ⟨_, rfl, hK.step hL (by decide) (by decide) rfl (nd_nil) <| hJ.step hL rfl (Below.refl _ _) (by exact ((SI.out.rat (.agg #[.slice a1 n1 c1]) (10 ^ m)).mono hJ.bel))⟩
      · intro L vs a w' hJ hF hP hL
        have hK := hJ
        have hJ := hK.open hL (by decide)
        refine run_call (f := 17) (args := #[.int .u64 10]) rfl (by simp [go_sem]) (rof_any 10 _ (by omega)) ?_
        rintro e w2 ⟨v, rfl, hv, hb⟩
        exact ⟨_, rfl, _, rfl, hK.step hL (by decide) (by decide) rfl (nd_nil) <| hJ.step hL rfl hb (by exact hv)⟩
      · intro L vs a w' hJ hF hP hL
        have hK := hJ
        have hJ := hK.open hL (by decide)
        have p0 : L 0 = true := hP ⟨0, .data⟩ (by simp) rfl
        have s0 : RNat w' (vs 0) (10 ^ m) := hJ.sp 0 p0
        have q11 := hF.slot 0 11 rfl p0
        have p1 : L 1 = true := hP ⟨1, .data⟩ (by simp) rfl
        have s1 : RNat w' (vs 1) (10) := hJ.sp 1 p1
        have q12 := hF.slot 1 12 rfl p1
        refine run_call (f := 58) (args := #[vs 0, vs 1]) rfl (by simp [go_sem, q11, q12]) (rtimes_any _ _ (10 ^ m) 10 _ s0 s1 SF.out (rs_word (by omega)).rfits) ?_
        rintro e w2 ⟨v, rfl, hv, hb⟩
        exact ⟨_, rfl, _, rfl, hK.step hL (by decide) (by decide) rfl (nd_cons p0 (nd_cons p1 (nd_nil))) <| hJ.step hL rfl hb (by exact hv)⟩
      · intro L vs a w' hJ hF hP hL
        have hK := hJ
        have hJ := hK.core hL
        have q3 : (a.tmps[3]?).getD undef = .pointer (some ⟨g, 0, none⟩) := hF.old 3 rfl
        have p2 : L 2 = true := hP ⟨2, .data⟩ (by simp) rfl
        have s2 : RNat w' (vs 2) (10 ^ m * 10) := hJ.sp 2 p2
        have q13 := hF.slot 2 13 rfl p2
        have p0 : L 0 = true := hK.cl 2 p2 0 (by simp)
        have p1 : L 1 = true := hK.cl 2 p2 1 (by simp)
        have x0 := cell_later hJ.bel (SI.out.cel g 0 (.slice a1 n1 c1))
        have y0 := (hJ.bel.frozen (World.block_lt_of_cell? _ _ (SI.out.cel g 0 (.slice a1 n1 c1)))).trans (SI.out.fz g 0)
        obtain ⟨aa, nn, cc, e8⟩ := s2.isAgg
        exact run_unit (w' := (w'.setCell ⟨g, 0, none⟩ (.slice aa nn cc))) rfl (by simp [execOp, go_sem, q3, q13, e8, x0, y0]) ⟨undef, rfl, hK.put hL (by decide) rfl (nd_cons p2 (nd_nil)) (nd_cons p0 (nd_cons p1 (nd_cons p2 (nd_nil)))) p2 ⟨_, e8, rfl⟩⟩
      intro L vs w' hA hK
      obtain ⟨_, w1, hb1, sv, u1, ev, ew⟩ := hK.fin (hA 3 (by simp))
      replace sv : RNat w1 (vs 2) (10 ^ m * 10) := sv
      simp only [putL, Act.put, List.setIfInBounds_toArray, List.set_cons_zero, List.set_cons_succ, Nat.reduceAdd]
      obtain ⟨aa, nn, cc, e9⟩ := sv.isAgg
      have S9 : Hid _ := (SI.out.go hb1).addM sv
      have j1 := S9.out.cel g 0 (.slice a1 n1 c1)
      obtain rfl : u1 = .slice aa nn cc := by rw [e9] at ev; simpa using ev.symm
      rw [e9] at S9
      have S8 : Hid _ := (S9.out.set (b := g) (i := 0) j1 (S9.out.lo g) [(b, 0, .slice none 0 0)] (by have := I.out.2; simp; omega) (.slice aa nn cc)).addC (b := g) (i := 0) (v := .slice aa nn cc) (by simp [go_sem, j1])
      rw [← ew] at S8
      have I2 : Hid (Rt10 w b g w' (10 ^ (m + 1)) aa nn cc) := ⟨by rw [Nat.pow_succ]; exact S8.out.sub _ _ _ _ _ _ (by simp) (by simp) (by simp) (by simp) (by simp) (by simp), I.out.2⟩
      clear S8 S9 SI sv e9 ev ew hb1 j1 k1 k3 f1 f3 I hK hA
      go_wp2_with fail
      go_roundw
      case rel => exact ⟨m + 1, _, _, _, by go_num, by omega, I2.out⟩
      case measure => simp [intOf]; omega
    · obtain rfl : m = n := by omega
      have Z : Hid _ := I.out.1.rret1 (r := b) k3 (by simp) (I.out.1.rat (.agg #[.slice a1 n1 c1]) (10 ^ m)) (.slice a1 n1 c1)
      go_wp2_with fail
      exact bodyPost_ret (v := .agg #[.slice a1 n1 c1]) (by simp [results, Tryz.results74, go_sem, k3]) rfl ⟨_, rfl, Z.out.1, Z.out.2⟩
end Go.Proofs.YtmiiaomdenpceaaGreatDoor

namespace Go.Proofs.YtmiiaomdenpceaaGreatDoor
open Go.RowKit
set_option maxRecDepth 100000
set_option linter.unusedVariables false
/-- How far two numbers are from one another. -/
def dst (a b : Nat) : Nat := (a - b) + (b - a)
end Go.Proofs.YtmiiaomdenpceaaGreatDoor

namespace Go.Proofs.YtmiiaomdenpceaaGreatDoor
open Go.RowKit
set_option linter.unusedVariables false
end Go.Proofs.YtmiiaomdenpceaaGreatDoor

namespace Go.Proofs.YtmiiaomdenpceaaGreatDoor
open Go.RowKit
set_option maxRecDepth 100000
set_option linter.unusedVariables false
theorem sb_eq {s t : ByteArray} (hz : s.size = t.size) (h : ∀ i, i < s.size → sb s i = sb t i) : s = t := by
  apply ByteArray.ext
  apply Array.ext
  · exact hz
  · intro i h1 h2
    have h3 := h i h1
    rw [← sb_at (s := s) h1, ← sb_at (s := t) h2] at h3
    exact UInt8.toNat.inj h3
theorem zrs_at {n i : Nat} (h : i < n) : sb (zrs n) i = 48 := by
  have hs : i < (zrs n).size := by rw [zrs_size]; exact h
  rw [← sb_at hs]
  have : (zrs n)[i]'hs = 48 := by
    show (zrs n).data[i]'_ = _
    simp [zrs]
  rw [this]
  rfl
theorem one_size (c : UInt8) : (⟨#[c]⟩ : ByteArray).size = 1 := rfl
theorem sb_one (c : UInt8) : sb ⟨#[c]⟩ 0 = c.toNat := by
  rw [← sb_at (s := ⟨#[c]⟩) (Nat.zero_lt_succ 0)]
  rfl
theorem dec_ex (x : Nat) : ∃ k, DecLen x k := by
  induction x using Nat.strongRecOn with
  | ind x ih =>
    by_cases h : x < 10
    · exact ⟨1, by omega, by omega, .inl rfl⟩
    · obtain ⟨k, h1, h2, h3⟩ := ih (x / 10) (by omega)
      refine ⟨k + 1, by omega, by rw [Nat.pow_succ]; omega, .inr ?_⟩
      rw [Nat.add_sub_cancel]
      rcases h3 with h3 | h3
      · rw [h3]
        omega
      · rw [show k = (k - 1) + 1 by omega, Nat.pow_succ]
        omega
end Go.Proofs.YtmiiaomdenpceaaGreatDoor

namespace Go.Proofs.YtmiiaomdenpceaaGreatDoor
open Go.RowKit
set_option maxRecDepth 100000
set_option linter.unusedVariables false
set_option maxHeartbeats 4000000 in
theorem rtext_pos (v : Value) (x : Nat) (w : World) (h : RNat w v x) (hx : RFits x) (hx0 : x ≠ 0) :
    Calls Tryz.prog 69 #[v] w (Texts w x) := by
  obtain ⟨ax, n, cap, rfl⟩ := h.isAgg
  have hn0 : n ≠ 0 := fun e => hx0 ((rnat_len0 h).1 e)
  obtain ⟨gb, o, rfl⟩ : ∃ gb o, ax = some ⟨gb, o, none⟩ := by
    obtain ⟨F, hs, _⟩ := h.open
    obtain ⟨b, o, e, _⟩ := hs.at 0 (by omega)
    exact ⟨b, o, e⟩
  have HH : Hid (RNat w (.agg #[.slice (some ⟨gb, o, none⟩) n cap]) x ∧ RFits x) := ⟨h, hx⟩
  clear h hx hn0
  go_enter Tryz.func69, Tryz.ntmps69
  go_wp2_with fail
  refine (rzero_any _ x _ (HH.out.1.mono (bel_al (bel_refl w))) HH.out.2).mono ?_
  rintro e w1 ⟨rfl, hb1⟩
  have hz : decide (x = 0) = false := decide_eq_false hx0
  have c1 : w1.cell? ⟨w.heap.size, 0, none⟩ = some (.slice (some ⟨gb, o, none⟩) n cap) := cell_later hb1 (by simp [go_sem])
  have f1 : w1.frozen? ⟨w.heap.size, 0, none⟩ = false := (hb1.frozen (by simp)).trans (by simp [go_sem])
  have T0 : Hid (TO w w1 x (.slice none 0 0) gb o n cap 0 x) := ⟨c1, f1, (HH.out.1.mono (bel_al (bel_refl w))).mono hb1, ⟨by simp, .inl rfl⟩, OR.nil _ _ _ _, bel_go (bel_al (bel_refl w)) hb1⟩
  clear hb1 c1 f1
  go_wp2_with fail
  go_loopw [3] (fun l wr => ∃ (gb o n cap K y : Nat), Hid (TO w wr x l gb o n cap K y)) (fun l _ => 137438953480 - lenOf l)
  case atStart => exact ⟨gb, o, n, cap, 0, x, T0⟩
  case round =>
    clear T0 hz
    obtain ⟨gb, o, n, cap, K, y, hT⟩ := hrel
    have cx := hT.out.cx
    have hlo : Hid (lenOf u3 = K) := hT.out.own.len
    go_wp2_with fail
    refine (rzero_any _ y _ hT.out.num (HH.out.2.le hT.out.td.le)).mono ?_
    rintro e w2 ⟨rfl, hb2⟩
    have T2 : Hid (TO w w2 x u3 gb o n cap K y) := hT.out.go hb2
    clear hb2 cx hT
    by_cases hy0 : y = 0
    · have hz : decide (y = 0) = true := decide_eq_true hy0
      have DL : Hid (DecLen x K) := (hy0 ▸ T2.out.td).done hx0
      have hK0 : K ≠ 0 := by have := DL.out.1; omega
      have hKs : K ≤ 137438953473 := T2.out.td.short HH.out.2
      obtain ⟨gl, cl, rfl, hcl⟩ := T2.out.own.at hK0
      have CL : Hid _ := hcl
      have hKI : IntKind.i64.wrap ((K : Int) - 1) = (K : Int) - 1 := by rw [IntKind.wrap_i64]; omega
      have BB : Hid (Below w.heap.size w w2) := T2.out.bel
      clear hcl hy0 T2 hlo
      go_wp2_with fail
      go_loopw [7, 8] (fun b t wr => ∃ (m : Nat), m ≤ K ∧ t = .int .i64 (((K - m : Nat) : Int) - 1) ∧ Hid (OR wr 5 w2.heap.size b m (bd (fun j => decAt x (K - 1 - j))) ∧ Below w2.heap.size w2 wr)) (fun _ t _ => (intOf t + 1).toNat)
      case atStart => exact ⟨0, by omega, rfl, ⟨OR.nil _ _ _ _, Below.refl _ _⟩⟩
      case round =>
        obtain ⟨m, hm, rfl, hO⟩ := hrel
        by_cases hmK : m < K
        · obtain ⟨i, hi⟩ : ∃ i, i = K - m - 1 := ⟨_, rfl⟩
          have hidx : ((K - m : Nat) : Int) - 1 = (i : Int) := by omega
          have hiK : i < K := by omega
          have hci : wr.cell? ⟨gl, i, none⟩ = some (.int .u8 ((decAt x i : Nat) : Int)) := cell_later hO.out.2 (CL.out i hiK)
          rw [hidx]
          have hwi : IntKind.i64.wrap ((i : Int) - 1) = (i : Int) - 1 := by rw [IntKind.wrap_i64]; omega
          have HI : Hid (i = K - m - 1) := hi
          obtain ⟨d, ed⟩ : ∃ d, d = decAt x i := ⟨_, rfl⟩
          have ED : Hid (d = decAt x i) := ed
          rw [← ed] at hci
          clear hidx hi ed
          go_wp2_with (refine (id ?_ : wpList Tryz.prog _ _ (⟨some 55, _, _, _, _, _⟩ :: _) _ _); refine hold ?_)
          intro _
          refine wpList_append_one rfl (.tmp 49) (.tmp 54) 22 rfl 5 (.int .u8 0) 1 Tryz.underlying22 Tryz.info5 rfl (by omega) w2.heap.size _ m (bd (fun j => decAt x (K - 1 - j))) rfl (hO.out.1.below (bel_al (bel_refl wr))) _ _ rfl _ (cell_new wr (.int .u8 (d : Int)) 5) rfl (by omega) (Nat.le_trans hO.out.2.size (bel_al (bel_refl wr) (o := .cells #[.int .u8 (d : Int)] 5)).size) ?_
          intro g2 cap2 w9 ho hg2 _ _
          have S : Hid (OR w9 5 w2.heap.size (.slice (some ⟨g2, 0, none⟩) (m + 1) cap2) (m + 1) (bd (fun j => decAt x (K - 1 - j))) ∧ Below w2.heap.size w2 w9) := by
            refine ⟨OR.congr ho fun j hj => ?_, ((hO.out.2.alloc hO.out.2.size _).grown hg2 (Nat.le_trans hO.out.2.size (bel_al (bel_refl wr)).size) hO.out.1.blk)⟩
            split
            · rename_i e
              rw [e, ED.out]
              show Value.int .u8 ((decAt x i : Nat) : Int) = Value.int .u8 ((decAt x (K - 1 - m) : Nat) : Int)
              rw [HI.out, show K - m - 1 = K - 1 - m by omega]
            · rfl
          clear ho hg2
          go_wp2_with fail
          go_roundw
          case rel => exact ⟨m + 1, by omega, by have := HI.out; go_num, S⟩
          case measure => simp [intOf]
        · obtain rfl : m = K := by omega
          have hneg : ((m - m : Nat) : Int) - 1 = -1 := by omega
          rw [hneg]
          obtain ⟨g3, c3, rfl, cv⟩ := conv_or hO.out.1 hK0
          have B3 : Hid (Below w.heap.size w wr) := bel_go BB.out hO.out.2
          clear hneg
          go_wp2_with fail
          go_ret
          exact ⟨m, rfl, DL.out, B3.out⟩
    · have hz2 : decide (y = 0) = false := decide_eq_false hy0
      have cx := T2.out.cx
      go_wp2_with fail
      refine (rsmall_at (some ⟨gb, o, none⟩) n cap y 1000000000 w2 T2.out.num (HH.out.2.le T2.out.td.le) (by omega) (by omega) hy0).mono ?_
      rintro e w3 ⟨k3, rfl, hv3, hb3⟩
      have I0 : Hid _ := T2.out.start hb3 hv3 30
      have TY : Hid (TD x K y ∧ y ≠ 0) := ⟨T2.out.td, hy0⟩
      clear hb3 hv3 cx T2 hy0
      go_wp2_with fail
      obtain ⟨w4, hw4⟩ : ∃ w4, w4 = w3.alloc (.cells #[.slice (some ⟨w2.heap.size + 1 + 1, 0, none⟩) k3 n] 30) := ⟨_, rfl⟩
      rw [← hw4] at I0 ⊢
      clear hw4
      obtain ⟨bq, hbq⟩ : ∃ bq, bq = w3.heap.size := ⟨_, rfl⟩
      obtain ⟨gq, hgq⟩ : ∃ gq, gq = w2.heap.size + 1 + 1 := ⟨_, rfl⟩
      rw [← hbq, ← hgq] at I0
      simp only [← hbq, ← hgq]
      obtain ⟨q, eq⟩ : ∃ q, q = y / 1000000000 := ⟨_, rfl⟩
      rw [← eq] at I0
      have EQ : Hid (q = y / 1000000000) := eq
      clear hbq hgq eq
      go_loopw [3, 5, 6] (fun l r k wi => ∃ (kk rr : Nat), kk ≤ 9 ∧ k = .int .i64 (kk : Int) ∧ r = .int .u64 (rr : Int) ∧ Hid (TI w wi x l bq gq k3 n K kk (q) rr)) (fun _ _ k _ => 9 - (intOf k).toNat)
      case atStart => exact ⟨0, y % 1000000000, by omega, rfl, rfl, I0⟩
      case round =>
        clear I0
        obtain ⟨kk, rr, hk, rfl, rfl, hI⟩ := hrel
        by_cases hk9 : kk < 9
        · have hk9' : decide ((kk : Int) < 9) = true := decide_eq_true (by omega)
          have hrl : rr < 1000000000 := Nat.lt_of_lt_of_le hI.out.lt (Nat.pow_le_pow_right (by decide) (show 9 - kk ≤ 9 by omega))
          by_cases hr0 : rr = 0
          · have hr1 : decide (0 < (rr : Int)) = false := decide_eq_false (by omega)
            have hr2 : decide (0 < rr) = false := decide_eq_false (by omega)
            have HR0 : Hid (rr = 0) := hr0
            clear hr0
            have cb := hI.out.cb
            go_wp2_with fail
            refine (rzero_any _ (q) _ hI.out.num (HH.out.2.le (Nat.le_trans (by rw [EQ.out]; exact Nat.div_le_self _ _) TY.out.1.le))).mono ?_
            rintro e w7 ⟨rfl, hb7⟩
            have I7 : Hid (TI w w7 x u3 bq gq k3 n K kk (q) rr) := hI.out.go hb7
            clear hb7 hI cb
            by_cases hq0 : q = 0
            · have hqd : decide (q = 0) = true := decide_eq_true hq0
              have HQ0 : Hid (q = 0) := hq0
              clear hq0
              have hq : Hid (TD x (K + kk) (q)) := by have := I7.out.td; rw [HR0.out, HQ0.out, Nat.zero_mul, Nat.add_zero] at this; rw [HQ0.out]; exact this
              have hpos : 0 < kk := by
                rcases Nat.eq_zero_or_pos kk with e | e
                · exfalso
                  have h5 := I7.out.td.left
                  rw [HR0.out, HQ0.out, e, Nat.zero_mul, Nat.add_zero] at h5
                  exact TY.out.2 (TY.out.1.left.symm.trans h5)
                · exact e
              have hKk : K + kk ≤ 137438953473 := hq.out.short HH.out.2
              obtain ⟨⟨u1, u2, u4⟩, hu⟩ := I7.out.cx
              have fu := I7.out.fx
              have cq := I7.out.cb
              have T9 : Hid (TO w (w7.setCell ⟨w.heap.size, 0, none⟩ (.slice (some ⟨gq, 0, none⟩) k3 n)) x u3 gq 0 k3 n (K + kk) (q)) := I7.out.out hu hq.out
              have hle : Hid (lenOf u3 = K + kk) := I7.out.own.len
              go_wp2_with fail
              go_roundw
              case rel => exact ⟨gq, 0, k3, n, K + kk, q, T9⟩
              case measure =>
                show 137438953480 - lenOf u3 < 137438953480 - lenOf _
                rw [hle.out, hlo.out]
                omega
            · have hqd : decide (q = 0) = false := decide_eq_false hq0
              have c1 : IntKind.u64.wrap (48 + (rr : Int) % 10) = 48 + (rr : Int) % 10 := by rw [IntKind.wrap_u64]; omega
              have c2 : IntKind.u8.wrap (48 + (rr : Int) % 10) = 48 + (rr : Int) % 10 := by rw [IntKind.wrap_u8]; omega
              have hKk : K + kk + 1 ≤ 1099511627776 := by have := I7.out.td.short HH.out.2; omega
              go_wp2_with (refine (id ?_ : wpList Tryz.prog _ _ (⟨some 38, _, _, _, _, _⟩ :: _) _ _); refine hold ?_)
              intro _
              have JA : Hid (TI w (w7.alloc (.cells #[.int .u8 (48 + (rr : Int) % 10)] 5)) x u3 bq gq k3 n K kk (q) rr) := I7.out.go (bel_al (bel_refl w7))
              refine wpList_append_one rfl (.tmp 32) (.tmp 37) 22 rfl 5 (.int .u8 0) 1 Tryz.underlying22 Tryz.info5 rfl (by omega) (w.heap.size + 1) _ (K + kk) (bd (decAt x)) rfl JA.out.own _ _ rfl _ (cell_new w7 (.int .u8 (48 + (rr : Int) % 10)) 5) rfl hKk JA.out.size ?_
              intro g2 cap2 w9 ho hg2 hw2 _
              rw [show (48 + (rr : Int) % 10) = ((48 + rr % 10 : Nat) : Int) by omega] at ho
              have S : Hid _ := JA.out.step hk9 (.inr hq0) ho hg2 (hw2.imp id (fun e => Nat.le_of_eq e.symm))
              clear ho hg2 hw2 JA c1 c2
              go_wp2_with fail
              go_roundw
              case rel => exact ⟨kk + 1, rr / 10, by omega, by go_num, by go_num, S⟩
              case measure => simp [intOf]; omega
          · have hr1 : decide (0 < (rr : Int)) = true := decide_eq_true (by omega)
            have hr2 : decide (0 < rr) = true := decide_eq_true (by omega)
            have c1 : IntKind.u64.wrap (48 + (rr : Int) % 10) = 48 + (rr : Int) % 10 := by rw [IntKind.wrap_u64]; omega
            have c2 : IntKind.u8.wrap (48 + (rr : Int) % 10) = 48 + (rr : Int) % 10 := by rw [IntKind.wrap_u8]; omega
            have hKk : K + kk + 1 ≤ 1099511627776 := by have := hI.out.td.short HH.out.2; omega
            go_wp2_with (refine (id ?_ : wpList Tryz.prog _ _ (⟨some 38, _, _, _, _, _⟩ :: _) _ _); refine hold ?_)
            intro _
            have JA : Hid (TI w (wr.alloc (.cells #[.int .u8 (48 + (rr : Int) % 10)] 5)) x u3 bq gq k3 n K kk (q) rr) := hI.out.go (bel_al (bel_refl wr))
            refine wpList_append_one rfl (.tmp 32) (.tmp 37) 22 rfl 5 (.int .u8 0) 1 Tryz.underlying22 Tryz.info5 rfl (by omega) (w.heap.size + 1) _ (K + kk) (bd (decAt x)) rfl JA.out.own _ _ rfl _ (cell_new wr (.int .u8 (48 + (rr : Int) % 10)) 5) rfl hKk JA.out.size ?_
            intro g2 cap2 w9 ho hg2 hw2 _
            rw [show (48 + (rr : Int) % 10) = ((48 + rr % 10 : Nat) : Int) by omega] at ho
            have S : Hid _ := JA.out.step hk9 (.inl hr0) ho hg2 (hw2.imp id (fun e => Nat.le_of_eq e.symm))
            clear ho hg2 hw2 JA c1 c2
            go_wp2_with fail
            go_roundw
            case rel => exact ⟨kk + 1, rr / 10, by omega, by go_num, by go_num, S⟩
            case measure => simp [intOf]; omega
        · have e9 : kk = 9 := by omega
          have hk9' : decide ((kk : Int) < 9) = false := decide_eq_false (by omega)
          have hr0 : rr = 0 := by
            have := hI.out.lt
            rw [e9] at this
            simpa using this
          have HE9 : Hid (rr = 0 ∧ kk = 9) := ⟨hr0, e9⟩
          clear hr0 e9
          have hq : Hid (TD x (K + kk) (q)) := by have := hI.out.td; rw [HE9.out.1, HE9.out.2, show 9 - 9 = 0 from rfl, Nat.pow_zero, Nat.mul_one, Nat.add_zero] at this; rw [HE9.out.2]; exact this
          have hpos : 0 < kk := by have := HE9.out.2; omega
          have hKk : K + kk ≤ 137438953473 := hq.out.short HH.out.2
          obtain ⟨⟨u1, u2, u4⟩, hu⟩ := hI.out.cx
          have fu := hI.out.fx
          have cq := hI.out.cb
          have T9 : Hid (TO w (wr.setCell ⟨w.heap.size, 0, none⟩ (.slice (some ⟨gq, 0, none⟩) k3 n)) x u3 gq 0 k3 n (K + kk) (q)) := hI.out.out hu hq.out
          have hle : Hid (lenOf u3 = K + kk) := hI.out.own.len
          go_wp2_with fail
          go_roundw
          case rel => exact ⟨gq, 0, k3, n, K + kk, q, T9⟩
          case measure =>
            show 137438953480 - lenOf u3 < 137438953480 - lenOf _
            rw [hle.out, hlo.out]
            omega
theorem rtext_any (v : Value) (x : Nat) (w : World) (h : RNat w v x) (hx : RFits x) : Calls Tryz.prog 69 #[v] w (Texts w x) := by
  rcases Nat.eq_zero_or_pos x with e | e
  · subst e
    exact rtext_zero v w h
  · exact rtext_pos v x w h hx (by omega)
end Go.Proofs.YtmiiaomdenpceaaGreatDoor

