/- Contracts of the program's functions, part 12: own work, joined in build order. -/
import Derived.Test.YtchomkadekikdaaGreatDoorR11
import Derived.Handy
import Derived.Laws.Bits64b
import Derived.Test.YtchomkadekikdaaGreatDoorRows
import Derived.WalkKit
import Derived.WalkMore
import Derived.ScopeJumps
namespace Go.Proofs.YtchomkadekikdaaGreatDoor
open Go.RowKit
set_option maxRecDepth 100000
set_option linter.unusedVariables false
def szI (p q : Nat) : Int := (bitLen p : Int) - (bitLen q : Int)
def tfB (p q : Nat) : Nat := bitsAt p q (flI p q (szI p q))
def tfV (p q : Nat) : Nat := if p = 0 then 0 else if tfB p q < 9218868437227405312 then tfB p q else 0
def tfOk (p q : Nat) : Bool := decide (p = 0) || decide (tfB p q < 9218868437227405312)
theorem sz_at {p q : Nat} (hp : 0 < p) (hq : 0 < q) : At p q (flI p q (szI p q)) := by
  obtain ⟨h1, h2⟩ := bitLen_spec p
  obtain ⟨k1, k2⟩ := bitLen_spec q
  have p1 := bitLen_pos hp
  have q1 := bitLen_pos hq
  have := flI_at (p := p) (q := q) (a := bitLen p - 1) (b := bitLen q - 1) (h2 (by omega)) (by rw [show bitLen p - 1 + 1 = bitLen p by omega]; exact h1) (k2 (by omega)) (by rw [show bitLen q - 1 + 1 = bitLen q by omega]; exact k1)
  rw [show ((bitLen p - 1 : Nat) : Int) - ((bitLen q - 1 : Nat) : Int) = szI p q by unfold szI; omega] at this
  exact this
theorem flI_le (p q : Nat) (s : Int) : flI p q s ≤ s ∧ s - 1 ≤ flI p q s := by unfold flI; split <;> omega
theorem tf_low {p q : Nat} (hp : 0 < p) (hq : 0 < q) (h : szI p q < -1075) : tfV p q = 0 ∧ tfOk p q = true := by
  have h1 := (sz_at hp hq).bits_low hq (by have := (flI_le p q (szI p q)).1; omega)
  unfold tfV tfOk tfB
  rw [h1]
  simp
theorem tf_high {p q : Nat} (hp : 0 < p) (hq : 0 < q) (h : 1024 < szI p q) : tfV p q = 0 ∧ tfOk p q = false := by
  have h1 := (sz_at hp hq).high hq (by have := (flI_le p q (szI p q)).2; omega)
  unfold tfV tfOk tfB
  rw [if_neg (by omega), if_neg (by omega)]
  simp
  omega
theorem tf_over {p q : Nat} (hp : 0 < p) (h : ¬ tfB p q < 9218868437227405312) : tfV p q = 0 ∧ tfOk p q = false := by
  unfold tfV tfOk
  rw [if_neg (by omega), if_neg h]
  simp
  omega
theorem tf_in {p q : Nat} (hp : 0 < p) (h : tfB p q < 9218868437227405312) : tfV p q = tfB p q ∧ tfOk p q = true := by
  unfold tfV tfOk
  rw [if_neg (by omega), if_pos h]
  simp [h]
theorem inUnits_any (v u : Value) (p q : Nat) (s : Int) (w : World) (h : IsNat w v p) (k : IsNat w u q) (hp : Fits p) (hq : Fits q) (h1 : -16777216 ≤ s) (h2 : s ≤ 16777216) :
    Calls Tryz.prog 69 #[v, u, .int .i64 s] w (Makes2N w (upN p s) (dnN q s)) := by
  unfold upN dnN
  by_cases hs : s < 0
  · have := inUnits_neg v u p q (-s).toNat s w h k hp (by omega) (by omega) (by omega)
    rw [show s.toNat = 0 by omega, Nat.pow_zero, Nat.mul_one]
    exact this
  have := inUnits_pos v u p q s.toNat s w h k hq (by omega) (by omega)
  rw [show (-s).toNat = 0 by omega, Nat.pow_zero, Nat.mul_one]
  exact this
theorem up_P {p n m : Nat} {s : Int} (h : p < P n) (hs : -64 * (m : Int) < s) (hm : 0 < m) : upN p s < P (n + m) := by
  unfold upN
  rw [P_add]
  exact Nat.mul_lt_mul'' h (by rw [P_two]; exact Nat.pow_lt_pow_right (by omega) (by omega))
theorem dn_P {p n m : Nat} {s : Int} (h : p < P n) (hs : s < 64 * (m : Int)) (hm : 0 < m) : dnN p s < P (n + m) := by
  unfold dnN
  rw [P_add]
  exact Nat.mul_lt_mul'' h (by rw [P_two]; exact Nat.pow_lt_pow_right (by omega) (by omega))
theorem tf_rules {u : Int} {x y ct B : Nat} (hx : x = (u + 1074).toNat) (hy : y = x * 4503599627370496) (hB : y + ct = B) (h1 : -1074 ≤ u) (h2 : x ≤ 2046) (h3 : ct ≤ 9007199254740992) :
    wrap64 (u + 1074) = (x : Int) ∧ IntKind.u64.wrap (x : Int) = (x : Int) ∧ IntKind.u64.wrap ((x : Int) * 4503599627370496) = (y : Int) ∧ IntKind.u64.wrap ((y : Int) + (ct : Int)) = (B : Int) :=
  ⟨by rw [IntWalk.wrap64_in _ ⟨by omega, by omega⟩]; omega, by rw [IntKind.wrap_u64]; omega, by rw [IntKind.wrap_u64]; omega, by rw [IntKind.wrap_u64]; omega⟩
set_option maxHeartbeats 8000000 in
theorem toFloat_any (v : Value) (p q : Nat) (w : World) (h : Rt w v p q) (hp : RS p) (hq : RS q) (hq0 : 0 < q) :
    Calls Tryz.prog 91 #[v] w fun e w' => e = .returned (.tuple #[.float .f64 (tfV p q), .bool (tfOk p q)]) ∧ Below w.heap.size w w' := by
  have h' := h
  obtain ⟨a, n, c, a', n', c', e0, _, _⟩ := h'.raw
  subst e0
  have S1 : Hid _ := ((sy_start w).addF h).box (.slice a n c) (.slice a' n' c') 68 _ rfl
  obtain ⟨s, hs⟩ : ∃ s : Int, s = szI p q := ⟨_, rfl⟩
  have lp : bitLen p ≤ 5760 := bitLen_P hp.lt
  have lq : bitLen q ≤ 5760 := bitLen_P hq.lt
  have m1 : IntKind.i64.wrap ((bitLen p : Int) - (bitLen q : Int)) = s := by rw [IntKind.wrap_i64, hs]; unfold szI; omega
  have HS : Hid (s = szI p q ∧ -5760 ≤ s ∧ s ≤ 5760) := ⟨hs, by rw [hs]; unfold szI; omega, by rw [hs]; unfold szI; omega⟩
  have HH : Hid (RS p ∧ RS q ∧ 0 < q) := ⟨hp, hq, hq0⟩
  have HL : Hid (p ≠ 0 → 0 < bitLen p) := fun hh => bitLen_pos (by omega)
  clear h h' hp hq hq0 hs
  go_enter Tryz.func91, Tryz.ntmps91
  go_wp2_with fail
  refine (parts_any _ p q _ (S1.out.fr (.agg #[.slice a n c, .slice a' n' c']) p q) HH.out.2.1.fits).mono ?_
  rintro e w1 ⟨v1, u1, rfl, hv1, hu1, hb1⟩
  obtain ⟨a1, n1, c1, rfl⟩ := hv1.isAgg
  obtain ⟨a2, n2, c2, rfl⟩ := hu1.isAgg
  have S2 : Hid _ := ((((S1.out.go hb1).addN hv1).addN hu1).box1 (.slice a1 n1 c1) 66 _ rfl).box1 (.slice a2 n2 c2) 66 _ rfl
  simp only [World.size_alloc] at S2
  clear hv1 hu1 hb1 S1
  go_wp2_with fail
  obtain ⟨w2, hw2⟩ : ∃ w2, w2 = (w1.alloc (.cells #[.slice a1 n1 c1] 66)).alloc (.cells #[.slice a2 n2 c2] 66) := ⟨_, rfl⟩
  obtain ⟨g, hg⟩ : ∃ g, g = w1.heap.size := ⟨_, rfl⟩
  rw [← hw2, ← hg] at S2
  rw [← hw2, ← hg]
  clear hw2 hg
  refine wp_region_inv (JB w2 [sNat (p), sEq (.int .i64 ((bitLen p : Nat) : Int)), sNat (q), sEq (.int .i64 ((bitLen q : Nat) : Int)), sEq (.int .i64 s), sEq (.int .i64 s)] []) 71 (by kernel_rfl) rfl (by kernel_rfl) (JB.start _ _ _) (fun HG HN => ⟨?_, ?_, ?_, ?_, ?_, ?_, trivial⟩) ?_
  · intro L vs a w' hJ hF hP hL
    have q4 : (a.tmps[4]?).getD undef = .pointer (some ⟨g, 0, none⟩) := hF.old 4 rfl
    have cb := cell_later hJ.bel (S2.out.cell (g) (.slice a1 n1 c1))
    exact run_val (v := .agg #[.slice a1 n1 c1]) rfl (by simp [execOp, go_sem, q4, cb]) ⟨_, rfl, hJ.step hL rfl (Below.refl _ _) (by exact ((S2.out.at (.agg #[.slice a1 n1 c1]) (p)).mono hJ.bel))⟩
  · intro L vs a w' hJ hF hP hL
    have p0 : L 0 = true := hP ⟨0, .data⟩ (by simp) rfl
    have s0 : IsNat w' (vs 0) (p) := hJ.sp 0 p0
    have q18 := hF.slot 0 18 rfl p0
    refine run_call (f := 72) (args := #[vs 0]) rfl (by simp [go_sem, q18]) (len_any _ p _ s0 HH.out.1.fits) ?_
    rintro e w2 ⟨rfl, hb⟩
    exact ⟨_, rfl, _, rfl, hJ.step hL rfl hb (by exact rfl)⟩
  · intro L vs a w' hJ hF hP hL
    have q5 : (a.tmps[5]?).getD undef = .pointer (some ⟨g + 1, 0, none⟩) := hF.old 5 rfl
    have cb := cell_later hJ.bel (S2.out.cell (g + 1) (.slice a2 n2 c2))
    exact run_val (v := .agg #[.slice a2 n2 c2]) rfl (by simp [execOp, go_sem, q5, cb]) ⟨_, rfl, hJ.step hL rfl (Below.refl _ _) (by exact ((S2.out.at (.agg #[.slice a2 n2 c2]) (q)).mono hJ.bel))⟩
  · intro L vs a w' hJ hF hP hL
    have p2 : L 2 = true := hP ⟨2, .data⟩ (by simp) rfl
    have s2 : IsNat w' (vs 2) (q) := hJ.sp 2 p2
    have q20 := hF.slot 2 20 rfl p2
    refine run_call (f := 72) (args := #[vs 2]) rfl (by simp [go_sem, q20]) (len_any _ q _ s2 HH.out.2.1.fits) ?_
    rintro e w2 ⟨rfl, hb⟩
    exact ⟨_, rfl, _, rfl, hJ.step hL rfl hb (by exact rfl)⟩
  · intro L vs a w' hJ hF hP hL
    have p1 : L 1 = true := hP ⟨1, .data⟩ (by simp) rfl
    have s1 : vs 1 = .int .i64 ((bitLen p : Nat) : Int) := hJ.sp 1 p1
    have q19 := hF.slot 1 19 rfl p1
    have p3 : L 3 = true := hP ⟨3, .data⟩ (by simp) rfl
    have s3 : vs 3 = .int .i64 ((bitLen q : Nat) : Int) := hJ.sp 3 p3
    have q21 := hF.slot 3 21 rfl p3
    exact run_val (v := .int .i64 s) rfl (by simp [execOp, go_sem, q19, s1, q21, s3, m1]) ⟨_, rfl, hJ.step hL rfl (Below.refl _ _) (by exact rfl)⟩
  · intro L vs a w' hJ hF hP hL
    have p4 : L 4 = true := hP ⟨4, .data⟩ (by simp) rfl
    have s4 : vs 4 = .int .i64 s := hJ.sp 4 p4
    have q22 := hF.slot 4 22 rfl p4
    exact run_val (v := .int .i64 s) rfl (by simp [execOp, go_sem, q22, s4]) ⟨_, rfl, hJ.step hL rfl (Below.refl _ _) (by exact rfl)⟩
  intro L vs w' hA hJ
  have s5 : vs 5 = .int .i64 s := hJ.sp 5 (hA 5 (by simp))
  simp only [putL, Act.put, List.setIfInBounds_toArray, List.set_cons_zero, List.set_cons_succ, Nat.reduceAdd]
  simp only [s5]
  obtain ⟨w3, ew3⟩ : ∃ w3, w3 = w' := ⟨_, rfl⟩
  have S3 : Hid _ := S2.out.go (ew3 ▸ hJ.bel : Below w2.heap.size w2 w3)
  rw [← ew3]
  clear ew3 hJ hA s5 S2 m1 lp lq
  have k1 := S3.out.cel g 0 (.slice a1 n1 c1)
  go_wp2_with fail
  refine (len_any _ p _ (S3.out.at (.agg #[.slice a1 n1 c1]) p) HH.out.1.fits).mono ?_
  rintro e w4 ⟨rfl, hb4⟩
  have S4 : Hid _ := S3.out.go hb4
  clear hb4 S3 k1
  by_cases h0 : p = 0
  · have t1 : bitLen p = 0 := by rw [h0]; exact bitLen_zero
    have HV : Hid (tfV p q = 0 ∧ tfOk p q = true) := by constructor <;> simp [tfV, tfOk, h0]
    rw [t1]
    clear h0 t1
    go_wp2_with fail
    exact bodyPost_ret (v := .tuple #[.float .f64 (0), .bool true]) (by simp [results, Tryz.results91, go_sem]) rfl ⟨by rw [HV.out.1, HV.out.2], S4.out.bel⟩
  obtain ⟨l, hl⟩ : ∃ l, bitLen p = l := ⟨_, rfl⟩
  rw [hl]
  have t1 : ((l : Int) == 0) = false := by have := HL.out h0; simp; omega
  have t2 : decide ((l : Int) = 0) = false := by have := HL.out h0; exact decide_eq_false (by omega)
  have HP : Hid (0 < p) := by show _ < _; omega
  clear h0 hl HL
  by_cases h1 : s < -1075
  · have t3 : decide (s < -1075) = true := decide_eq_true h1
    have HV : Hid (tfV p q = 0 ∧ tfOk p q = true) := tf_low HP.out HH.out.2.2 (by rw [← HS.out.1]; exact h1)
    clear h1
    go_wp2_with fail
    exact bodyPost_ret (v := .tuple #[.float .f64 (0), .bool true]) (by simp [results, Tryz.results91, go_sem]) rfl ⟨by rw [HV.out.1, HV.out.2], S4.out.bel⟩
  have t3 : decide (s < -1075) = false := decide_eq_false h1
  by_cases h2 : 1024 < s
  · have t4 : decide (1024 < s) = true := decide_eq_true h2
    have HV : Hid (tfV p q = 0 ∧ tfOk p q = false) := tf_high HP.out HH.out.2.2 (by rw [← HS.out.1]; exact h2)
    clear h1 h2
    go_wp2_with fail
    exact bodyPost_ret (v := .tuple #[.float .f64 (0), .bool false]) (by simp [results, Tryz.results91, go_sem]) rfl ⟨by rw [HV.out.1, HV.out.2], S4.out.bel⟩
  have t4 : decide (1024 < s) = false := decide_eq_false h2
  have HB : Hid (-1075 ≤ s ∧ s ≤ 1024) := ⟨by omega, by omega⟩
  have k1 := S4.out.cel g 0 (.slice a1 n1 c1)
  have k2 := S4.out.cel (g + 1) 0 (.slice a2 n2 c2)
  clear h1 h2
  go_wp2_with fail
  refine (inUnits_any _ _ p q s _ (S4.out.at (.agg #[.slice a1 n1 c1]) p) (S4.out.at (.agg #[.slice a2 n2 c2]) q) HH.out.1.fits HH.out.2.1.fits (by have := HB.out; omega) (by have := HB.out; omega)).mono ?_
  rintro e w5 ⟨v5, u5, rfl, hv5, hu5, hb5⟩
  obtain ⟨a5, n5, c5, rfl⟩ := hv5.isAgg
  obtain ⟨a6, n6, c6, rfl⟩ := hu5.isAgg
  have S5 : Hid _ := ((((S4.out.go hb5).addN hv5).addN hu5).box1 (.slice a5 n5 c5) 66 _ rfl).box1 (.slice a6 n6 c6) 66 _ rfl
  simp only [World.size_alloc] at S5
  clear hv5 hu5 hb5 S4 k1 k2
  go_wp2_with fail
  obtain ⟨w6, hw6⟩ : ∃ w6, w6 = (w5.alloc (.cells #[.slice a5 n5 c5] 66)).alloc (.cells #[.slice a6 n6 c6] 66) := ⟨_, rfl⟩
  rw [← hw6] at S5
  rw [← hw6]
  clear hw6
  obtain ⟨z, hz⟩ : ∃ z, cmpI (upN p s) (dnN q s) = z := ⟨_, rfl⟩
  obtain ⟨f, hf⟩ : ∃ f : Int, f = flI p q s := ⟨_, rfl⟩
  obtain ⟨u, hu⟩ : ∃ u : Int, u = unI f := ⟨_, rfl⟩
  have HF : Hid (f = flI p q s ∧ u = unI f ∧ (z < 0 ↔ upN p s < dnN q s) ∧ cmpI (upN p s) (dnN q s) = z) := ⟨hf, hu, by rw [← hz]; unfold cmpI; split <;> (try split) <;> omega, hz⟩
  have SU : Hid (upN p s < P 107 ∧ dnN q s < P 107) := ⟨up_P (n := 90) (m := 17) HH.out.1.lt (by have := HB.out; omega) (by omega), dn_P (n := 90) (m := 17) HH.out.2.1.lt (by have := HB.out; omega) (by omega)⟩
  clear hz hf hu
  refine (cmp_z _ _ (upN p s) (dnN q s) z _ (S5.out.at (.agg #[.slice a5 n5 c5]) (upN p s)) (S5.out.at (.agg #[.slice a6 n6 c6]) (dnN q s)) (fits_P SU.out.1 (by omega)) (fits_P SU.out.2 (by omega)) HF.out.2.2.2).mono ?_
  rintro e w7 ⟨rfl, hb7⟩
  have S7 : Hid _ := S5.out.go hb7
  clear hb7 S5 SU
  have hAt := sz_at HP.out HH.out.2.2
  rw [← HS.out.1, ← HF.out.1] at hAt
  have hfb := flI_le p q s
  rw [← HF.out.1] at hfb
  have hub : -1074 ≤ u ∧ u ≤ 972 := by rw [HF.out.2.1]; have := HB.out; unfold unI; split <;> omega
  have hct := hAt.ct HH.out.2.2
  rw [← HF.out.2.1] at hct
  obtain ⟨ct, ect⟩ : ∃ ct, ct = ctN p q u := ⟨_, rfl⟩
  rw [← ect] at hct
  obtain ⟨B, hB⟩ : ∃ B : Nat, B = (u + 1074).toNat * 4503599627370496 + ct := ⟨_, rfl⟩
  have hTB : tfB p q = B := by unfold tfB bitsAt; rw [← HS.out.1, ← HF.out.1, ← HF.out.2.1, ← ect, ← hB]
  have k1 := S7.out.cel g 0 (.slice a1 n1 c1)
  have k2 := S7.out.cel (g + 1) 0 (.slice a2 n2 c2)
  have g1 : wrap64 (f - 52) = f - 52 := IntWalk.wrap64_in _ ⟨by have := HB.out; omega, by have := HB.out; omega⟩
  have g2 : (if f - 52 < -1074 then (-1074 : Int) else f - 52) = u := by rw [HF.out.2.1]; rfl
  have g3 : max (f - 52) (-1074) = u := by rw [HF.out.2.1]; unfold unI; split <;> omega
  obtain ⟨x, hx⟩ : ∃ x : Nat, x = (u + 1074).toNat := ⟨_, rfl⟩
  obtain ⟨y, hy⟩ : ∃ y : Nat, y = x * 4503599627370496 := ⟨_, rfl⟩
  have hyB : y + ct = B := by rw [hB, ← hx, hy]
  have hx2 : x ≤ 2046 := by omega
  have hyl : y ≤ 9214364837600034816 := by omega
  obtain ⟨g4, g5, g6, g8⟩ := tf_rules (u := u) hx hy hyB hub.1 hx2 hct
  have HC : Hid (ct < 18446744073709551616 ∧ upN p u < P 107 ∧ dnN q u < P 107 ∧ 0 < dnN q u ∧ -16777216 ≤ u ∧ u ≤ 16777216 ∧ ct = nearN (upN p u) (dnN q u) ∧ tfB p q = B) := ⟨by omega, up_P (n := 90) (m := 17) HH.out.1.lt (by omega) (by omega), dn_P (n := 90) (m := 17) HH.out.2.1.lt (by omega) (by omega), dnN_pos HH.out.2.2 u, by omega, by omega, ect, hTB⟩
  have HG : Hid (wrap64 (f - 52) = f - 52) := g1
  clear hAt hfb hub hct ect hTB hx hx2 hB g1 hy hyB hyl
  by_cases h3 : z < 0
  · have t5 : decide (z < 0) = true := decide_eq_true h3
    have t6 : wrap64 (s - 1) = f := by rw [IntWalk.wrap64_in _ ⟨by have := HB.out; omega, by have := HB.out; omega⟩, HF.out.1]; unfold flI; rw [if_pos (HF.out.2.2.1.1 h3)]
    have g1 := HG.out
    clear h3
    go_wp2_with fail
    refine (inUnits_any _ _ p q u _ (S7.out.at (.agg #[.slice a1 n1 c1]) p) (S7.out.at (.agg #[.slice a2 n2 c2]) q) HH.out.1.fits HH.out.2.1.fits HC.out.2.2.2.2.1 HC.out.2.2.2.2.2.1).mono ?_
    rintro e w8 ⟨v8, u8, rfl, hv8, hu8, hb8⟩
    have S8 : Hid _ := (((S7.out.go hb8).addN hv8).addN hu8)
    clear hv8 hu8 hb8 S7 k1 k2
    go_wp2_with fail
    refine (nearest_any v8 u8 (upN p u) (dnN q u) _ (S8.out.at v8 (upN p u)) (S8.out.at u8 (dnN q u)) (P_up HC.out.2.1 (by omega)) (P_up HC.out.2.2.1 (by omega)) HC.out.2.2.2.1).mono ?_
    rintro e w9 ⟨v9, rfl, hv9, hb9⟩
    rw [← HC.out.2.2.2.2.2.2.1] at hv9
    have S9 : Hid _ := (S8.out.go hb9).addN hv9
    clear hv9 hb9 S8
    go_wp2_with fail
    refine (uint_yes v9 ct _ (S9.out.at v9 ct) HC.out.1).mono ?_
    rintro e w10 ⟨rfl, hb10⟩
    have S10 : Hid _ := S9.out.go hb10
    clear hb10 S9
    by_cases h3 : B < 9218868437227405312
    · have t5 : decide (9218868437227405312 ≤ B) = false := decide_eq_false (by omega)
      have t6 : decide ((9218868437227405312 : Int) ≤ (B : Int)) = false := decide_eq_false (by omega)
      have HV : Hid (tfV p q = B ∧ tfOk p q = true) := by have := tf_in (q := q) HP.out (by rw [HC.out.2.2.2.2.2.2.2]; exact h3); rw [HC.out.2.2.2.2.2.2.2] at this; exact this
      clear h3
      go_wp2_with fail
      refine (float_any B _).mono ?_
      rintro e w11 ⟨rfl, hw11⟩
      rw [hw11]
      clear hw11
      go_wp2_with fail
      exact bodyPost_ret (v := .tuple #[.float .f64 (B), .bool true]) (by simp [results, Tryz.results91, go_sem]) rfl ⟨by rw [HV.out.1, HV.out.2], S10.out.bel⟩
            
    have t5 : decide (9218868437227405312 ≤ B) = true := decide_eq_true (by omega)
    have t6 : decide ((9218868437227405312 : Int) ≤ (B : Int)) = true := decide_eq_true (by omega)
    have HV : Hid (tfV p q = 0 ∧ tfOk p q = false) := tf_over HP.out (by rw [HC.out.2.2.2.2.2.2.2]; exact h3)
    clear h3
    go_wp2_with fail
    exact bodyPost_ret (v := .tuple #[.float .f64 (0), .bool false]) (by simp [results, Tryz.results91, go_sem]) rfl ⟨by rw [HV.out.1, HV.out.2], S10.out.bel⟩
            
  have t5 : decide (z < 0) = false := decide_eq_false h3
  obtain rfl : f = s := by rw [HF.out.1]; unfold flI; rw [if_neg (fun hh => h3 (HF.out.2.2.1.2 hh))]
  have g1 := HG.out
  clear h3
  go_wp2_with fail
  refine (inUnits_any _ _ p q u _ (S7.out.at (.agg #[.slice a1 n1 c1]) p) (S7.out.at (.agg #[.slice a2 n2 c2]) q) HH.out.1.fits HH.out.2.1.fits HC.out.2.2.2.2.1 HC.out.2.2.2.2.2.1).mono ?_
  rintro e w8 ⟨v8, u8, rfl, hv8, hu8, hb8⟩
  have S8 : Hid _ := (((S7.out.go hb8).addN hv8).addN hu8)
  clear hv8 hu8 hb8 S7 k1 k2
  go_wp2_with fail
  refine (nearest_any v8 u8 (upN p u) (dnN q u) _ (S8.out.at v8 (upN p u)) (S8.out.at u8 (dnN q u)) (P_up HC.out.2.1 (by omega)) (P_up HC.out.2.2.1 (by omega)) HC.out.2.2.2.1).mono ?_
  rintro e w9 ⟨v9, rfl, hv9, hb9⟩
  rw [← HC.out.2.2.2.2.2.2.1] at hv9
  have S9 : Hid _ := (S8.out.go hb9).addN hv9
  clear hv9 hb9 S8
  go_wp2_with fail
  refine (uint_yes v9 ct _ (S9.out.at v9 ct) HC.out.1).mono ?_
  rintro e w10 ⟨rfl, hb10⟩
  have S10 : Hid _ := S9.out.go hb10
  clear hb10 S9
  by_cases h3 : B < 9218868437227405312
  · have t5 : decide (9218868437227405312 ≤ B) = false := decide_eq_false (by omega)
    have t6 : decide ((9218868437227405312 : Int) ≤ (B : Int)) = false := decide_eq_false (by omega)
    have HV : Hid (tfV p q = B ∧ tfOk p q = true) := by have := tf_in (q := q) HP.out (by rw [HC.out.2.2.2.2.2.2.2]; exact h3); rw [HC.out.2.2.2.2.2.2.2] at this; exact this
    clear h3
    go_wp2_with fail
    refine (float_any B _).mono ?_
    rintro e w11 ⟨rfl, hw11⟩
    rw [hw11]
    clear hw11
    go_wp2_with fail
    exact bodyPost_ret (v := .tuple #[.float .f64 (B), .bool true]) (by simp [results, Tryz.results91, go_sem]) rfl ⟨by rw [HV.out.1, HV.out.2], S10.out.bel⟩
            
  have t5 : decide (9218868437227405312 ≤ B) = true := decide_eq_true (by omega)
  have t6 : decide ((9218868437227405312 : Int) ≤ (B : Int)) = true := decide_eq_true (by omega)
  have HV : Hid (tfV p q = 0 ∧ tfOk p q = false) := tf_over HP.out (by rw [HC.out.2.2.2.2.2.2.2]; exact h3)
  clear h3
  go_wp2_with fail
  exact bodyPost_ret (v := .tuple #[.float .f64 (0), .bool false]) (by simp [results, Tryz.results91, go_sem]) rfl ⟨by rw [HV.out.1, HV.out.2], S10.out.bel⟩
            
theorem ten_P90 {n : Nat} (h : n ≤ 1500) : 10 ^ n < P 90 := by
  exact Nat.lt_of_le_of_lt (Nat.pow_le_pow_right (by omega) h) (by decide +kernel : 10 ^ 1500 < P 90)
theorem pow_half {x y m X : Nat} (h : x * y ^ m = X) (hm : m % 2 = 0) : x * (y * y) ^ (m / 2) = X := by
  rw [← h, ← Nat.pow_two, ← Nat.pow_mul]
  congr 2
  omega
theorem pow_odd {x y m X : Nat} (h : x * y ^ m = X) (hm : m % 2 = 1) : x * y * (y * y) ^ (m / 2) = X := by
  rw [← h, ← Nat.pow_two, ← Nat.pow_mul, Nat.mul_assoc, ← Nat.pow_succ']
  congr 2
  omega
theorem pow_fst {x y m X : Nat} (h : x * y ^ m = X) (hy : 0 < y) : x ≤ X := by
  rw [← h]
  exact Nat.le_mul_of_pos_right _ (Nat.pow_pos hy)
theorem pow_snd {x y m X : Nat} (h : x * y ^ m = X) (hx : 0 < x) (hy : 0 < y) (hm : 0 < m) : y ≤ X := by
  rw [← h]
  have h1 : y ^ 1 ≤ y ^ m := Nat.pow_le_pow_right hy hm
  rw [Nat.pow_one] at h1
  exact Nat.le_trans h1 (Nat.le_mul_of_pos_left _ hx)
def Tn10 (w : World) (b g n : Nat) (wr : World) (m x y : Nat) (a1 : Option Addr) (n1 c1 : Nat) (a2 : Option Addr) (n2 c2 : Nat) : Prop :=
  x * y ^ m = 10 ^ n ∧ 0 < x ∧ 0 < y ∧ SY w wr [(.agg #[.slice a1 n1 c1], x), (.agg #[.slice a2 n2 c2], y)] [] [] [] [(g, 0, .slice a1 n1 c1), (g + 1, 0, .slice a2 n2 c2), (b, 0, .slice none 0 0)] [g, g + 1, b] ∧ b < g
set_option maxHeartbeats 4000000 in
theorem tenTo_any (n : Nat) (w : World) (hn : n ≤ 1500) :
    Calls Tryz.prog 149 #[.int .i64 (n : Int)] w (Makes w (10 ^ n)) := by
  have S0 : Hid _ := (sy_start w).box1 (.slice none 0 0) 66 _ rfl
  have HX : Hid (n ≤ 1500 ∧ 10 ^ n < P 90) := ⟨hn, ten_P90 hn⟩
  go_enter Tryz.func149, Tryz.ntmps149
  go_wp2_with fail
  refine (of_any 1 _ (by omega)).mono ?_
  rintro e w1 ⟨v1, rfl, hv1, hb1⟩
  obtain ⟨a1, n1, c1, rfl⟩ := hv1.isAgg
  have S1 : Hid _ := (S0.out.go hb1).addN hv1
  clear hv1 hb1 S0
  go_wp2_with fail
  refine (of_any 10 _ (by omega)).mono ?_
  rintro e w2 ⟨v2, rfl, hv2, hb2⟩
  obtain ⟨a2, n2, c2, rfl⟩ := hv2.isAgg
  have S2 : Hid _ := (((S1.out.go hb2).addN hv2).box1 (.slice a1 n1 c1) 66 _ rfl).box1 (.slice a2 n2 c2) 66 _ rfl
  simp only [World.size_alloc] at S2
  have HB : Hid (w.heap.size < w2.heap.size) := (S1.out.go hb2).lt w.heap.size
  clear hv2 hb2 S1
  go_wp2_with fail
  obtain ⟨w3, hw3⟩ : ∃ w3, w3 = (w2.alloc (.cells #[.slice a1 n1 c1] 66)).alloc (.cells #[.slice a2 n2 c2] 66) := ⟨_, rfl⟩
  obtain ⟨g, hg⟩ : ∃ g, g = w2.heap.size := ⟨_, rfl⟩
  obtain ⟨b, hb⟩ : ∃ b, b = w.heap.size := ⟨_, rfl⟩
  rw [← hw3, ← hg, ← hb] at S2
  rw [← hw3, ← hg, ← hb]
  have hbg : b < g := by rw [hg, hb]; exact HB.out
  clear hw3 hg hb
  have A0 : Hid (Tn10 w b g n w3 n 1 10 a1 n1 c1 a2 n2 c2) := ⟨by rw [Nat.one_mul], by omega, by omega, S2.out.sub _ _ _ _ _ _ (by simp) (by simp) (by simp) (by simp) (by simp) (by simp), hbg⟩
  clear S2 hbg
  go_loopw [0] (fun t wr => ∃ (m x y : Nat) (a1 : Option Addr) (n1 c1 : Nat) (a2 : Option Addr) (n2 c2 : Nat), t = .int .i64 (m : Int) ∧ m ≤ 1500 ∧ Tn10 w b g n wr m x y a1 n1 c1 a2 n2 c2) (fun t _ => (intOf t).toNat)
  case atStart => exact ⟨n, 1, 10, _, _, _, _, _, _, rfl, HX.out.1, A0.out⟩
  case round =>
    clear A0
    obtain ⟨m, x, y, a1, n1, c1, a2, n2, c2, rfl, hm, hT⟩ := hrel
    have I : Hid _ := hT
    clear hT
    have k1 := I.out.2.2.2.1.cel g 0 (.slice a1 n1 c1)
    have k2 := I.out.2.2.2.1.cel (g + 1) 0 (.slice a2 n2 c2)
    have k3 := I.out.2.2.2.1.cel b 0 (.slice none 0 0)
    have f1 := I.out.2.2.2.1.fz g 0
    have f2 := I.out.2.2.2.1.fz (g + 1) 0
    have f3 := I.out.2.2.2.1.fz b 0
    by_cases h0 : 0 < m
    · obtain ⟨q, hq⟩ : ∃ q, q = m / 2 := ⟨_, rfl⟩
      have r2 : (m : Int).tdiv 2 = (q : Int) := by rw [Int.tdiv_eq_ediv_of_nonneg (by omega)]; omega
      have r3 : IntKind.i64.wrap (q : Int) = (q : Int) := by rw [IntKind.wrap_i64]; omega
      have d0 : decide (0 < (m : Int)) = true := decide_eq_true (by omega)
      have HQ : Hid (q = m / 2) := hq
      have HM : Hid (0 < m) := h0
      clear hq h0
      have sy : Hid (y < P 90) := Nat.lt_of_le_of_lt (pow_snd I.out.1 I.out.2.1 I.out.2.2.1 HM.out) HX.out.2
      have sx : Hid (x < P 90) := Nat.lt_of_le_of_lt (pow_fst I.out.1 I.out.2.2.1) HX.out.2
      by_cases ho : m % 2 = 1
      · have d3 : (m : Int).tmod 2 = 1 := by rw [Int.tmod_eq_emod_of_nonneg (by omega)]; omega
        have HO : Hid (m % 2 = 1) := ho
        clear ho
        go_wp2_with fail
        refine (mul_short _ _ x y _ (I.out.2.2.2.1.at (.agg #[.slice a1 n1 c1]) x) (I.out.2.2.2.1.at (.agg #[.slice a2 n2 c2]) y) (fits_P sx.out (by omega)) (fits_P sy.out (by omega)) (.inl (P_up sx.out (by omega)))).mono ?_
        rintro e w4 ⟨v4, rfl, hv4, hb4⟩
        obtain ⟨a4, n4, c4, rfl⟩ := hv4.isAgg
        have J : Hid _ := (I.out.2.2.2.1.go hb4).addN hv4
        clear hv4 hb4 k1 k2 k3 f1 f2 f3
        have k1 := J.out.cel g 0 (.slice a1 n1 c1)
        have k2 := J.out.cel (g + 1) 0 (.slice a2 n2 c2)
        have f1 := J.out.fz g 0
        have f2 := J.out.fz (g + 1) 0
        have K : Hid _ := (J.out.set (b := g) (i := 0) k1 (J.out.lo g) [(g + 1, 0, .slice a2 n2 c2), (b, 0, .slice none 0 0)] (by have := I.out.2.2.2.2; simp; omega) (.slice a4 n4 c4)).addC (b := g) (i := 0) (v := .slice a4 n4 c4) (by simp [go_sem, k1])
        have k5 : (w4.setCell ⟨g, 0, none⟩ (.slice a4 n4 c4)).cell? ⟨g + 1, 0, none⟩ = some (.slice a2 n2 c2) := K.out.cel (g + 1) 0 (.slice a2 n2 c2)
        go_wp2_with fail
        obtain ⟨w5, hw5⟩ : ∃ w5, w5 = w4.setCell ⟨g, 0, none⟩ (.slice a4 n4 c4) := ⟨_, rfl⟩
        rw [← hw5] at K
        rw [← hw5]
        clear hw5 J k1 k2 f1 f2 k5
        refine (mul_short _ _ y y _ (K.out.at (.agg #[.slice a2 n2 c2]) y) (K.out.at (.agg #[.slice a2 n2 c2]) y) (fits_P sy.out (by omega)) (fits_P sy.out (by omega)) (.inl (P_up sy.out (by omega)))).mono ?_
        rintro e w6 ⟨v6, rfl, hv6, hb6⟩
        obtain ⟨a6, n6, c6, rfl⟩ := hv6.isAgg
        have J : Hid _ := (K.out.go hb6).addN hv6
        clear hv6 hb6
        have k1 := J.out.cel (g + 1) 0 (.slice a2 n2 c2)
        have f1 := J.out.fz (g + 1) 0
        have L : Hid _ := (J.out.set (b := g + 1) (i := 0) k1 (J.out.lo (g + 1)) [(g, 0, .slice a4 n4 c4), (b, 0, .slice none 0 0)] (by have := I.out.2.2.2.2; simp; omega) (.slice a6 n6 c6)).addC (b := g + 1) (i := 0) (v := .slice a6 n6 c6) (by simp [go_sem, k1])
        have I2 : Hid (Tn10 w b g n (w6.setCell ⟨g + 1, 0, none⟩ (.slice a6 n6 c6)) q (x * y) (y * y) a4 n4 c4 a6 n6 c6) := ⟨by rw [HQ.out]; exact pow_odd I.out.1 HO.out, Nat.mul_pos I.out.2.1 I.out.2.2.1, Nat.mul_pos I.out.2.2.1 I.out.2.2.1, L.out.sub _ _ _ _ _ _ (by simp) (by simp) (by simp) (by simp) (by simp) (by simp), I.out.2.2.2.2⟩
        clear J K L sx sy
        go_wp2_with fail
        go_roundw
        case rel => exact ⟨q, x * y, y * y, _, _, _, _, _, _, by go_num, by have := HQ.out; omega, I2.out⟩
        case measure => have := HQ.out; have := HM.out; simp [intOf]; omega
      have d3 : (m : Int).tmod 2 = 0 := by rw [Int.tmod_eq_emod_of_nonneg (by omega)]; omega
      have HO : Hid (m % 2 = 0) := by show _ = _; omega
      clear ho
      go_wp2_with fail
      refine (mul_short _ _ y y _ (I.out.2.2.2.1.at (.agg #[.slice a2 n2 c2]) y) (I.out.2.2.2.1.at (.agg #[.slice a2 n2 c2]) y) (fits_P sy.out (by omega)) (fits_P sy.out (by omega)) (.inl (P_up sy.out (by omega)))).mono ?_
      rintro e w6 ⟨v6, rfl, hv6, hb6⟩
      obtain ⟨a6, n6, c6, rfl⟩ := hv6.isAgg
      have J : Hid _ := (I.out.2.2.2.1.go hb6).addN hv6
      clear hv6 hb6 k1 k2 k3 f1 f2 f3
      have k1 := J.out.cel (g + 1) 0 (.slice a2 n2 c2)
      have f1 := J.out.fz (g + 1) 0
      have L : Hid _ := (J.out.set (b := g + 1) (i := 0) k1 (J.out.lo (g + 1)) [(g, 0, .slice a1 n1 c1), (b, 0, .slice none 0 0)] (by have := I.out.2.2.2.2; simp; omega) (.slice a6 n6 c6)).addC (b := g + 1) (i := 0) (v := .slice a6 n6 c6) (by simp [go_sem, k1])
      have I2 : Hid (Tn10 w b g n (w6.setCell ⟨g + 1, 0, none⟩ (.slice a6 n6 c6)) q x (y * y) a1 n1 c1 a6 n6 c6) := ⟨by rw [HQ.out]; exact pow_half I.out.1 HO.out, I.out.2.1, Nat.mul_pos I.out.2.2.1 I.out.2.2.1, L.out.sub _ _ _ _ _ _ (by simp) (by simp) (by simp) (by simp) (by simp) (by simp), I.out.2.2.2.2⟩
      clear J L sx sy
      go_wp2_with fail
      go_roundw
      case rel => exact ⟨q, x, y * y, _, _, _, _, _, _, by go_num, by have := HQ.out; omega, I2.out⟩
      case measure => have := HQ.out; have := HM.out; simp [intOf]; omega
    obtain rfl : m = 0 := by omega
    have HV : Hid (10 ^ n = x) := by show _ = _; rw [← I.out.1, Nat.pow_zero, Nat.mul_one]
    have Z : Hid _ := I.out.2.2.2.1.ret1 (r := b) k3 (by simp) (I.out.2.2.2.1.at (.agg #[.slice a1 n1 c1]) x) (.slice a1 n1 c1)
    go_wp2_with fail
    exact bodyPost_ret (v := .agg #[.slice a1 n1 c1]) (by simp [results, Tryz.results149, go_sem, k3]) rfl ⟨_, rfl, by rw [HV.out]; exact Z.out.1, Z.out.2⟩
theorem decVal_lt {s : ByteArray} : ∀ {i : Nat}, Digits s i → decVal s i < 10 ^ i
  | 0, _ => by simp [decVal]
  | i + 1, h => by
    have h1 := decVal_lt (i := i) fun j hj => h j (by omega)
    have h2 := h i (by omega)
    rw [decVal, Nat.pow_succ]
    omega
def isD (s : ByteArray) (i : Nat) : Bool := decide (i < s.size) && (decide (48 ≤ sb s i) && decide (sb s i ≤ 57))
def runF (s : ByteArray) : Nat → Nat → Nat
  | 0, i => i
  | k + 1, i => if isD s i then runF s k (i + 1) else i
def runE (s : ByteArray) (i : Nat) : Nat := runF s (s.size - i) i
theorem isD_lt {s : ByteArray} {i : Nat} (h : isD s i = true) : i < s.size := by
  unfold isD at h
  simp at h
  exact h.1
theorem isD_dig {s : ByteArray} {i : Nat} (h : isD s i = true) : 48 ≤ sb s i ∧ sb s i ≤ 57 := by
  unfold isD at h
  simp at h
  exact h.2
theorem runE_yes {s : ByteArray} {i : Nat} (h : isD s i = true) : runE s i = runE s (i + 1) := by
  have := isD_lt h
  unfold runE
  rw [show s.size - i = s.size - (i + 1) + 1 by omega, runF, if_pos h]
theorem runE_no {s : ByteArray} {i : Nat} (h : isD s i = false) : runE s i = i := by
  unfold runE
  cases s.size - i with
  | zero => rfl
  | succ k => rw [runF, if_neg (by simp [h])]
theorem runF_ge (s : ByteArray) : ∀ k i, i ≤ runF s k i
  | 0, i => Nat.le_refl _
  | k + 1, i => by
    rw [runF]
    split
    · have := runF_ge s k (i + 1); omega
    omega
theorem runE_ge (s : ByteArray) (i : Nat) : i ≤ runE s i := runF_ge s _ i
theorem runF_le (s : ByteArray) : ∀ k i, i ≤ s.size → runF s k i ≤ s.size
  | 0, i, h => h
  | k + 1, i, h => by
    rw [runF]
    split
    · rename_i hd
      have := isD_lt hd
      exact runF_le s k (i + 1) (by omega)
    exact h
theorem runE_le {s : ByteArray} {i : Nat} (h : i ≤ s.size) : runE s i ≤ s.size := runF_le s _ i h
theorem runF_dig (s : ByteArray) : ∀ k i j, i ≤ j → j < runF s k i → isD s j = true
  | 0, i, j, h1, h2 => by rw [runF] at h2; omega
  | k + 1, i, j, h1, h2 => by
    rw [runF] at h2
    split at h2
    · rename_i hd
      rcases Nat.eq_or_lt_of_le h1 with e | e
      · rw [← e]; exact hd
      exact runF_dig s k (i + 1) j e h2
    omega
theorem runE_dig {s : ByteArray} {i j : Nat} (h1 : i ≤ j) (h2 : j < runE s i) : isD s j = true := runF_dig s _ i j h1 h2
theorem runE_end {s : ByteArray} {i : Nat} (h : i ≤ s.size) : isD s (runE s i) = false := by
  obtain ⟨k, hk⟩ : ∃ k, k = s.size - i := ⟨_, rfl⟩
  induction k generalizing i with
  | zero =>
    have e : i = s.size := by omega
    have hn : isD s i = false := by unfold isD; rw [e]; simp
    rw [runE_no hn]
    exact hn
  | succ k ih =>
    cases hd : isD s i with
    | true =>
      rw [runE_yes hd]
      have := isD_lt hd
      exact ih (by omega) (by omega)
    | false => rw [runE_no hd]; exact hd
theorem sb_extract {s : ByteArray} {a b i : Nat} (hb : b ≤ s.size) (hi : a + i < b) : sb (s.extract a b) i = sb s (a + i) := by
  have h1 : i < (s.extract a b).size := by rw [ByteArray.size_extract]; omega
  have h2 : a + i < s.size := by omega
  unfold sb
  rw [dif_pos h1, dif_pos h2]
  rw [ByteArray.getElem_extract h1]
theorem size_ext {s : ByteArray} {a b : Nat} (hb : b ≤ s.size) : (s.extract a b).size = b - a := by rw [ByteArray.size_extract]; omega
theorem sb_app {s t : ByteArray} {i : Nat} : sb (s ++ t) i = if i < s.size then sb s i else sb t (i - s.size) := by
  have e := ByteArray.size_append (a := s) (b := t)
  unfold sb
  by_cases h1 : i < s.size
  · rw [if_pos h1, dif_pos h1, dif_pos (by omega), ByteArray.getElem_append_left h1]
  rw [if_neg h1]
  by_cases h2 : i - s.size < t.size
  · rw [dif_pos h2, dif_pos (by omega), ByteArray.getElem_append_right (by omega)]
  rw [dif_neg h2, dif_neg (by omega)]
theorem dig_ext {s : ByteArray} {i : Nat} (h : i ≤ s.size) : Digits (s.extract i (runE s i)) (s.extract i (runE s i)).size := by
  intro j hj
  have h1 := runE_le h
  rw [size_ext h1] at hj
  rw [sb_extract h1 (by omega)]
  exact isD_dig (runE_dig (i := i) (by omega) (by omega))
theorem dig_app {s t : ByteArray} (h : Digits s s.size) (k : Digits t t.size) : Digits (s ++ t) (s ++ t).size := by
  intro j hj
  rw [ByteArray.size_append] at hj
  rw [sb_app]
  split
  · exact h j (by assumption)
  exact k _ (by omega)
theorem text_k (v : Value) (x k : Nat) (w : World) (h : IsNat w v x) (ht : Tx x) (hk : DecLen x k) : Calls Tryz.prog 73 #[v] w fun e w' => e = .returned (.string (decText x k)) ∧ Below w.heap.size w w' := by
  refine (text_any v x w h ht).mono ?_
  rintro e w' ⟨l, rfl, hl, hb⟩
  rw [hl.unique hk]
  exact ⟨rfl, hb⟩
theorem cat_run (s t : ByteArray) (h : s.size + t.size ≤ 9223372036854775807) (w : World) : (binOp .add 9 (.string s) (.string t)).run Tryz.prog w = .ok (.string (s ++ t)) w := by
  simp [binOp, run_string_add_sum, h]
def fmtT (p q k l : Nat) : ByteArray := if q = 1 then decText p k else decText p k ++ ⟨#[47]⟩ ++ decText q l
theorem bitLen_one {q : Nat} : bitLen q = 1 ↔ q = 1 := by
  constructor
  · intro h
    have h1 := (bitLen_spec q).1
    rw [h] at h1
    rcases Nat.eq_zero_or_pos q with e | e
    · rw [e, bitLen_zero] at h
      omega
    omega
  intro h
  rw [h]
  decide +kernel
theorem dec_len {x k : Nat} (h : DecLen x k) (hx : x < P 200) : k ≤ 5000 := by
  rcases h.2.2 with h1 | h1
  · omega
  have h2 : 2 ^ (3 * (k - 1)) ≤ 10 ^ (k - 1) := by rw [Nat.pow_mul]; exact Nat.pow_le_pow_left (by decide) _
  have h3 : 2 ^ (3 * (k - 1)) < P 200 := Nat.lt_of_le_of_lt (Nat.le_trans h2 h1) hx
  rw [P_two] at h3
  have h4 := (Nat.pow_lt_pow_iff_right (show 1 < 2 by decide)).1 h3
  omega
set_option maxHeartbeats 4000000 in
theorem format_any (v : Value) (p q k l : Nat) (w : World) (h : Rt w v p q) (hp : RS p) (hq : RS q) (hk : DecLen p k) (hl : DecLen q l) :
    Calls Tryz.prog 31 #[v] w fun e w' => e = .returned (.string (fmtT p q k l)) ∧ Below w.heap.size w w' := by
  have h' := h
  obtain ⟨a, n, c, a', n', c', e0, _, _⟩ := h'.raw
  subst e0
  have S1 : Hid _ := ((sy_start w).addF h).box (.slice a n c) (.slice a' n' c') 68 _ rfl
  have HH : Hid (RS p ∧ RS q ∧ DecLen p k ∧ DecLen q l ∧ Tx p ∧ Tx q) := ⟨hp, hq, hk, hl, tx_of hp.lt (by omega), tx_of hq.lt (by omega)⟩
  have kp := dec_len hk (P_up hp.lt (by omega))
  have kq := dec_len hl (P_up hq.lt (by omega))
  have sp : (decText p k).size = k := text_size _ _
  have sq : (decText q l).size = l := text_size _ _
  have m1 : (decText p k).size ≤ 9223372036854775806 := by omega
  have m2 : (decText p k).size + 1 + (decText q l).size ≤ 9223372036854775807 := by omega
  clear h h' hp hq hk hl kp kq sp sq
  go_enter Tryz.func31, Tryz.ntmps31
  go_wp2_with fail
  refine (parts_any _ p q _ (S1.out.fr (.agg #[.slice a n c, .slice a' n' c']) p q) HH.out.2.1.fits).mono ?_
  rintro e w1 ⟨v1, u1, rfl, hv1, hu1, hb1⟩
  obtain ⟨a1, n1, c1, rfl⟩ := hv1.isAgg
  obtain ⟨a2, n2, c2, rfl⟩ := hu1.isAgg
  have S2 : Hid _ := ((((S1.out.go hb1).addN hv1).addN hu1).box1 (.slice a1 n1 c1) 66 _ rfl).box1 (.slice a2 n2 c2) 66 _ rfl
  simp only [World.size_alloc] at S2
  clear hv1 hu1 hb1 S1
  go_wp2_with fail
  obtain ⟨w2, hw2⟩ : ∃ w2, w2 = (w1.alloc (.cells #[.slice a1 n1 c1] 66)).alloc (.cells #[.slice a2 n2 c2] 66) := ⟨_, rfl⟩
  obtain ⟨g, hg⟩ : ∃ g, g = w1.heap.size := ⟨_, rfl⟩
  rw [← hw2, ← hg] at S2
  rw [← hw2, ← hg]
  clear hw2 hg
  refine (len_any _ q _ (S2.out.at (.agg #[.slice a2 n2 c2]) q) HH.out.2.1.fits).mono ?_
  rintro e w3 ⟨rfl, hb3⟩
  have S3 : Hid _ := S2.out.go hb3
  clear hb3 S2
  have k1 := S3.out.cel g 0 (.slice a1 n1 c1)
  by_cases h1 : q = 1
  · have t1 : bitLen q = 1 := bitLen_one.2 h1
    have HV : Hid (fmtT p q k l = decText p k) := by show _ = _; unfold fmtT; rw [if_pos h1]
    rw [t1]
    clear h1 t1
    go_wp2_with fail
    refine (text_k _ p k _ (S3.out.at (.agg #[.slice a1 n1 c1]) p) HH.out.2.2.2.2.1 HH.out.2.2.1).mono ?_
    rintro e w4 ⟨rfl, hb4⟩
    have S4 : Hid _ := S3.out.go hb4
    clear hb4 S3
    go_wp2_with fail
    go_ret
    rw [HV.out]
    exact ⟨rfl, S4.out.bel⟩
  obtain ⟨j, hj⟩ : ∃ j, bitLen q = j := ⟨_, rfl⟩
  rw [hj]
  have t1 : ((j : Int) == 1) = false := by
    have : ¬ j = 1 := fun e => h1 (bitLen_one.1 (by omega))
    simp
    omega
  have t2 : decide ((j : Int) = 1) = false := by
    have : ¬ j = 1 := fun e => h1 (bitLen_one.1 (by omega))
    exact decide_eq_false (by omega)
  have HV : Hid (fmtT p q k l = decText p k ++ ⟨#[47]⟩ ++ decText q l) := by show _ = _; unfold fmtT; rw [if_neg h1]
  clear h1 hj
  go_wp2_with fail
  refine wp_region_inv (JB w3 [sNat (p), sEq (.string (decText p k)), sEq (.string (decText p k ++ ⟨#[47]⟩)), sNat (q), sEq (.string (decText q l)), sEq (.string (decText p k ++ ⟨#[47]⟩ ++ decText q l)), sEq (.string (decText p k ++ ⟨#[47]⟩ ++ decText q l))] []) 21 (by kernel_rfl) rfl (by kernel_rfl) (JB.start _ _ _) (fun HG HN => ⟨?_, ?_, ?_, ?_, ?_, ?_, ?_, trivial⟩) ?_
  · intro L vs a w' hJ hF hP hL
    have q3 : (a.tmps[3]?).getD undef = .pointer (some ⟨g, 0, none⟩) := hF.old 3 rfl
    have cb := cell_later hJ.bel (S3.out.cell (g) (.slice a1 n1 c1))
    exact run_val (v := .agg #[.slice a1 n1 c1]) rfl (by simp [execOp, go_sem, q3, cb]) ⟨_, rfl, hJ.step hL rfl (Below.refl _ _) (by exact ((S3.out.at (.agg #[.slice a1 n1 c1]) (p)).mono hJ.bel))⟩
  · intro L vs a w' hJ hF hP hL
    have p0 : L 0 = true := hP ⟨0, .data⟩ (by simp) rfl
    have s0 : IsNat w' (vs 0) (p) := hJ.sp 0 p0
    have q15 := hF.slot 0 15 rfl p0
    refine run_call (f := 73) (args := #[vs 0]) rfl (by simp [go_sem, q15]) (text_k _ p k _ s0 HH.out.2.2.2.2.1 HH.out.2.2.1) ?_
    rintro e w2 ⟨rfl, hb⟩
    exact ⟨_, rfl, _, rfl, hJ.step hL rfl hb (by exact rfl)⟩
  · intro L vs a w' hJ hF hP hL
    have p1 : L 1 = true := hP ⟨1, .data⟩ (by simp) rfl
    have s1 : vs 1 = .string (decText p k) := hJ.sp 1 p1
    have q16 := hF.slot 1 16 rfl p1
    exact run_val (v := .string (decText p k ++ ⟨#[47]⟩)) rfl (by simp [execOp, go_sem, q16, s1, m1]) ⟨_, rfl, hJ.step hL rfl (Below.refl _ _) (by exact rfl)⟩
  · intro L vs a w' hJ hF hP hL
    have q4 : (a.tmps[4]?).getD undef = .pointer (some ⟨g + 1, 0, none⟩) := hF.old 4 rfl
    have cb := cell_later hJ.bel (S3.out.cell (g + 1) (.slice a2 n2 c2))
    exact run_val (v := .agg #[.slice a2 n2 c2]) rfl (by simp [execOp, go_sem, q4, cb]) ⟨_, rfl, hJ.step hL rfl (Below.refl _ _) (by exact ((S3.out.at (.agg #[.slice a2 n2 c2]) (q)).mono hJ.bel))⟩
  · intro L vs a w' hJ hF hP hL
    have p3 : L 3 = true := hP ⟨3, .data⟩ (by simp) rfl
    have s3 : IsNat w' (vs 3) (q) := hJ.sp 3 p3
    have q18 := hF.slot 3 18 rfl p3
    refine run_call (f := 73) (args := #[vs 3]) rfl (by simp [go_sem, q18]) (text_k _ q l _ s3 HH.out.2.2.2.2.2 HH.out.2.2.2.1) ?_
    rintro e w2 ⟨rfl, hb⟩
    exact ⟨_, rfl, _, rfl, hJ.step hL rfl hb (by exact rfl)⟩
  · intro L vs a w' hJ hF hP hL
    have p2 : L 2 = true := hP ⟨2, .data⟩ (by simp) rfl
    have s2 : vs 2 = .string (decText p k ++ ⟨#[47]⟩) := hJ.sp 2 p2
    have q17 := hF.slot 2 17 rfl p2
    have p4 : L 4 = true := hP ⟨4, .data⟩ (by simp) rfl
    have s4 : vs 4 = .string (decText q l) := hJ.sp 4 p4
    have q19 := hF.slot 4 19 rfl p4
    exact run_val (v := .string (decText p k ++ ⟨#[47]⟩ ++ decText q l)) rfl (by simp [execOp, go_sem, q17, s2, q19, s4, m2]) ⟨_, rfl, hJ.step hL rfl (Below.refl _ _) (by exact rfl)⟩
  · intro L vs a w' hJ hF hP hL
    have p5 : L 5 = true := hP ⟨5, .data⟩ (by simp) rfl
    have s5 : vs 5 = .string (decText p k ++ ⟨#[47]⟩ ++ decText q l) := hJ.sp 5 p5
    have q20 := hF.slot 5 20 rfl p5
    exact run_val (v := .string (decText p k ++ ⟨#[47]⟩ ++ decText q l)) rfl (by simp [execOp, go_sem, q20, s5]) ⟨_, rfl, hJ.step hL rfl (Below.refl _ _) (by exact rfl)⟩
  intro L vs w' hA hJ
  have s6 : vs 6 = .string (decText p k ++ ⟨#[47]⟩ ++ decText q l) := hJ.sp 6 (hA 6 (by simp))
  simp only [putL, Act.put, List.setIfInBounds_toArray, List.set_cons_zero, List.set_cons_succ, Nat.reduceAdd]
  simp only [s6]
  have HB : Hid (Below w.heap.size w w') := (S3.out.go hJ.bel).bel
  go_wp2_with fail
  go_ret
  rw [HV.out]
  exact ⟨rfl, HB.out⟩
def isFb (u : Nat) : Bool := decide (u = 9223372036854775808) || decide (u < 9218868437227405312)
def ffP (u : Nat) : Nat := if isFb u then fN (nz u) / Nat.gcd (fN (nz u)) (fD (nz u)) else 0
def ffQ (u : Nat) : Nat := if isFb u then fD (nz u) / Nat.gcd (fN (nz u)) (fD (nz u)) else 1
theorem fN_zero : fN 0 = 0 := by unfold fN fm; simp
theorem fD_gcd (u : Nat) (h : fN u = 0) : fN u / Nat.gcd (fN u) (fD u) = 0 ∧ fD u / Nat.gcd (fN u) (fD u) = 1 := by
  rw [h, Nat.gcd_zero_left, Nat.zero_div, Nat.div_self (fD_pos u)]
  exact ⟨rfl, rfl⟩
theorem ff_no {u : Nat} (h : isFb u = false) : ffP u = 0 ∧ ffQ u = 1 := by unfold ffP ffQ; rw [h]; exact ⟨rfl, rfl⟩
theorem ff_zero : ffP 9223372036854775808 = 0 ∧ ffQ 9223372036854775808 = 1 := by
  have h : isFb 9223372036854775808 = true := by decide
  unfold ffP ffQ
  rw [h, if_pos rfl, if_pos rfl]
  have : nz 9223372036854775808 = 0 := by unfold nz; simp
  rw [this]
  exact fD_gcd 0 fN_zero
theorem ff_yes {u : Nat} (h : u < 9218868437227405312) : ffP u = fN u / Nat.gcd (fN u) (fD u) ∧ ffQ u = fD u / Nat.gcd (fN u) (fD u) := by
  have h1 : isFb u = true := by unfold isFb; simp; omega
  have h2 : nz u = u := by unfold nz; rw [if_neg (by omega)]
  unfold ffP ffQ
  rw [h1, h2]
  exact ⟨rfl, rfl⟩
theorem fromFloat_all (u : Nat) (w : World) (hu : u < 18446744073709551616) (hT : Tab w) : Calls Tryz.prog 30 #[.float .f64 u] w (MakesRB w (ffP u) (ffQ u) (isFb u)) := by
  by_cases h1 : u = 9223372036854775808
  · subst h1
    have h : isFb 9223372036854775808 = true := by decide
    rw [ff_zero.1, ff_zero.2, h]
    exact fromFloat_zero w
  by_cases h2 : u < 9218868437227405312
  · have h : isFb u = true := by unfold isFb; simp; omega
    rw [(ff_yes h2).1, (ff_yes h2).2, h]
    exact fromFloat_yes u w h2 hT
  have h : isFb u = false := by unfold isFb; simp; omega
  rw [(ff_no h).1, (ff_no h).2, h]
  exact fromFloat_no u w (fun hh => by rcases hh with e | e <;> omega) hu
def jumpsL (J : Nat → Act → World → Prop) (Q : Exit → Act → World → Prop) : Exit → Act → World → Prop
  | .goto l, a, w => J l a w
  | e, a, w => Q e a w
theorem jumpsL_ret {J : Nat → Act → World → Prop} {Q : Exit → Act → World → Prop} {a : Act} {w : World} : jumpsL J Q .ret a w = Q .ret a w := rfl
theorem wp_scope_labels {P : Program} {c : Code} {a : Act} {w : World} {Q : Exit → Act → World → Prop} (J : Nat → Act → World → Prop) (m : Nat → Act → World → Nat)
    (first : c.wp P (jumpsL J Q) a w)
    (pass : ∀ l a w, J l a w → ∃ rest, findLabel c l = some rest ∧ rest.wp P (jumpsL (fun l' a' w' => J l' a' w' ∧ m l' a' w' < m l a w) Q) a w) : (Code.scope c).wp P Q a w := by
  intro b k cs
  have key : ∀ n l a w, m l a w = n → J l a w → ∃ k0, gotoIn l (.inScope c :: k) = some k0 ∧ ∃ e a' w', Q e a' w' ∧ Arrives P (lone (b.at a k0) cs w) b k cs e a' w' := by
    intro n
    induction n using Nat.strongRecOn with
    | _ n ih =>
      intro l a w hn hJ
      obtain ⟨rest, hf, hp⟩ := pass l a w hJ
      have hg : gotoIn l (.inScope c :: k) = some (.code rest :: .inScope c :: k) := by simp [gotoIn, hf]
      refine ⟨_, hg, ?_⟩
      obtain ⟨e, a₁, w₁, hq, harr⟩ := hp b (.inScope c :: k) cs
      cases e with
      | normal => exact ⟨.normal, a₁, w₁, hq, Steps.trans harr (.one step_inScope)⟩
      | exit id => exact ⟨.exit id, a₁, w₁, hq, fun k' hk => harr k' (by simp [exitTo, hk])⟩
      | goto l' =>
        obtain ⟨hJ', hlt⟩ := hq
        obtain ⟨k0, hg0, e₂, a₂, w₂, hq₂, harr₂⟩ := ih _ (by omega) l' a₁ w₁ rfl hJ'
        exact ⟨e₂, a₂, w₂, hq₂, .of_steps (harr _ hg0) harr₂⟩
      | ret => exact ⟨_, a₁, w₁, hq, harr⟩
      | panic ch => exact ⟨_, a₁, w₁, hq, harr⟩
      | outgrown => exact ⟨_, a₁, w₁, hq, harr⟩
  obtain ⟨e, a₁, w₁, hq, harr⟩ := first b (.inScope c :: k) cs
  cases e with
  | normal => exact ⟨.normal, a₁, w₁, hq, .head step_scope (Steps.trans harr (.one step_inScope))⟩
  | exit id => exact ⟨.exit id, a₁, w₁, hq, fun k' hk => .head step_scope (harr k' (by simp [exitTo, hk]))⟩
  | goto l' =>
    obtain ⟨k0, hg0, e₂, a₂, w₂, hq₂, harr₂⟩ := key _ l' a₁ w₁ rfl hq
    exact ⟨e₂, a₂, w₂, hq₂, .of_steps (.head step_scope (harr _ hg0)) harr₂⟩
  | ret => exact ⟨_, a₁, w₁, hq, .of_steps (.one step_scope) harr⟩
  | panic ch => exact ⟨_, a₁, w₁, hq, .of_steps (.one step_scope) harr⟩
  | outgrown => exact ⟨_, a₁, w₁, hq, .of_steps (.one step_scope) harr⟩
theorem wp_scope_first {P : Program} {pre body : Code} {a : Act} {w : World} {Q : Exit → Act → World → Prop} (l0 : Nat) (J : Nat → Act → World → Prop) (m : Nat → Act → World → Nat)
    (h0 : findLabel (pre.seq ((Code.label l0).seq body)) l0 = some (Code.skip.seq body))
    (first : pre.wp P (fun e a w => e = .normal ∧ J l0 a w) a w)
    (pass0 : ∀ a w, J l0 a w → body.wp P (jumpsL (fun l' a' w' => J l' a' w' ∧ m l' a' w' < m l0 a w) Q) a w)
    (pass : ∀ l a w, l ≠ l0 → J l a w → ∃ rest, findLabel (pre.seq ((Code.label l0).seq body)) l = some rest ∧ rest.wp P (jumpsL (fun l' a' w' => J l' a' w' ∧ m l' a' w' < m l a w) Q) a w) : (Code.scope (pre.seq ((Code.label l0).seq body))).wp P Q a w := by
  refine wp_scope_labels J m (wp_seq (wp_mono first fun e a w he => ?_)) fun l a w hj => ?_
  · obtain ⟨rfl, hj⟩ := he
    refine wp_seq (wp_label ?_)
    refine wp_mono (pass0 a w hj) fun e a w he => ?_
    cases e <;> first | exact he | exact he.1
  by_cases e : l = l0
  · subst e
    exact ⟨_, h0, wp_seq (wp_skip (pass0 a w hj))⟩
  exact pass l a w e hj
end Go.Proofs.YtchomkadekikdaaGreatDoor
