/- Contracts of the program's functions, part 21: own work, joined in build order. -/
import Derived.Test.YtfjmnhmdipjenaaGreatDoorJ20
import Derived.Handy
namespace Go.Proofs.YtfjmnhmdipjenaaGreatDoor
open Go.RowKit
set_option maxRecDepth 100000
set_option linter.unusedVariables false
theorem ten_P90 {n : Nat} (h : n ≤ 1500) : 10 ^ n < P 90 := by
  exact Nat.lt_of_le_of_lt (Nat.pow_le_pow_right (by omega) h) (by decide +kernel : 10 ^ 1500 < P 90)
theorem pow_half {x y m X : Nat} (h : x * y ^ m = X) (hm : m % 2 = 0) : x * (y * y) ^ (m / 2) = X := by
  rw [← h, ← Nat.pow_two, ← Nat.pow_mul]
  congr 2
  omega
theorem pow_odd {x y m X : Nat} (h : x * y ^ m = X) (hm : m % 2 = 1) : x * y * (y * y) ^ (m / 2) = X := by
  rw [← h, ← Nat.pow_two, ← Nat.pow_mul, Nat.mul_assoc, ← Nat.pow_succ']
  congr 2
  omega
theorem pow_fst {x y m X : Nat} (h : x * y ^ m = X) (hy : 0 < y) : x ≤ X := by
  rw [← h]
  exact Nat.le_mul_of_pos_right _ (Nat.pow_pos hy)
theorem pow_snd {x y m X : Nat} (h : x * y ^ m = X) (hx : 0 < x) (hy : 0 < y) (hm : 0 < m) : y ≤ X := by
  rw [← h]
  have h1 : y ^ 1 ≤ y ^ m := Nat.pow_le_pow_right hy hm
  rw [Nat.pow_one] at h1
  exact Nat.le_trans h1 (Nat.le_mul_of_pos_left _ hx)
/-- What holds in a round. -/
def Tn10 (w : World) (b g n : Nat) (wr : World) (m x y : Nat) (a1 : Option Addr) (n1 c1 : Nat) (a2 : Option Addr) (n2 c2 : Nat) : Prop :=
  x * y ^ m = 10 ^ n ∧ 0 < x ∧ 0 < y ∧ SY w wr [(.agg #[.slice a1 n1 c1], x), (.agg #[.slice a2 n2 c2], y)] [] [] [] [(g, 0, .slice a1 n1 c1), (g + 1, 0, .slice a2 n2 c2), (b, 0, .slice none 0 0)] [g, g + 1, b] ∧ b < g
set_option maxHeartbeats 4000000 in
theorem tenTo_any (n : Nat) (w : World) (hn : n ≤ 1500) :
    Calls Tryz.prog 94 #[.int .i64 (n : Int)] w (Makes w (10 ^ n)) := by
  have S0 : Hid _ := (sy_start w).box1 (.slice none 0 0) 64 _ rfl
  have HX : Hid (n ≤ 1500 ∧ 10 ^ n < P 90) := ⟨hn, ten_P90 hn⟩
  go_enter Tryz.func94, Tryz.ntmps94
  go_wp2_with fail
  refine (of_any 1 _ (by omega)).mono ?_
  rintro e w1 ⟨v1, rfl, hv1, hb1⟩
  obtain ⟨a1, n1, c1, rfl⟩ := hv1.isAgg
  have S1 : Hid _ := (S0.out.go hb1).addN hv1
  clear hv1 hb1 S0
  go_wp2_with fail
  refine (of_any 10 _ (by omega)).mono ?_
  rintro e w2 ⟨v2, rfl, hv2, hb2⟩
  obtain ⟨a2, n2, c2, rfl⟩ := hv2.isAgg
  have S2 : Hid _ := (((S1.out.go hb2).addN hv2).box1 (.slice a1 n1 c1) 64 _ rfl).box1 (.slice a2 n2 c2) 64 _ rfl
  simp only [World.size_alloc] at S2
  have HB : Hid (w.heap.size < w2.heap.size) := (S1.out.go hb2).lt w.heap.size
  clear hv2 hb2 S1
  go_wp2_with fail
  obtain ⟨w3, hw3⟩ : ∃ w3, w3 = (w2.alloc (.cells #[.slice a1 n1 c1] 64)).alloc (.cells #[.slice a2 n2 c2] 64) := ⟨_, rfl⟩
  obtain ⟨g, hg⟩ : ∃ g, g = w2.heap.size := ⟨_, rfl⟩
  obtain ⟨b, hb⟩ : ∃ b, b = w.heap.size := ⟨_, rfl⟩
  rw [← hw3, ← hg, ← hb] at S2
  rw [← hw3, ← hg, ← hb]
  have hbg : b < g := by rw [hg, hb]; exact HB.out
  clear hw3 hg hb
  have A0 : Hid (Tn10 w b g n w3 n 1 10 a1 n1 c1 a2 n2 c2) := ⟨by rw [Nat.one_mul], by omega, by omega, S2.out.sub _ _ _ _ _ _ (by simp) (by simp) (by simp) (by simp) (by simp) (by simp), hbg⟩
  clear S2 hbg
  go_loopw [0] (fun t wr => ∃ (m x y : Nat) (a1 : Option Addr) (n1 c1 : Nat) (a2 : Option Addr) (n2 c2 : Nat), t = .int .i64 (m : Int) ∧ m ≤ 1500 ∧ Tn10 w b g n wr m x y a1 n1 c1 a2 n2 c2) (fun t _ => (intOf t).toNat)
  case atStart => exact ⟨n, 1, 10, _, _, _, _, _, _, rfl, HX.out.1, A0.out⟩
  case round =>
    clear A0
    obtain ⟨m, x, y, a1, n1, c1, a2, n2, c2, rfl, hm, hT⟩ := hrel
    have I : Hid _ := hT
    clear hT
    have k1 := I.out.2.2.2.1.cel g 0 (.slice a1 n1 c1)
    have k2 := I.out.2.2.2.1.cel (g + 1) 0 (.slice a2 n2 c2)
    have k3 := I.out.2.2.2.1.cel b 0 (.slice none 0 0)
    have f1 := I.out.2.2.2.1.fz g 0
    have f2 := I.out.2.2.2.1.fz (g + 1) 0
    have f3 := I.out.2.2.2.1.fz b 0
    by_cases h0 : 0 < m
    · obtain ⟨q, hq⟩ : ∃ q, q = m / 2 := ⟨_, rfl⟩
      have r2 : (m : Int).tdiv 2 = (q : Int) := by rw [Int.tdiv_eq_ediv_of_nonneg (by omega)]; omega
      have r3 : IntKind.i64.wrap (q : Int) = (q : Int) := by rw [IntKind.wrap_i64]; omega
      have d0 : decide (0 < (m : Int)) = true := decide_eq_true (by omega)
      have HQ : Hid (q = m / 2) := hq
      have HM : Hid (0 < m) := h0
      clear hq h0
      have sy : Hid (y < P 90) := Nat.lt_of_le_of_lt (pow_snd I.out.1 I.out.2.1 I.out.2.2.1 HM.out) HX.out.2
      have sx : Hid (x < P 90) := Nat.lt_of_le_of_lt (pow_fst I.out.1 I.out.2.2.1) HX.out.2
      by_cases ho : m % 2 = 1
      · have d3 : (m : Int).tmod 2 = 1 := by rw [Int.tmod_eq_emod_of_nonneg (by omega)]; omega
        have HO : Hid (m % 2 = 1) := ho
        clear ho
        go_wp2_with fail
        refine (mul_short _ _ x y _ (I.out.2.2.2.1.at (.agg #[.slice a1 n1 c1]) x) (I.out.2.2.2.1.at (.agg #[.slice a2 n2 c2]) y) (fits_P sx.out (by omega)) (fits_P sy.out (by omega)) (.inl (P_up sx.out (by omega)))).mono ?_
        rintro e w4 ⟨v4, rfl, hv4, hb4⟩
        obtain ⟨a4, n4, c4, rfl⟩ := hv4.isAgg
        have J : Hid _ := (I.out.2.2.2.1.go hb4).addN hv4
        clear hv4 hb4 k1 k2 k3 f1 f2 f3
        have k1 := J.out.cel g 0 (.slice a1 n1 c1)
        have k2 := J.out.cel (g + 1) 0 (.slice a2 n2 c2)
        have f1 := J.out.fz g 0
        have f2 := J.out.fz (g + 1) 0
        have K : Hid _ := (J.out.set (b := g) (i := 0) k1 (J.out.lo g) [(g + 1, 0, .slice a2 n2 c2), (b, 0, .slice none 0 0)] (by have := I.out.2.2.2.2; simp; omega) (.slice a4 n4 c4)).addC (b := g) (i := 0) (v := .slice a4 n4 c4) (by simp [go_sem, k1])
        have k5 : (w4.setCell ⟨g, 0, none⟩ (.slice a4 n4 c4)).cell? ⟨g + 1, 0, none⟩ = some (.slice a2 n2 c2) := K.out.cel (g + 1) 0 (.slice a2 n2 c2)
        go_wp2_with fail
        obtain ⟨w5, hw5⟩ : ∃ w5, w5 = w4.setCell ⟨g, 0, none⟩ (.slice a4 n4 c4) := ⟨_, rfl⟩
        rw [← hw5] at K
        rw [← hw5]
        clear hw5 J k1 k2 f1 f2 k5
        refine (mul_short _ _ y y _ (K.out.at (.agg #[.slice a2 n2 c2]) y) (K.out.at (.agg #[.slice a2 n2 c2]) y) (fits_P sy.out (by omega)) (fits_P sy.out (by omega)) (.inl (P_up sy.out (by omega)))).mono ?_
        rintro e w6 ⟨v6, rfl, hv6, hb6⟩
        obtain ⟨a6, n6, c6, rfl⟩ := hv6.isAgg
        have J : Hid _ := (K.out.go hb6).addN hv6
        clear hv6 hb6
        have k1 := J.out.cel (g + 1) 0 (.slice a2 n2 c2)
        have f1 := J.out.fz (g + 1) 0
        have L : Hid _ := (J.out.set (b := g + 1) (i := 0) k1 (J.out.lo (g + 1)) [(g, 0, .slice a4 n4 c4), (b, 0, .slice none 0 0)] (by have := I.out.2.2.2.2; simp; omega) (.slice a6 n6 c6)).addC (b := g + 1) (i := 0) (v := .slice a6 n6 c6) (by simp [go_sem, k1])
        have I2 : Hid (Tn10 w b g n (w6.setCell ⟨g + 1, 0, none⟩ (.slice a6 n6 c6)) q (x * y) (y * y) a4 n4 c4 a6 n6 c6) := ⟨by rw [HQ.out]; exact pow_odd I.out.1 HO.out, Nat.mul_pos I.out.2.1 I.out.2.2.1, Nat.mul_pos I.out.2.2.1 I.out.2.2.1, L.out.sub _ _ _ _ _ _ (by simp) (by simp) (by simp) (by simp) (by simp) (by simp), I.out.2.2.2.2⟩
        clear J K L sx sy
        go_wp2_with fail
        go_roundw
        case rel => exact ⟨q, x * y, y * y, _, _, _, _, _, _, by go_num, by have := HQ.out; omega, I2.out⟩
        case measure => have := HQ.out; have := HM.out; simp [intOf]; omega
      · have d3 : (m : Int).tmod 2 = 0 := by rw [Int.tmod_eq_emod_of_nonneg (by omega)]; omega
        have HO : Hid (m % 2 = 0) := by show _ = _; omega
        clear ho
        go_wp2_with fail
        refine (mul_short _ _ y y _ (I.out.2.2.2.1.at (.agg #[.slice a2 n2 c2]) y) (I.out.2.2.2.1.at (.agg #[.slice a2 n2 c2]) y) (fits_P sy.out (by omega)) (fits_P sy.out (by omega)) (.inl (P_up sy.out (by omega)))).mono ?_
        rintro e w6 ⟨v6, rfl, hv6, hb6⟩
        obtain ⟨a6, n6, c6, rfl⟩ := hv6.isAgg
        have J : Hid _ := (I.out.2.2.2.1.go hb6).addN hv6
        clear hv6 hb6 k1 k2 k3 f1 f2 f3
        have k1 := J.out.cel (g + 1) 0 (.slice a2 n2 c2)
        have f1 := J.out.fz (g + 1) 0
        have L : Hid _ := (J.out.set (b := g + 1) (i := 0) k1 (J.out.lo (g + 1)) [(g, 0, .slice a1 n1 c1), (b, 0, .slice none 0 0)] (by have := I.out.2.2.2.2; simp; omega) (.slice a6 n6 c6)).addC (b := g + 1) (i := 0) (v := .slice a6 n6 c6) (by simp [go_sem, k1])
        have I2 : Hid (Tn10 w b g n (w6.setCell ⟨g + 1, 0, none⟩ (.slice a6 n6 c6)) q x (y * y) a1 n1 c1 a6 n6 c6) := ⟨by rw [HQ.out]; exact pow_half I.out.1 HO.out, I.out.2.1, Nat.mul_pos I.out.2.2.1 I.out.2.2.1, L.out.sub _ _ _ _ _ _ (by simp) (by simp) (by simp) (by simp) (by simp) (by simp), I.out.2.2.2.2⟩
        clear J L sx sy
        go_wp2_with fail
        go_roundw
        case rel => exact ⟨q, x, y * y, _, _, _, _, _, _, by go_num, by have := HQ.out; omega, I2.out⟩
        case measure => have := HQ.out; have := HM.out; simp [intOf]; omega
    · obtain rfl : m = 0 := by omega
      have HV : Hid (10 ^ n = x) := by show _ = _; rw [← I.out.1, Nat.pow_zero, Nat.mul_one]
      have Z : Hid _ := I.out.2.2.2.1.ret1 (r := b) k3 (by simp) (I.out.2.2.2.1.at (.agg #[.slice a1 n1 c1]) x) (.slice a1 n1 c1)
      go_wp2_with fail
      exact bodyPost_ret (v := .agg #[.slice a1 n1 c1]) (by simp [results, Tryz.results94, go_sem, k3]) rfl ⟨_, rfl, by rw [HV.out]; exact Z.out.1, Z.out.2⟩
end Go.Proofs.YtfjmnhmdipjenaaGreatDoor

namespace Go.Proofs.YtfjmnhmdipjenaaGreatDoor
open Go.RowKit
set_option maxRecDepth 100000
set_option linter.unusedVariables false
theorem text_k (v : Value) (x k : Nat) (w : World) (h : IsNat w v x) (ht : Tx x) (hk : DecLen x k) : Calls Tryz.prog 44 #[v] w fun e w' => e = .returned (.string (decText x k)) ∧ Below w.heap.size w w' := by
  refine (text_any v x w h ht).mono ?_
  rintro e w' ⟨l, rfl, hl, hb⟩
  rw [hl.unique hk]
  exact ⟨rfl, hb⟩
theorem cat_run (s t : ByteArray) (h : s.size + t.size ≤ 9223372036854775807) (w : World) : (binOp .add 9 (.string s) (.string t)).run Tryz.prog w = .ok (.string (s ++ t)) w := by
  simp [binOp, run_string_add_sum, h]
/-- A fraction's text. -/
def fmtT (p q k l : Nat) : ByteArray := if q = 1 then decText p k else decText p k ++ ⟨#[47]⟩ ++ decText q l
theorem bitLen_one {q : Nat} : bitLen q = 1 ↔ q = 1 := by
  constructor
  · intro h
    have h1 := (bitLen_spec q).1
    rw [h] at h1
    rcases Nat.eq_zero_or_pos q with e | e
    · rw [e, bitLen_zero] at h
      omega
    · omega
  · intro h
    rw [h]
    decide +kernel
theorem dec_len {x k : Nat} (h : DecLen x k) (hx : x < P 200) : k ≤ 5000 := by
  rcases h.2.2 with h1 | h1
  · omega
  · have h2 : 2 ^ (3 * (k - 1)) ≤ 10 ^ (k - 1) := by rw [Nat.pow_mul]; exact Nat.pow_le_pow_left (by decide) _
    have h3 : 2 ^ (3 * (k - 1)) < P 200 := Nat.lt_of_le_of_lt (Nat.le_trans h2 h1) hx
    rw [P_two] at h3
    have h4 := (Nat.pow_lt_pow_iff_right (show 1 < 2 by decide)).1 h3
    omega
set_option maxHeartbeats 4000000 in
theorem format_any (v : Value) (p q k l : Nat) (w : World) (h : Rt w v p q) (hp : RS p) (hq : RS q) (hk : DecLen p k) (hl : DecLen q l) :
    Calls Tryz.prog 25 #[v] w fun e w' => e = .returned (.string (fmtT p q k l)) ∧ Below w.heap.size w w' := by
  have h' := h
  obtain ⟨a, n, c, a', n', c', e0, _, _⟩ := h'.raw
  subst e0
  have S1 : Hid _ := ((sy_start w).addF h).box (.slice a n c) (.slice a' n' c') 66 _ rfl
  have HH : Hid (RS p ∧ RS q ∧ DecLen p k ∧ DecLen q l ∧ Tx p ∧ Tx q) := ⟨hp, hq, hk, hl, tx_of hp.lt (by omega), tx_of hq.lt (by omega)⟩
  have kp := dec_len hk (P_up hp.lt (by omega))
  have kq := dec_len hl (P_up hq.lt (by omega))
  have sp : (decText p k).size = k := text_size _ _
  have sq : (decText q l).size = l := text_size _ _
  have m1 : (decText p k).size ≤ 9223372036854775806 := by omega
  have m2 : (decText p k).size + 1 + (decText q l).size ≤ 9223372036854775807 := by omega
  clear h h' hp hq hk hl kp kq sp sq
  go_enter Tryz.func25, Tryz.ntmps25
  go_wp2_with fail
  refine (parts_any _ p q _ (S1.out.fr (.agg #[.slice a n c, .slice a' n' c']) p q) HH.out.2.1.fits).mono ?_
  rintro e w1 ⟨v1, u1, rfl, hv1, hu1, hb1⟩
  obtain ⟨a1, n1, c1, rfl⟩ := hv1.isAgg
  obtain ⟨a2, n2, c2, rfl⟩ := hu1.isAgg
  have S2 : Hid _ := ((((S1.out.go hb1).addN hv1).addN hu1).box1 (.slice a1 n1 c1) 64 _ rfl).box1 (.slice a2 n2 c2) 64 _ rfl
  simp only [World.size_alloc] at S2
  clear hv1 hu1 hb1 S1
  go_wp2_with fail
  obtain ⟨w2, hw2⟩ : ∃ w2, w2 = (w1.alloc (.cells #[.slice a1 n1 c1] 64)).alloc (.cells #[.slice a2 n2 c2] 64) := ⟨_, rfl⟩
  obtain ⟨g, hg⟩ : ∃ g, g = w1.heap.size := ⟨_, rfl⟩
  rw [← hw2, ← hg] at S2
  rw [← hw2, ← hg]
  clear hw2 hg
  refine (len_any _ q _ (S2.out.at (.agg #[.slice a2 n2 c2]) q) HH.out.2.1.fits).mono ?_
  rintro e w3 ⟨rfl, hb3⟩
  have S3 : Hid _ := S2.out.go hb3
  clear hb3 S2
  have k1 := S3.out.cel g 0 (.slice a1 n1 c1)
  by_cases h1 : q = 1
  · have t1 : bitLen q = 1 := bitLen_one.2 h1
    have HV : Hid (fmtT p q k l = decText p k) := by show _ = _; unfold fmtT; rw [if_pos h1]
    rw [t1]
    clear h1 t1
    go_wp2_with fail
    refine (text_k _ p k _ (S3.out.at (.agg #[.slice a1 n1 c1]) p) HH.out.2.2.2.2.1 HH.out.2.2.1).mono ?_
    rintro e w4 ⟨rfl, hb4⟩
    have S4 : Hid _ := S3.out.go hb4
    clear hb4 S3
    go_wp2_with fail
    go_ret
    rw [HV.out]
    exact ⟨rfl, S4.out.bel⟩
  · obtain ⟨j, hj⟩ : ∃ j, bitLen q = j := ⟨_, rfl⟩
    rw [hj]
    have t1 : ((j : Int) == 1) = false := by
      have : ¬ j = 1 := fun e => h1 (bitLen_one.1 (by omega))
      simp
      omega
    have t2 : decide ((j : Int) = 1) = false := by
      have : ¬ j = 1 := fun e => h1 (bitLen_one.1 (by omega))
      exact decide_eq_false (by omega)
    have HV : Hid (fmtT p q k l = decText p k ++ ⟨#[47]⟩ ++ decText q l) := by show _ = _; unfold fmtT; rw [if_neg h1]
    clear h1 hj
    go_wp2_with fail
    refine wp_region_inv (JB w3 [sNat (p), sEq (.string (decText p k)), sEq (.string (decText p k ++ ⟨#[47]⟩)), sNat (q), sEq (.string (decText q l)), sEq (.string (decText p k ++ ⟨#[47]⟩ ++ decText q l)), sEq (.string (decText p k ++ ⟨#[47]⟩ ++ decText q l))] []) 21 (by kernel_rfl) rfl (by kernel_rfl) (JB.start _ _ _) (fun HG HN => ⟨?_, ?_, ?_, ?_, ?_, ?_, ?_, trivial⟩) ?_
    · intro L vs a w' hJ hF hP hL
      have q3 : (a.tmps[3]?).getD undef = .pointer (some ⟨g, 0, none⟩) := hF.old 3 rfl
      have cb := cell_later hJ.bel (S3.out.cell (g) (.slice a1 n1 c1))
      exact run_val (v := .agg #[.slice a1 n1 c1]) rfl (by simp [execOp, go_sem, q3, cb]) ⟨_, rfl, hJ.step hL rfl (Below.refl _ _) (by exact ((S3.out.at (.agg #[.slice a1 n1 c1]) (p)).mono hJ.bel))⟩
    · intro L vs a w' hJ hF hP hL
      have p0 : L 0 = true := hP ⟨0, .data⟩ (by simp) rfl
      have s0 : IsNat w' (vs 0) (p) := hJ.sp 0 p0
      have q15 := hF.slot 0 15 rfl p0
      refine run_call (f := 44) (args := #[vs 0]) rfl (by simp [go_sem, q15]) (text_k _ p k _ s0 HH.out.2.2.2.2.1 HH.out.2.2.1) ?_
      rintro e w2 ⟨rfl, hb⟩
      exact ⟨_, rfl, _, rfl, hJ.step hL rfl hb (by exact rfl)⟩
    · intro L vs a w' hJ hF hP hL
      have p1 : L 1 = true := hP ⟨1, .data⟩ (by simp) rfl
      have s1 : vs 1 = .string (decText p k) := hJ.sp 1 p1
      have q16 := hF.slot 1 16 rfl p1
      exact run_val (v := .string (decText p k ++ ⟨#[47]⟩)) rfl (by simp [execOp, go_sem, q16, s1, m1]) ⟨_, rfl, hJ.step hL rfl (Below.refl _ _) (by exact rfl)⟩
    · intro L vs a w' hJ hF hP hL
      have q4 : (a.tmps[4]?).getD undef = .pointer (some ⟨g + 1, 0, none⟩) := hF.old 4 rfl
      have cb := cell_later hJ.bel (S3.out.cell (g + 1) (.slice a2 n2 c2))
      exact run_val (v := .agg #[.slice a2 n2 c2]) rfl (by simp [execOp, go_sem, q4, cb]) ⟨_, rfl, hJ.step hL rfl (Below.refl _ _) (by exact ((S3.out.at (.agg #[.slice a2 n2 c2]) (q)).mono hJ.bel))⟩
    · intro L vs a w' hJ hF hP hL
      have p3 : L 3 = true := hP ⟨3, .data⟩ (by simp) rfl
      have s3 : IsNat w' (vs 3) (q) := hJ.sp 3 p3
      have q18 := hF.slot 3 18 rfl p3
      refine run_call (f := 44) (args := #[vs 3]) rfl (by simp [go_sem, q18]) (text_k _ q l _ s3 HH.out.2.2.2.2.2 HH.out.2.2.2.1) ?_
      rintro e w2 ⟨rfl, hb⟩
      exact ⟨_, rfl, _, rfl, hJ.step hL rfl hb (by exact rfl)⟩
    · intro L vs a w' hJ hF hP hL
      have p2 : L 2 = true := hP ⟨2, .data⟩ (by simp) rfl
      have s2 : vs 2 = .string (decText p k ++ ⟨#[47]⟩) := hJ.sp 2 p2
      have q17 := hF.slot 2 17 rfl p2
      have p4 : L 4 = true := hP ⟨4, .data⟩ (by simp) rfl
      have s4 : vs 4 = .string (decText q l) := hJ.sp 4 p4
      have q19 := hF.slot 4 19 rfl p4
      exact run_val (v := .string (decText p k ++ ⟨#[47]⟩ ++ decText q l)) rfl (by simp [execOp, go_sem, q17, s2, q19, s4, m2]) ⟨_, rfl, hJ.step hL rfl (Below.refl _ _) (by exact rfl)⟩
    · intro L vs a w' hJ hF hP hL
      have p5 : L 5 = true := hP ⟨5, .data⟩ (by simp) rfl
      have s5 : vs 5 = .string (decText p k ++ ⟨#[47]⟩ ++ decText q l) := hJ.sp 5 p5
      have q20 := hF.slot 5 20 rfl p5
      exact run_val (v := .string (decText p k ++ ⟨#[47]⟩ ++ decText q l)) rfl (by simp [execOp, go_sem, q20, s5]) ⟨_, rfl, hJ.step hL rfl (Below.refl _ _) (by exact rfl)⟩
    intro L vs w' hA hJ
    have s6 : vs 6 = .string (decText p k ++ ⟨#[47]⟩ ++ decText q l) := hJ.sp 6 (hA 6 (by simp))
    simp only [putL, Act.put, List.setIfInBounds_toArray, List.set_cons_zero, List.set_cons_succ, Nat.reduceAdd]
    simp only [s6]
    have HB : Hid (Below w.heap.size w w') := (S3.out.go hJ.bel).bel
    go_wp2_with fail
    go_ret
    rw [HV.out]
    exact ⟨rfl, HB.out⟩
end Go.Proofs.YtfjmnhmdipjenaaGreatDoor

namespace Go.Proofs.YtfjmnhmdipjenaaGreatDoor
open Go.RowKit
set_option maxRecDepth 100000
set_option linter.unusedVariables false
/-- The parts are runs of digits, and not too long. -/
structure GoodP (p : PtS) : Prop where
  w0 : 0 < p.whole.size
  dw : Digits p.whole p.whole.size
  dp : Digits p.places p.places.size
  db : Digits p.below p.below.size
  dx : Digits p.power p.power.size
  sz : p.whole.size + p.places.size ≤ 400
  sb : p.below.size ≤ 400
  sx : p.power.size ≤ 3
/-- The power of 10. -/
def pwI (p : PtS) : Int := (if p.minus then -((decVal p.power p.power.size : Nat) : Int) else ((decVal p.power p.power.size : Nat) : Int)) - (p.places.size : Int)
def numA (p : PtS) : Nat := decVal (p.whole ++ p.places) (p.whole ++ p.places).size
def vN (p : PtS) : Nat := if p.below.size = 0 then numA p * 10 ^ (pwI p).toNat else numA p
def vD (p : PtS) : Nat := if p.below.size = 0 then 10 ^ (-(pwI p)).toNat else decVal p.below p.below.size
theorem size_em {s : ByteArray} (h : s.size = 0) : s = ⟨#[]⟩ := by
  cases s with
  | mk d =>
    have : d.size = 0 := h
    rw [Array.eq_empty_of_size_eq_zero this]
theorem str_ne {s : ByteArray} (h : ¬ s.size = 0) : (s.toList == ([] : List UInt8)) = false := by
  refine beq_eq_false_iff_ne.2 fun h2 => h ?_
  rw [ByteArray.toList_eq] at h2
  cases s with
  | mk d =>
    simp at h2
    show d.size = 0
    rw [h2]
    rfl
theorem ten400 {x n : Nat} (h : x < 10 ^ n) (hn : n ≤ 400) : x < P 21 :=
  Nat.lt_trans (Nat.lt_of_lt_of_le h (Nat.pow_le_pow_right (by omega) hn)) (by decide +kernel : 10 ^ 400 < P 21)
theorem ten999 : 10 ^ 999 < P 60 := by decide +kernel
theorem GoodP.a {p : PtS} (h : GoodP p) : numA p < P 21 := by
  have h1 := decVal_lt (dig_app h.dw h.dp)
  exact ten400 h1 (by rw [ByteArray.size_append]; exact h.sz)
theorem GoodP.b {p : PtS} (h : GoodP p) : decVal p.below p.below.size < P 21 := ten400 (decVal_lt h.db) h.sb
theorem GoodP.pw {p : PtS} (h : GoodP p) : -1399 ≤ pwI p ∧ pwI p ≤ 999 := by
  have h1 := decVal_3 h.dx h.sx
  have h2 := h.sz
  unfold pwI
  split <;> omega
def PAgg (p : PtS) : Value := .agg #[.string p.whole, .string p.below, .string p.places, .string p.power, .bool p.minus]
def MakesV (w : World) (p : PtS) (e : Ending) (w' : World) : Prop := if vD p = 0 then MakesRB w 0 1 false e w' else MakesRB w (vN p / Nat.gcd (vN p) (vD p)) (vD p / Nat.gcd (vN p) (vD p)) true e w'
set_option maxHeartbeats 2000000 in
theorem value_below (p : PtS) (w : World) (hg : GoodP p) (hb0 : ¬ p.below.size = 0) (hT : Tab w) :
    Calls Tryz.prog 71 #[PAgg p] w (MakesV w p) := by
  obtain ⟨P1, P2, P3, P4, P5⟩ := p
  simp only at hb0
  unfold PAgg
  have HG : Hid _ := hg
  have c1 := cat_run P1 P3 (by have := hg.sz; simp only at this; omega)
  have q1 : P1.size + P3.size ≤ 9223372036854775807 := by have := hg.sz; simp only at this; omega
  have p1 : ∀ w : World, (Op.stringOp .add P1 P3).run Tryz.prog w = .ok (.string (P1 ++ P3)) w := fun w => run_string_add_sum w _ _ q1
  obtain ⟨X, hX⟩ : ∃ X, X = P1 ++ P3 := ⟨_, rfl⟩
  rw [← hX] at c1 p1
  have HX : Hid (X = P1 ++ P3) := hX
  obtain ⟨A, hA⟩ : ∃ A, A = decVal X X.size := ⟨_, rfl⟩
  have HP : Hid (0 < X.size ∧ X.size ≤ 400 ∧ Digits X X.size ∧ decVal X X.size = A) := ⟨by rw [hX, ByteArray.size_append]; have := hg.w0; simp only at this; omega, by rw [hX, ByteArray.size_append]; exact hg.sz, by rw [hX]; exact dig_app hg.dw hg.dp, hA.symm⟩
  have HA : Hid (numA ⟨P1, P2, P3, P4, P5⟩ = A ∧ A < P 21) := ⟨by show decVal (P1 ++ P3) (P1 ++ P3).size = A; rw [← hX]; exact hA.symm, by have := hg.a; rw [show numA ⟨P1, P2, P3, P4, P5⟩ = A by show decVal (P1 ++ P3) (P1 ++ P3).size = A; rw [← hX]; exact hA.symm] at this; exact this⟩
  obtain ⟨w0, hw0⟩ : ∃ w0, w0 = (w.alloc (.cells #[.string P1, .string P2, .string P3, .string P4, .bool P5] 125)).alloc (.cells #[.slice none 0 0, .slice none 0 0] 66) := ⟨_, rfl⟩
  have S0 : Hid _ := (((((((sy_start w).go (w' := w.alloc (.cells #[.string P1, .string P2, .string P3, .string P4, .bool P5] 125)) (bel_al (bel_refl _))).addC (b := w.heap.size) (i := 0) (v := .string P1) (by simp [go_sem])).addC (b := w.heap.size) (i := 1) (v := .string P2) (by simp [go_sem])).addC (b := w.heap.size) (i := 2) (v := .string P3) (by simp [go_sem])).addC (b := w.heap.size) (i := 3) (v := .string P4) (by simp [go_sem])).addC (b := w.heap.size) (i := 4) (v := .bool P5) (by simp [go_sem])).box (.slice none 0 0) (.slice none 0 0) 66 _ rfl
  simp only [World.size_alloc] at S0
  have HT : Hid (Tab w) := hT
  clear hg hX hA hT q1
  go_enter Tryz.func71, Tryz.ntmps71
  go_wp2_with fail
  rw [← hw0] at S0
  rw [← hw0]
  obtain ⟨b, hb⟩ : ∃ b, b = w.heap.size := ⟨_, rfl⟩
  rw [← hb] at S0
  rw [← hb]
  clear hw0 hb
  refine (parse_digits X A _ HP.out.1 HP.out.2.1 HP.out.2.2.1 HP.out.2.2.2).mono ?_
  rintro e w1 ⟨v1, rfl, hv1, hb1⟩
  obtain ⟨a1, n1, c1', rfl⟩ := hv1.isAgg
  have S1 : Hid _ := ((S0.out.go hb1).addN hv1).box1 (.slice a1 n1 c1') 64 _ rfl
  have LT1 : Hid (b + 1 < w1.heap.size) := (S0.out.go hb1).lt (b + 1)
  clear hv1 hb1 S0 HP
  have z1 := S1.out.cel b 1 (.string P2)
  have z2 := S1.out.cel b 2 (.string P3)
  have z3 := S1.out.cel b 3 (.string P4)
  have z4 := S1.out.cel b 4 (.bool P5)
  have ne := str_ne hb0
  obtain ⟨B, hB⟩ : ∃ B, B = decVal P2 P2.size := ⟨_, rfl⟩
  have HQ : Hid (0 < P2.size ∧ P2.size ≤ 400 ∧ Digits P2 P2.size ∧ decVal P2 P2.size = B ∧ B < P 21) := ⟨by omega, HG.out.sb, HG.out.db, hB.symm, by rw [hB]; exact HG.out.b⟩
  have HV : Hid (vN ⟨P1, P2, P3, P4, P5⟩ = A ∧ vD ⟨P1, P2, P3, P4, P5⟩ = B) := ⟨by unfold vN; rw [if_neg hb0]; exact HA.out.1, by unfold vD; rw [if_neg hb0]; exact hB.symm⟩
  clear hb0 hB
  go_wp2_with fail
  obtain ⟨g, hg⟩ : ∃ g, g = w1.heap.size := ⟨_, rfl⟩
  obtain ⟨w2, hw2⟩ : ∃ w2, w2 = w1.alloc (.cells #[.slice a1 n1 c1'] 64) := ⟨_, rfl⟩
  rw [← hw2, ← hg] at S1
  rw [← hw2, ← hg]
  clear hw2 hg z1 z2 z3 z4
  refine (parse_digits P2 B _ HQ.out.1 HQ.out.2.1 HQ.out.2.2.1 HQ.out.2.2.2.1).mono ?_
  rintro e w3 ⟨v3, rfl, hv3, hb3⟩
  obtain ⟨a3, n3, c3, rfl⟩ := hv3.isAgg
  have HGW : Hid (g < w3.heap.size) := (S1.out.go hb3).lt g
  have S2 : Hid _ := ((S1.out.go hb3).addN hv3).box1 (.slice a3 n3 c3) 64 _ rfl
  clear hv3 hb3 S1
  have y1 := S2.out.cel g 0 (.slice a1 n1 c1')
  go_wp2_with fail
  obtain ⟨w4, hw4⟩ : ∃ w4, w4 = w3.alloc (.cells #[.slice a3 n3 c3] 64) := ⟨_, rfl⟩
  rw [← hw4] at S2
  rw [← hw4]
  clear hw4 y1
  by_cases hz : B = 0
  · have hN := S2.out.at (.agg #[.slice a3 n3 c3]) B
    rw [hz] at hN
    refine (from_none _ _ A _ (S2.out.at (.agg #[.slice a1 n1 c1']) A) hN).mono ?_
    clear hN
    rintro e w5 ⟨v5, rfl, hv5, hb5⟩
    obtain ⟨a5, n5, c5, a6, n6, c6, ev, _, _⟩ := hv5.raw
    subst ev
    have S3 : Hid _ := (S2.out.go hb5).addF hv5
    clear hv5 hb5 S2
    have x0 := S3.out.cel (b + 1) 0 (.slice none 0 0)
    have x1 := S3.out.cel (b + 1) 1 (.slice none 0 0)
    have f0 := S3.out.fz (b + 1) 0
    have f1 := S3.out.fz (b + 1) 1
    have Z : Hid _ := rat_put (w0 := w) (v := .slice a5 n5 c5) (u := .slice a6 n6 c6) x0 x1 (S3.out.fr (.agg #[.slice a5 n5 c5, .slice a6 n6 c6]) 0 1) S3.out.bel (S3.out.lo (b + 1))
    have HZ : Hid (vD ⟨P1, P2, P3, P4, P5⟩ = 0) := by show _ = _; rw [HV.out.2]; exact hz
    clear hz
    go_wp2_with fail
    refine bodyPost_ret (v := .tuple #[.agg #[.slice a5 n5 c5, .slice a6 n6 c6], .bool false]) (by simp [results, Tryz.results71, go_sem, x0, x1]) rfl ?_
    unfold MakesV
    rw [if_pos HZ.out]
    exact ⟨_, rfl, Z.out.1, Z.out.2⟩
  · refine (from_any _ _ A B _ (S2.out.at (.agg #[.slice a1 n1 c1']) A) (S2.out.at (.agg #[.slice a3 n3 c3]) B) ⟨P_up HA.out.2 (by omega)⟩ ⟨P_up HQ.out.2.2.2.2 (by omega)⟩ (by omega) (HT.out.go S2.out.bel)).mono ?_
    rintro e w5 ⟨v5, rfl, hv5, hb5⟩
    obtain ⟨a5, n5, c5, a6, n6, c6, ev, _, _⟩ := hv5.raw
    subst ev
    have S3 : Hid _ := (S2.out.go hb5).addF hv5
    clear hv5 hb5 S2
    have x0 := S3.out.cel (b + 1) 0 (.slice none 0 0)
    have x1 := S3.out.cel (b + 1) 1 (.slice none 0 0)
    have f0 := S3.out.fz (b + 1) 0
    have f1 := S3.out.fz (b + 1) 1
    have Z : Hid _ := rat_put (w0 := w) (v := .slice a5 n5 c5) (u := .slice a6 n6 c6) x0 x1 (S3.out.fr (.agg #[.slice a5 n5 c5, .slice a6 n6 c6]) (A / Nat.gcd A B) (B / Nat.gcd A B)) S3.out.bel (S3.out.lo (b + 1))
    have HZ : Hid (¬ vD ⟨P1, P2, P3, P4, P5⟩ = 0) := fun h9 => hz (by rw [HV.out.2] at h9; exact h9)
    clear hz
    go_wp2_with fail
    refine bodyPost_ret (v := .tuple #[.agg #[.slice a5 n5 c5, .slice a6 n6 c6], .bool true]) (by simp [results, Tryz.results71, go_sem, x0, x1]) rfl ?_
    unfold MakesV
    rw [if_neg HZ.out, HV.out.1, HV.out.2]
    exact ⟨_, rfl, Z.out.1, Z.out.2⟩
set_option maxHeartbeats 4000000 in
theorem value_pow (p : PtS) (w : World) (hg : GoodP p) (hb0 : p.below.size = 0) (hT : Tab w) :
    Calls Tryz.prog 71 #[PAgg p] w (MakesV w p) := by
  obtain ⟨P1, P2, P3, P4, P5⟩ := p
  simp only at hb0
  obtain rfl : P2 = ⟨#[]⟩ := size_em hb0
  clear hb0
  unfold PAgg
  have HG : Hid _ := hg
  have c1 := cat_run P1 P3 (by have := hg.sz; simp only at this; omega)
  have q1 : P1.size + P3.size ≤ 9223372036854775807 := by have := hg.sz; simp only at this; omega
  have p1 : ∀ w : World, (Op.stringOp .add P1 P3).run Tryz.prog w = .ok (.string (P1 ++ P3)) w := fun w => run_string_add_sum w _ _ q1
  obtain ⟨X, hX⟩ : ∃ X, X = P1 ++ P3 := ⟨_, rfl⟩
  rw [← hX] at c1 p1
  have HX : Hid (X = P1 ++ P3) := hX
  obtain ⟨A, hA⟩ : ∃ A, A = decVal X X.size := ⟨_, rfl⟩
  have HP : Hid (0 < X.size ∧ X.size ≤ 400 ∧ Digits X X.size ∧ decVal X X.size = A) := ⟨by rw [hX, ByteArray.size_append]; have := hg.w0; simp only at this; omega, by rw [hX, ByteArray.size_append]; exact hg.sz, by rw [hX]; exact dig_app hg.dw hg.dp, hA.symm⟩
  have HA : Hid (numA ⟨P1, ⟨#[]⟩, P3, P4, P5⟩ = A ∧ A < P 21) := ⟨by show decVal (P1 ++ P3) (P1 ++ P3).size = A; rw [← hX]; exact hA.symm, by have := hg.a; rw [show numA ⟨P1, ⟨#[]⟩, P3, P4, P5⟩ = A by show decVal (P1 ++ P3) (P1 ++ P3).size = A; rw [← hX]; exact hA.symm] at this; exact this⟩
  obtain ⟨w0, hw0⟩ : ∃ w0, w0 = (w.alloc (.cells #[.string P1, .string ⟨#[]⟩, .string P3, .string P4, .bool P5] 125)).alloc (.cells #[.slice none 0 0, .slice none 0 0] 66) := ⟨_, rfl⟩
  have S0 : Hid _ := (((((((sy_start w).go (w' := w.alloc (.cells #[.string P1, .string ⟨#[]⟩, .string P3, .string P4, .bool P5] 125)) (bel_al (bel_refl _))).addC (b := w.heap.size) (i := 0) (v := .string P1) (by simp [go_sem])).addC (b := w.heap.size) (i := 1) (v := .string ⟨#[]⟩) (by simp [go_sem])).addC (b := w.heap.size) (i := 2) (v := .string P3) (by simp [go_sem])).addC (b := w.heap.size) (i := 3) (v := .string P4) (by simp [go_sem])).addC (b := w.heap.size) (i := 4) (v := .bool P5) (by simp [go_sem])).box (.slice none 0 0) (.slice none 0 0) 66 _ rfl
  simp only [World.size_alloc] at S0
  have HT : Hid (Tab w) := hT
  clear hg hX hA hT q1
  go_enter Tryz.func71, Tryz.ntmps71
  go_wp2_with fail
  rw [← hw0] at S0
  rw [← hw0]
  obtain ⟨b, hb⟩ : ∃ b, b = w.heap.size := ⟨_, rfl⟩
  rw [← hb] at S0
  rw [← hb]
  clear hw0 hb
  refine (parse_digits X A _ HP.out.1 HP.out.2.1 HP.out.2.2.1 HP.out.2.2.2).mono ?_
  rintro e w1 ⟨v1, rfl, hv1, hb1⟩
  obtain ⟨a1, n1, c1', rfl⟩ := hv1.isAgg
  have S1 : Hid _ := ((S0.out.go hb1).addN hv1).box1 (.slice a1 n1 c1') 64 _ rfl
  have LT1 : Hid (b + 1 < w1.heap.size) := (S0.out.go hb1).lt (b + 1)
  clear hv1 hb1 S0 HP
  have z1 := S1.out.cel b 1 (.string ⟨#[]⟩)
  have z2 := S1.out.cel b 2 (.string P3)
  have z3 := S1.out.cel b 3 (.string P4)
  have z4 := S1.out.cel b 4 (.bool P5)
  obtain ⟨n, hn⟩ : ∃ n, n = decVal P4 P4.size := ⟨_, rfl⟩
  have hn9 : n ≤ 999 := by rw [hn]; exact decVal_3 HG.out.dx HG.out.sx
  obtain ⟨k, hk⟩ : ∃ k, k = P3.size := ⟨_, rfl⟩
  have hk4 : k ≤ 400 := by rw [hk]; have := HG.out.sz; simp only at this; omega
  obtain ⟨y, hy⟩ : ∃ y : Int, y = (if P5 then -(n : Int) else (n : Int)) - (k : Int) := ⟨_, rfl⟩
  have hPw : pwI ⟨P1, ⟨#[]⟩, P3, P4, P5⟩ = y := by unfold pwI; simp only; rw [← hn, ← hk, ← hy]
  have hyb : -1399 ≤ y ∧ y ≤ 999 := by rw [← hPw]; exact HG.out.pw
  have HN : Hid (decVal P4 P4.size = n) := hn.symm
  have hk' : P3.size = k := hk.symm
  obtain ⟨t, ht⟩ : ∃ t, t = if y < 0 then (-y).toNat else y.toNat := ⟨_, rfl⟩
  have HY : Hid (-1399 ≤ y ∧ t ≤ 1500 ∧ A * 10 ^ (if y < 0 then 0 else t) < P 90) := by
    refine ⟨hyb.1, by rw [ht]; split <;> omega, ?_⟩
    split
    · rw [Nat.pow_zero, Nat.mul_one]
      exact P_up HA.out.2 (by omega)
    · rename_i hh
      have h1 : 10 ^ t < P 60 := Nat.lt_of_le_of_lt (Nat.pow_le_pow_right (by omega) (by rw [ht, if_neg hh]; omega)) ten999
      exact P_up (mulP_lt HA.out.2 h1) (by omega)
  have HV0 : Hid (vN ⟨P1, ⟨#[]⟩, P3, P4, P5⟩ = A * 10 ^ y.toNat ∧ vD ⟨P1, ⟨#[]⟩, P3, P4, P5⟩ = 10 ^ (-y).toNat) := ⟨by unfold vN; simp only; rw [if_pos (show (⟨#[]⟩ : ByteArray).size = 0 from rfl), HA.out.1, hPw], by unfold vD; simp only; rw [if_pos (show (⟨#[]⟩ : ByteArray).size = 0 from rfl), hPw]⟩
  have HZ : Hid (¬ vD ⟨P1, ⟨#[]⟩, P3, P4, P5⟩ = 0) := by show ¬ _; rw [HV0.out.2]; exact Nat.ne_of_gt (Nat.pow_pos (by omega))
  have w1' : IntKind.i64.wrap (-(n : Int)) = -(n : Int) := by rw [IntKind.wrap_i64]; omega
  have w2' : IntKind.i64.wrap (-y) = -y := by rw [IntKind.wrap_i64]; omega
  clear hn hk hPw
  cases P5 with
  | true =>
    have w3' : wrap64 (-(n : Int) - (k : Int)) = y := by rw [hy]; exact IntWalk.wrap64_in _ ⟨by omega, by omega⟩
    clear hy
    have W3 : Hid _ := w3'
    clear w3'
    by_cases hs : y < 0
    · have d1 : decide (y < 0) = true := decide_eq_true hs
      have w4' : IntKind.i64.wrap (-y) = (t : Int) := by rw [w2', ht, if_pos hs]; omega
      have HV : Hid (vN ⟨P1, ⟨#[]⟩, P3, P4, true⟩ = A ∧ vD ⟨P1, ⟨#[]⟩, P3, P4, true⟩ = 10 ^ t) := ⟨by rw [HV0.out.1, show y.toNat = 0 by omega, Nat.pow_zero, Nat.mul_one], by rw [HV0.out.2, ht, if_pos hs]⟩
      have HY : Hid (-1399 ≤ y ∧ t ≤ 1500 ∧ True) := ⟨HY.out.1, HY.out.2.1, trivial⟩
      clear hs ht w2' HV0 hn9 hk4 hyb
      have w3' := W3.out
      go_wp2_with fail
      refine (small_any P4 _ HG.out.dx HG.out.sx).mono ?_
      rintro e wx ⟨rfl, hwx⟩
      rw [hwx, HN.out]
      clear hwx
      go_wp2_with fail
      obtain ⟨g, hg⟩ : ∃ g, g = w1.heap.size := ⟨_, rfl⟩
      obtain ⟨w2, hw2⟩ : ∃ w2, w2 = w1.alloc (.cells #[.slice a1 n1 c1'] 64) := ⟨_, rfl⟩
      rw [← hw2, ← hg] at S1
      rw [← hw2, ← hg]
      have nb1 : ¬ b + 1 = g := by rw [hg]; have := LT1.out; omega
      have nb2 : ¬ g = b + 1 := fun e => nb1 e.symm
      clear hw2 hg z1 z2 z3 z4
      refine wp_region_held_drew (S := fun w9 => w9.cell? ⟨g, 0, none⟩ = some (.slice a1 n1 c1')) (by kernel_rfl) (S1.out.cel g 0 (.slice a1 n1 c1')) (fun hHeld => ?_)
      refine wpAnyH_take (i := 0) (v := .agg #[.slice a1 n1 c1']) rfl (by kernel_rfl) (by kernel_rfl) (by kernel_rfl) (fun _ _ _ h => h) (Or.inl ⟨by rfl, ?_⟩) (by assumption) ?_
      · intro w hSw
        go_simp
      refine wpAnyH_take (i := 1) (v := .int .i64 y) rfl (by kernel_rfl) (by kernel_rfl) (by kernel_rfl) (fun _ _ _ h => h) (Or.inl ⟨by rfl, ?_⟩) (by assumption) ?_
      · intro w hSw
        go_simp
      refine wpAnyH_take (i := 2) (v := .int .i64 (t : Int)) rfl (by kernel_rfl) (by kernel_rfl) (by kernel_rfl) (fun _ _ _ h => h) (Or.inl ⟨by rfl, ?_⟩) (by assumption) ?_
      · intro w hSw
        go_simp
      refine wpAnyH_ready (rs := [3]) (by kernel_rfl) (by simp) ?_
      refine AllReadyH.cons rfl (fun K9 hK9 => ?_) AllReadyH.nil
      go_simp
      refine Calls.mono (tenTo_any t _ HY.out.2.1) ?_
      rintro e w3 ⟨v3, rfl, hv3, hb3⟩
      replace hb3 : Below w2.heap.size w2 w3 := bel_undrew hb3
      have S2 : Hid _ := (S1.out.go hb3).addN hv3
      clear hv3 hb3 S1 hHeld
      refine hK9.out _ _ (S2.out.cel g 0 (.slice a1 n1 c1')) (fun hHeld => ?_)
      clear hK9 K9
      refine wpAnyH_ready (rs := [4]) (by kernel_rfl) (by simp) ?_
      refine AllReadyH.cons rfl (fun K9 hK9 => ?_) AllReadyH.nil
      go_simp
      refine Calls.mono (from_any _ _ A (10 ^ t) _ (S2.out.at (.agg #[.slice a1 n1 c1']) A) (S2.out.at v3 (10 ^ t)) ⟨P_up HA.out.2 (by omega)⟩ ⟨ten_P90 HY.out.2.1⟩ (Nat.pow_pos (by omega)) (HT.out.go S2.out.bel)) ?_
      rintro e w5 ⟨v5, rfl, hv5, hb5⟩
      have S3 : Hid _ := (S2.out.go hb5).addF hv5
      obtain ⟨a5, n5, c5, a6, n6, c6, ev, _, _⟩ := hv5.raw
      subst ev
      clear hv5 hb5 S2 hHeld
      have x0 := S3.out.cel (b + 1) 0 (.slice none 0 0)
      have x1 := S3.out.cel (b + 1) 1 (.slice none 0 0)
      have f0 := S3.out.fz (b + 1) 0
      have f1 := S3.out.fz (b + 1) 1
      have t0 := S3.out.cel g 0 (.slice a1 n1 c1')
      refine hK9.out _ _ t0 (fun hHeld => ?_)
      clear hK9 K9
      refine wpAnyH_take (i := 5) (v := .agg #[.slice a5 n5 c5, .slice a6 n6 c6]) rfl (by kernel_rfl) (by kernel_rfl) (by kernel_rfl) (fun _ _ _ h => h) (Or.inl ⟨by rfl, ?_⟩) (by assumption) ?_
      · intro w hSw
        go_simp
      refine wpAnyH_take (i := 6) (v := .bool true) rfl (by kernel_rfl) (by kernel_rfl) (by kernel_rfl) (fun _ _ _ h => h) (Or.inl ⟨by rfl, ?_⟩) (by assumption) ?_
      · intro w hSw
        go_simp
      refine wpAnyH_ready (rs := [7]) (by kernel_rfl) (by simp) ?_
      refine AllReadyH.cons rfl (fun K9 hK9 => ?_) AllReadyH.nil
      go_simp
      clear hHeld
      refine hK9.out _ _ (by simp [go_sem, *]) (fun hHeld => ?_)
      clear hK9 K9
      refine wpAnyH_take (i := 8) (v := .bool true) rfl (by kernel_rfl) (by kernel_rfl) (by kernel_rfl) (fun _ _ _ h => h) (Or.inl ⟨by rfl, ?_⟩) (by assumption) ?_
      · intro w hSw
        go_simp
      refine wpAnyH_done (by kernel_rfl) ?_ _
      have Z : Hid _ := rat_put (w0 := w) (v := .slice a5 n5 c5) (u := .slice a6 n6 c6) x0 x1 (S3.out.fr (.agg #[.slice a5 n5 c5, .slice a6 n6 c6]) ((A) / Nat.gcd (A) (10 ^ t)) ((10 ^ t) / Nat.gcd (A) (10 ^ t))) S3.out.bel (S3.out.lo (b + 1))
      go_wp2_with fail
      refine bodyPost_ret (v := .tuple #[.agg #[.slice a5 n5 c5, .slice a6 n6 c6], .bool true]) (by simp [results, Tryz.results71, go_sem, x0, x1]) rfl ?_
      unfold MakesV
      rw [if_neg HZ.out, HV.out.1, HV.out.2]
      exact ⟨_, rfl, Z.out.1, Z.out.2⟩
    · have d1 : decide (y < 0) = false := decide_eq_false hs
      have ey : y = (t : Int) := by rw [ht, if_neg hs]; omega
      have HV : Hid (vN ⟨P1, ⟨#[]⟩, P3, P4, true⟩ = A * 10 ^ t ∧ vD ⟨P1, ⟨#[]⟩, P3, P4, true⟩ = 1) := ⟨by rw [HV0.out.1, ht, if_neg hs], by rw [HV0.out.2, show (-y).toNat = 0 by omega, Nat.pow_zero]⟩
      have HY : Hid (-1399 ≤ y ∧ t ≤ 1500 ∧ A * 10 ^ t < P 90) := ⟨HY.out.1, HY.out.2.1, by have := HY.out.2.2; rw [if_neg hs] at this; exact this⟩
      have w3' := W3.out
      rw [ey] at w3' d1
      clear hs ht w2' HV0 hn9 hk4 hyb ey W3
      go_wp2_with fail
      refine (small_any P4 _ HG.out.dx HG.out.sx).mono ?_
      rintro e wx ⟨rfl, hwx⟩
      rw [hwx, HN.out]
      clear hwx
      go_wp2_with fail
      obtain ⟨g, hg⟩ : ∃ g, g = w1.heap.size := ⟨_, rfl⟩
      obtain ⟨w2, hw2⟩ : ∃ w2, w2 = w1.alloc (.cells #[.slice a1 n1 c1'] 64) := ⟨_, rfl⟩
      rw [← hw2, ← hg] at S1
      rw [← hw2, ← hg]
      have nb1 : ¬ b + 1 = g := by rw [hg]; have := LT1.out; omega
      have nb2 : ¬ g = b + 1 := fun e => nb1 e.symm
      clear hw2 hg z1 z2 z3 z4
      refine wp_region_held_drew (S := fun w9 => w9.cell? ⟨g, 0, none⟩ = some (.slice a1 n1 c1')) (by kernel_rfl) (S1.out.cel g 0 (.slice a1 n1 c1')) (fun hHeld => ?_)
      refine wpAnyH_take (i := 0) (v := .agg #[.slice a1 n1 c1']) rfl (by kernel_rfl) (by kernel_rfl) (by kernel_rfl) (fun _ _ _ h => h) (Or.inl ⟨by rfl, ?_⟩) (by assumption) ?_
      · intro w hSw
        go_simp
      refine wpAnyH_take (i := 1) (v := .int .i64 (t : Int)) rfl (by kernel_rfl) (by kernel_rfl) (by kernel_rfl) (fun _ _ _ h => h) (Or.inl ⟨by rfl, ?_⟩) (by assumption) ?_
      · intro w hSw
        go_simp
      refine wpAnyH_ready (rs := [2]) (by kernel_rfl) (by simp) ?_
      refine AllReadyH.cons rfl (fun K9 hK9 => ?_) AllReadyH.nil
      go_simp
      refine Calls.mono (tenTo_any t _ HY.out.2.1) ?_
      rintro e w3 ⟨v3, rfl, hv3, hb3⟩
      replace hb3 : Below w2.heap.size w2 w3 := bel_undrew hb3
      have S2 : Hid _ := (S1.out.go hb3).addN hv3
      clear hv3 hb3 S1 hHeld
      refine hK9.out _ _ (S2.out.cel g 0 (.slice a1 n1 c1')) (fun hHeld => ?_)
      clear hK9 K9
      refine wpAnyH_ready (rs := [3]) (by kernel_rfl) (by simp) ?_
      refine AllReadyH.cons rfl (fun K9 hK9 => ?_) AllReadyH.nil
      go_simp
      refine Calls.mono (mul_short _ _ A (10 ^ t) _ (S2.out.at (.agg #[.slice a1 n1 c1']) A) (S2.out.at v3 (10 ^ t)) (fits_P HA.out.2 (by omega)) (fits_P (ten_P90 HY.out.2.1) (by omega)) (.inl (P_up HA.out.2 (by omega)))) ?_
      rintro e w4 ⟨v4, rfl, hv4, hb4⟩
      have S3 : Hid _ := (S2.out.go hb4).addN hv4
      clear hv4 hb4 S2 hHeld
      refine hK9.out _ _ (S3.out.cel g 0 (.slice a1 n1 c1')) (fun hHeld => ?_)
      clear hK9 K9
      refine wpAnyH_ready (rs := [4]) (by kernel_rfl) (by simp) ?_
      refine AllReadyH.cons rfl (fun K9 hK9 => ?_) AllReadyH.nil
      go_simp
      refine Calls.mono (of_any 1 _ (by omega)) ?_
      rintro e w6 ⟨v6, rfl, hv6, hb6⟩
      have S4 : Hid _ := (S3.out.go hb6).addN hv6
      clear hv6 hb6 S3 hHeld
      refine hK9.out _ _ (S4.out.cel g 0 (.slice a1 n1 c1')) (fun hHeld => ?_)
      clear hK9 K9
      refine wpAnyH_ready (rs := [5]) (by kernel_rfl) (by simp) ?_
      refine AllReadyH.cons rfl (fun K9 hK9 => ?_) AllReadyH.nil
      go_simp
      refine Calls.mono (from_any _ _ (A * 10 ^ t) 1 _ (S4.out.at v4 (A * 10 ^ t)) (S4.out.at v6 1) ⟨HY.out.2.2⟩ (rs_word (by omega)) (by omega) (HT.out.go S4.out.bel)) ?_
      rintro e w5 ⟨v5, rfl, hv5, hb5⟩
      have S3 : Hid _ := (S4.out.go hb5).addF hv5
      obtain ⟨a5, n5, c5, a6, n6, c6, ev, _, _⟩ := hv5.raw
      subst ev
      clear hv5 hb5 S4 hHeld
      have x0 := S3.out.cel (b + 1) 0 (.slice none 0 0)
      have x1 := S3.out.cel (b + 1) 1 (.slice none 0 0)
      have f0 := S3.out.fz (b + 1) 0
      have f1 := S3.out.fz (b + 1) 1
      have t0 := S3.out.cel g 0 (.slice a1 n1 c1')
      refine hK9.out _ _ t0 (fun hHeld => ?_)
      clear hK9 K9
      refine wpAnyH_take (i := 6) (v := .agg #[.slice a5 n5 c5, .slice a6 n6 c6]) rfl (by kernel_rfl) (by kernel_rfl) (by kernel_rfl) (fun _ _ _ h => h) (Or.inl ⟨by rfl, ?_⟩) (by assumption) ?_
      · intro w hSw
        go_simp
      refine wpAnyH_take (i := 7) (v := .bool true) rfl (by kernel_rfl) (by kernel_rfl) (by kernel_rfl) (fun _ _ _ h => h) (Or.inl ⟨by rfl, ?_⟩) (by assumption) ?_
      · intro w hSw
        go_simp
      refine wpAnyH_ready (rs := [8]) (by kernel_rfl) (by simp) ?_
      refine AllReadyH.cons rfl (fun K9 hK9 => ?_) AllReadyH.nil
      go_simp
      clear hHeld
      refine hK9.out _ _ (by simp [go_sem, *]) (fun hHeld => ?_)
      clear hK9 K9
      refine wpAnyH_take (i := 9) (v := .bool true) rfl (by kernel_rfl) (by kernel_rfl) (by kernel_rfl) (fun _ _ _ h => h) (Or.inl ⟨by rfl, ?_⟩) (by assumption) ?_
      · intro w hSw
        go_simp
      refine wpAnyH_done (by kernel_rfl) ?_ _
      have Z : Hid _ := rat_put (w0 := w) (v := .slice a5 n5 c5) (u := .slice a6 n6 c6) x0 x1 (S3.out.fr (.agg #[.slice a5 n5 c5, .slice a6 n6 c6]) ((A * 10 ^ t) / Nat.gcd (A * 10 ^ t) (1)) ((1) / Nat.gcd (A * 10 ^ t) (1))) S3.out.bel (S3.out.lo (b + 1))
      go_wp2_with fail
      refine bodyPost_ret (v := .tuple #[.agg #[.slice a5 n5 c5, .slice a6 n6 c6], .bool true]) (by simp [results, Tryz.results71, go_sem, x0, x1]) rfl ?_
      unfold MakesV
      rw [if_neg HZ.out, HV.out.1, HV.out.2]
      exact ⟨_, rfl, Z.out.1, Z.out.2⟩
  | false =>
    have w3' : wrap64 ((n : Int) - (k : Int)) = y := by rw [hy]; exact IntWalk.wrap64_in _ ⟨by omega, by omega⟩
    clear hy
    have W3 : Hid _ := w3'
    clear w3'
    by_cases hs : y < 0
    · have d1 : decide (y < 0) = true := decide_eq_true hs
      have w4' : IntKind.i64.wrap (-y) = (t : Int) := by rw [w2', ht, if_pos hs]; omega
      have HV : Hid (vN ⟨P1, ⟨#[]⟩, P3, P4, false⟩ = A ∧ vD ⟨P1, ⟨#[]⟩, P3, P4, false⟩ = 10 ^ t) := ⟨by rw [HV0.out.1, show y.toNat = 0 by omega, Nat.pow_zero, Nat.mul_one], by rw [HV0.out.2, ht, if_pos hs]⟩
      have HY : Hid (-1399 ≤ y ∧ t ≤ 1500 ∧ True) := ⟨HY.out.1, HY.out.2.1, trivial⟩
      clear hs ht w2' HV0 hn9 hk4 hyb
      have w3' := W3.out
      go_wp2_with fail
      refine (small_any P4 _ HG.out.dx HG.out.sx).mono ?_
      rintro e wx ⟨rfl, hwx⟩
      rw [hwx, HN.out]
      clear hwx
      go_wp2_with fail
      obtain ⟨g, hg⟩ : ∃ g, g = w1.heap.size := ⟨_, rfl⟩
      obtain ⟨w2, hw2⟩ : ∃ w2, w2 = w1.alloc (.cells #[.slice a1 n1 c1'] 64) := ⟨_, rfl⟩
      rw [← hw2, ← hg] at S1
      rw [← hw2, ← hg]
      have nb1 : ¬ b + 1 = g := by rw [hg]; have := LT1.out; omega
      have nb2 : ¬ g = b + 1 := fun e => nb1 e.symm
      clear hw2 hg z1 z2 z3 z4
      refine wp_region_held_drew (S := fun w9 => w9.cell? ⟨g, 0, none⟩ = some (.slice a1 n1 c1')) (by kernel_rfl) (S1.out.cel g 0 (.slice a1 n1 c1')) (fun hHeld => ?_)
      refine wpAnyH_take (i := 0) (v := .agg #[.slice a1 n1 c1']) rfl (by kernel_rfl) (by kernel_rfl) (by kernel_rfl) (fun _ _ _ h => h) (Or.inl ⟨by rfl, ?_⟩) (by assumption) ?_
      · intro w hSw
        go_simp
      refine wpAnyH_take (i := 1) (v := .int .i64 y) rfl (by kernel_rfl) (by kernel_rfl) (by kernel_rfl) (fun _ _ _ h => h) (Or.inl ⟨by rfl, ?_⟩) (by assumption) ?_
      · intro w hSw
        go_simp
      refine wpAnyH_take (i := 2) (v := .int .i64 (t : Int)) rfl (by kernel_rfl) (by kernel_rfl) (by kernel_rfl) (fun _ _ _ h => h) (Or.inl ⟨by rfl, ?_⟩) (by assumption) ?_
      · intro w hSw
        go_simp
      refine wpAnyH_ready (rs := [3]) (by kernel_rfl) (by simp) ?_
      refine AllReadyH.cons rfl (fun K9 hK9 => ?_) AllReadyH.nil
      go_simp
      refine Calls.mono (tenTo_any t _ HY.out.2.1) ?_
      rintro e w3 ⟨v3, rfl, hv3, hb3⟩
      replace hb3 : Below w2.heap.size w2 w3 := bel_undrew hb3
      have S2 : Hid _ := (S1.out.go hb3).addN hv3
      clear hv3 hb3 S1 hHeld
      refine hK9.out _ _ (S2.out.cel g 0 (.slice a1 n1 c1')) (fun hHeld => ?_)
      clear hK9 K9
      refine wpAnyH_ready (rs := [4]) (by kernel_rfl) (by simp) ?_
      refine AllReadyH.cons rfl (fun K9 hK9 => ?_) AllReadyH.nil
      go_simp
      refine Calls.mono (from_any _ _ A (10 ^ t) _ (S2.out.at (.agg #[.slice a1 n1 c1']) A) (S2.out.at v3 (10 ^ t)) ⟨P_up HA.out.2 (by omega)⟩ ⟨ten_P90 HY.out.2.1⟩ (Nat.pow_pos (by omega)) (HT.out.go S2.out.bel)) ?_
      rintro e w5 ⟨v5, rfl, hv5, hb5⟩
      have S3 : Hid _ := (S2.out.go hb5).addF hv5
      obtain ⟨a5, n5, c5, a6, n6, c6, ev, _, _⟩ := hv5.raw
      subst ev
      clear hv5 hb5 S2 hHeld
      have x0 := S3.out.cel (b + 1) 0 (.slice none 0 0)
      have x1 := S3.out.cel (b + 1) 1 (.slice none 0 0)
      have f0 := S3.out.fz (b + 1) 0
      have f1 := S3.out.fz (b + 1) 1
      have t0 := S3.out.cel g 0 (.slice a1 n1 c1')
      refine hK9.out _ _ t0 (fun hHeld => ?_)
      clear hK9 K9
      refine wpAnyH_take (i := 5) (v := .agg #[.slice a5 n5 c5, .slice a6 n6 c6]) rfl (by kernel_rfl) (by kernel_rfl) (by kernel_rfl) (fun _ _ _ h => h) (Or.inl ⟨by rfl, ?_⟩) (by assumption) ?_
      · intro w hSw
        go_simp
      refine wpAnyH_take (i := 6) (v := .bool true) rfl (by kernel_rfl) (by kernel_rfl) (by kernel_rfl) (fun _ _ _ h => h) (Or.inl ⟨by rfl, ?_⟩) (by assumption) ?_
      · intro w hSw
        go_simp
      refine wpAnyH_ready (rs := [7]) (by kernel_rfl) (by simp) ?_
      refine AllReadyH.cons rfl (fun K9 hK9 => ?_) AllReadyH.nil
      go_simp
      clear hHeld
      refine hK9.out _ _ (by simp [go_sem, *]) (fun hHeld => ?_)
      clear hK9 K9
      refine wpAnyH_take (i := 8) (v := .bool true) rfl (by kernel_rfl) (by kernel_rfl) (by kernel_rfl) (fun _ _ _ h => h) (Or.inl ⟨by rfl, ?_⟩) (by assumption) ?_
      · intro w hSw
        go_simp
      refine wpAnyH_done (by kernel_rfl) ?_ _
      have Z : Hid _ := rat_put (w0 := w) (v := .slice a5 n5 c5) (u := .slice a6 n6 c6) x0 x1 (S3.out.fr (.agg #[.slice a5 n5 c5, .slice a6 n6 c6]) ((A) / Nat.gcd (A) (10 ^ t)) ((10 ^ t) / Nat.gcd (A) (10 ^ t))) S3.out.bel (S3.out.lo (b + 1))
      go_wp2_with fail
      refine bodyPost_ret (v := .tuple #[.agg #[.slice a5 n5 c5, .slice a6 n6 c6], .bool true]) (by simp [results, Tryz.results71, go_sem, x0, x1]) rfl ?_
      unfold MakesV
      rw [if_neg HZ.out, HV.out.1, HV.out.2]
      exact ⟨_, rfl, Z.out.1, Z.out.2⟩
    · have d1 : decide (y < 0) = false := decide_eq_false hs
      have ey : y = (t : Int) := by rw [ht, if_neg hs]; omega
      have HV : Hid (vN ⟨P1, ⟨#[]⟩, P3, P4, false⟩ = A * 10 ^ t ∧ vD ⟨P1, ⟨#[]⟩, P3, P4, false⟩ = 1) := ⟨by rw [HV0.out.1, ht, if_neg hs], by rw [HV0.out.2, show (-y).toNat = 0 by omega, Nat.pow_zero]⟩
      have HY : Hid (-1399 ≤ y ∧ t ≤ 1500 ∧ A * 10 ^ t < P 90) := ⟨HY.out.1, HY.out.2.1, by have := HY.out.2.2; rw [if_neg hs] at this; exact this⟩
      have w3' := W3.out
      rw [ey] at w3' d1
      clear hs ht w2' HV0 hn9 hk4 hyb ey W3
      go_wp2_with fail
      refine (small_any P4 _ HG.out.dx HG.out.sx).mono ?_
      rintro e wx ⟨rfl, hwx⟩
      rw [hwx, HN.out]
      clear hwx
      go_wp2_with fail
      obtain ⟨g, hg⟩ : ∃ g, g = w1.heap.size := ⟨_, rfl⟩
      obtain ⟨w2, hw2⟩ : ∃ w2, w2 = w1.alloc (.cells #[.slice a1 n1 c1'] 64) := ⟨_, rfl⟩
      rw [← hw2, ← hg] at S1
      rw [← hw2, ← hg]
      have nb1 : ¬ b + 1 = g := by rw [hg]; have := LT1.out; omega
      have nb2 : ¬ g = b + 1 := fun e => nb1 e.symm
      clear hw2 hg z1 z2 z3 z4
      refine wp_region_held_drew (S := fun w9 => w9.cell? ⟨g, 0, none⟩ = some (.slice a1 n1 c1')) (by kernel_rfl) (S1.out.cel g 0 (.slice a1 n1 c1')) (fun hHeld => ?_)
      refine wpAnyH_take (i := 0) (v := .agg #[.slice a1 n1 c1']) rfl (by kernel_rfl) (by kernel_rfl) (by kernel_rfl) (fun _ _ _ h => h) (Or.inl ⟨by rfl, ?_⟩) (by assumption) ?_
      · intro w hSw
        go_simp
      refine wpAnyH_take (i := 1) (v := .int .i64 (t : Int)) rfl (by kernel_rfl) (by kernel_rfl) (by kernel_rfl) (fun _ _ _ h => h) (Or.inl ⟨by rfl, ?_⟩) (by assumption) ?_
      · intro w hSw
        go_simp
      refine wpAnyH_ready (rs := [2]) (by kernel_rfl) (by simp) ?_
      refine AllReadyH.cons rfl (fun K9 hK9 => ?_) AllReadyH.nil
      go_simp
      refine Calls.mono (tenTo_any t _ HY.out.2.1) ?_
      rintro e w3 ⟨v3, rfl, hv3, hb3⟩
      replace hb3 : Below w2.heap.size w2 w3 := bel_undrew hb3
      have S2 : Hid _ := (S1.out.go hb3).addN hv3
      clear hv3 hb3 S1 hHeld
      refine hK9.out _ _ (S2.out.cel g 0 (.slice a1 n1 c1')) (fun hHeld => ?_)
      clear hK9 K9
      refine wpAnyH_ready (rs := [3]) (by kernel_rfl) (by simp) ?_
      refine AllReadyH.cons rfl (fun K9 hK9 => ?_) AllReadyH.nil
      go_simp
      refine Calls.mono (mul_short _ _ A (10 ^ t) _ (S2.out.at (.agg #[.slice a1 n1 c1']) A) (S2.out.at v3 (10 ^ t)) (fits_P HA.out.2 (by omega)) (fits_P (ten_P90 HY.out.2.1) (by omega)) (.inl (P_up HA.out.2 (by omega)))) ?_
      rintro e w4 ⟨v4, rfl, hv4, hb4⟩
      have S3 : Hid _ := (S2.out.go hb4).addN hv4
      clear hv4 hb4 S2 hHeld
      refine hK9.out _ _ (S3.out.cel g 0 (.slice a1 n1 c1')) (fun hHeld => ?_)
      clear hK9 K9
      refine wpAnyH_ready (rs := [4]) (by kernel_rfl) (by simp) ?_
      refine AllReadyH.cons rfl (fun K9 hK9 => ?_) AllReadyH.nil
      go_simp
      refine Calls.mono (of_any 1 _ (by omega)) ?_
      rintro e w6 ⟨v6, rfl, hv6, hb6⟩
      have S4 : Hid _ := (S3.out.go hb6).addN hv6
      clear hv6 hb6 S3 hHeld
      refine hK9.out _ _ (S4.out.cel g 0 (.slice a1 n1 c1')) (fun hHeld => ?_)
      clear hK9 K9
      refine wpAnyH_ready (rs := [5]) (by kernel_rfl) (by simp) ?_
      refine AllReadyH.cons rfl (fun K9 hK9 => ?_) AllReadyH.nil
      go_simp
      refine Calls.mono (from_any _ _ (A * 10 ^ t) 1 _ (S4.out.at v4 (A * 10 ^ t)) (S4.out.at v6 1) ⟨HY.out.2.2⟩ (rs_word (by omega)) (by omega) (HT.out.go S4.out.bel)) ?_
      rintro e w5 ⟨v5, rfl, hv5, hb5⟩
      have S3 : Hid _ := (S4.out.go hb5).addF hv5
      obtain ⟨a5, n5, c5, a6, n6, c6, ev, _, _⟩ := hv5.raw
      subst ev
      clear hv5 hb5 S4 hHeld
      have x0 := S3.out.cel (b + 1) 0 (.slice none 0 0)
      have x1 := S3.out.cel (b + 1) 1 (.slice none 0 0)
      have f0 := S3.out.fz (b + 1) 0
      have f1 := S3.out.fz (b + 1) 1
      have t0 := S3.out.cel g 0 (.slice a1 n1 c1')
      refine hK9.out _ _ t0 (fun hHeld => ?_)
      clear hK9 K9
      refine wpAnyH_take (i := 6) (v := .agg #[.slice a5 n5 c5, .slice a6 n6 c6]) rfl (by kernel_rfl) (by kernel_rfl) (by kernel_rfl) (fun _ _ _ h => h) (Or.inl ⟨by rfl, ?_⟩) (by assumption) ?_
      · intro w hSw
        go_simp
      refine wpAnyH_take (i := 7) (v := .bool true) rfl (by kernel_rfl) (by kernel_rfl) (by kernel_rfl) (fun _ _ _ h => h) (Or.inl ⟨by rfl, ?_⟩) (by assumption) ?_
      · intro w hSw
        go_simp
      refine wpAnyH_ready (rs := [8]) (by kernel_rfl) (by simp) ?_
      refine AllReadyH.cons rfl (fun K9 hK9 => ?_) AllReadyH.nil
      go_simp
      clear hHeld
      refine hK9.out _ _ (by simp [go_sem, *]) (fun hHeld => ?_)
      clear hK9 K9
      refine wpAnyH_take (i := 9) (v := .bool true) rfl (by kernel_rfl) (by kernel_rfl) (by kernel_rfl) (fun _ _ _ h => h) (Or.inl ⟨by rfl, ?_⟩) (by assumption) ?_
      · intro w hSw
        go_simp
      refine wpAnyH_done (by kernel_rfl) ?_ _
      have Z : Hid _ := rat_put (w0 := w) (v := .slice a5 n5 c5) (u := .slice a6 n6 c6) x0 x1 (S3.out.fr (.agg #[.slice a5 n5 c5, .slice a6 n6 c6]) ((A * 10 ^ t) / Nat.gcd (A * 10 ^ t) (1)) ((1) / Nat.gcd (A * 10 ^ t) (1))) S3.out.bel (S3.out.lo (b + 1))
      go_wp2_with fail
      refine bodyPost_ret (v := .tuple #[.agg #[.slice a5 n5 c5, .slice a6 n6 c6], .bool true]) (by simp [results, Tryz.results71, go_sem, x0, x1]) rfl ?_
      unfold MakesV
      rw [if_neg HZ.out, HV.out.1, HV.out.2]
      exact ⟨_, rfl, Z.out.1, Z.out.2⟩
end Go.Proofs.YtfjmnhmdipjenaaGreatDoor

