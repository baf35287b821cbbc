/- Contracts of the program's functions, part 20: own work, joined in build order. -/
import Derived.Test.YtpeimefangpnaaaGreatDoorJ19
import Derived.Handy
namespace Go.Proofs.YtpeimefangpnaaaGreatDoor
open Go.RowKit
set_option maxRecDepth 100000
set_option linter.unusedVariables false
theorem text_k (v : Value) (x k : Nat) (w : World) (h : IsNat w v x) (ht : Tx x) (hk : DecLen x k) : Calls Tryz.prog 78 #[v] w fun e w' => e = .returned (.string (decText x k)) ∧ Below w.heap.size w w' := by
  refine (text_any v x w h ht).mono ?_
  rintro e w' ⟨l, rfl, hl, hb⟩
  rw [hl.unique hk]
  exact ⟨rfl, hb⟩
theorem cat_run (s t : ByteArray) (h : s.size + t.size ≤ 9223372036854775807) (w : World) : (binOp .add 9 (.string s) (.string t)).run Tryz.prog w = .ok (.string (s ++ t)) w := by
  simp [binOp, run_string_add_sum, h]
/-- A fraction's text. -/
def fmtT (p q k l : Nat) : ByteArray := if q = 1 then decText p k else decText p k ++ ⟨#[47]⟩ ++ decText q l
theorem bitLen_one {q : Nat} : bitLen q = 1 ↔ q = 1 := by
  constructor
  · intro h
    have h1 := (bitLen_spec q).1
    rw [h] at h1
    rcases Nat.eq_zero_or_pos q with e | e
    · rw [e, bitLen_zero] at h
      omega
    · omega
  · intro h
    rw [h]
    decide +kernel
theorem dec_len {x k : Nat} (h : DecLen x k) (hx : x < P 200) : k ≤ 5000 := by
  rcases h.2.2 with h1 | h1
  · omega
  · have h2 : 2 ^ (3 * (k - 1)) ≤ 10 ^ (k - 1) := by rw [Nat.pow_mul]; exact Nat.pow_le_pow_left (by decide) _
    have h3 : 2 ^ (3 * (k - 1)) < P 200 := Nat.lt_of_le_of_lt (Nat.le_trans h2 h1) hx
    rw [P_two] at h3
    have h4 := (Nat.pow_lt_pow_iff_right (show 1 < 2 by decide)).1 h3
    omega
set_option maxHeartbeats 4000000 in
theorem format_any (v : Value) (p q k l : Nat) (w : World) (h : Rt w v p q) (hp : RS p) (hq : RS q) (hk : DecLen p k) (hl : DecLen q l) :
    Calls Tryz.prog 31 #[v] w fun e w' => e = .returned (.string (fmtT p q k l)) ∧ Below w.heap.size w w' := by
  have h' := h
  obtain ⟨a, n, c, a', n', c', e0, _, _⟩ := h'.raw
  subst e0
  have S1 : Hid _ := ((sy_start w).addF h).box (.slice a n c) (.slice a' n' c') 27 _ rfl
  have HH : Hid (RS p ∧ RS q ∧ DecLen p k ∧ DecLen q l ∧ Tx p ∧ Tx q) := ⟨hp, hq, hk, hl, tx_of hp.lt (by omega), tx_of hq.lt (by omega)⟩
  have kp := dec_len hk (P_up hp.lt (by omega))
  have kq := dec_len hl (P_up hq.lt (by omega))
  have sp : (decText p k).size = k := text_size _ _
  have sq : (decText q l).size = l := text_size _ _
  have m1 : (decText p k).size ≤ 9223372036854775806 := by omega
  have m2 : (decText p k).size + 1 + (decText q l).size ≤ 9223372036854775807 := by omega
  clear h h' hp hq hk hl kp kq sp sq
  go_enter Tryz.func31, Tryz.ntmps31
  go_wp2_with fail
  refine (parts_any _ p q _ (S1.out.fr (.agg #[.slice a n c, .slice a' n' c']) p q) HH.out.2.1.fits).mono ?_
  rintro e w1 ⟨v1, u1, rfl, hv1, hu1, hb1⟩
  obtain ⟨a1, n1, c1, rfl⟩ := hv1.isAgg
  obtain ⟨a2, n2, c2, rfl⟩ := hu1.isAgg
  have S2 : Hid _ := ((((S1.out.go hb1).addN hv1).addN hu1).box1 (.slice a1 n1 c1) 25 _ rfl).box1 (.slice a2 n2 c2) 25 _ rfl
  simp only [World.size_alloc] at S2
  clear hv1 hu1 hb1 S1
  go_wp2_with fail
  obtain ⟨w2, hw2⟩ : ∃ w2, w2 = (w1.alloc (.cells #[.slice a1 n1 c1] 25)).alloc (.cells #[.slice a2 n2 c2] 25) := ⟨_, rfl⟩
  obtain ⟨g, hg⟩ : ∃ g, g = w1.heap.size := ⟨_, rfl⟩
  rw [← hw2, ← hg] at S2
  rw [← hw2, ← hg]
  clear hw2 hg
  refine (len_any _ q _ (S2.out.at (.agg #[.slice a2 n2 c2]) q) HH.out.2.1.fits).mono ?_
  rintro e w3 ⟨rfl, hb3⟩
  have S3 : Hid _ := S2.out.go hb3
  clear hb3 S2
  have k1 := S3.out.cel g 0 (.slice a1 n1 c1)
  by_cases h1 : q = 1
  · have t1 : bitLen q = 1 := bitLen_one.2 h1
    have HV : Hid (fmtT p q k l = decText p k) := by show _ = _; unfold fmtT; rw [if_pos h1]
    rw [t1]
    clear h1 t1
    go_wp2_with fail
    refine (text_k _ p k _ (S3.out.at (.agg #[.slice a1 n1 c1]) p) HH.out.2.2.2.2.1 HH.out.2.2.1).mono ?_
    rintro e w4 ⟨rfl, hb4⟩
    have S4 : Hid _ := S3.out.go hb4
    clear hb4 S3
    go_wp2_with fail
    go_ret
    rw [HV.out]
    exact ⟨rfl, S4.out.bel⟩
  · obtain ⟨j, hj⟩ : ∃ j, bitLen q = j := ⟨_, rfl⟩
    rw [hj]
    have t1 : ((j : Int) == 1) = false := by
      have : ¬ j = 1 := fun e => h1 (bitLen_one.1 (by omega))
      simp
      omega
    have t2 : decide ((j : Int) = 1) = false := by
      have : ¬ j = 1 := fun e => h1 (bitLen_one.1 (by omega))
      exact decide_eq_false (by omega)
    have HV : Hid (fmtT p q k l = decText p k ++ ⟨#[47]⟩ ++ decText q l) := by show _ = _; unfold fmtT; rw [if_neg h1]
    clear h1 hj
    go_wp2_with fail
    refine wp_region_inv (JB w3 [sNat (p), sEq (.string (decText p k)), sEq (.string (decText p k ++ ⟨#[47]⟩)), sNat (q), sEq (.string (decText q l)), sEq (.string (decText p k ++ ⟨#[47]⟩ ++ decText q l)), sEq (.string (decText p k ++ ⟨#[47]⟩ ++ decText q l))] []) 21 (by kernel_rfl) rfl (by kernel_rfl) (JB.start _ _ _) (fun HG HN => ⟨?_, ?_, ?_, ?_, ?_, ?_, ?_, trivial⟩) ?_
    · intro L vs a w' hJ hF hP hL
      have q3 : (a.tmps[3]?).getD undef = .pointer (some ⟨g, 0, none⟩) := hF.old 3 rfl
      have cb := cell_later hJ.bel (S3.out.cell (g) (.slice a1 n1 c1))
      exact run_val (v := .agg #[.slice a1 n1 c1]) rfl (by simp [execOp, go_sem, q3, cb]) ⟨_, rfl, hJ.step hL rfl (Below.refl _ _) (by exact ((S3.out.at (.agg #[.slice a1 n1 c1]) (p)).mono hJ.bel))⟩
    · intro L vs a w' hJ hF hP hL
      have p0 : L 0 = true := hP ⟨0, .data⟩ (by simp) rfl
      have s0 : IsNat w' (vs 0) (p) := hJ.sp 0 p0
      have q15 := hF.slot 0 15 rfl p0
      refine run_call (f := 78) (args := #[vs 0]) rfl (by simp [go_sem, q15]) (text_k _ p k _ s0 HH.out.2.2.2.2.1 HH.out.2.2.1) ?_
      rintro e w2 ⟨rfl, hb⟩
      exact ⟨_, rfl, _, rfl, hJ.step hL rfl hb (by exact rfl)⟩
    · intro L vs a w' hJ hF hP hL
      have p1 : L 1 = true := hP ⟨1, .data⟩ (by simp) rfl
      have s1 : vs 1 = .string (decText p k) := hJ.sp 1 p1
      have q16 := hF.slot 1 16 rfl p1
      exact run_val (v := .string (decText p k ++ ⟨#[47]⟩)) rfl (by simp [execOp, go_sem, q16, s1, m1]) ⟨_, rfl, hJ.step hL rfl (Below.refl _ _) (by exact rfl)⟩
    · intro L vs a w' hJ hF hP hL
      have q4 : (a.tmps[4]?).getD undef = .pointer (some ⟨g + 1, 0, none⟩) := hF.old 4 rfl
      have cb := cell_later hJ.bel (S3.out.cell (g + 1) (.slice a2 n2 c2))
      exact run_val (v := .agg #[.slice a2 n2 c2]) rfl (by simp [execOp, go_sem, q4, cb]) ⟨_, rfl, hJ.step hL rfl (Below.refl _ _) (by exact ((S3.out.at (.agg #[.slice a2 n2 c2]) (q)).mono hJ.bel))⟩
    · intro L vs a w' hJ hF hP hL
      have p3 : L 3 = true := hP ⟨3, .data⟩ (by simp) rfl
      have s3 : IsNat w' (vs 3) (q) := hJ.sp 3 p3
      have q18 := hF.slot 3 18 rfl p3
      refine run_call (f := 78) (args := #[vs 3]) rfl (by simp [go_sem, q18]) (text_k _ q l _ s3 HH.out.2.2.2.2.2 HH.out.2.2.2.1) ?_
      rintro e w2 ⟨rfl, hb⟩
      exact ⟨_, rfl, _, rfl, hJ.step hL rfl hb (by exact rfl)⟩
    · intro L vs a w' hJ hF hP hL
      have p2 : L 2 = true := hP ⟨2, .data⟩ (by simp) rfl
      have s2 : vs 2 = .string (decText p k ++ ⟨#[47]⟩) := hJ.sp 2 p2
      have q17 := hF.slot 2 17 rfl p2
      have p4 : L 4 = true := hP ⟨4, .data⟩ (by simp) rfl
      have s4 : vs 4 = .string (decText q l) := hJ.sp 4 p4
      have q19 := hF.slot 4 19 rfl p4
      exact run_val (v := .string (decText p k ++ ⟨#[47]⟩ ++ decText q l)) rfl (by simp [execOp, go_sem, q17, s2, q19, s4, m2]) ⟨_, rfl, hJ.step hL rfl (Below.refl _ _) (by exact rfl)⟩
    · intro L vs a w' hJ hF hP hL
      have p5 : L 5 = true := hP ⟨5, .data⟩ (by simp) rfl
      have s5 : vs 5 = .string (decText p k ++ ⟨#[47]⟩ ++ decText q l) := hJ.sp 5 p5
      have q20 := hF.slot 5 20 rfl p5
      exact run_val (v := .string (decText p k ++ ⟨#[47]⟩ ++ decText q l)) rfl (by simp [execOp, go_sem, q20, s5]) ⟨_, rfl, hJ.step hL rfl (Below.refl _ _) (by exact rfl)⟩
    intro L vs w' hA hJ
    have s6 : vs 6 = .string (decText p k ++ ⟨#[47]⟩ ++ decText q l) := hJ.sp 6 (hA 6 (by simp))
    simp only [putL, Act.put, List.setIfInBounds_toArray, List.set_cons_zero, List.set_cons_succ, Nat.reduceAdd]
    simp only [s6]
    have HB : Hid (Below w.heap.size w w') := (S3.out.go hJ.bel).bel
    go_wp2_with fail
    go_ret
    rw [HV.out]
    exact ⟨rfl, HB.out⟩
/-- Zeros. -/
def zrs (n : Nat) : ByteArray := ⟨Array.replicate n 48⟩
theorem zrs_size (n : Nat) : (zrs n).size = n := by
  show (Array.replicate n (48 : UInt8)).size = n
  simp
/-- What Repeat tells of one digit 0. -/
def RepIs (n : Nat) : Prop := ∀ w : World, Calls Tryz.prog 82 #[.string ⟨#[48]⟩, .int .i64 (n : Int)] w fun e w' => e = .returned (.string (zrs n)) ∧ Below w.heap.size w w'
/-- A text with places behind the point. -/
def ptT (s : ByteArray) (m : Nat) : ByteArray := s.extract 0 (s.size - m) ++ ⟨#[46]⟩ ++ s.extract (s.size - m) s.size
def decimalT (p q m k : Nat) : ByteArray := if m = 0 then decText (nearN (p * 10 ^ m) q) k else ptT (zrs (m + 1 - k) ++ decText (nearN (p * 10 ^ m) q) k) m
theorem nearN_up (p q : Nat) : nearN p q ≤ p + 1 := by
  have := Nat.div_le_self p q
  unfold nearN
  split
  · omega
  · split <;> omega
theorem dec_rules {m k r x2 d : Nat} (hr : r = m + 1 - k) (hx2 : x2 = r + k) (hd : d = x2 - m) (hm : m ≤ 100) (hk : k ≤ 5000) :
    wrap64 ((m : Int) + 1) = (m : Int) + 1 ∧ (k ≤ m → wrap64 ((m : Int) + 1 - (k : Int)) = (r : Int)) ∧ wrap64 ((x2 : Int) - (m : Int)) = (d : Int) :=
  ⟨IntWalk.wrap64_in _ ⟨by omega, by omega⟩, fun _ => by rw [IntWalk.wrap64_in _ ⟨by omega, by omega⟩]; omega, by rw [IntWalk.wrap64_in _ ⟨by omega, by omega⟩]; omega⟩
set_option maxHeartbeats 400000 in
theorem decimal_any (v : Value) (p q m k : Nat) (w : World) (h : Rt w v p q) (hp : p < P 80) (hq : q < P 80) (hq0 : 0 < q) (hm : m ≤ 100) (hk : DecLen (nearN (p * 10 ^ m) q) k) (hR : RepIs (m + 1 - k)) :
    Calls Tryz.prog 33 #[v, .int .i64 (m : Int)] w fun e w' => e = .returned (.tuple #[.string (decimalT p q m k), .bool true]) ∧ Below w.heap.size w w' := by
  have h' := h
  obtain ⟨a, n, c, a', n', c', e0, _, _⟩ := h'.raw
  subst e0
  have S1 : Hid _ := ((sy_start w).addF h).box (.slice a n c) (.slice a' n' c') 27 _ rfl
  obtain ⟨X, hX⟩ : ∃ X, X = p * 10 ^ m := ⟨_, rfl⟩
  obtain ⟨E, hE⟩ : ∃ E, E = 10 ^ m := ⟨_, rfl⟩
  obtain ⟨Y, hY⟩ : ∃ Y, Y = nearN X q := ⟨_, rfl⟩
  have sE : E < P 6 := by
    rw [hE]
    have h1 : 10 ^ m ≤ 10 ^ 100 := Nat.pow_le_pow_right (by omega) hm
    have h2 : 10 ^ 100 < P 6 := by decide +kernel
    omega
  have sX : X < P 86 := by rw [hX, ← hE]; exact mulP_lt hp sE
  have sY : Y ≤ X + 1 := by rw [hY]; exact nearN_up X q
  have sY2 : Y < P 87 := by
    have h1 : P 87 = P 86 * 18446744073709551616 := P_succ 86
    have h2 := P_pos 86
    omega
  rw [← hX, ← hY] at hk
  have kl := dec_len hk (P_up sY2 (by omega))
  have k0 := hk.1
  have HH : Hid (p < P 80 ∧ q < P 80 ∧ 0 < q ∧ m ≤ 1500 ∧ Fits p ∧ Fits E ∧ (p < P 99 ∨ E < P 99) ∧ X < P 198 ∧ q < P 198 ∧ Tx Y ∧ DecLen Y k ∧ E = 10 ^ m ∧ X = p * E ∧ Y = nearN X q) := ⟨hp, hq, hq0, by omega, fits_P hp (by omega), fits_P sE (by omega), .inl (P_up hp (by omega)), P_up sX (by omega), P_up hq (by omega), tx_of sY2 (by omega), hk, hE, by rw [hE]; exact hX, hY⟩
  have HD : Hid (decimalT p q m k = if m = 0 then decText Y k else ptT (zrs (m + 1 - k) ++ decText Y k) m) := by show _ = _; unfold decimalT; rw [← hX, ← hY]
  have HR : Hid (RepIs (m + 1 - k)) := hR
  have sz : (decText Y k).size = k := text_size _ _
  have t1 : decide ((m : Int) < 0) = false := decide_eq_false (by omega)
  have t2 : decide (100 < (m : Int)) = false := decide_eq_false (by omega)
  have hm' : m ≤ 100 := hm
  clear h h' hp hq hq0 hm hk hR hX hE hY sE sX sY sY2
  go_enter Tryz.func33, Tryz.ntmps33
  go_wp2_with fail
  refine (parts_any _ p q _ (S1.out.fr (.agg #[.slice a n c, .slice a' n' c']) p q) (fits_P HH.out.2.1 (by omega))).mono ?_
  rintro e w1 ⟨v1, u1, rfl, hv1, hu1, hb1⟩
  obtain ⟨a1, n1, c1, rfl⟩ := hv1.isAgg
  obtain ⟨a2, n2, c2, rfl⟩ := hu1.isAgg
  have S2 : Hid _ := ((((S1.out.go hb1).addN hv1).addN hu1).box1 (.slice a1 n1 c1) 25 _ rfl).box1 (.slice a2 n2 c2) 25 _ rfl
  simp only [World.size_alloc] at S2
  clear hv1 hu1 hb1 S1
  go_wp2_with fail
  obtain ⟨w2, hw2⟩ : ∃ w2, w2 = (w1.alloc (.cells #[.slice a1 n1 c1] 25)).alloc (.cells #[.slice a2 n2 c2] 25) := ⟨_, rfl⟩
  obtain ⟨g, hg⟩ : ∃ g, g = w1.heap.size := ⟨_, rfl⟩
  rw [← hw2, ← hg] at S2
  rw [← hw2, ← hg]
  clear hw2 hg
  refine wp_region_inv (JB w2 [sNat (p), sEq (.int .i64 (m : Int)), sNat (E), sNat (X), sNat (q), sNat (Y), sEq (.string (decText Y k)), sEq (.string (decText Y k))] []) 52 (by kernel_rfl) rfl (by kernel_rfl) (JB.start _ _ _) (fun HG HN => ⟨?_, ?_, ?_, ?_, ?_, ?_, ?_, ?_, trivial⟩) ?_
  · intro L vs a w' hJ hF hP hL
    have q6 : (a.tmps[6]?).getD undef = .pointer (some ⟨g, 0, none⟩) := hF.old 6 rfl
    have cb := cell_later hJ.bel (S2.out.cell (g) (.slice a1 n1 c1))
    exact run_val (v := .agg #[.slice a1 n1 c1]) rfl (by simp [execOp, go_sem, q6, cb]) ⟨_, rfl, hJ.step hL rfl (Below.refl _ _) (by exact ((S2.out.at (.agg #[.slice a1 n1 c1]) (p)).mono hJ.bel))⟩
  · intro L vs a w' hJ hF hP hL
    have q1 : (a.tmps[1]?).getD undef = .int .i64 (m : Int) := hF.old 1 rfl
    exact run_val (v := .int .i64 (m : Int)) rfl (by simp [execOp, go_sem, q1]) ⟨_, rfl, hJ.step hL rfl (Below.refl _ _) (by exact rfl)⟩
  · intro L vs a w' hJ hF hP hL
    have p1 : L 1 = true := hP ⟨1, .data⟩ (by simp) rfl
    have s1 : vs 1 = .int .i64 (m : Int) := hJ.sp 1 p1
    have q22 := hF.slot 1 22 rfl p1
    refine run_call (f := 81) (args := #[.int .i64 (m : Int)]) rfl (by simp [go_sem, q22, s1]) (tenTo_any m _ HH.out.2.2.2.1) ?_
    rintro e w2 ⟨v, rfl, hv, hb⟩
    rw [← HH.out.2.2.2.2.2.2.2.2.2.2.2.1] at hv
    exact ⟨_, rfl, _, rfl, hJ.step hL rfl hb (by exact hv)⟩
  · intro L vs a w' hJ hF hP hL
    have p0 : L 0 = true := hP ⟨0, .data⟩ (by simp) rfl
    have s0 : IsNat w' (vs 0) (p) := hJ.sp 0 p0
    have q21 := hF.slot 0 21 rfl p0
    have p2 : L 2 = true := hP ⟨2, .data⟩ (by simp) rfl
    have s2 : IsNat w' (vs 2) (E) := hJ.sp 2 p2
    have q23 := hF.slot 2 23 rfl p2
    refine run_call (f := 80) (args := #[vs 0, vs 2]) rfl (by simp [go_sem, q21, q23]) (mul_short _ _ p E _ s0 s2 HH.out.2.2.2.2.1 HH.out.2.2.2.2.2.1 HH.out.2.2.2.2.2.2.1) ?_
    rintro e w2 ⟨v, rfl, hv, hb⟩
    rw [← HH.out.2.2.2.2.2.2.2.2.2.2.2.2.1] at hv
    exact ⟨_, rfl, _, rfl, hJ.step hL rfl hb (by exact hv)⟩
  · intro L vs a w' hJ hF hP hL
    have q7 : (a.tmps[7]?).getD undef = .pointer (some ⟨g + 1, 0, none⟩) := hF.old 7 rfl
    have cb := cell_later hJ.bel (S2.out.cell (g + 1) (.slice a2 n2 c2))
    exact run_val (v := .agg #[.slice a2 n2 c2]) rfl (by simp [execOp, go_sem, q7, cb]) ⟨_, rfl, hJ.step hL rfl (Below.refl _ _) (by exact ((S2.out.at (.agg #[.slice a2 n2 c2]) (q)).mono hJ.bel))⟩
  · intro L vs a w' hJ hF hP hL
    have p3 : L 3 = true := hP ⟨3, .data⟩ (by simp) rfl
    have s3 : IsNat w' (vs 3) (X) := hJ.sp 3 p3
    have q24 := hF.slot 3 24 rfl p3
    have p4 : L 4 = true := hP ⟨4, .data⟩ (by simp) rfl
    have s4 : IsNat w' (vs 4) (q) := hJ.sp 4 p4
    have q25 := hF.slot 4 25 rfl p4
    refine run_call (f := 51) (args := #[vs 3, vs 4]) rfl (by simp [go_sem, q24, q25]) (nearest_any _ _ X q _ s3 s4 HH.out.2.2.2.2.2.2.2.1 HH.out.2.2.2.2.2.2.2.2.1 HH.out.2.2.1) ?_
    rintro e w2 ⟨v, rfl, hv, hb⟩
    rw [← HH.out.2.2.2.2.2.2.2.2.2.2.2.2.2] at hv
    exact ⟨_, rfl, _, rfl, hJ.step hL rfl hb (by exact hv)⟩
  · intro L vs a w' hJ hF hP hL
    have p5 : L 5 = true := hP ⟨5, .data⟩ (by simp) rfl
    have s5 : IsNat w' (vs 5) (Y) := hJ.sp 5 p5
    have q26 := hF.slot 5 26 rfl p5
    refine run_call (f := 78) (args := #[vs 5]) rfl (by simp [go_sem, q26]) (text_k _ Y k _ s5 HH.out.2.2.2.2.2.2.2.2.2.1 HH.out.2.2.2.2.2.2.2.2.2.2.1) ?_
    rintro e w2 ⟨rfl, hb⟩
    exact ⟨_, rfl, _, rfl, hJ.step hL rfl hb (by exact rfl)⟩
  · intro L vs a w' hJ hF hP hL
    have p6 : L 6 = true := hP ⟨6, .data⟩ (by simp) rfl
    have s6 : vs 6 = .string (decText Y k) := hJ.sp 6 p6
    have q27 := hF.slot 6 27 rfl p6
    exact run_val (v := .string (decText Y k)) rfl (by simp [execOp, go_sem, q27, s6]) ⟨_, rfl, hJ.step hL rfl (Below.refl _ _) (by exact rfl)⟩
  intro L vs w' hA hJ
  have s7 : vs 7 = .string (decText Y k) := hJ.sp 7 (hA 7 (by simp))
  simp only [putL, Act.put, List.setIfInBounds_toArray, List.set_cons_zero, List.set_cons_succ, Nat.reduceAdd]
  simp only [s7]
  obtain ⟨w3, ew3⟩ : ∃ w3, w3 = w' := ⟨_, rfl⟩
  have S3 : Hid _ := S2.out.go (ew3 ▸ hJ.bel : Below w2.heap.size w2 w3)
  rw [← ew3]
  clear ew3 hJ hA s7 S2
  by_cases h0 : m = 0
  · have t3 : decide ((m : Int) = 0) = true := decide_eq_true (by omega)
    have t4 : ((m : Int) == 0) = true := by simp; omega
    have HV : Hid (decimalT p q m k = decText Y k) := by show _ = _; rw [HD.out, if_pos h0]
    clear h0 HD
    go_wp2_with fail
    exact bodyPost_ret (v := .tuple #[.string (decText Y k), .bool true]) (by simp [results, Tryz.results33, go_sem]) rfl ⟨by rw [HV.out], S3.out.bel⟩
  · have t3 : decide ((m : Int) = 0) = false := decide_eq_false (by omega)
    have t4 : ((m : Int) == 0) = false := by simp; omega
    have HV : Hid (decimalT p q m k = ptT (zrs (m + 1 - k) ++ decText Y k) m) := by show _ = _; rw [HD.out, if_neg h0]
    obtain ⟨r, hr⟩ : ∃ r, r = m + 1 - k := ⟨_, rfl⟩
    rw [← hr] at HV HR
    have sr : (zrs r).size = r := zrs_size r
    have q1 : (zrs r).size + (decText Y k).size ≤ 9223372036854775807 := by rw [sr, sz]; omega
    have c1 := cat_run (zrs r) (decText Y k) q1
    obtain ⟨X2, hX2⟩ : ∃ X2, X2 = zrs r ++ decText Y k := ⟨_, rfl⟩
    obtain ⟨x2, hx2⟩ : ∃ x2, x2 = r + k := ⟨_, rfl⟩
    have sx : X2.size = x2 := by rw [hX2, ByteArray.size_append, sr, sz, hx2]
    rw [← hX2] at HV c1
    obtain ⟨d, hd⟩ : ∃ d, d = x2 - m := ⟨_, rfl⟩
    have hdx : d ≤ x2 := by omega
    have u1 : ∀ w : World, (Instr.slice 9 (.string X2) none (some (.int .i64 (d : Int))) none).run Tryz.prog w = .ok (.string (X2.extract 0 d)) w := fun w => by
      rw [run_slice_string_to_if _ _ _ _ _ (by kernel_rfl), if_pos ⟨by omega, by rw [sx]; omega⟩]
      rfl
    have u2 : ∀ w : World, (Instr.slice 9 (.string X2) (some (.int .i64 (d : Int))) none none).run Tryz.prog w = .ok (.string (X2.extract d x2)) w := fun w => by
      rw [run_slice_string_from_if _ _ _ _ _ (by kernel_rfl), if_pos ⟨by omega, by rw [sx]; omega⟩, sx]
      rfl
    obtain ⟨s1, hs1⟩ : ∃ s1, s1 = X2.extract 0 d := ⟨_, rfl⟩
    obtain ⟨s2, hs2⟩ : ∃ s2, s2 = X2.extract d x2 := ⟨_, rfl⟩
    rw [← hs1] at u1
    rw [← hs2] at u2
    have se1 : s1.size ≤ 10000 := by rw [hs1, ByteArray.size_extract]; omega
    have se2 : s2.size ≤ 10000 := by rw [hs2, ByteArray.size_extract]; omega
    obtain ⟨s3, hs3⟩ : ∃ s3, s3 = s1 ++ ⟨#[46]⟩ := ⟨_, rfl⟩
    have se3 : s3.size ≤ 10001 := by rw [hs3, ByteArray.size_append]; show _ + 1 ≤ _; omega
    have c2 := cat_run s1 ⟨#[46]⟩ (by show _ + 1 ≤ _; omega)
    rw [← hs3] at c2
    have c3 := cat_run s3 s2 (by omega)
    have p1 : ∀ w : World, (Op.stringOp .add (zrs r) (decText Y k)).run Tryz.prog w = .ok (.string X2) w := fun w => by rw [hX2]; exact run_string_add_sum w _ _ q1
    have p2 : ∀ w : World, (Op.stringOp .add s1 ⟨#[46]⟩).run Tryz.prog w = .ok (.string s3) w := fun w => by rw [hs3]; exact run_string_add_sum w _ _ (by show _ + 1 ≤ _; omega)
    have p3 : ∀ w : World, (Op.stringOp .add s3 s2).run Tryz.prog w = .ok (.string (s3 ++ s2)) w := fun w => run_string_add_sum w _ _ (by omega)
    have HV2 : Hid (decimalT p q m k = s3 ++ s2) := by
      show _ = _
      rw [HV.out, ptT, sx, ← hd, hs3, hs1, hs2]
    by_cases hkm : k ≤ m
    · have hr1 : 0 < r := by omega
      obtain ⟨b1, b2, b6⟩ := dec_rules (m := m) (k := k) hr hx2 hd hm' kl
      have b3 : wrap64 ((m : Int) + 1 - (k : Int)) = (r : Int) := b2 hkm
      have HA : Hid (∀ w : World, Calls Tryz.prog 82 #[.string ⟨#[48]⟩, .int .i64 (r : Int)] w fun e w' => e = .returned (.string (zrs r)) ∧ Below w.heap.size w w') := HR.out
      clear b2 hkm
      clear HV HD hX2 hd hr se1 se2 se3 hm' k0 kl h0 hs1 hs2 hs3 hx2 hdx q1 sr
      go_wp2_with fail
      refine (HA.out _).mono ?_
      rintro e w4 ⟨rfl, hb4⟩
      have S4 : Hid _ := S3.out.go hb4
      clear hb4 S3
      go_wp2_with fail
      go_quiet (fail)
      go_wp2_with fail
      exact bodyPost_ret (v := .tuple #[.string (s3 ++ s2), .bool true]) (by simp [results, Tryz.results33, go_sem]) rfl ⟨by rw [HV2.out], bel_drewN S4.out.bel nq⟩
    · obtain ⟨b1, b2, b6⟩ := dec_rules (m := m) (k := k) hr hx2 hd hm' kl
      obtain ⟨y, hy⟩ : ∃ y : Int, y = (m : Int) + 1 - (k : Int) := ⟨_, rfl⟩
      have hy0 : ¬ 0 < y := by clear b1 b2 b6; omega
      have b3 : wrap64 ((m : Int) + 1 - (k : Int)) = y := by rw [hy]; exact IntWalk.wrap64_in _ ⟨by clear b1 b2 b6; omega, by clear b1 b2 b6; omega⟩
      have hr0 : r = 0 := by clear b1 b2 b6 b3; omega
      have HA : Hid (∀ w : World, Calls Tryz.prog 82 #[.string ⟨#[48]⟩, .int .i64 0] w fun e w' => e = .returned (.string (zrs r)) ∧ Below w.heap.size w w') := by
        have h9 := HR.out
        rw [hr0] at h9
        rw [hr0]
        exact h9
      clear b2 hkm hy hr0
      clear HV HD hX2 hd hr se1 se2 se3 hm' k0 kl h0 hs1 hs2 hs3 hx2 hdx q1 sr
      go_wp2_with fail
      refine (HA.out _).mono ?_
      rintro e w4 ⟨rfl, hb4⟩
      have S4 : Hid _ := S3.out.go hb4
      clear hb4 S3
      go_wp2_with fail
      go_quiet (fail)
      go_wp2_with fail
      exact bodyPost_ret (v := .tuple #[.string (s3 ++ s2), .bool true]) (by simp [results, Tryz.results33, go_sem]) rfl ⟨by rw [HV2.out], bel_drewN S4.out.bel nq⟩
end Go.Proofs.YtpeimefangpnaaaGreatDoor

namespace Go.Proofs.YtpeimefangpnaaaGreatDoor
open Go.RowKit
set_option maxRecDepth 100000
set_option linter.unusedVariables false
/-- The parts are runs of digits, and not too long. -/
structure GoodP (p : PtS) : Prop where
  w0 : 0 < p.whole.size
  dw : Digits p.whole p.whole.size
  dp : Digits p.places p.places.size
  db : Digits p.below p.below.size
  dx : Digits p.power p.power.size
  sz : p.whole.size + p.places.size ≤ 400
  sb : p.below.size ≤ 400
  sx : p.power.size ≤ 3
/-- The power of 10. -/
def pwI (p : PtS) : Int := (if p.minus then -((decVal p.power p.power.size : Nat) : Int) else ((decVal p.power p.power.size : Nat) : Int)) - (p.places.size : Int)
def numA (p : PtS) : Nat := decVal (p.whole ++ p.places) (p.whole ++ p.places).size
def vN (p : PtS) : Nat := if p.below.size = 0 then numA p * 10 ^ (pwI p).toNat else numA p
def vD (p : PtS) : Nat := if p.below.size = 0 then 10 ^ (-(pwI p)).toNat else decVal p.below p.below.size
theorem size_em {s : ByteArray} (h : s.size = 0) : s = ⟨#[]⟩ := by
  cases s with
  | mk d =>
    have : d.size = 0 := h
    rw [Array.eq_empty_of_size_eq_zero this]
theorem str_ne {s : ByteArray} (h : ¬ s.size = 0) : (s.toList == ([] : List UInt8)) = false := by
  refine beq_eq_false_iff_ne.2 fun h2 => h ?_
  rw [ByteArray.toList_eq] at h2
  cases s with
  | mk d =>
    simp at h2
    show d.size = 0
    rw [h2]
    rfl
theorem ten400 {x n : Nat} (h : x < 10 ^ n) (hn : n ≤ 400) : x < P 21 :=
  Nat.lt_trans (Nat.lt_of_lt_of_le h (Nat.pow_le_pow_right (by omega) hn)) (by decide +kernel : 10 ^ 400 < P 21)
theorem ten999 : 10 ^ 999 < P 60 := by decide +kernel
theorem GoodP.a {p : PtS} (h : GoodP p) : numA p < P 21 := by
  have h1 := decVal_lt (dig_app h.dw h.dp)
  exact ten400 h1 (by rw [ByteArray.size_append]; exact h.sz)
theorem GoodP.b {p : PtS} (h : GoodP p) : decVal p.below p.below.size < P 21 := ten400 (decVal_lt h.db) h.sb
theorem GoodP.pw {p : PtS} (h : GoodP p) : -1399 ≤ pwI p ∧ pwI p ≤ 999 := by
  have h1 := decVal_3 h.dx h.sx
  have h2 := h.sz
  unfold pwI
  split <;> omega
def PAgg (p : PtS) : Value := .agg #[.string p.whole, .string p.below, .string p.places, .string p.power, .bool p.minus]
def MakesV (w : World) (p : PtS) (e : Ending) (w' : World) : Prop := if vD p = 0 then MakesRB w 0 1 false e w' else MakesRB w (vN p / Nat.gcd (vN p) (vD p)) (vD p / Nat.gcd (vN p) (vD p)) true e w'
set_option maxHeartbeats 2000000 in
theorem value_below (p : PtS) (w : World) (hg : GoodP p) (hb0 : ¬ p.below.size = 0) (hT : Tab w) :
    Calls Tryz.prog 73 #[PAgg p] w (MakesV w p) := by
  obtain ⟨P1, P2, P3, P4, P5⟩ := p
  simp only at hb0
  unfold PAgg
  have HG : Hid _ := hg
  have c1 := cat_run P1 P3 (by have := hg.sz; simp only at this; omega)
  have q1 : P1.size + P3.size ≤ 9223372036854775807 := by have := hg.sz; simp only at this; omega
  have p1 : ∀ w : World, (Op.stringOp .add P1 P3).run Tryz.prog w = .ok (.string (P1 ++ P3)) w := fun w => run_string_add_sum w _ _ q1
  obtain ⟨X, hX⟩ : ∃ X, X = P1 ++ P3 := ⟨_, rfl⟩
  rw [← hX] at c1 p1
  have HX : Hid (X = P1 ++ P3) := hX
  obtain ⟨A, hA⟩ : ∃ A, A = decVal X X.size := ⟨_, rfl⟩
  have HP : Hid (0 < X.size ∧ X.size ≤ 400 ∧ Digits X X.size ∧ decVal X X.size = A) := ⟨by rw [hX, ByteArray.size_append]; have := hg.w0; simp only at this; omega, by rw [hX, ByteArray.size_append]; exact hg.sz, by rw [hX]; exact dig_app hg.dw hg.dp, hA.symm⟩
  have HA : Hid (numA ⟨P1, P2, P3, P4, P5⟩ = A ∧ A < P 21) := ⟨by show decVal (P1 ++ P3) (P1 ++ P3).size = A; rw [← hX]; exact hA.symm, by have := hg.a; rw [show numA ⟨P1, P2, P3, P4, P5⟩ = A by show decVal (P1 ++ P3) (P1 ++ P3).size = A; rw [← hX]; exact hA.symm] at this; exact this⟩
  obtain ⟨w0, hw0⟩ : ∃ w0, w0 = (w.alloc (.cells #[.string P1, .string P2, .string P3, .string P4, .bool P5] 111)).alloc (.cells #[.slice none 0 0, .slice none 0 0] 27) := ⟨_, rfl⟩
  have S0 : Hid _ := (((((((sy_start w).go (w' := w.alloc (.cells #[.string P1, .string P2, .string P3, .string P4, .bool P5] 111)) (bel_al (bel_refl _))).addC (b := w.heap.size) (i := 0) (v := .string P1) (by simp [go_sem])).addC (b := w.heap.size) (i := 1) (v := .string P2) (by simp [go_sem])).addC (b := w.heap.size) (i := 2) (v := .string P3) (by simp [go_sem])).addC (b := w.heap.size) (i := 3) (v := .string P4) (by simp [go_sem])).addC (b := w.heap.size) (i := 4) (v := .bool P5) (by simp [go_sem])).box (.slice none 0 0) (.slice none 0 0) 27 _ rfl
  simp only [World.size_alloc] at S0
  have HT : Hid (Tab w) := hT
  clear hg hX hA hT q1
  go_enter Tryz.func73, Tryz.ntmps73
  go_wp2_with fail
  rw [← hw0] at S0
  rw [← hw0]
  obtain ⟨b, hb⟩ : ∃ b, b = w.heap.size := ⟨_, rfl⟩
  rw [← hb] at S0
  rw [← hb]
  clear hw0 hb
  refine (parse_digits X A _ HP.out.1 HP.out.2.1 HP.out.2.2.1 HP.out.2.2.2).mono ?_
  rintro e w1 ⟨v1, rfl, hv1, hb1⟩
  obtain ⟨a1, n1, c1', rfl⟩ := hv1.isAgg
  have S1 : Hid _ := ((S0.out.go hb1).addN hv1).box1 (.slice a1 n1 c1') 25 _ rfl
  have LT1 : Hid (b + 1 < w1.heap.size) := (S0.out.go hb1).lt (b + 1)
  clear hv1 hb1 S0 HP
  have z1 := S1.out.cel b 1 (.string P2)
  have z2 := S1.out.cel b 2 (.string P3)
  have z3 := S1.out.cel b 3 (.string P4)
  have z4 := S1.out.cel b 4 (.bool P5)
  have ne := str_ne hb0
  obtain ⟨B, hB⟩ : ∃ B, B = decVal P2 P2.size := ⟨_, rfl⟩
  have HQ : Hid (0 < P2.size ∧ P2.size ≤ 400 ∧ Digits P2 P2.size ∧ decVal P2 P2.size = B ∧ B < P 21) := ⟨by omega, HG.out.sb, HG.out.db, hB.symm, by rw [hB]; exact HG.out.b⟩
  have HV : Hid (vN ⟨P1, P2, P3, P4, P5⟩ = A ∧ vD ⟨P1, P2, P3, P4, P5⟩ = B) := ⟨by unfold vN; rw [if_neg hb0]; exact HA.out.1, by unfold vD; rw [if_neg hb0]; exact hB.symm⟩
  clear hb0 hB
  go_wp2_with fail
  obtain ⟨g, hg⟩ : ∃ g, g = w1.heap.size := ⟨_, rfl⟩
  obtain ⟨w2, hw2⟩ : ∃ w2, w2 = w1.alloc (.cells #[.slice a1 n1 c1'] 25) := ⟨_, rfl⟩
  rw [← hw2, ← hg] at S1
  rw [← hw2, ← hg]
  clear hw2 hg z1 z2 z3 z4
  refine (parse_digits P2 B _ HQ.out.1 HQ.out.2.1 HQ.out.2.2.1 HQ.out.2.2.2.1).mono ?_
  rintro e w3 ⟨v3, rfl, hv3, hb3⟩
  obtain ⟨a3, n3, c3, rfl⟩ := hv3.isAgg
  have HGW : Hid (g < w3.heap.size) := (S1.out.go hb3).lt g
  have S2 : Hid _ := ((S1.out.go hb3).addN hv3).box1 (.slice a3 n3 c3) 25 _ rfl
  clear hv3 hb3 S1
  have y1 := S2.out.cel g 0 (.slice a1 n1 c1')
  go_wp2_with fail
  obtain ⟨w4, hw4⟩ : ∃ w4, w4 = w3.alloc (.cells #[.slice a3 n3 c3] 25) := ⟨_, rfl⟩
  rw [← hw4] at S2
  rw [← hw4]
  clear hw4 y1
  by_cases hz : B = 0
  · have hN := S2.out.at (.agg #[.slice a3 n3 c3]) B
    rw [hz] at hN
    refine (from_none _ _ A _ (S2.out.at (.agg #[.slice a1 n1 c1']) A) hN).mono ?_
    clear hN
    rintro e w5 ⟨v5, rfl, hv5, hb5⟩
    obtain ⟨a5, n5, c5, a6, n6, c6, ev, _, _⟩ := hv5.raw
    subst ev
    have S3 : Hid _ := (S2.out.go hb5).addF hv5
    clear hv5 hb5 S2
    have x0 := S3.out.cel (b + 1) 0 (.slice none 0 0)
    have x1 := S3.out.cel (b + 1) 1 (.slice none 0 0)
    have f0 := S3.out.fz (b + 1) 0
    have f1 := S3.out.fz (b + 1) 1
    have Z : Hid _ := rat_put (w0 := w) (v := .slice a5 n5 c5) (u := .slice a6 n6 c6) x0 x1 (S3.out.fr (.agg #[.slice a5 n5 c5, .slice a6 n6 c6]) 0 1) S3.out.bel (S3.out.lo (b + 1))
    have HZ : Hid (vD ⟨P1, P2, P3, P4, P5⟩ = 0) := by show _ = _; rw [HV.out.2]; exact hz
    clear hz
    go_wp2_with fail
    refine bodyPost_ret (v := .tuple #[.agg #[.slice a5 n5 c5, .slice a6 n6 c6], .bool false]) (by simp [results, Tryz.results73, go_sem, x0, x1]) rfl ?_
    unfold MakesV
    rw [if_pos HZ.out]
    exact ⟨_, rfl, Z.out.1, Z.out.2⟩
  · refine (from_any _ _ A B _ (S2.out.at (.agg #[.slice a1 n1 c1']) A) (S2.out.at (.agg #[.slice a3 n3 c3]) B) ⟨P_up HA.out.2 (by omega)⟩ ⟨P_up HQ.out.2.2.2.2 (by omega)⟩ (by omega) (HT.out.go S2.out.bel)).mono ?_
    rintro e w5 ⟨v5, rfl, hv5, hb5⟩
    obtain ⟨a5, n5, c5, a6, n6, c6, ev, _, _⟩ := hv5.raw
    subst ev
    have S3 : Hid _ := (S2.out.go hb5).addF hv5
    clear hv5 hb5 S2
    have x0 := S3.out.cel (b + 1) 0 (.slice none 0 0)
    have x1 := S3.out.cel (b + 1) 1 (.slice none 0 0)
    have f0 := S3.out.fz (b + 1) 0
    have f1 := S3.out.fz (b + 1) 1
    have Z : Hid _ := rat_put (w0 := w) (v := .slice a5 n5 c5) (u := .slice a6 n6 c6) x0 x1 (S3.out.fr (.agg #[.slice a5 n5 c5, .slice a6 n6 c6]) (A / Nat.gcd A B) (B / Nat.gcd A B)) S3.out.bel (S3.out.lo (b + 1))
    have HZ : Hid (¬ vD ⟨P1, P2, P3, P4, P5⟩ = 0) := fun h9 => hz (by rw [HV.out.2] at h9; exact h9)
    clear hz
    go_wp2_with fail
    refine bodyPost_ret (v := .tuple #[.agg #[.slice a5 n5 c5, .slice a6 n6 c6], .bool true]) (by simp [results, Tryz.results73, go_sem, x0, x1]) rfl ?_
    unfold MakesV
    rw [if_neg HZ.out, HV.out.1, HV.out.2]
    exact ⟨_, rfl, Z.out.1, Z.out.2⟩
set_option maxHeartbeats 4000000 in
theorem value_pow (p : PtS) (w : World) (hg : GoodP p) (hb0 : p.below.size = 0) (hT : Tab w) :
    Calls Tryz.prog 73 #[PAgg p] w (MakesV w p) := by
  obtain ⟨P1, P2, P3, P4, P5⟩ := p
  simp only at hb0
  obtain rfl : P2 = ⟨#[]⟩ := size_em hb0
  clear hb0
  unfold PAgg
  have HG : Hid _ := hg
  have c1 := cat_run P1 P3 (by have := hg.sz; simp only at this; omega)
  have q1 : P1.size + P3.size ≤ 9223372036854775807 := by have := hg.sz; simp only at this; omega
  have p1 : ∀ w : World, (Op.stringOp .add P1 P3).run Tryz.prog w = .ok (.string (P1 ++ P3)) w := fun w => run_string_add_sum w _ _ q1
  obtain ⟨X, hX⟩ : ∃ X, X = P1 ++ P3 := ⟨_, rfl⟩
  rw [← hX] at c1 p1
  have HX : Hid (X = P1 ++ P3) := hX
  obtain ⟨A, hA⟩ : ∃ A, A = decVal X X.size := ⟨_, rfl⟩
  have HP : Hid (0 < X.size ∧ X.size ≤ 400 ∧ Digits X X.size ∧ decVal X X.size = A) := ⟨by rw [hX, ByteArray.size_append]; have := hg.w0; simp only at this; omega, by rw [hX, ByteArray.size_append]; exact hg.sz, by rw [hX]; exact dig_app hg.dw hg.dp, hA.symm⟩
  have HA : Hid (numA ⟨P1, ⟨#[]⟩, P3, P4, P5⟩ = A ∧ A < P 21) := ⟨by show decVal (P1 ++ P3) (P1 ++ P3).size = A; rw [← hX]; exact hA.symm, by have := hg.a; rw [show numA ⟨P1, ⟨#[]⟩, P3, P4, P5⟩ = A by show decVal (P1 ++ P3) (P1 ++ P3).size = A; rw [← hX]; exact hA.symm] at this; exact this⟩
  obtain ⟨w0, hw0⟩ : ∃ w0, w0 = (w.alloc (.cells #[.string P1, .string ⟨#[]⟩, .string P3, .string P4, .bool P5] 111)).alloc (.cells #[.slice none 0 0, .slice none 0 0] 27) := ⟨_, rfl⟩
  have S0 : Hid _ := (((((((sy_start w).go (w' := w.alloc (.cells #[.string P1, .string ⟨#[]⟩, .string P3, .string P4, .bool P5] 111)) (bel_al (bel_refl _))).addC (b := w.heap.size) (i := 0) (v := .string P1) (by simp [go_sem])).addC (b := w.heap.size) (i := 1) (v := .string ⟨#[]⟩) (by simp [go_sem])).addC (b := w.heap.size) (i := 2) (v := .string P3) (by simp [go_sem])).addC (b := w.heap.size) (i := 3) (v := .string P4) (by simp [go_sem])).addC (b := w.heap.size) (i := 4) (v := .bool P5) (by simp [go_sem])).box (.slice none 0 0) (.slice none 0 0) 27 _ rfl
  simp only [World.size_alloc] at S0
  have HT : Hid (Tab w) := hT
  clear hg hX hA hT q1
  go_enter Tryz.func73, Tryz.ntmps73
  go_wp2_with fail
  rw [← hw0] at S0
  rw [← hw0]
  obtain ⟨b, hb⟩ : ∃ b, b = w.heap.size := ⟨_, rfl⟩
  rw [← hb] at S0
  rw [← hb]
  clear hw0 hb
  refine (parse_digits X A _ HP.out.1 HP.out.2.1 HP.out.2.2.1 HP.out.2.2.2).mono ?_
  rintro e w1 ⟨v1, rfl, hv1, hb1⟩
  obtain ⟨a1, n1, c1', rfl⟩ := hv1.isAgg
  have S1 : Hid _ := ((S0.out.go hb1).addN hv1).box1 (.slice a1 n1 c1') 25 _ rfl
  have LT1 : Hid (b + 1 < w1.heap.size) := (S0.out.go hb1).lt (b + 1)
  clear hv1 hb1 S0 HP
  have z1 := S1.out.cel b 1 (.string ⟨#[]⟩)
  have z2 := S1.out.cel b 2 (.string P3)
  have z3 := S1.out.cel b 3 (.string P4)
  have z4 := S1.out.cel b 4 (.bool P5)
  obtain ⟨n, hn⟩ : ∃ n, n = decVal P4 P4.size := ⟨_, rfl⟩
  have hn9 : n ≤ 999 := by rw [hn]; exact decVal_3 HG.out.dx HG.out.sx
  obtain ⟨k, hk⟩ : ∃ k, k = P3.size := ⟨_, rfl⟩
  have hk4 : k ≤ 400 := by rw [hk]; have := HG.out.sz; simp only at this; omega
  obtain ⟨y, hy⟩ : ∃ y : Int, y = (if P5 then -(n : Int) else (n : Int)) - (k : Int) := ⟨_, rfl⟩
  have hPw : pwI ⟨P1, ⟨#[]⟩, P3, P4, P5⟩ = y := by unfold pwI; simp only; rw [← hn, ← hk, ← hy]
  have hyb : -1399 ≤ y ∧ y ≤ 999 := by rw [← hPw]; exact HG.out.pw
  have HN : Hid (decVal P4 P4.size = n) := hn.symm
  have hk' : P3.size = k := hk.symm
  obtain ⟨t, ht⟩ : ∃ t, t = if y < 0 then (-y).toNat else y.toNat := ⟨_, rfl⟩
  have HY : Hid (-1399 ≤ y ∧ t ≤ 1500 ∧ A * 10 ^ (if y < 0 then 0 else t) < P 90) := by
    refine ⟨hyb.1, by rw [ht]; split <;> omega, ?_⟩
    split
    · rw [Nat.pow_zero, Nat.mul_one]
      exact P_up HA.out.2 (by omega)
    · rename_i hh
      have h1 : 10 ^ t < P 60 := Nat.lt_of_le_of_lt (Nat.pow_le_pow_right (by omega) (by rw [ht, if_neg hh]; omega)) ten999
      exact P_up (mulP_lt HA.out.2 h1) (by omega)
  have HV0 : Hid (vN ⟨P1, ⟨#[]⟩, P3, P4, P5⟩ = A * 10 ^ y.toNat ∧ vD ⟨P1, ⟨#[]⟩, P3, P4, P5⟩ = 10 ^ (-y).toNat) := ⟨by unfold vN; simp only; rw [if_pos (show (⟨#[]⟩ : ByteArray).size = 0 from rfl), HA.out.1, hPw], by unfold vD; simp only; rw [if_pos (show (⟨#[]⟩ : ByteArray).size = 0 from rfl), hPw]⟩
  have HZ : Hid (¬ vD ⟨P1, ⟨#[]⟩, P3, P4, P5⟩ = 0) := by show ¬ _; rw [HV0.out.2]; exact Nat.ne_of_gt (Nat.pow_pos (by omega))
  have w1' : IntKind.i64.wrap (-(n : Int)) = -(n : Int) := by rw [IntKind.wrap_i64]; omega
  have w2' : IntKind.i64.wrap (-y) = -y := by rw [IntKind.wrap_i64]; omega
  clear hn hk hPw
  cases P5 with
  | true =>
    have w3' : wrap64 (-(n : Int) - (k : Int)) = y := by rw [hy]; exact IntWalk.wrap64_in _ ⟨by omega, by omega⟩
    clear hy
    have W3 : Hid _ := w3'
    clear w3'
    by_cases hs : y < 0
    · have d1 : decide (y < 0) = true := decide_eq_true hs
      have w4' : IntKind.i64.wrap (-y) = (t : Int) := by rw [w2', ht, if_pos hs]; omega
      have HV : Hid (vN ⟨P1, ⟨#[]⟩, P3, P4, true⟩ = A ∧ vD ⟨P1, ⟨#[]⟩, P3, P4, true⟩ = 10 ^ t) := ⟨by rw [HV0.out.1, show y.toNat = 0 by omega, Nat.pow_zero, Nat.mul_one], by rw [HV0.out.2, ht, if_pos hs]⟩
      have HY : Hid (-1399 ≤ y ∧ t ≤ 1500 ∧ True) := ⟨HY.out.1, HY.out.2.1, trivial⟩
      clear hs ht w2' HV0 hn9 hk4 hyb
      have w3' := W3.out
      go_wp2_with fail
      refine (small_any P4 _ HG.out.dx HG.out.sx).mono ?_
      rintro e wx ⟨rfl, hwx⟩
      rw [hwx, HN.out]
      clear hwx
      go_wp2_with fail
      obtain ⟨g, hg⟩ : ∃ g, g = w1.heap.size := ⟨_, rfl⟩
      obtain ⟨w2, hw2⟩ : ∃ w2, w2 = w1.alloc (.cells #[.slice a1 n1 c1'] 25) := ⟨_, rfl⟩
      rw [← hw2, ← hg] at S1
      rw [← hw2, ← hg]
      have nb1 : ¬ b + 1 = g := by rw [hg]; have := LT1.out; omega
      have nb2 : ¬ g = b + 1 := fun e => nb1 e.symm
      clear hw2 hg z1 z2 z3 z4
      refine wp_region_held_drew (S := fun w9 => w9.cell? ⟨g, 0, none⟩ = some (.slice a1 n1 c1')) (by kernel_rfl) (S1.out.cel g 0 (.slice a1 n1 c1')) (fun hHeld => ?_)
      refine wpAnyH_take (i := 0) (v := .agg #[.slice a1 n1 c1']) rfl (by kernel_rfl) (by kernel_rfl) (by kernel_rfl) (fun _ _ _ h => h) (Or.inl ⟨by rfl, ?_⟩) (by assumption) ?_
      · intro w hSw
        go_simp
      refine wpAnyH_take (i := 1) (v := .int .i64 y) rfl (by kernel_rfl) (by kernel_rfl) (by kernel_rfl) (fun _ _ _ h => h) (Or.inl ⟨by rfl, ?_⟩) (by assumption) ?_
      · intro w hSw
        go_simp
      refine wpAnyH_take (i := 2) (v := .int .i64 (t : Int)) rfl (by kernel_rfl) (by kernel_rfl) (by kernel_rfl) (fun _ _ _ h => h) (Or.inl ⟨by rfl, ?_⟩) (by assumption) ?_
      · intro w hSw
        go_simp
      refine wpAnyH_ready (rs := [3]) (by kernel_rfl) (by simp) ?_
      refine AllReadyH.cons rfl (fun K9 hK9 => ?_) AllReadyH.nil
      go_simp
      refine Calls.mono (tenTo_any t _ HY.out.2.1) ?_
      rintro e w3 ⟨v3, rfl, hv3, hb3⟩
      replace hb3 : Below w2.heap.size w2 w3 := bel_undrew hb3
      have S2 : Hid _ := (S1.out.go hb3).addN hv3
      clear hv3 hb3 S1 hHeld
      refine hK9.out _ _ (S2.out.cel g 0 (.slice a1 n1 c1')) (fun hHeld => ?_)
      clear hK9 K9
      refine wpAnyH_ready (rs := [4]) (by kernel_rfl) (by simp) ?_
      refine AllReadyH.cons rfl (fun K9 hK9 => ?_) AllReadyH.nil
      go_simp
      refine Calls.mono (from_any _ _ A (10 ^ t) _ (S2.out.at (.agg #[.slice a1 n1 c1']) A) (S2.out.at v3 (10 ^ t)) ⟨P_up HA.out.2 (by omega)⟩ ⟨ten_P90 HY.out.2.1⟩ (Nat.pow_pos (by omega)) (HT.out.go S2.out.bel)) ?_
      rintro e w5 ⟨v5, rfl, hv5, hb5⟩
      have S3 : Hid _ := (S2.out.go hb5).addF hv5
      obtain ⟨a5, n5, c5, a6, n6, c6, ev, _, _⟩ := hv5.raw
      subst ev
      clear hv5 hb5 S2 hHeld
      have x0 := S3.out.cel (b + 1) 0 (.slice none 0 0)
      have x1 := S3.out.cel (b + 1) 1 (.slice none 0 0)
      have f0 := S3.out.fz (b + 1) 0
      have f1 := S3.out.fz (b + 1) 1
      have t0 := S3.out.cel g 0 (.slice a1 n1 c1')
      refine hK9.out _ _ t0 (fun hHeld => ?_)
      clear hK9 K9
      refine wpAnyH_take (i := 5) (v := .agg #[.slice a5 n5 c5, .slice a6 n6 c6]) rfl (by kernel_rfl) (by kernel_rfl) (by kernel_rfl) (fun _ _ _ h => h) (Or.inl ⟨by rfl, ?_⟩) (by assumption) ?_
      · intro w hSw
        go_simp
      refine wpAnyH_take (i := 6) (v := .bool true) rfl (by kernel_rfl) (by kernel_rfl) (by kernel_rfl) (fun _ _ _ h => h) (Or.inl ⟨by rfl, ?_⟩) (by assumption) ?_
      · intro w hSw
        go_simp
      refine wpAnyH_ready (rs := [7]) (by kernel_rfl) (by simp) ?_
      refine AllReadyH.cons rfl (fun K9 hK9 => ?_) AllReadyH.nil
      go_simp
      clear hHeld
      refine hK9.out _ _ (by simp [go_sem, *]) (fun hHeld => ?_)
      clear hK9 K9
      refine wpAnyH_take (i := 8) (v := .bool true) rfl (by kernel_rfl) (by kernel_rfl) (by kernel_rfl) (fun _ _ _ h => h) (Or.inl ⟨by rfl, ?_⟩) (by assumption) ?_
      · intro w hSw
        go_simp
      refine wpAnyH_done (by kernel_rfl) ?_ _
      have Z : Hid _ := rat_put (w0 := w) (v := .slice a5 n5 c5) (u := .slice a6 n6 c6) x0 x1 (S3.out.fr (.agg #[.slice a5 n5 c5, .slice a6 n6 c6]) ((A) / Nat.gcd (A) (10 ^ t)) ((10 ^ t) / Nat.gcd (A) (10 ^ t))) S3.out.bel (S3.out.lo (b + 1))
      go_wp2_with fail
      refine bodyPost_ret (v := .tuple #[.agg #[.slice a5 n5 c5, .slice a6 n6 c6], .bool true]) (by simp [results, Tryz.results73, go_sem, x0, x1]) rfl ?_
      unfold MakesV
      rw [if_neg HZ.out, HV.out.1, HV.out.2]
      exact ⟨_, rfl, Z.out.1, Z.out.2⟩
    · have d1 : decide (y < 0) = false := decide_eq_false hs
      have ey : y = (t : Int) := by rw [ht, if_neg hs]; omega
      have HV : Hid (vN ⟨P1, ⟨#[]⟩, P3, P4, true⟩ = A * 10 ^ t ∧ vD ⟨P1, ⟨#[]⟩, P3, P4, true⟩ = 1) := ⟨by rw [HV0.out.1, ht, if_neg hs], by rw [HV0.out.2, show (-y).toNat = 0 by omega, Nat.pow_zero]⟩
      have HY : Hid (-1399 ≤ y ∧ t ≤ 1500 ∧ A * 10 ^ t < P 90) := ⟨HY.out.1, HY.out.2.1, by have := HY.out.2.2; rw [if_neg hs] at this; exact this⟩
      have w3' := W3.out
      rw [ey] at w3' d1
      clear hs ht w2' HV0 hn9 hk4 hyb ey W3
      go_wp2_with fail
      refine (small_any P4 _ HG.out.dx HG.out.sx).mono ?_
      rintro e wx ⟨rfl, hwx⟩
      rw [hwx, HN.out]
      clear hwx
      go_wp2_with fail
      obtain ⟨g, hg⟩ : ∃ g, g = w1.heap.size := ⟨_, rfl⟩
      obtain ⟨w2, hw2⟩ : ∃ w2, w2 = w1.alloc (.cells #[.slice a1 n1 c1'] 25) := ⟨_, rfl⟩
      rw [← hw2, ← hg] at S1
      rw [← hw2, ← hg]
      have nb1 : ¬ b + 1 = g := by rw [hg]; have := LT1.out; omega
      have nb2 : ¬ g = b + 1 := fun e => nb1 e.symm
      clear hw2 hg z1 z2 z3 z4
      refine wp_region_held_drew (S := fun w9 => w9.cell? ⟨g, 0, none⟩ = some (.slice a1 n1 c1')) (by kernel_rfl) (S1.out.cel g 0 (.slice a1 n1 c1')) (fun hHeld => ?_)
      refine wpAnyH_take (i := 0) (v := .agg #[.slice a1 n1 c1']) rfl (by kernel_rfl) (by kernel_rfl) (by kernel_rfl) (fun _ _ _ h => h) (Or.inl ⟨by rfl, ?_⟩) (by assumption) ?_
      · intro w hSw
        go_simp
      refine wpAnyH_take (i := 1) (v := .int .i64 (t : Int)) rfl (by kernel_rfl) (by kernel_rfl) (by kernel_rfl) (fun _ _ _ h => h) (Or.inl ⟨by rfl, ?_⟩) (by assumption) ?_
      · intro w hSw
        go_simp
      refine wpAnyH_ready (rs := [2]) (by kernel_rfl) (by simp) ?_
      refine AllReadyH.cons rfl (fun K9 hK9 => ?_) AllReadyH.nil
      go_simp
      refine Calls.mono (tenTo_any t _ HY.out.2.1) ?_
      rintro e w3 ⟨v3, rfl, hv3, hb3⟩
      replace hb3 : Below w2.heap.size w2 w3 := bel_undrew hb3
      have S2 : Hid _ := (S1.out.go hb3).addN hv3
      clear hv3 hb3 S1 hHeld
      refine hK9.out _ _ (S2.out.cel g 0 (.slice a1 n1 c1')) (fun hHeld => ?_)
      clear hK9 K9
      refine wpAnyH_ready (rs := [3]) (by kernel_rfl) (by simp) ?_
      refine AllReadyH.cons rfl (fun K9 hK9 => ?_) AllReadyH.nil
      go_simp
      refine Calls.mono (mul_short _ _ A (10 ^ t) _ (S2.out.at (.agg #[.slice a1 n1 c1']) A) (S2.out.at v3 (10 ^ t)) (fits_P HA.out.2 (by omega)) (fits_P (ten_P90 HY.out.2.1) (by omega)) (.inl (P_up HA.out.2 (by omega)))) ?_
      rintro e w4 ⟨v4, rfl, hv4, hb4⟩
      have S3 : Hid _ := (S2.out.go hb4).addN hv4
      clear hv4 hb4 S2 hHeld
      refine hK9.out _ _ (S3.out.cel g 0 (.slice a1 n1 c1')) (fun hHeld => ?_)
      clear hK9 K9
      refine wpAnyH_ready (rs := [4]) (by kernel_rfl) (by simp) ?_
      refine AllReadyH.cons rfl (fun K9 hK9 => ?_) AllReadyH.nil
      go_simp
      refine Calls.mono (of_any 1 _ (by omega)) ?_
      rintro e w6 ⟨v6, rfl, hv6, hb6⟩
      have S4 : Hid _ := (S3.out.go hb6).addN hv6
      clear hv6 hb6 S3 hHeld
      refine hK9.out _ _ (S4.out.cel g 0 (.slice a1 n1 c1')) (fun hHeld => ?_)
      clear hK9 K9
      refine wpAnyH_ready (rs := [5]) (by kernel_rfl) (by simp) ?_
      refine AllReadyH.cons rfl (fun K9 hK9 => ?_) AllReadyH.nil
      go_simp
      refine Calls.mono (from_any _ _ (A * 10 ^ t) 1 _ (S4.out.at v4 (A * 10 ^ t)) (S4.out.at v6 1) ⟨HY.out.2.2⟩ (rs_word (by omega)) (by omega) (HT.out.go S4.out.bel)) ?_
      rintro e w5 ⟨v5, rfl, hv5, hb5⟩
      have S3 : Hid _ := (S4.out.go hb5).addF hv5
      obtain ⟨a5, n5, c5, a6, n6, c6, ev, _, _⟩ := hv5.raw
      subst ev
      clear hv5 hb5 S4 hHeld
      have x0 := S3.out.cel (b + 1) 0 (.slice none 0 0)
      have x1 := S3.out.cel (b + 1) 1 (.slice none 0 0)
      have f0 := S3.out.fz (b + 1) 0
      have f1 := S3.out.fz (b + 1) 1
      have t0 := S3.out.cel g 0 (.slice a1 n1 c1')
      refine hK9.out _ _ t0 (fun hHeld => ?_)
      clear hK9 K9
      refine wpAnyH_take (i := 6) (v := .agg #[.slice a5 n5 c5, .slice a6 n6 c6]) rfl (by kernel_rfl) (by kernel_rfl) (by kernel_rfl) (fun _ _ _ h => h) (Or.inl ⟨by rfl, ?_⟩) (by assumption) ?_
      · intro w hSw
        go_simp
      refine wpAnyH_take (i := 7) (v := .bool true) rfl (by kernel_rfl) (by kernel_rfl) (by kernel_rfl) (fun _ _ _ h => h) (Or.inl ⟨by rfl, ?_⟩) (by assumption) ?_
      · intro w hSw
        go_simp
      refine wpAnyH_ready (rs := [8]) (by kernel_rfl) (by simp) ?_
      refine AllReadyH.cons rfl (fun K9 hK9 => ?_) AllReadyH.nil
      go_simp
      clear hHeld
      refine hK9.out _ _ (by simp [go_sem, *]) (fun hHeld => ?_)
      clear hK9 K9
      refine wpAnyH_take (i := 9) (v := .bool true) rfl (by kernel_rfl) (by kernel_rfl) (by kernel_rfl) (fun _ _ _ h => h) (Or.inl ⟨by rfl, ?_⟩) (by assumption) ?_
      · intro w hSw
        go_simp
      refine wpAnyH_done (by kernel_rfl) ?_ _
      have Z : Hid _ := rat_put (w0 := w) (v := .slice a5 n5 c5) (u := .slice a6 n6 c6) x0 x1 (S3.out.fr (.agg #[.slice a5 n5 c5, .slice a6 n6 c6]) ((A * 10 ^ t) / Nat.gcd (A * 10 ^ t) (1)) ((1) / Nat.gcd (A * 10 ^ t) (1))) S3.out.bel (S3.out.lo (b + 1))
      go_wp2_with fail
      refine bodyPost_ret (v := .tuple #[.agg #[.slice a5 n5 c5, .slice a6 n6 c6], .bool true]) (by simp [results, Tryz.results73, go_sem, x0, x1]) rfl ?_
      unfold MakesV
      rw [if_neg HZ.out, HV.out.1, HV.out.2]
      exact ⟨_, rfl, Z.out.1, Z.out.2⟩
  | false =>
    have w3' : wrap64 ((n : Int) - (k : Int)) = y := by rw [hy]; exact IntWalk.wrap64_in _ ⟨by omega, by omega⟩
    clear hy
    have W3 : Hid _ := w3'
    clear w3'
    by_cases hs : y < 0
    · have d1 : decide (y < 0) = true := decide_eq_true hs
      have w4' : IntKind.i64.wrap (-y) = (t : Int) := by rw [w2', ht, if_pos hs]; omega
      have HV : Hid (vN ⟨P1, ⟨#[]⟩, P3, P4, false⟩ = A ∧ vD ⟨P1, ⟨#[]⟩, P3, P4, false⟩ = 10 ^ t) := ⟨by rw [HV0.out.1, show y.toNat = 0 by omega, Nat.pow_zero, Nat.mul_one], by rw [HV0.out.2, ht, if_pos hs]⟩
      have HY : Hid (-1399 ≤ y ∧ t ≤ 1500 ∧ True) := ⟨HY.out.1, HY.out.2.1, trivial⟩
      clear hs ht w2' HV0 hn9 hk4 hyb
      have w3' := W3.out
      go_wp2_with fail
      refine (small_any P4 _ HG.out.dx HG.out.sx).mono ?_
      rintro e wx ⟨rfl, hwx⟩
      rw [hwx, HN.out]
      clear hwx
      go_wp2_with fail
      obtain ⟨g, hg⟩ : ∃ g, g = w1.heap.size := ⟨_, rfl⟩
      obtain ⟨w2, hw2⟩ : ∃ w2, w2 = w1.alloc (.cells #[.slice a1 n1 c1'] 25) := ⟨_, rfl⟩
      rw [← hw2, ← hg] at S1
      rw [← hw2, ← hg]
      have nb1 : ¬ b + 1 = g := by rw [hg]; have := LT1.out; omega
      have nb2 : ¬ g = b + 1 := fun e => nb1 e.symm
      clear hw2 hg z1 z2 z3 z4
      refine wp_region_held_drew (S := fun w9 => w9.cell? ⟨g, 0, none⟩ = some (.slice a1 n1 c1')) (by kernel_rfl) (S1.out.cel g 0 (.slice a1 n1 c1')) (fun hHeld => ?_)
      refine wpAnyH_take (i := 0) (v := .agg #[.slice a1 n1 c1']) rfl (by kernel_rfl) (by kernel_rfl) (by kernel_rfl) (fun _ _ _ h => h) (Or.inl ⟨by rfl, ?_⟩) (by assumption) ?_
      · intro w hSw
        go_simp
      refine wpAnyH_take (i := 1) (v := .int .i64 y) rfl (by kernel_rfl) (by kernel_rfl) (by kernel_rfl) (fun _ _ _ h => h) (Or.inl ⟨by rfl, ?_⟩) (by assumption) ?_
      · intro w hSw
        go_simp
      refine wpAnyH_take (i := 2) (v := .int .i64 (t : Int)) rfl (by kernel_rfl) (by kernel_rfl) (by kernel_rfl) (fun _ _ _ h => h) (Or.inl ⟨by rfl, ?_⟩) (by assumption) ?_
      · intro w hSw
        go_simp
      refine wpAnyH_ready (rs := [3]) (by kernel_rfl) (by simp) ?_
      refine AllReadyH.cons rfl (fun K9 hK9 => ?_) AllReadyH.nil
      go_simp
      refine Calls.mono (tenTo_any t _ HY.out.2.1) ?_
      rintro e w3 ⟨v3, rfl, hv3, hb3⟩
      replace hb3 : Below w2.heap.size w2 w3 := bel_undrew hb3
      have S2 : Hid _ := (S1.out.go hb3).addN hv3
      clear hv3 hb3 S1 hHeld
      refine hK9.out _ _ (S2.out.cel g 0 (.slice a1 n1 c1')) (fun hHeld => ?_)
      clear hK9 K9
      refine wpAnyH_ready (rs := [4]) (by kernel_rfl) (by simp) ?_
      refine AllReadyH.cons rfl (fun K9 hK9 => ?_) AllReadyH.nil
      go_simp
      refine Calls.mono (from_any _ _ A (10 ^ t) _ (S2.out.at (.agg #[.slice a1 n1 c1']) A) (S2.out.at v3 (10 ^ t)) ⟨P_up HA.out.2 (by omega)⟩ ⟨ten_P90 HY.out.2.1⟩ (Nat.pow_pos (by omega)) (HT.out.go S2.out.bel)) ?_
      rintro e w5 ⟨v5, rfl, hv5, hb5⟩
      have S3 : Hid _ := (S2.out.go hb5).addF hv5
      obtain ⟨a5, n5, c5, a6, n6, c6, ev, _, _⟩ := hv5.raw
      subst ev
      clear hv5 hb5 S2 hHeld
      have x0 := S3.out.cel (b + 1) 0 (.slice none 0 0)
      have x1 := S3.out.cel (b + 1) 1 (.slice none 0 0)
      have f0 := S3.out.fz (b + 1) 0
      have f1 := S3.out.fz (b + 1) 1
      have t0 := S3.out.cel g 0 (.slice a1 n1 c1')
      refine hK9.out _ _ t0 (fun hHeld => ?_)
      clear hK9 K9
      refine wpAnyH_take (i := 5) (v := .agg #[.slice a5 n5 c5, .slice a6 n6 c6]) rfl (by kernel_rfl) (by kernel_rfl) (by kernel_rfl) (fun _ _ _ h => h) (Or.inl ⟨by rfl, ?_⟩) (by assumption) ?_
      · intro w hSw
        go_simp
      refine wpAnyH_take (i := 6) (v := .bool true) rfl (by kernel_rfl) (by kernel_rfl) (by kernel_rfl) (fun _ _ _ h => h) (Or.inl ⟨by rfl, ?_⟩) (by assumption) ?_
      · intro w hSw
        go_simp
      refine wpAnyH_ready (rs := [7]) (by kernel_rfl) (by simp) ?_
      refine AllReadyH.cons rfl (fun K9 hK9 => ?_) AllReadyH.nil
      go_simp
      clear hHeld
      refine hK9.out _ _ (by simp [go_sem, *]) (fun hHeld => ?_)
      clear hK9 K9
      refine wpAnyH_take (i := 8) (v := .bool true) rfl (by kernel_rfl) (by kernel_rfl) (by kernel_rfl) (fun _ _ _ h => h) (Or.inl ⟨by rfl, ?_⟩) (by assumption) ?_
      · intro w hSw
        go_simp
      refine wpAnyH_done (by kernel_rfl) ?_ _
      have Z : Hid _ := rat_put (w0 := w) (v := .slice a5 n5 c5) (u := .slice a6 n6 c6) x0 x1 (S3.out.fr (.agg #[.slice a5 n5 c5, .slice a6 n6 c6]) ((A) / Nat.gcd (A) (10 ^ t)) ((10 ^ t) / Nat.gcd (A) (10 ^ t))) S3.out.bel (S3.out.lo (b + 1))
      go_wp2_with fail
      refine bodyPost_ret (v := .tuple #[.agg #[.slice a5 n5 c5, .slice a6 n6 c6], .bool true]) (by simp [results, Tryz.results73, go_sem, x0, x1]) rfl ?_
      unfold MakesV
      rw [if_neg HZ.out, HV.out.1, HV.out.2]
      exact ⟨_, rfl, Z.out.1, Z.out.2⟩
    · have d1 : decide (y < 0) = false := decide_eq_false hs
      have ey : y = (t : Int) := by rw [ht, if_neg hs]; omega
      have HV : Hid (vN ⟨P1, ⟨#[]⟩, P3, P4, false⟩ = A * 10 ^ t ∧ vD ⟨P1, ⟨#[]⟩, P3, P4, false⟩ = 1) := ⟨by rw [HV0.out.1, ht, if_neg hs], by rw [HV0.out.2, show (-y).toNat = 0 by omega, Nat.pow_zero]⟩
      have HY : Hid (-1399 ≤ y ∧ t ≤ 1500 ∧ A * 10 ^ t < P 90) := ⟨HY.out.1, HY.out.2.1, by have := HY.out.2.2; rw [if_neg hs] at this; exact this⟩
      have w3' := W3.out
      rw [ey] at w3' d1
      clear hs ht w2' HV0 hn9 hk4 hyb ey W3
      go_wp2_with fail
      refine (small_any P4 _ HG.out.dx HG.out.sx).mono ?_
      rintro e wx ⟨rfl, hwx⟩
      rw [hwx, HN.out]
      clear hwx
      go_wp2_with fail
      obtain ⟨g, hg⟩ : ∃ g, g = w1.heap.size := ⟨_, rfl⟩
      obtain ⟨w2, hw2⟩ : ∃ w2, w2 = w1.alloc (.cells #[.slice a1 n1 c1'] 25) := ⟨_, rfl⟩
      rw [← hw2, ← hg] at S1
      rw [← hw2, ← hg]
      have nb1 : ¬ b + 1 = g := by rw [hg]; have := LT1.out; omega
      have nb2 : ¬ g = b + 1 := fun e => nb1 e.symm
      clear hw2 hg z1 z2 z3 z4
      refine wp_region_held_drew (S := fun w9 => w9.cell? ⟨g, 0, none⟩ = some (.slice a1 n1 c1')) (by kernel_rfl) (S1.out.cel g 0 (.slice a1 n1 c1')) (fun hHeld => ?_)
      refine wpAnyH_take (i := 0) (v := .agg #[.slice a1 n1 c1']) rfl (by kernel_rfl) (by kernel_rfl) (by kernel_rfl) (fun _ _ _ h => h) (Or.inl ⟨by rfl, ?_⟩) (by assumption) ?_
      · intro w hSw
        go_simp
      refine wpAnyH_take (i := 1) (v := .int .i64 (t : Int)) rfl (by kernel_rfl) (by kernel_rfl) (by kernel_rfl) (fun _ _ _ h => h) (Or.inl ⟨by rfl, ?_⟩) (by assumption) ?_
      · intro w hSw
        go_simp
      refine wpAnyH_ready (rs := [2]) (by kernel_rfl) (by simp) ?_
      refine AllReadyH.cons rfl (fun K9 hK9 => ?_) AllReadyH.nil
      go_simp
      refine Calls.mono (tenTo_any t _ HY.out.2.1) ?_
      rintro e w3 ⟨v3, rfl, hv3, hb3⟩
      replace hb3 : Below w2.heap.size w2 w3 := bel_undrew hb3
      have S2 : Hid _ := (S1.out.go hb3).addN hv3
      clear hv3 hb3 S1 hHeld
      refine hK9.out _ _ (S2.out.cel g 0 (.slice a1 n1 c1')) (fun hHeld => ?_)
      clear hK9 K9
      refine wpAnyH_ready (rs := [3]) (by kernel_rfl) (by simp) ?_
      refine AllReadyH.cons rfl (fun K9 hK9 => ?_) AllReadyH.nil
      go_simp
      refine Calls.mono (mul_short _ _ A (10 ^ t) _ (S2.out.at (.agg #[.slice a1 n1 c1']) A) (S2.out.at v3 (10 ^ t)) (fits_P HA.out.2 (by omega)) (fits_P (ten_P90 HY.out.2.1) (by omega)) (.inl (P_up HA.out.2 (by omega)))) ?_
      rintro e w4 ⟨v4, rfl, hv4, hb4⟩
      have S3 : Hid _ := (S2.out.go hb4).addN hv4
      clear hv4 hb4 S2 hHeld
      refine hK9.out _ _ (S3.out.cel g 0 (.slice a1 n1 c1')) (fun hHeld => ?_)
      clear hK9 K9
      refine wpAnyH_ready (rs := [4]) (by kernel_rfl) (by simp) ?_
      refine AllReadyH.cons rfl (fun K9 hK9 => ?_) AllReadyH.nil
      go_simp
      refine Calls.mono (of_any 1 _ (by omega)) ?_
      rintro e w6 ⟨v6, rfl, hv6, hb6⟩
      have S4 : Hid _ := (S3.out.go hb6).addN hv6
      clear hv6 hb6 S3 hHeld
      refine hK9.out _ _ (S4.out.cel g 0 (.slice a1 n1 c1')) (fun hHeld => ?_)
      clear hK9 K9
      refine wpAnyH_ready (rs := [5]) (by kernel_rfl) (by simp) ?_
      refine AllReadyH.cons rfl (fun K9 hK9 => ?_) AllReadyH.nil
      go_simp
      refine Calls.mono (from_any _ _ (A * 10 ^ t) 1 _ (S4.out.at v4 (A * 10 ^ t)) (S4.out.at v6 1) ⟨HY.out.2.2⟩ (rs_word (by omega)) (by omega) (HT.out.go S4.out.bel)) ?_
      rintro e w5 ⟨v5, rfl, hv5, hb5⟩
      have S3 : Hid _ := (S4.out.go hb5).addF hv5
      obtain ⟨a5, n5, c5, a6, n6, c6, ev, _, _⟩ := hv5.raw
      subst ev
      clear hv5 hb5 S4 hHeld
      have x0 := S3.out.cel (b + 1) 0 (.slice none 0 0)
      have x1 := S3.out.cel (b + 1) 1 (.slice none 0 0)
      have f0 := S3.out.fz (b + 1) 0
      have f1 := S3.out.fz (b + 1) 1
      have t0 := S3.out.cel g 0 (.slice a1 n1 c1')
      refine hK9.out _ _ t0 (fun hHeld => ?_)
      clear hK9 K9
      refine wpAnyH_take (i := 6) (v := .agg #[.slice a5 n5 c5, .slice a6 n6 c6]) rfl (by kernel_rfl) (by kernel_rfl) (by kernel_rfl) (fun _ _ _ h => h) (Or.inl ⟨by rfl, ?_⟩) (by assumption) ?_
      · intro w hSw
        go_simp
      refine wpAnyH_take (i := 7) (v := .bool true) rfl (by kernel_rfl) (by kernel_rfl) (by kernel_rfl) (fun _ _ _ h => h) (Or.inl ⟨by rfl, ?_⟩) (by assumption) ?_
      · intro w hSw
        go_simp
      refine wpAnyH_ready (rs := [8]) (by kernel_rfl) (by simp) ?_
      refine AllReadyH.cons rfl (fun K9 hK9 => ?_) AllReadyH.nil
      go_simp
      clear hHeld
      refine hK9.out _ _ (by simp [go_sem, *]) (fun hHeld => ?_)
      clear hK9 K9
      refine wpAnyH_take (i := 9) (v := .bool true) rfl (by kernel_rfl) (by kernel_rfl) (by kernel_rfl) (fun _ _ _ h => h) (Or.inl ⟨by rfl, ?_⟩) (by assumption) ?_
      · intro w hSw
        go_simp
      refine wpAnyH_done (by kernel_rfl) ?_ _
      have Z : Hid _ := rat_put (w0 := w) (v := .slice a5 n5 c5) (u := .slice a6 n6 c6) x0 x1 (S3.out.fr (.agg #[.slice a5 n5 c5, .slice a6 n6 c6]) ((A * 10 ^ t) / Nat.gcd (A * 10 ^ t) (1)) ((1) / Nat.gcd (A * 10 ^ t) (1))) S3.out.bel (S3.out.lo (b + 1))
      go_wp2_with fail
      refine bodyPost_ret (v := .tuple #[.agg #[.slice a5 n5 c5, .slice a6 n6 c6], .bool true]) (by simp [results, Tryz.results73, go_sem, x0, x1]) rfl ?_
      unfold MakesV
      rw [if_neg HZ.out, HV.out.1, HV.out.2]
      exact ⟨_, rfl, Z.out.1, Z.out.2⟩
end Go.Proofs.YtpeimefangpnaaaGreatDoor

