/- Contracts of the program's functions, part 23: own work, joined in build order. -/
import Derived.Test.YtchomkadekikdaaGreatDoorR22
import Derived.Laws.Cover1
namespace Go.Proofs.YtchomkadekikdaaGreatDoor
open Go.RowKit
set_option maxRecDepth 100000
set_option linter.unusedVariables false
theorem sb_eq {s t : ByteArray} (hz : s.size = t.size) (h : ∀ i, i < s.size → sb s i = sb t i) : s = t := by
  apply ByteArray.ext
  apply Array.ext
  · exact hz
  intro i h1 h2
  have h3 := h i h1
  rw [← sb_at (s := s) h1, ← sb_at (s := t) h2] at h3
  exact UInt8.toNat.inj h3
theorem runE_at {s : ByteArray} {i n : Nat} (hi : i ≤ n) (hn : n ≤ s.size) (h1 : ∀ j, i ≤ j → j < n → isD s j = true) (h2 : isD s n = false) : runE s i = n := by
  have e1 := runE_end (s := s) (i := i) (by omega)
  rcases Nat.lt_trichotomy (runE s i) n with h | h | h
  · rw [h1 _ (runE_ge s i) h] at e1
    cases e1
  · exact h
  rw [runE_dig hi h] at h2
  cases h2
theorem isD_of {s : ByteArray} {i : Nat} (h : i < s.size) (h1 : 48 ≤ sb s i) (h2 : sb s i ≤ 57) : isD s i = true := by
  unfold isD
  rw [decide_eq_true h, decide_eq_true h1, decide_eq_true h2]
  rfl
theorem isD_end {s : ByteArray} {i : Nat} (h : ¬ i < s.size) : isD s i = false := by
  unfold isD
  rw [decide_eq_false h]
  rfl
theorem isD_other {s : ByteArray} {i : Nat} (h : sb s i < 48) : isD s i = false := by
  unfold isD
  rw [decide_eq_false (show ¬ 48 ≤ sb s i by omega)]
  simp
theorem em_app (s : ByteArray) : s ++ em = s := by
  apply ByteArray.ext
  rw [ByteArray.data_append]
  simp [em]
theorem app_head {s t : ByteArray} : (s ++ t).extract 0 s.size = s := by
  refine sb_eq (by rw [size_ext (by rw [ByteArray.size_append]; omega)]; omega) fun i hi => ?_
  rw [size_ext (by rw [ByteArray.size_append]; omega)] at hi
  rw [sb_extract (by rw [ByteArray.size_append]; omega) (by omega), sb_app, if_pos (by omega), Nat.zero_add]
theorem app_tail {s t : ByteArray} {n : Nat} (hn : n = s.size + t.size) : (s ++ t).extract s.size n = t := by
  subst hn
  refine sb_eq (by rw [size_ext (by rw [ByteArray.size_append]; omega)]; omega) fun i hi => ?_
  rw [size_ext (by rw [ByteArray.size_append]; omega)] at hi
  rw [sb_extract (by rw [ByteArray.size_append]; omega) (by omega), sb_app, if_neg (by omega), show s.size + i - s.size = i by omega]
theorem one_size (c : UInt8) : (⟨#[c]⟩ : ByteArray).size = 1 := rfl
theorem sb_one (c : UInt8) : sb ⟨#[c]⟩ 0 = c.toNat := by
  rw [← sb_at (s := ⟨#[c]⟩) (Nat.zero_lt_succ 0)]
  rfl
theorem ext_all (s : ByteArray) : s.extract 0 s.size = s := by
  refine sb_eq (by rw [size_ext (Nat.le_refl _)]; omega) fun i hi => ?_
  rw [size_ext (Nat.le_refl _)] at hi
  rw [sb_extract (Nat.le_refl _) (by omega), Nat.zero_add]
theorem cut_one {s : ByteArray} (h : Digits s s.size) (h0 : 0 < s.size) : cutP s = some ⟨s, em, em, em, false⟩ := by
  have e : runE s 0 = s.size := runE_at (by omega) (Nat.le_refl _) (fun j _ hj => isD_of hj (h j hj).1 (h j hj).2) (isD_end (by omega))
  unfold cutP whoC endC
  rw [e, if_pos (.inr rfl), if_pos ⟨by omega, rfl⟩, ext_all]
  rfl
theorem three_at {A B : ByteArray} {c : UInt8} (hA : Digits A A.size) (hB : Digits B B.size) (hc : c.toNat < 48) (hB0 : 0 < B.size) :
    (A ++ ⟨#[c]⟩ ++ B).size = A.size + 1 + B.size ∧ runE (A ++ ⟨#[c]⟩ ++ B) 0 = A.size ∧ sb (A ++ ⟨#[c]⟩ ++ B) A.size = c.toNat ∧ runE (A ++ ⟨#[c]⟩ ++ B) (A.size + 1) = A.size + 1 + B.size
      ∧ (A ++ ⟨#[c]⟩ ++ B).extract 0 A.size = A ∧ (A ++ ⟨#[c]⟩ ++ B).extract (A.size + 1) (A.size + 1 + B.size) = B := by
  have hz : (A ++ ⟨#[c]⟩ ++ B).size = A.size + 1 + B.size := by rw [ByteArray.size_append, ByteArray.size_append, one_size]
  have hz1 : (A ++ ⟨#[c]⟩).size = A.size + 1 := by rw [ByteArray.size_append, one_size]
  have s1 : ∀ j, j < A.size → sb (A ++ ⟨#[c]⟩ ++ B) j = sb A j := fun j hj => by rw [sb_app, hz1, if_pos (by omega), sb_app, if_pos hj]
  have s2 : sb (A ++ ⟨#[c]⟩ ++ B) A.size = c.toNat := by rw [sb_app, hz1, if_pos (by omega), sb_app, if_neg (by omega), Nat.sub_self, sb_one]
  have s3 : ∀ j, A.size + 1 ≤ j → sb (A ++ ⟨#[c]⟩ ++ B) j = sb B (j - (A.size + 1)) := fun j hj => by rw [sb_app, hz1, if_neg (by omega)]
  refine ⟨hz, ?_, s2, ?_, ?_, ?_⟩
  · refine runE_at (by omega) (by omega) (fun j _ hj => isD_of (by omega) ?_ ?_) (isD_other (by omega))
    · rw [s1 j hj]; exact (hA j hj).1
    rw [s1 j hj]; exact (hA j hj).2
  · refine runE_at (by omega) (by omega) (fun j h1 hj => isD_of (by omega) ?_ ?_) (isD_end (by omega))
    · rw [s3 j h1]; exact (hB _ (by omega)).1
    rw [s3 j h1]; exact (hB _ (by omega)).2
  · rw [show A ++ ⟨#[c]⟩ ++ B = A ++ (⟨#[c]⟩ ++ B) from ByteArray.append_assoc]
    exact app_head
  have := app_tail (s := A ++ ⟨#[c]⟩) (t := B) (n := A.size + 1 + B.size) (by rw [hz1])
  rw [hz1] at this
  exact this
theorem cut_bel {A B : ByteArray} (hA : Digits A A.size) (hB : Digits B B.size) (hA0 : 0 < A.size) (hB0 : 0 < B.size) : cutP (A ++ ⟨#[47]⟩ ++ B) = some ⟨A, B, em, em, false⟩ := by
  obtain ⟨hz, e1, e2, e3, e4, e5⟩ := three_at (c := 47) hA hB (by decide) hB0
  rw [show UInt8.toNat 47 = 47 from rfl] at e2
  unfold cutP whoC
  rw [e1, if_neg (by omega), if_pos e2]
  unfold belC endC
  rw [e3, if_pos ⟨by omega, by omega⟩, e4, e5]
  rfl
theorem em_size : em.size = 0 := rfl
theorem pw_pt (A B C : ByteArray) : pwI ⟨A, C, B, em, false⟩ = -(B.size : Int) := by
  unfold pwI
  simp [em_size, decVal]
theorem np_fmt {p q k l : Nat} (hg : Nat.gcd p q = 1) (hq : 0 < q) (hk : DecLen p k) (hl : DecLen q l) :
    ((fmtT p q k l).size ≤ 400 → npP (fmtT p q k l) = p ∧ npQ (fmtT p q k l) = q ∧ npE (fmtT p q k l) = 0) ∧ (¬ (fmtT p q k l).size ≤ 400 → npE (fmtT p q k l) = 30) := by
  have k0 := hk.1
  have l0 := hl.1
  have dp : Digits (decText p k) (decText p k).size := by rw [text_size]; exact digits_text p k
  have dq : Digits (decText q l) (decText q l).size := by rw [text_size]; exact digits_text q l
  constructor
  · intro h
    by_cases h1 : q = 1
    · have e : fmtT p q k l = decText p k := by unfold fmtT; rw [if_pos h1]
      rw [e] at h ⊢
      have vn : vN ⟨decText p k, em, em, em, false⟩ = p := by
        unfold vN numA
        rw [if_pos em_size, pw_pt, em_size, em_app, text_size, decVal_text hk]
        simp
      have vd : vD ⟨decText p k, em, em, em, false⟩ = 1 := by
        unfold vD
        rw [if_pos em_size, pw_pt, em_size]
        rfl
      obtain ⟨r1, r2, r3⟩ := np_yes h (cut_one dp (by rw [text_size]; omega)) (by rw [vd]; omega)
      rw [vn, vd, Nat.gcd_one_right] at r1 r2
      rw [r1, r2, r3, h1]
      exact ⟨Nat.div_one _, rfl, rfl⟩
    have e : fmtT p q k l = decText p k ++ ⟨#[47]⟩ ++ decText q l := by unfold fmtT; rw [if_neg h1]
    rw [e] at h ⊢
    have nz : ¬ (decText q l).size = 0 := by rw [text_size]; omega
    have vn : vN ⟨decText p k, decText q l, em, em, false⟩ = p := by
      unfold vN numA
      rw [if_neg nz, em_app, text_size, decVal_text hk]
    have vd : vD ⟨decText p k, decText q l, em, em, false⟩ = q := by
      unfold vD
      rw [if_neg nz]
      simp only
      rw [text_size, decVal_text hl]
    obtain ⟨r1, r2, r3⟩ := np_yes h (cut_bel dp dq (by rw [text_size]; omega) (by rw [text_size]; omega)) (by rw [vd]; omega)
    rw [vn, vd, hg] at r1 r2
    rw [r1, r2, r3, Nat.div_one, Nat.div_one]
    exact ⟨rfl, rfl, rfl⟩
  intro h
  refine (np_no ?_).2.2
  unfold npOk
  rw [decide_eq_false h]
  rfl
theorem near_exact {c d : Nat} (hd : 0 < d) : nearN (c * d) d = c := by
  unfold nearN
  rw [Nat.mul_mod_left, if_pos (by omega), Nat.mul_div_cancel _ hd]
theorem bits_back {p q U c : Nat} {e : Int} (h : At p q e) (hq : 0 < q) (h1 : p * 2 ^ (1074 - U) = c * 2 ^ (U - 1074) * q) (h0 : 0 < c) (hc : c < 9007199254740992) (hU : U = 0 ∨ 4503599627370496 ≤ c) : bitsAt p q e = U * 4503599627370496 + c := by
  obtain ⟨u0, hu⟩ : ∃ u0 : Int, u0 = (U : Int) - 1074 := ⟨_, rfl⟩
  have hup : upN p u0 = c * dnN q u0 := by
    unfold upN dnN
    rw [show (-u0).toNat = 1074 - U by omega, show u0.toNat = U - 1074 by omega, h1, Nat.mul_assoc, Nat.mul_comm (2 ^ _) q]
  have hdn := dnN_pos hq u0
  have key : unI e = u0 := by
    rcases Int.lt_or_le e u0 with hlt | hge
    · exfalso
      obtain ⟨k, hk⟩ : ∃ k : Nat, u0 = e + k := ⟨(u0 - e).toNat, by omega⟩
      have k1 : 1 ≤ k := by omega
      have t := (unit_lt (p := p) hq e k 1).2 (by
        have a1 : (2 : Nat) ^ 1 ≤ 2 ^ k := Nat.pow_le_pow_right (by omega) k1
        have a2 := h.2
        have a3 := Nat.mul_le_mul_right (dnN q e) a1
        rw [Nat.one_mul]
        omega)
      rw [← hk, hup, Nat.one_mul] at t
      have := Nat.le_mul_of_pos_left (dnN q u0) h0
      omega
    obtain ⟨k, hk⟩ : ∃ k : Nat, e = u0 + k := ⟨(e - u0).toNat, by omega⟩
    have a1 := (unit_le (p := p) hq u0 k 1).1 (by rw [← hk, Nat.one_mul]; exact h.1)
    rw [hup, Nat.one_mul] at a1
    have a2 : 2 ^ k ≤ c := Nat.le_of_mul_le_mul_right a1 hdn
    have a3 := (unit_lt (p := p) hq u0 k 2).1 (by rw [← hk]; exact h.2)
    rw [hup] at a3
    have a4 : c < 2 * 2 ^ k := Nat.lt_of_mul_lt_mul_right a3
    have k2 : k ≤ 52 := by
      rcases Nat.lt_or_ge 52 k with g | g
      · have : (2 : Nat) ^ 53 ≤ 2 ^ k := Nat.pow_le_pow_right (by omega) g
        omega
      exact g
    unfold unI
    rcases hU with g | g
    · split <;> omega
    have k3 : 52 ≤ k := by
      rcases Nat.lt_or_ge k 52 with g2 | g2
      · have : (2 : Nat) ^ k ≤ 2 ^ 51 := Nat.pow_le_pow_right (by omega) (by omega)
        omega
      exact g2
    rw [if_neg (by omega)]
    omega
  unfold bitsAt ctN
  rw [key, hup, near_exact hdn, show (u0 + 1074).toNat = U by omega]
theorem tf_back {u : Nat} (hu : u < 9218868437227405312) : tfV (fN u / Nat.gcd (fN u) (fD u)) (fD u / Nat.gcd (fN u) (fD u)) = u ∧ tfOk (fN u / Nat.gcd (fN u) (fD u)) (fD u / Nat.gcd (fN u) (fD u)) = true := by
  have hg : 0 < Nat.gcd (fN u) (fD u) := Nat.gcd_pos_of_pos_right _ (fD_pos u)
  obtain ⟨g, eg⟩ : ∃ g, g = Nat.gcd (fN u) (fD u) := ⟨_, rfl⟩
  have d1 : fN u / g * g = fN u := Nat.div_mul_cancel (by rw [eg]; exact Nat.gcd_dvd_left _ _)
  have d2 : fD u / g * g = fD u := Nat.div_mul_cancel (by rw [eg]; exact Nat.gcd_dvd_right _ _)
  rw [← eg] at hg ⊢
  clear eg
  obtain ⟨U, c, hu2, hc, hU⟩ : ∃ U c, u = U * 4503599627370496 + c ∧ c < 9007199254740992 ∧ (U = 0 ∨ 4503599627370496 ≤ c) := by
    by_cases h : u / 4503599627370496 = 0
    · exact ⟨0, u, by omega, by omega, .inl rfl⟩
    exact ⟨u / 4503599627370496 - 1, u % 4503599627370496 + 4503599627370496, by omega, by omega, .inr (by omega)⟩
  have v := val_units (U := U) (c := c) (by omega) hU
  rw [← hu2] at v
  obtain ⟨p, ep⟩ : ∃ p, p = fN u / g := ⟨_, rfl⟩
  obtain ⟨q, eq⟩ : ∃ q, q = fD u / g := ⟨_, rfl⟩
  rw [← ep] at d1 ⊢
  rw [← eq] at d2 ⊢
  have hq : 0 < q := by
    rcases Nat.eq_zero_or_pos q with e | e
    · rw [e, Nat.zero_mul] at d2
      have := fD_pos u
      omega
    exact e
  have v2 : p * 2 ^ (1074 - U) = c * 2 ^ (U - 1074) * q := by
    refine Nat.eq_of_mul_eq_mul_right hg ?_
    rw [Nat.mul_right_comm, d1, v, ← d2, Nat.mul_assoc _ q g]
  rcases Nat.eq_zero_or_pos c with h0 | h0
  · have hp : p = 0 := by
      rw [h0, Nat.zero_mul, Nat.zero_mul] at v2
      rcases Nat.mul_eq_zero.1 v2 with e | e
      · exact e
      exact absurd e (Nat.ne_of_gt (Nat.two_pow_pos _))
    have hu0 : u = 0 := by omega
    rw [hp, hu0]
    exact ⟨rfl, rfl⟩
  have hp : 0 < p := by
    rcases Nat.eq_zero_or_pos p with e | e
    · rw [e, Nat.zero_mul] at v2
      have := Nat.mul_pos (Nat.mul_pos h0 (Nat.two_pow_pos (U - 1074))) hq
      omega
    exact e
  have b : tfB p q = u := by rw [hu2]; exact bits_back (sz_at hp hq) hq v2 h0 hc hU
  obtain ⟨e1, e2⟩ := tf_in (q := q) hp (by rw [b]; exact hu)
  rw [e1, b]
  exact ⟨rfl, e2⟩
theorem rd_zero : Ieee.double.read 0 = .number false 0 (-1074) := by decide +kernel
theorem rd_top : Ieee.double.read 4697254411347427328 = .number false 4503599627370496 (-32) := by decide +kernel
theorem fle_not {x y : Nat} (h : fle x y = true) : (Ieee.double.read x).order (Ieee.double.read y) = some .lt ∨ (Ieee.double.read x).order (Ieee.double.read y) = some .eq := by
  unfold fle at h
  rw [Bool.or_eq_true] at h
  rcases h with h | h
  · exact .inl (beq_iff_eq.1 h)
  exact .inr (beq_iff_eq.1 h)
theorem rd_word (u : Nat) : Ieee.double.read u = if u % 9223372036854775808 < 4503599627370496 then .number (u / 9223372036854775808 % 2 == 1) (u % 9223372036854775808) (-1074) else if u % 9223372036854775808 < 9218868437227405312 then .number (u / 9223372036854775808 % 2 == 1) (4503599627370496 + u % 9223372036854775808 % 4503599627370496) (-1074 + (u % 9223372036854775808 / 4503599627370496 - 1 : Nat)) else if u % 9223372036854775808 = 9218868437227405312 then .infinity (u / 9223372036854775808 % 2 == 1) else .nan (u / 9223372036854775808 % 2 == 1) (u % 9223372036854775808 - 9218868437227405312) := rfl
theorem cmp_no {a b : Int} (h : b < a) : ¬ (some (compare a b) = some Ordering.lt ∨ some (compare a b) = some Ordering.eq) := by
  rintro (q | q)
  · have := Int.compare_eq_lt.1 (Option.some.inj q)
    omega
  have := Int.compare_eq_eq.1 (Option.some.inj q)
  omega
theorem rate_bits {u : Nat} (hu : u < 18446744073709551616) (h : hldF 0 4697254411347427328 u = true) : u ≤ 4697254411347427328 ∨ u = 9223372036854775808 := by
  unfold hldF at h
  rw [Bool.and_eq_true] at h
  have h1 := fle_not h.1
  have h2 := fle_not h.2
  rw [rd_zero] at h1
  rw [rd_top] at h2
  by_cases c : u < 9223372036854775808
  · refine .inl ?_
    rcases Nat.lt_or_ge 4697254411347427328 u with q | q
    · exfalso
      have e1 : u % 9223372036854775808 = u := Nat.mod_eq_of_lt c
      have e2 : (u / 9223372036854775808 % 2 == 1) = false := by rw [Nat.div_eq_of_lt c]; rfl
      rw [rd_word, e1, e2, if_neg (by omega)] at h2
      split at h2
      · unfold Ieee.Datum.order at h2
        dsimp only at h2
        obtain ⟨e, he⟩ : ∃ e, u / 4503599627370496 = 1043 + e := ⟨u / 4503599627370496 - 1043, by omega⟩
        have e3 : min (-1074 + ((u / 4503599627370496 - 1 : Nat) : Int)) (-32) = -32 := by omega
        rw [e3] at h2
        refine cmp_no ?_ h2
        have e4 : (-1074 + ((u / 4503599627370496 - 1 : Nat) : Int) - -32).toNat = e := by omega
        have e5 : ((-32 : Int) - -32).toNat = 0 := by decide
        rw [e4, e5]
        show ((4503599627370496 <<< 0 : Nat) : Int) < (((4503599627370496 + u % 4503599627370496) <<< e : Nat) : Int)
        rw [Nat.shiftLeft_eq, Nat.shiftLeft_eq]
        have e6 : 1 ≤ 2 ^ e := Nat.one_le_two_pow
        rcases Nat.eq_zero_or_pos e with z | z
        · subst z
          have : 0 < u % 4503599627370496 := by omega
          simp
          omega
        have e7 : 2 ≤ 2 ^ e := by
          obtain ⟨d, rfl⟩ : ∃ d, e = d + 1 := ⟨e - 1, by omega⟩
          have := @Nat.one_le_two_pow d
          rw [Nat.pow_succ]
          omega
        have e8 : 4503599627370496 * 2 ≤ (4503599627370496 + u % 4503599627370496) * 2 ^ e := Nat.mul_le_mul (by omega) e7
        simp only [Nat.pow_zero, Nat.mul_one]
        omega
      split at h2
      · unfold Ieee.Datum.order at h2
        rcases h2 with z | z <;> simp at z
      unfold Ieee.Datum.order at h2
      rcases h2 with z | z <;> simp at z
    exact q
  refine .inr ?_
  have e2 : (u / 9223372036854775808 % 2 == 1) = true := by
    have : u / 9223372036854775808 = 1 := by omega
    rw [this]
    rfl
  obtain ⟨r, hr⟩ : ∃ r, u % 9223372036854775808 = r := ⟨_, rfl⟩
  have er : u = 9223372036854775808 + r := by omega
  rw [rd_word, hr, e2] at h1
  rcases Nat.eq_zero_or_pos r with z | z
  · omega
  exfalso
  split at h1
  · unfold Ieee.Datum.order at h1
    dsimp only at h1
    refine cmp_no ?_ h1
    show (-(r <<< _ : Nat) : Int) < ((0 <<< _ : Nat) : Int)
    rw [Nat.shiftLeft_eq, Nat.shiftLeft_eq, Nat.zero_mul]
    have : 0 < r * 2 ^ (-1074 - min (-1074 : Int) (-1074)).toNat := Nat.mul_pos z (Nat.two_pow_pos _)
    omega
  split at h1
  · unfold Ieee.Datum.order at h1
    dsimp only at h1
    refine cmp_no ?_ h1
    obtain ⟨m, hm⟩ : ∃ m, 4503599627370496 + r % 4503599627370496 = m := ⟨_, rfl⟩
    rw [hm]
    obtain ⟨t, ht⟩ : ∃ t, (-1074 + ((r / 4503599627370496 - 1 : Nat) : Int) - min (-1074) (-1074 + ((r / 4503599627370496 - 1 : Nat) : Int))).toNat = t := ⟨_, rfl⟩
    rw [ht]
    show (-(m <<< t : Nat) : Int) < ((0 <<< _ : Nat) : Int)
    rw [Nat.shiftLeft_eq, Nat.shiftLeft_eq, Nat.zero_mul]
    have : 0 < m * 2 ^ t := Nat.mul_pos (by omega) (Nat.two_pow_pos _)
    omega
  split at h1
  · unfold Ieee.Datum.order at h1
    rcases h1 with z | z <;> simp at z
  unfold Ieee.Datum.order at h1
  rcases h1 with z | z <;> simp at z
theorem dl_le {x k m : Nat} (h : DecLen x k) (hx : x < 10 ^ m) (hm : 1 ≤ m) : k ≤ m := by
  obtain ⟨h1, h2, h3⟩ := h
  rcases h3 with h3 | h3
  · omega
  rcases Nat.lt_or_ge m k with q | q
  · have : 10 ^ m ≤ 10 ^ (k - 1) := Nat.pow_le_pow_right (by omega) (by omega)
    omega
  exact q
theorem pow_sub_le (N a : Nat) : 2 ^ (N - a) ≤ 2 ^ N := Nat.pow_le_pow_right (by decide) (Nat.sub_le _ _)
theorem p2_53 : 9007199254740992 < 10 ^ 16 := by decide
theorem p2_1074 : 2 ^ 1074 < 10 ^ 324 := by decide +kernel
theorem rate_parts {u : Nat} (h : u ≤ 4697254411347427328 ∨ u = 9223372036854775808) : ffP u < 10 ^ 16 ∧ ffQ u < 10 ^ 324 := by
  rcases h with h | h
  · have h2 : u < 9218868437227405312 := by omega
    rw [(ff_yes h2).1, (ff_yes h2).2]
    have e0 : fe u - 1074 = 0 := by unfold fe; omega
    have em : fm u < 9007199254740992 := by unfold fm; split <;> omega
    constructor
    · refine Nat.lt_of_le_of_lt (Nat.div_le_self _ _) (Nat.lt_of_lt_of_le ?_ (Nat.le_of_lt p2_53))
      unfold fN
      rw [e0]
      omega
    refine Nat.lt_of_le_of_lt (Nat.div_le_self _ _) (Nat.lt_of_le_of_lt ?_ p2_1074)
    unfold fD
    exact pow_sub_le 1074 _
  subst h
  rw [ff_zero.1, ff_zero.2]
  exact ⟨by decide, by decide +kernel⟩
theorem rate_fmt {u k l : Nat} (h : u ≤ 4697254411347427328 ∨ u = 9223372036854775808) (hk : DecLen (ffP u) k) (hl : DecLen (ffQ u) l) : (fmtT (ffP u) (ffQ u) k l).size ≤ 400 := by
  have h1 := dl_le hk (rate_parts h).1 (by omega)
  have h2 := dl_le hl (rate_parts h).2 (by omega)
  unfold fmtT
  split
  · rw [text_size]; omega
  rw [ByteArray.size_append, ByteArray.size_append, text_size, text_size, show (⟨#[47]⟩ : ByteArray).size = 1 from rfl]
  omega
theorem ff_low {u : Nat} (h : u ≤ 4697254411347427328 ∨ u = 9223372036854775808) : Nat.gcd (ffP u) (ffQ u) = 1 ∧ 0 < ffQ u := by
  rcases h with h | h
  · have h2 : u < 9218868437227405312 := by omega
    rw [(ff_yes h2).1, (ff_yes h2).2]
    have q := gcd_low (p := fN u) (fD_pos u)
    exact ⟨q.2.1, q.2.2⟩
  subst h
  rw [ff_zero.1, ff_zero.2]
  decide
theorem rate_back {u k l : Nat} (h : u ≤ 4697254411347427328 ∨ u = 9223372036854775808) (hk : DecLen (ffP u) k) (hl : DecLen (ffQ u) l) : exE (fmtT (ffP u) (ffQ u) k l) = 0 ∧ exU (fmtT (ffP u) (ffQ u) k l) = u % 9223372036854775808 := by
  obtain ⟨e1, e2, e3⟩ := (np_fmt (ff_low h).1 (ff_low h).2 hk hl).1 (rate_fmt h hk hl)
  have key : tfV (ffP u) (ffQ u) = u % 9223372036854775808 ∧ tfOk (ffP u) (ffQ u) = true ∧ ffP (u % 9223372036854775808) = ffP u ∧ ffQ (u % 9223372036854775808) = ffQ u := by
    rcases h with h | h
    · have h2 : u < 9218868437227405312 := by omega
      have e : u % 9223372036854775808 = u := Nat.mod_eq_of_lt (by omega)
      rw [e, (ff_yes h2).1, (ff_yes h2).2]
      exact ⟨(tf_back h2).1, (tf_back h2).2, rfl, rfl⟩
    subst h
    rw [ff_zero.1, ff_zero.2]
    refine ⟨rfl, rfl, ?_, ?_⟩
    · decide +kernel
    decide +kernel
  have hE : exE (fmtT (ffP u) (ffQ u) k l) = 0 := by
    unfold exE
    rw [e1, e2, e3, if_neg (by decide), key.2.1, if_neg (by decide), key.1, key.2.2.1, key.2.2.2, if_neg]
    simp [cmpI]
  refine ⟨hE, ?_⟩
  unfold exU
  rw [if_pos hE, e1, e2, key.1]
theorem dig_wd {s : ByteArray} (h0 : 0 < s.size) (h : ∀ i, i < s.size → sb s i ≠ 32) : Wd1 s := by
  refine ⟨h0, fun c hc e => ?_⟩
  obtain ⟨i, hi, hg⟩ := List.getElem_of_mem hc
  have l : s.data.toList.length = s.size := by rw [Array.length_toList]; rfl
  refine h i (by omega) ?_
  rw [sb_list, List.getD, List.getElem?_eq_getElem hi, hg, e]
  rfl
theorem fmt_wd {p q k l : Nat} (hk : DecLen p k) (hl : DecLen q l) : Wd1 (fmtT p q k l) := by
  have one : ∀ x m, DecLen x m → Wd1 (decText x m) := fun x m hm => dig_wd (by rw [text_size]; exact hm.1) fun i hi e => by
    rw [text_size] at hi
    have := digits_text x m i hi
    omega
  unfold fmtT
  split
  · exact one p k hk
  obtain ⟨a0, a1⟩ := one p k hk
  obtain ⟨b0, b1⟩ := one q l hl
  refine ⟨by rw [ByteArray.size_append, ByteArray.size_append]; omega, fun c hc => ?_⟩
  rw [ByteArray.data_append, ByteArray.data_append, Array.toList_append, Array.toList_append] at hc
  rcases List.mem_append.1 hc with z | z
  · rcases List.mem_append.1 z with z | z
    · exact a1 c z
    simp at z
    rw [z]
    decide
  exact b1 c z
theorem flow_list (pw pq pc ps pb pp pn : Int) (T : ByteArray) : flowT pw pq pc ps pb pp pn T = [⟨#[119, 101, 105, 103, 104, 116]⟩, itT pw, ⟨#[113, 117, 97, 110, 116, 117, 109]⟩, itT pq, ⟨#[99, 108, 97, 115, 115]⟩, itT pc, ⟨#[115, 112, 97, 110]⟩, itT ps, ⟨#[98, 117, 114, 115, 116]⟩, itT pb, ⟨#[114, 97, 116, 101]⟩, T, ⟨#[112, 101, 114]⟩, itT pp, ⟨#[110, 111, 100, 101]⟩, itT pn] := by
  rw [flowT, flowN_words]
  rfl
theorem fl_back (pw pq pc ps pb pp pn : Int) (T : ByteArray) (h0 : In64p pw) (h1 : In64p pq) (h2 : In64p pc) (h3 : In64p ps) (h4 : In64p pb) (h5 : In64p pp) (h6 : In64p pn) :
    flV (flowT pw pq pc ps pb pp pn T, false) 0 = pw ∧ flV (flowT pw pq pc ps pb pp pn T, false) 1 = pq ∧ flV (flowT pw pq pc ps pb pp pn T, false) 2 = pc ∧ flV (flowT pw pq pc ps pb pp pn T, false) 3 = ps ∧ flV (flowT pw pq pc ps pb pp pn T, false) 4 = pb ∧ flV (flowT pw pq pc ps pb pp pn T, false) 5 = pp ∧ flV (flowT pw pq pc ps pb pp pn T, false) 6 = pn ∧ flR (flowT pw pq pc ps pb pp pn T, false) = T ∧ flS (flowT pw pq pc ps pb pp pn T, false) = ([], false) := by
  have e1 : arS ⟨#[119, 101, 105, 103, 104, 116, 32, 113, 117, 97, 110, 116, 117, 109, 32, 99, 108, 97, 115, 115, 32, 115, 112, 97, 110, 32, 98, 117, 114, 115, 116, 32, 114, 97, 116, 101, 32, 112, 101, 114, 32, 110, 111, 100, 101]⟩ (flowT pw pq pc ps pb pp pn T, false) = (itT pw :: itT pq :: itT pc :: itT ps :: itT pb :: T :: itT pp :: itT pn :: [], false) := by
    rw [flow_list]
    exact arr_flow (itT pw) (itT pq) (itT pc) (itT ps) (itT pb) T (itT pp) (itT pn) []
  have f0 := nm_it pw (itT pq :: itT pc :: itT ps :: itT pb :: T :: itT pp :: itT pn :: []) h0.1 h0.2
  have f1 := nm_it pq (itT pc :: itT ps :: itT pb :: T :: itT pp :: itT pn :: []) h1.1 h1.2
  have f2 := nm_it pc (itT ps :: itT pb :: T :: itT pp :: itT pn :: []) h2.1 h2.2
  have f3 := nm_it ps (itT pb :: T :: itT pp :: itT pn :: []) h3.1 h3.2
  have f4 := nm_it pb (T :: itT pp :: itT pn :: []) h4.1 h4.2
  have fw : woS (T :: itT pp :: itT pn :: [], false) = (itT pp :: itT pn :: [], false) := rfl
  have f5 := nm_it pp (itT pn :: []) h5.1 h5.2
  have f6 := nm_it pn [] h6.1 h6.2
  unfold flV flR flS
  rw [e1, f0.1, f0.2, f1.1, f1.2, f2.1, f2.2, f3.1, f3.2, f4.1, f4.2, fw, f5.1, f5.2, f6.1, f6.2]
  exact ⟨rfl, rfl, rfl, rfl, rfl, rfl, rfl, rfl, rfl⟩
theorem len_three (P Q : List ByteArray) (T : ByteArray) (hP : ∀ x ∈ P, x.size ≤ 21) (hQ : ∀ x ∈ Q, x.size ≤ 21) (lP : P.length = 11) (lQ : Q.length = 4) (hT : T.size ≤ 400) : (Lib.join ((P ++ ([T] ++ Q)).map (·.data.toList)) [32]).length ≤ 4096 := by
  have h1 := lens21 P hP
  have h2 := lens21 Q hQ
  have h3 : T.data.toList.length = T.size := by rw [Array.length_toList]; rfl
  have h4 : Lib.lens ((P ++ ([T] ++ Q)).map (·.data.toList)) = Lib.lens (P.map (·.data.toList)) + (T.size + Lib.lens (Q.map (·.data.toList))) := by
    simp [Lib.lens, h3]
  have h5 : (P ++ ([T] ++ Q)).length = 16 := by simp [lP, lQ]
  generalize P ++ ([T] ++ Q) = L at h4 h5
  cases L with
  | nil => simp at h5
  | cons x l =>
    rw [List.map_cons] at h4 ⊢
    rw [Lib.join_length]
    simp only [List.length_map, List.length_cons] at *
    simp
    omega
theorem flow_len (pw pq pc ps pb pp pn : Int) (T : ByteArray) (e0 : (itT pw).size ≤ 21) (e1 : (itT pq).size ≤ 21) (e2 : (itT pc).size ≤ 21) (e3 : (itT ps).size ≤ 21) (e4 : (itT pb).size ≤ 21) (e5 : (itT pp).size ≤ 21) (e6 : (itT pn).size ≤ 21) (hT : T.size ≤ 400) : (Lib.join ((flowT pw pq pc ps pb pp pn T).map (·.data.toList)) [32]).length ≤ 4096 := by
  have e : flowT pw pq pc ps pb pp pn T = [⟨#[119, 101, 105, 103, 104, 116]⟩, itT pw, ⟨#[113, 117, 97, 110, 116, 117, 109]⟩, itT pq, ⟨#[99, 108, 97, 115, 115]⟩, itT pc, ⟨#[115, 112, 97, 110]⟩, itT ps, ⟨#[98, 117, 114, 115, 116]⟩, itT pb, ⟨#[114, 97, 116, 101]⟩] ++ ([T] ++ [⟨#[112, 101, 114]⟩, itT pp, ⟨#[110, 111, 100, 101]⟩, itT pn]) := by rw [flow_list]; rfl
  have hA : ∀ x ∈ [⟨#[119, 101, 105, 103, 104, 116]⟩, itT pw, ⟨#[113, 117, 97, 110, 116, 117, 109]⟩, itT pq, ⟨#[99, 108, 97, 115, 115]⟩, itT pc, ⟨#[115, 112, 97, 110]⟩, itT ps, ⟨#[98, 117, 114, 115, 116]⟩, itT pb, ⟨#[114, 97, 116, 101]⟩], x.size ≤ 21 := by
    intro x hx
    simp only [List.mem_cons, List.not_mem_nil, or_false] at hx
    rcases hx with rfl | rfl | rfl | rfl | rfl | rfl | rfl | rfl | rfl | rfl | rfl
    · decide
    · exact e0
    · decide
    · exact e1
    · decide
    · exact e2
    · decide
    · exact e3
    · decide
    · exact e4
    decide
  have hB : ∀ x ∈ [⟨#[112, 101, 114]⟩, itT pp, ⟨#[110, 111, 100, 101]⟩, itT pn], x.size ≤ 21 := by
    intro x hx
    simp only [List.mem_cons, List.not_mem_nil, or_false] at hx
    rcases hx with rfl | rfl | rfl | rfl
    · decide
    · exact e5
    · decide
    exact e6
  rw [e]
  exact len_three _ _ T hA hB rfl rfl hT
theorem pf_back (K R M C Fl A : Int) (G : Nat → Nat → Int) (n : Nat) (pw pq pc ps pb : Int) (u : Nat) (pp pn : Int) (k l : Nat) (s : ByteArray) (hu : u < 18446744073709551616) (hz : flowE K R M C Fl A G n pw pq pc ps pb u pp pn = 0) (hn : In64p pn) (hk : DecLen (ffP u) k) (hl : DecLen (ffQ u) l) (hs : s = ⟨(Lib.join ((flowT pw pq pc ps pb pp pn (fmtT (ffP u) (ffQ u) k l)).map (·.data.toList)) [32]).toArray⟩) :
    pfE (checkE K R M C Fl A G n) (fun b0 b1 b2 b3 b4 bu b5 b6 => flowE K R M C Fl A G n b0 b1 b2 b3 b4 bu b5 b6) s = 0 ∧ pfV 0 s 0 = pw ∧ pfV 0 s 1 = pq ∧ pfV 0 s 2 = pc ∧ pfV 0 s 3 = ps ∧ pfV 0 s 4 = pb ∧ pfU 0 s = u % 9223372036854775808 ∧ pfV 0 s 5 = pp ∧ pfV 0 s 6 = pn := by
  obtain ⟨z1, z2, z3, z4, z5, z6, z7, z8, z9⟩ := flowE_zero hz
  obtain ⟨b1, b2, b3, b4, b5, b6, b7, b8⟩ := checkE_zero z1
  have hb := rate_bits hu z8
  have q1 : fQ0 (kAt K G n pn) ≥ 0 ∧ fQ1 (kAt K G n pn) ≤ 1073741824 := by unfold fQ0 fQ1; split <;> omega
  have q2 : fC1 (kAt K G n pn) ≤ 15 := by unfold fC1; split <;> omega
  have q3 : fS1 (kAt K G n pn) ≤ 1099511627776 := by unfold fS1; split <;> omega
  have h0 : In64p pw := ⟨by omega, by omega⟩
  have h1 : In64p pq := ⟨by omega, by omega⟩
  have h2 : In64p pc := ⟨by omega, by omega⟩
  have h3 : In64p ps := ⟨by omega, by omega⟩
  have h4 : In64p pb := ⟨by omega, by omega⟩
  have h5 : In64p pp := ⟨by omega, by omega⟩
  obtain ⟨T, hT⟩ : ∃ T, fmtT (ffP u) (ffQ u) k l = T := ⟨_, rfl⟩
  have hr := rate_back hb hk hl
  have hsz := rate_fmt hb hk hl
  have hwd := fmt_wd hk hl
  rw [hT] at hr hsz hwd hs
  have hall : ∀ x ∈ flowT pw pq pc ps pb pp pn T, Wd1 x := by
    rw [flow_list]
    intro x hx
    simp only [List.mem_cons, List.not_mem_nil, or_false] at hx
    rcases hx with rfl | rfl | rfl | rfl | rfl | rfl | rfl | rfl | rfl | rfl | rfl | rfl | rfl | rfl | rfl | rfl
    · exact lit_wd _ (by decide)
    · exact itT_wd _
    · exact lit_wd _ (by decide)
    · exact itT_wd _
    · exact lit_wd _ (by decide)
    · exact itT_wd _
    · exact lit_wd _ (by decide)
    · exact itT_wd _
    · exact lit_wd _ (by decide)
    · exact itT_wd _
    · exact lit_wd _ (by decide)
    · exact hwd
    · exact lit_wd _ (by decide)
    · exact itT_wd _
    · exact lit_wd _ (by decide)
    exact itT_wd _
  have hw : wordsL s = flowT pw pq pc ps pb pp pn T := by rw [hs, words_join _ hall]
  have hlen : s.size ≤ 4096 := by
    have q : s.size = (Lib.join ((flowT pw pq pc ps pb pp pn T).map (·.data.toList)) [32]).length := by
      rw [hs]
      show (Lib.join _ _).toArray.size = _
      simp
    have e0 := it21 _ h0
    have e1 := it21 _ h1
    have e2 := it21 _ h2
    have e3 := it21 _ h3
    have e4 := it21 _ h4
    have e5 := it21 _ h5
    have e6 := it21 _ hn
    rw [q]
    exact flow_len pw pq pc ps pb pp pn T e0 e1 e2 e3 e4 e5 e6 hsz
  obtain ⟨v0, v1, v2, v3, v4, v5, v6, vr, vs⟩ := fl_back pw pq pc ps pb pp pn T h0 h1 h2 h3 h4 h5 hn
  rw [← hw] at v0 v1 v2 v3 v4 v5 v6 vr vs
  have hfe : flowE K R M C Fl A G n pw pq pc ps pb (u % 9223372036854775808) pp pn = 0 := by
    rcases hb with hb | hb
    · rw [Nat.mod_eq_of_lt (by omega)]
      exact hz
    have e : hldF 0 4697254411347427328 (u % 9223372036854775808) = hldF 0 4697254411347427328 u := by
      rw [z8, hb]
      decide +kernel
    unfold flowE at hz ⊢
    unfold flowE1 at hz ⊢
    rw [e]
    exact hz
  refine ⟨?_, ?_, ?_, ?_, ?_, ?_, ?_, ?_, ?_⟩
  · unfold pfE
    rw [z1, if_neg (by decide), if_neg (by omega), vs, if_neg (by decide), vr, hr.1, if_neg (by decide), hr.2, v0, v1, v2, v3, v4, v5, v6]
    exact hfe
  · unfold pfV; rw [if_pos rfl]; exact v0
  · unfold pfV; rw [if_pos rfl]; exact v1
  · unfold pfV; rw [if_pos rfl]; exact v2
  · unfold pfV; rw [if_pos rfl]; exact v3
  · unfold pfV; rw [if_pos rfl]; exact v4
  · unfold pfU; rw [if_pos rfl, vr]; exact hr.2
  · unfold pfV; rw [if_pos rfl]; exact v5
  unfold pfV; rw [if_pos rfl]; exact v6
def sameB (K R M C Fl A : Int) (n : Nat) (G : Nat → Nat → Int) (K2 R2 M2 C2 Fl2 A2 : Int) (n2 : Nat) (G2 : Nat → Nat → Int) : Prop := K = K2 ∧ R = R2 ∧ M = M2 ∧ C = C2 ∧ Fl = Fl2 ∧ A = A2 ∧ n = n2 ∧ ∀ i j, i < n → j < 4 → G i j = G2 i j
set_option maxHeartbeats 2000000 in
open Classical in
theorem same_any (K R M C Fl A : Int) (a : Option Addr) (n cap : Nat) (G : Nat → Nat → Int) (K2 R2 M2 C2 Fl2 A2 : Int) (a2 : Option Addr) (n2 cap2 : Nat) (G2 : Nat → Nat → Int) (B : Bool) (w : World) (h : NSl w a n cap G) (h2 : NSl w a2 n2 cap2 G2) (hB : decide (sameB K R M C Fl A n G K2 R2 M2 C2 Fl2 A2 n2 G2) = B) :
    Calls Tryz.prog 23 #[.agg #[.int .i64 K, .int .i64 R, .int .i64 M, .int .i64 C, .int .i64 Fl, .int .i64 A, .slice a n cap], .agg #[.int .i64 K2, .int .i64 R2, .int .i64 M2, .int .i64 C2, .int .i64 Fl2, .int .i64 A2, .slice a2 n2 cap2]] w fun e w' => e = .returned (.bool B) ∧ Below w.heap.size w w' := by
  have HN : Hid _ := h
  have HN2 : Hid _ := h2
  have hl0 : n ≤ 9223372036854775807 := Nat.le_trans h.le h.lim
  have hl2 : n2 ≤ 9223372036854775807 := Nat.le_trans h2.le h2.lim
  have HBE : Hid _ := hB
  have W2 : Hid (Below w.heap.size w ((w.alloc (.cells #[.int .i64 K, .int .i64 R, .int .i64 M, .int .i64 C, .int .i64 Fl, .int .i64 A, .slice a n cap] 24)).alloc (.cells #[.int .i64 K2, .int .i64 R2, .int .i64 M2, .int .i64 C2, .int .i64 Fl2, .int .i64 A2, .slice a2 n2 cap2] 24))) := bc_al (bc_al (bel_refl w))
  clear h h2 hB
  by_cases c0 : K = K2
  · subst c0
    by_cases c1 : R = R2
    · subst c1
      by_cases c2 : M = M2
      · subst c2
        by_cases c3 : C = C2
        · subst c3
          by_cases c4 : Fl = Fl2
          · subst c4
            by_cases c5 : A = A2
            · subst c5
              by_cases c6 : n = n2
              · subst c6
                obtain ⟨W, hW⟩ : ∃ W, W = ((w.alloc (.cells #[.int .i64 K, .int .i64 R, .int .i64 M, .int .i64 C, .int .i64 Fl, .int .i64 A, .slice a n cap] 24)).alloc (.cells #[.int .i64 K, .int .i64 R, .int .i64 M, .int .i64 C, .int .i64 Fl, .int .i64 A, .slice a2 n cap2] 24)) := ⟨_, rfl⟩
                have hs1 : w.heap.size < W.heap.size := by rw [hW, World.size_alloc, World.size_alloc]; omega
                have hs2 : w.heap.size + 1 < W.heap.size := by rw [hW, World.size_alloc, World.size_alloc]; omega
                have HBW : Hid (Below w.heap.size w W) := by show Below _ _ _; rw [hW]; exact W2.out
                have x6 : W.cell? ⟨w.heap.size, 6, none⟩ = some (.slice a n cap) := by rw [hW]; simp [go_sem]
                have y6 : W.cell? ⟨w.heap.size + 1, 6, none⟩ = some (.slice a2 n cap2) := by rw [hW]; simp [go_sem]
                have HX6 : Hid _ := x6
                have HY6 : Hid _ := y6
                have HH1 : Hid _ := HN.out.go HBW.out
                have HH2 : Hid _ := HN2.out.go HBW.out
                have l1 := HN.out.le
                have l2 := HN2.out.le
                clear x6 y6
                go_enter Tryz.func23, Tryz.ntmps23
                go_wp2_with fail
                rw [← hW]
                clear hW
                obtain ⟨g1, eg1⟩ : ∃ g, g = w.heap.size := ⟨_, rfl⟩
                obtain ⟨g2, eg2⟩ : ∃ g, g = w.heap.size + 1 := ⟨_, rfl⟩
                rw [← eg2] at HY6 hs2 ⊢
                rw [← eg1] at HX6 hs1 ⊢
                clear eg1 eg2
                go_loopw [5] (fun t wr => ∃ k d : Nat, k ≤ n ∧ t = .int .i64 (k : Int) ∧ wr = W.drewN d ∧ Hid (∀ i j, i < k → j < 4 → G i j = G2 i j)) (fun t _ => n - (intOf t).toNat)
                case atStart => exact ⟨0, 0, by omega, rfl, rfl, fun i j hi => by omega⟩
                case round =>
                  obtain ⟨k, d, hk, rfl, rfl, HS⟩ := hrel
                  have x6 : (W.drewN d).cell? ⟨g1, 6, none⟩ = some (.slice a n cap) := HX6.out
                  have y6 : (W.drewN d).cell? ⟨g2, 6, none⟩ = some (.slice a2 n cap2) := HY6.out
                  by_cases ek : k = n
                  · subst ek
                    have HB : Hid (B = true) := by
                      show _ = _
                      rw [← HBE.out]
                      exact decide_eq_true ⟨rfl, rfl, rfl, rfl, rfl, rfl, rfl, HS.out⟩
                    go_wp2_with fail
                    exact bodyPost_ret (v := .bool true) (by simp [results, Tryz.results23, go_sem]) rfl ⟨by rw [HB.out], bc_drew HBW.out d⟩
                  have lk : k < n := by omega
                  obtain ⟨b, o, rfl, hc⟩ := HH1.out.at (by omega)
                  obtain ⟨b2, o2, rfl, hc2⟩ := HH2.out.at (by omega)
                  have u0 : W.cell? ⟨b, o + k * 4, none⟩ = some (.int .i64 (G k 0)) := by simpa using hc k 0 lk (by omega)
                  have u1 : W.cell? ⟨b, o + k * 4 + 1, none⟩ = some (.int .i64 (G k 1)) := hc k 1 lk (by omega)
                  have u2 : W.cell? ⟨b, o + k * 4 + 2, none⟩ = some (.int .i64 (G k 2)) := hc k 2 lk (by omega)
                  have u3 : W.cell? ⟨b, o + k * 4 + 3, none⟩ = some (.int .i64 (G k 3)) := hc k 3 lk (by omega)
                  have v0 : W.cell? ⟨b2, o2 + k * 4, none⟩ = some (.int .i64 (G2 k 0)) := by simpa using hc2 k 0 lk (by omega)
                  have v1 : W.cell? ⟨b2, o2 + k * 4 + 1, none⟩ = some (.int .i64 (G2 k 1)) := hc2 k 1 lk (by omega)
                  have v2 : W.cell? ⟨b2, o2 + k * 4 + 2, none⟩ = some (.int .i64 (G2 k 2)) := hc2 k 2 lk (by omega)
                  have v3 : W.cell? ⟨b2, o2 + k * 4 + 3, none⟩ = some (.int .i64 (G2 k 3)) := hc2 k 3 lk (by omega)
                  have x6b : W.cell? ⟨g1, 6, none⟩ = some (.slice (some ⟨b, o, none⟩) n cap) := HX6.out
                  have y6b : W.cell? ⟨g2, 6, none⟩ = some (.slice (some ⟨b2, o2, none⟩) n cap2) := HY6.out
                  clear hc hc2 x6 y6
                  have x6 := x6b
                  have y6 := y6b
                  clear x6b y6b
                  by_cases q0 : G k 0 = G2 k 0
                  · rw [← q0] at v0
                    by_cases q1 : G k 1 = G2 k 1
                    · rw [← q1] at v1
                      by_cases q2 : G k 2 = G2 k 2
                      · rw [← q2] at v2
                        by_cases q3 : G k 3 = G2 k 3
                        · rw [← q3] at v3
                          have HS2 : Hid (∀ i j, i < k + 1 → j < 4 → G i j = G2 i j) := fun i j hi hj => by
                            by_cases e : i = k
                            · subst e
                              match j, hj with
                              | 0, _ => exact q0
                              | 1, _ => exact q1
                              | 2, _ => exact q2
                              | 3, _ => exact q3
                            exact HS.out i j (by omega) hj
                          clear q0 q1 q2 q3
                          go_wp2_with fail
                          go_quiet (fail)
                          go_wp2_with fail
                          go_roundw
                          case rel => exact ⟨k + 1, _, by omega, by go_num, rfl, HS2⟩
                          case measure => simp [intOf]; omega
                        have d3 : (G k 3 == G2 k 3) = false := by simpa using q3
                        have HB : Hid (B = false) := by
                          show _ = _
                          rw [← HBE.out]
                          exact decide_eq_false fun q => q3 (q.2.2.2.2.2.2.2 k 3 lk (by omega))
                        clear q3
                        go_wp2_with fail
                        go_quiet (fail)
                        go_wp2_with fail
                        go_ret
                        exact ⟨by rw [HB.out]; rfl, bc_drew (bc_drew HBW.out d) _⟩
                      have d2 : (G k 2 == G2 k 2) = false := by simpa using q2
                      have HB : Hid (B = false) := by
                        show _ = _
                        rw [← HBE.out]
                        exact decide_eq_false fun q => q2 (q.2.2.2.2.2.2.2 k 2 lk (by omega))
                      clear q2
                      go_wp2_with fail
                      go_quiet (fail)
                      go_wp2_with fail
                      go_ret
                      exact ⟨by rw [HB.out]; rfl, bc_drew (bc_drew HBW.out d) _⟩
                    have d1 : (G k 1 == G2 k 1) = false := by simpa using q1
                    have HB : Hid (B = false) := by
                      show _ = _
                      rw [← HBE.out]
                      exact decide_eq_false fun q => q1 (q.2.2.2.2.2.2.2 k 1 lk (by omega))
                    clear q1
                    go_wp2_with fail
                    go_quiet (fail)
                    go_wp2_with fail
                    go_ret
                    exact ⟨by rw [HB.out]; rfl, bc_drew (bc_drew HBW.out d) _⟩
                  have d0 : (G k 0 == G2 k 0) = false := by simpa using q0
                  have HB : Hid (B = false) := by
                    show _ = _
                    rw [← HBE.out]
                    exact decide_eq_false fun q => q0 (q.2.2.2.2.2.2.2 k 0 lk (by omega))
                  clear q0
                  go_wp2_with fail
                  go_quiet (fail)
                  go_wp2_with fail
                  go_ret
                  exact ⟨by rw [HB.out]; rfl, bc_drew (bc_drew HBW.out d) _⟩
              have d6 : ((n : Int) != (n2 : Int)) = true := by simp; omega
              have HB : Hid (B = false) := by
                show _ = _
                rw [← HBE.out]
                exact decide_eq_false fun q => c6 q.2.2.2.2.2.2.1
              clear c6
              go_enter Tryz.func23, Tryz.ntmps23
              go_wp2_with fail
              exact bodyPost_ret (v := .bool false) (by simp [results, Tryz.results23, go_sem]) rfl ⟨by rw [HB.out], W2.out⟩
            have d5 : (A != A2) = true := by simpa using c5
            have HB : Hid (B = false) := by
              show _ = _
              rw [← HBE.out]
              exact decide_eq_false fun q => c5 q.2.2.2.2.2.1
            clear c5
            go_enter Tryz.func23, Tryz.ntmps23
            go_wp2_with fail
            exact bodyPost_ret (v := .bool false) (by simp [results, Tryz.results23, go_sem]) rfl ⟨by rw [HB.out], W2.out⟩
          have d4 : (Fl != Fl2) = true := by simpa using c4
          have HB : Hid (B = false) := by
            show _ = _
            rw [← HBE.out]
            exact decide_eq_false fun q => c4 q.2.2.2.2.1
          clear c4
          go_enter Tryz.func23, Tryz.ntmps23
          go_wp2_with fail
          exact bodyPost_ret (v := .bool false) (by simp [results, Tryz.results23, go_sem]) rfl ⟨by rw [HB.out], W2.out⟩
        have d3 : (C != C2) = true := by simpa using c3
        have HB : Hid (B = false) := by
          show _ = _
          rw [← HBE.out]
          exact decide_eq_false fun q => c3 q.2.2.2.1
        clear c3
        go_enter Tryz.func23, Tryz.ntmps23
        go_wp2_with fail
        exact bodyPost_ret (v := .bool false) (by simp [results, Tryz.results23, go_sem]) rfl ⟨by rw [HB.out], W2.out⟩
      have d2 : (M != M2) = true := by simpa using c2
      have HB : Hid (B = false) := by
        show _ = _
        rw [← HBE.out]
        exact decide_eq_false fun q => c2 q.2.2.1
      clear c2
      go_enter Tryz.func23, Tryz.ntmps23
      go_wp2_with fail
      exact bodyPost_ret (v := .bool false) (by simp [results, Tryz.results23, go_sem]) rfl ⟨by rw [HB.out], W2.out⟩
    have d1 : (R != R2) = true := by simpa using c1
    have HB : Hid (B = false) := by
      show _ = _
      rw [← HBE.out]
      exact decide_eq_false fun q => c1 q.2.1
    clear c1
    go_enter Tryz.func23, Tryz.ntmps23
    go_wp2_with fail
    exact bodyPost_ret (v := .bool false) (by simp [results, Tryz.results23, go_sem]) rfl ⟨by rw [HB.out], W2.out⟩
  have d0 : (K != K2) = true := by simpa using c0
  have HB : Hid (B = false) := by
    show _ = _
    rw [← HBE.out]
    exact decide_eq_false fun q => c0 q.1
  clear c0
  go_enter Tryz.func23, Tryz.ntmps23
  go_wp2_with fail
  exact bodyPost_ret (v := .bool false) (by simp [results, Tryz.results23, go_sem]) rfl ⟨by rw [HB.out], W2.out⟩
end Go.Proofs.YtchomkadekikdaaGreatDoor
