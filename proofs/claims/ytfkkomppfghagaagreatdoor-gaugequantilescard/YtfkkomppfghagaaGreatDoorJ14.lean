/- Contracts of the program's functions, part 14: own work, joined in build order. -/
import Derived.Test.YtfkkomppfghagaaGreatDoorJ13
namespace Go.Proofs.YtfkkomppfghagaaGreatDoor
open Go.RowKit
set_option maxRecDepth 100000
set_option linter.unusedVariables false
def fmG (u : Nat) : Nat := if u / 4503599627370496 = 0 then u % 4503599627370496 else 4503599627370496 + u % 4503599627370496
def feG (u : Nat) : Nat := if u / 4503599627370496 = 0 then 0 else u / 4503599627370496 - 1
theorem read_numG {u : Nat} (h : u < 9218868437227405312) : Ieee.double.read u = .number false (fmG u) (-1074 + (feG u : Int)) := by
  have d1 : Ieee.double.signWeight = 9223372036854775808 := by decide
  have d2 : Ieee.double.binade = 4503599627370496 := by decide
  have d3 : Ieee.double.infRung = 9218868437227405312 := by decide
  have d4 : Ieee.double.leastPlace = -1074 := by decide
  have h1 : (u / 9223372036854775808 % 2 == 1) = false := by rw [Nat.div_eq_of_lt (by omega)]; rfl
  have h2 : u % 9223372036854775808 = u := Nat.mod_eq_of_lt (by omega)
  unfold Ieee.Format.read
  rw [d1, d2, d3, d4, h2]
  simp only [h1]
  unfold fmG feG
  by_cases hs : u < 4503599627370496
  · have e0 : u / 4503599627370496 = 0 := Nat.div_eq_of_lt hs
    have e1 : u % 4503599627370496 = u := Nat.mod_eq_of_lt hs
    rw [if_pos hs, e0, if_pos rfl, e1]
    rfl
  have e0 : ¬ u / 4503599627370496 = 0 := by omega
  rw [if_neg hs, if_pos h, if_neg e0, if_neg e0]
theorem mono_num {u v : Nat} (h : u ≤ v) : fmG u * 2 ^ feG u ≤ fmG v * 2 ^ feG v := by
  unfold fmG feG
  have d1 := Nat.div_add_mod u 4503599627370496
  have d2 := Nat.div_add_mod v 4503599627370496
  have m1 := Nat.mod_lt u (show 0 < 4503599627370496 by omega)
  have m2 := Nat.mod_lt v (show 0 < 4503599627370496 by omega)
  generalize u / 4503599627370496 = a at *
  generalize v / 4503599627370496 = b at *
  generalize u % 4503599627370496 = x at *
  generalize v % 4503599627370496 = y at *
  have hab : a ≤ b := by omega
  have one : ∀ c d m n : Nat, c ≤ d → m ≤ n → m * 2 ^ c ≤ n * 2 ^ d := fun c d m n h1 h2 => Nat.mul_le_mul h2 (Nat.pow_le_pow_right (by omega) h1)
  by_cases ha : a = 0
  · subst ha
    rw [if_pos rfl, if_pos rfl]
    by_cases hb : b = 0
    · subst hb
      rw [if_pos rfl, if_pos rfl]
      exact one _ _ _ _ (by omega) (by omega)
    rw [if_neg hb, if_neg hb]
    exact one _ _ _ _ (by omega) (by omega)
  have hb : ¬ b = 0 := by omega
  rw [if_neg ha, if_neg ha, if_neg hb, if_neg hb]
  by_cases e : a = b
  · subst e
    exact one _ _ _ _ (Nat.le_refl _) (by omega)
  have hp : 2 ^ (b - 1) = 2 * 2 ^ (b - 2) := by rw [show b - 1 = (b - 2) + 1 by omega, Nat.pow_succ, Nat.mul_comm]
  have h1 : 2 ^ (a - 1) ≤ 2 ^ (b - 2) := Nat.pow_le_pow_right (by omega) (by omega)
  rw [hp]
  calc (4503599627370496 + x) * 2 ^ (a - 1) ≤ (2 * 4503599627370496) * 2 ^ (b - 2) := Nat.mul_le_mul (by omega) h1
    _ = 4503599627370496 * (2 * 2 ^ (b - 2)) := by grind
    _ ≤ (4503599627370496 + y) * (2 * 2 ^ (b - 2)) := Nat.mul_le_mul (by omega) (Nat.le_refl _)
theorem signed_posG (m k : Nat) : Ieee.signed false m k = ((m * 2 ^ k : Nat) : Int) := by
  unfold Ieee.signed
  rw [Nat.shiftLeft_eq]
  simp
theorem order_le {u v : Nat} (h : u ≤ v) (hv : v < 9218868437227405312) : FloatKind.f64.format.order u v = some .lt ∨ FloatKind.f64.format.order u v = some .eq := by
  show (Ieee.double.read u).order (Ieee.double.read v) = _ ∨ (Ieee.double.read u).order (Ieee.double.read v) = _
  rw [read_numG (Nat.lt_of_le_of_lt h hv), read_numG hv]
  have hm := mono_num h
  generalize fmG u = m at *
  generalize feG u = i at *
  generalize fmG v = n at *
  generalize feG v = j at *
  unfold Ieee.Datum.order
  simp only [signed_posG]
  have fin : ∀ a b : Nat, a ≤ b → some (compare (a : Int) (b : Int)) = some .lt ∨ some (compare (a : Int) (b : Int)) = some .eq := fun a b hab => by
    rcases Nat.lt_or_ge a b with h1 | h1
    · left
      rw [Int.compare_eq_lt.2 (by omega)]
    right
    rw [Int.compare_eq_eq.2 (by omega)]
  by_cases hij : i ≤ j
  · have e1 : (-1074 + (i : Int) - min (-1074 + (i : Int)) (-1074 + (j : Int))).toNat = 0 := by omega
    have e2 : (-1074 + (j : Int) - min (-1074 + (i : Int)) (-1074 + (j : Int))).toNat = j - i := by omega
    rw [e1, e2]
    refine fin _ _ ?_
    have e3 : 2 ^ j = 2 ^ (j - i) * 2 ^ i := by rw [← Nat.pow_add, show j - i + i = j by omega]
    rw [e3, ← Nat.mul_assoc] at hm
    rw [Nat.pow_zero, Nat.mul_one]
    exact Nat.le_of_mul_le_mul_right hm (Nat.two_pow_pos i)
  have e1 : (-1074 + (i : Int) - min (-1074 + (i : Int)) (-1074 + (j : Int))).toNat = i - j := by omega
  have e2 : (-1074 + (j : Int) - min (-1074 + (i : Int)) (-1074 + (j : Int))).toNat = 0 := by omega
  rw [e1, e2]
  refine fin _ _ ?_
  have e3 : 2 ^ i = 2 ^ (i - j) * 2 ^ j := by rw [← Nat.pow_add, show i - j + j = i by omega]
  rw [e3, ← Nat.mul_assoc] at hm
  rw [Nat.pow_zero, Nat.mul_one]
  exact Nat.le_of_mul_le_mul_right hm (Nat.two_pow_pos j)
def leC (L : List Nat) (x : Int) : Nat := L.countP fun (d : Nat) => decide ((d : Int) ≤ x)
def ltC (L : List Nat) (x : Int) : Nat := L.countP fun (d : Nat) => decide ((d : Int) < x)
theorem lt_le (L : List Nat) {x y : Int} (h : x < y) : leC L x ≤ ltC L y := List.countP_mono_left fun d _ e => by simp only [decide_eq_true_eq] at *; omega
theorem le_le (L : List Nat) (x : Int) : leC L x ≤ L.length := List.countP_le_length
theorem countP_or (L : List Nat) (p q r : Nat → Bool) (h : ∀ d ∈ L, r d = (p d || q d)) (hd : ∀ d ∈ L, p d = true → q d = false) : L.countP r = L.countP p + L.countP q := by
  induction L with
  | nil => rfl
  | cons a l ih =>
    have h1 := h a (List.mem_cons_self ..)
    have h2 := hd a (List.mem_cons_self ..)
    have h3 := ih (fun d hd' => h d (List.mem_cons_of_mem _ hd')) (fun d hd' => hd d (List.mem_cons_of_mem _ hd'))
    rw [List.countP_cons, List.countP_cons, List.countP_cons, h3, h1]
    cases hp : p a <;> cases hq : q a <;> simp_all <;> omega
theorem qf_spec (L : List Nat) : ∀ (r : List Int) (pl : Int), r.Pairwise (· < ·) → (∀ d ∈ L, (d : Int) ∉ r → ∀ x ∈ r, (d : Int) < x) → 0 < pl → pl + (L.countP fun (d : Nat) => decide ((d : Int) ∉ r) : Nat) ≤ L.length →
    ∃ x, qfG (cntL L) r pl = (x, true) ∧ x ∈ r ∧ (ltC L x : Int) < pl + (L.countP fun (d : Nat) => decide ((d : Int) ∉ r) : Nat) ∧ pl + (L.countP fun (d : Nat) => decide ((d : Int) ∉ r) : Nat) ≤ (leC L x : Int)
  | [], pl, _, _, h1, h2 => by
    have : (L.countP fun (d : Nat) => decide ((d : Int) ∉ ([] : List Int))) = L.length := by
      rw [List.countP_eq_length]
      intro d _
      simp
    omega
  | x :: r, pl, hs, hI, h1, h2 => by
    obtain ⟨hx, hr⟩ := List.pairwise_cons.1 hs
    have m' : (L.countP fun (d : Nat) => decide ((d : Int) ∉ r)) = (L.countP fun (d : Nat) => decide ((d : Int) ∉ x :: r)) + cntL L x := by
      unfold cntL
      refine countP_or L _ _ _ (fun d _ => ?_) (fun d _ e => ?_)
      · by_cases e1 : (d : Int) = x
        · have : x ∉ r := fun h => by have := hx x h; omega
          simp [e1, this]
        simp [e1]
      simp at e ⊢
      exact e.1
    have hlt : ltC L x = L.countP fun (d : Nat) => decide ((d : Int) ∉ x :: r) := by
      unfold ltC
      refine List.countP_congr fun d hd => ?_
      simp only [decide_eq_true_eq]
      constructor
      · intro h e
        rcases List.mem_cons.1 e with e | e
        · omega
        have := hx _ e; omega
      intro h
      exact hI d hd h x (List.mem_cons_self ..)
    have hle : leC L x = ltC L x + cntL L x := by
      unfold leC ltC cntL
      refine countP_or L _ _ _ (fun d _ => ?_) (fun d _ e => ?_)
      · by_cases e1 : (d : Int) = x
        · simp [e1]
        by_cases e2 : (d : Int) < x
        · simp [e1, e2]; omega
        simp [e1, e2]; omega
      simp at e ⊢
      omega
    rw [qfG_cons]
    by_cases hc : pl - (cntL L x : Int) ≤ 0
    · rw [if_pos hc]
      exact ⟨x, rfl, List.mem_cons_self .., by omega, by omega⟩
    rw [if_neg hc]
    obtain ⟨y, e1, e2, e3, e4⟩ := qf_spec L r (pl - (cntL L x : Int)) hr (fun d hd hn y hy => by
      by_cases e : (d : Int) = x
      · rw [e]; exact hx y hy
      exact hI d hd (fun h => by
        rcases List.mem_cons.1 h with h | h
        · exact e h
        exact hn h) y (List.mem_cons_of_mem _ hy)) (by omega) (by rw [m']; omega)
    rw [m'] at e3 e4
    exact ⟨y, e1, List.mem_cons_of_mem _ e2, by omega, by omega⟩
structure Kth (L : List Nat) (k x : Int) : Prop where
  mem : ∃ d ∈ L, (d : Int) = x
  lo : (ltC L x : Int) < k
  hi : k ≤ (leC L x : Int)
theorem qf_kth {L : List Nat} {ss : List Int} (hk : KeysG L ss) {pl : Int} (h1 : 0 < pl) (h2 : pl ≤ L.length) : ∃ x, qfG (cntL L) ss pl = (x, true) ∧ Kth L pl x := by
  have hz : (L.countP fun (d : Nat) => decide ((d : Int) ∉ ss)) = 0 := by
    rw [List.countP_eq_zero]
    intro d hd
    simp only [decide_eq_true_eq, Classical.not_not]
    exact (hk.mem _).2 (cntL_pos.2 ⟨d, hd, rfl⟩)
  obtain ⟨x, e1, e2, e3, e4⟩ := qf_spec L ss pl hk.asc (fun d hd hn => absurd ((hk.mem _).2 (cntL_pos.2 ⟨d, hd, rfl⟩)) hn) h1 (by rw [hz]; omega)
  rw [hz] at e3 e4
  exact ⟨x, e1, cntL_pos.1 ((hk.mem x).1 e2), by omega, by omega⟩
theorem Kth.mono {L : List Nat} {k k' x x' : Int} (h : Kth L k x) (h' : Kth L k' x') (hk : k ≤ k') : x ≤ x' := by
  rcases Int.lt_or_le x' x with e | e
  · have := lt_le L e
    have h1 := h.lo
    have h2 := h'.hi
    omega
  exact e
theorem Kth.perm {L M : List Nat} (hp : L.Perm M) {k x : Int} (h : Kth L k x) : Kth M k x := by
  obtain ⟨⟨d, hd, e⟩, h1, h2⟩ := h
  refine ⟨⟨d, hp.mem_iff.1 hd, e⟩, ?_, ?_⟩
  · rw [ltC, ← hp.countP_eq]; exact h1
  rw [leC, ← hp.countP_eq]; exact h2
theorem Kth.one {L : List Nat} {k x x' : Int} (h : Kth L k x) (h' : Kth L k x') : x = x' := Int.le_antisymm (h.mono h' (Int.le_refl _)) (h'.mono h (Int.le_refl _))
theorem Kth.least {L : List Nat} {x : Int} (h : Kth L 1 x) : ∀ d ∈ L, x ≤ (d : Int) := fun d hd => by
  have h1 := h.lo
  have h0 : ltC L x = 0 := by omega
  rw [ltC, List.countP_eq_zero] at h0
  have := h0 d hd
  simp only [decide_eq_true_eq] at this
  omega
theorem Kth.most {L : List Nat} {x : Int} (h : Kth L L.length x) : ∀ d ∈ L, (d : Int) ≤ x := fun d hd => by
  have h1 := h.hi
  have h2 := le_le L x
  have h0 : leC L x = L.length := by omega
  rw [leC, List.countP_eq_length] at h0
  have := h0 d hd
  simpa only [decide_eq_true_eq] using this
theorem plG_le {n : Nat} {p q : Int} (hn : 0 < n) (hp : 0 ≤ p) (hpq : p ≤ q) (hq : 1 ≤ q) : plG n p q ≤ n := by
  unfold plG
  have h1 : (n : Int) * p ≤ (n : Int) * q := Int.mul_le_mul_of_nonneg_left hpq (by omega)
  have h2 : ((n : Int) * p + q - 1) / q < (n : Int) + 1 := by
    refine Int.ediv_lt_of_lt_mul (by omega) ?_
    rw [Int.add_mul, Int.one_mul]
    omega
  omega
theorem plG_mono {n : Nat} {p p' q : Int} (hpp : p ≤ p') (hq : 1 ≤ q) : plG n p q ≤ plG n p' q := by
  unfold plG
  have h1 : (n : Int) * p ≤ (n : Int) * p' := Int.mul_le_mul_of_nonneg_left hpp (by omega)
  have h2 : ((n : Int) * p + q - 1) / q ≤ ((n : Int) * p' + q - 1) / q := Int.ediv_le_ediv (by omega) (by omega)
  omega
theorem plG_zero (n : Nat) {q : Int} (hq : 1 ≤ q) : plG n 0 q = 1 := by
  unfold plG
  rw [Int.mul_zero, Int.zero_add, Int.ediv_eq_zero_of_lt (by omega) (by omega)]
  rfl
theorem plG_one {n : Nat} {q : Int} (hn : 0 < n) (hq : 1 ≤ q) : plG n q q = n := by
  unfold plG
  have : ((n : Int) * q + q - 1) / q = n := by
    rw [show (n : Int) * q + q - 1 = (q - 1) + (n : Int) * q by omega, Int.add_mul_ediv_right _ _ (by omega), Int.ediv_eq_zero_of_lt (by omega) (by omega)]
    omega
  rw [this]
  omega
theorem plG_at (n : Nat) {p q : Int} (hq : 1 ≤ q) : (n : Int) * p ≤ plG n p q * q ∧ (plG n p q = 1 ∨ (plG n p q - 1) * q < (n : Int) * p) := by
  unfold plG
  have h1 := Int.emod_add_mul_ediv ((n : Int) * p + q - 1) q
  have h2 := Int.emod_lt_of_pos ((n : Int) * p + q - 1) (show 0 < q by omega)
  have h3 := Int.emod_nonneg ((n : Int) * p + q - 1) (show q ≠ 0 by omega)
  generalize ((n : Int) * p + q - 1) / q = t at *
  generalize ((n : Int) * p + q - 1) % q = r at *
  have h4 : t * q = q * t := Int.mul_comm _ _
  constructor
  · have h5 : t * q ≤ max 1 t * q := Int.mul_le_mul_of_nonneg_right (Int.le_max_right _ _) (by omega)
    omega
  by_cases e : t ≤ 1
  · left; omega
  right
  rw [Int.max_eq_right (by omega), Int.sub_mul, Int.one_mul]
  omega
theorem plG_half (n : Nat) : plG n 1 2 ≤ plG n 99 100 := by unfold plG; omega
theorem plG_tail (n : Nat) : plG n 99 100 ≤ plG n 1 1 := by unfold plG; omega
theorem plG_all {n : Nat} (hn : 0 < n) : plG n 1 1 = n := by unfold plG; omega
theorem tf_le {p q k : Nat} (hq : 0 < q) (hk : k ≤ 9223372036854775807) (h : p ≤ k * q) : tfV p q ≤ tfV k 1 ∧ tfV k 1 < 9218868437227405312 := by
  have ht : tfOk 9223372036854775807 1 = true := by decide +kernel
  obtain ⟨h1, h2⟩ := tf_mono (p := k) (q := 1) (r := 9223372036854775807) (s := 1) (by omega) (by omega) (by omega) ht
  obtain ⟨h3, h4⟩ := tf_mono (p := p) (q := q) (r := k) (s := 1) hq (by omega) (by omega) h1
  have h5 : tfV 9223372036854775807 1 < 9218868437227405312 := by decide +kernel
  exact ⟨h4, by omega⟩
theorem mean_le {L : List Nat} {k : Nat} (h : ∀ d ∈ L, d ≤ k) : mnP L ≤ k * mnQ L ∧ 0 < mnQ L := by
  have h1 := sumG_le h
  unfold mnP mnQ
  split
  · exact ⟨Nat.zero_le _, by omega⟩
  rename_i e
  have hg : 0 < Nat.gcd (sumG L) L.length := Nat.gcd_pos_of_pos_right _ (by omega)
  obtain ⟨a, ha⟩ := Nat.gcd_dvd_left (sumG L) L.length
  obtain ⟨b, hb⟩ := Nat.gcd_dvd_right (sumG L) L.length
  generalize Nat.gcd (sumG L) L.length = g at *
  rw [ha, hb] at h1
  rw [ha, hb, Nat.mul_div_cancel_left _ hg, Nat.mul_div_cancel_left _ hg]
  refine ⟨Nat.le_of_mul_le_mul_left (by rw [show g * (k * b) = g * b * k by grind]; exact h1) hg, Nat.pos_of_ne_zero fun e2 => ?_⟩
  rw [e2] at hb
  omega
theorem qfG_mem (c : Int → Nat) : ∀ (ss : List Int) (pl : Int), (qfG c ss pl).1 = 0 ∨ (qfG c ss pl).1 ∈ ss
  | [], _ => .inl rfl
  | d :: r, pl => by
    rw [qfG_cons]
    split
    · exact .inr (List.mem_cons_self ..)
    rcases qfG_mem c r (pl - (c d : Int)) with e | e
    · exact .inl e
    exact .inr (List.mem_cons_of_mem _ e)
theorem qfG_nat {w : World} {g mb : Nat} {L : List Nat} {B : Nat} (h : Gau w g mb L B) {ss : List Int} (hk : KeysG L ss) (pl : Int) : ∃ k : Nat, (qfG (cntL L) ss pl).1 = (k : Int) ∧ k ≤ 9223372036854775807 := by
  rcases qfG_mem (cntL L) ss pl with e | e
  · exact ⟨0, by rw [e]; rfl, by omega⟩
  obtain ⟨d, hd, e2⟩ := cntL_pos.1 ((hk.mem _).1 e)
  exact ⟨d, e2.symm, h.del d hd⟩
def shP (B : Nat) (z : Int) : Nat := if z < 1 then 0 else B / Nat.gcd B z.toNat
def shQ (B : Nat) (z : Int) : Nat := if z < 1 then 1 else z.toNat / Nat.gcd B z.toNat
theorem sh_of (B : Nat) (z : Int) (hB : B ≤ 9223372036854775807) (hz : z ≤ 9223372036854775807) : RS (shP B z) ∧ RS (shQ B z) ∧ ∀ w, Tab w → ∃ ok, Calls Tryz.prog 20 #[.int .i64 (B : Int), .int .i64 z] w (MakesRB w (shP B z) (shQ B z) ok) := by
  unfold shP shQ
  by_cases h : z < 1
  · rw [if_pos h, if_pos h]
    exact ⟨rs_few (by omega), rs_few (by omega), fun w _ => ⟨false, ratOf_no B z w (.inr h)⟩⟩
  rw [if_neg h, if_neg h]
  obtain ⟨n, rfl⟩ : ∃ n : Nat, z = (n : Int) := ⟨z.toNat, by omega⟩
  rw [Int.toNat_natCast]
  exact ⟨(rs_word (x := B) (by omega)).le (Nat.div_le_self _ _), (rs_word (x := n) (by omega)).le (Nat.div_le_self _ _), fun w hT => ⟨true, ratOf_yes B n w hB (by omega) (by omega) hT⟩⟩
def Sto6 (R : Nat) (w : World) (v : Value) (w' : World) : Prop := ∃ u0 u1 u2 u3 u4 u5, v = .agg #[u0, u1, u2, u3, u4, u5] ∧ w' = (((((w.setCell ⟨R, 0, none⟩ u0).setCell ⟨R, 1, none⟩ u1).setCell ⟨R, 2, none⟩ u2).setCell ⟨R, 3, none⟩ u3).setCell ⟨R, 4, none⟩ u4).setCell ⟨R, 5, none⟩ u5
def telV (L : List Nat) (B : Nat) (z : Int) (k1 k2 k3 x y : Nat) : Value := .agg #[.float .f64 (tfV (mnP L) (mnQ L)), .float .f64 (tfV k1 1), .float .f64 (tfV k2 1), .float .f64 (tfV k3 1), .float .f64 (tfV (shP B z) (shQ B z)), .float .f64 (tfV x y)]
theorem frz_go {w w' : World} {b i : Nat} {v : Value} (hb : Below w.heap.size w w') (hc : w.cell? ⟨b, 0, none⟩ = some v) (h : w.frozen? ⟨b, i, none⟩ = false) : w'.frozen? ⟨b, i, none⟩ = false :=
  (hb.frozen (show b < w.heap.size from World.block_lt_of_cell? w ⟨b, 0, none⟩ hc)).trans h
theorem rowI_below {W W' : World} {base n : Nat} {e : TypeId} {v : Value} {xs : List Value} (h : W.ownsRow base e 1 v n xs) (hb : Below W.heap.size W W') : W'.ownsRow base e 1 v n xs := by
  refine ⟨h.1, h.2.imp id ?_⟩
  rintro ⟨g, cap, cur, e, hb', hg, rest⟩
  exact ⟨g, cap, cur, e, hb', (hb.block g (Array.getElem?_eq_some_iff.1 hg).1).trans hg, rest⟩
theorem SX.subG {w0 w : World} {N M : List (Value × Nat)} {F G : List (Value × Nat × Nat)} {C : List (Nat × Nat × Value)} (h : SX w0 w N M F G C) (F' : List (Value × Nat × Nat)) (C' : List (Nat × Nat × Value)) (h1 : ∀ p ∈ F', p ∈ F) (h2 : ∀ p ∈ C', p ∈ C) : SX w0 w N M F' G C' :=
  ⟨h.nats, h.rnats, fun p hp => h.frs p (h1 p hp), h.rfrs, fun p hp => h.cells p (h2 p hp), h.bel⟩
theorem run_store_floatG {P : Program} {w : World} {a : Addr} {m : Mode} (k : FloatKind) (n : Nat) : (store a (.float k n) m).run P w = stored P w a (.float k n) m := run_store P w a _ m rfl
theorem box_put {w : World} {g : Nat} {a a' : Option Addr} {n c n' c' : Nat} {u1 u2 : Value} (h0 : w.cell? ⟨g, 0, none⟩ = some u1) (h1 : w.cell? ⟨g, 1, none⟩ = some u2) : ((w.setCell ⟨g, 0, none⟩ (.slice a n c)).setCell ⟨g, 1, none⟩ (.slice a' n' c')).cell? ⟨g, 0, none⟩ = some (.slice a n c) ∧ ((w.setCell ⟨g, 0, none⟩ (.slice a n c)).setCell ⟨g, 1, none⟩ (.slice a' n' c')).cell? ⟨g, 1, none⟩ = some (.slice a' n' c') := by
  have hd : (w.setCell ⟨g, 0, none⟩ (.slice a n c)).cell? ⟨g, 1, none⟩ = some u2 := by rw [World.cell?_setCell_other (h := by simp), h1]
  constructor
  · rw [World.cell?_setCell_other (h := by simp)]
    simp [go_sem, h0]
  simp [go_sem, hd]
theorem SX.putG {w0 w : World} {N M : List (Value × Nat)} {F G : List (Value × Nat × Nat)} {C : List (Nat × Nat × Value)} (h : SX w0 w N M F G C) {b : Nat} {a a' r r' : Option Addr} {n c n' c' k j k' j' p q : Nat} (c0 : w.cell? ⟨b, 0, none⟩ = some (.slice r k j)) (c1 : w.cell? ⟨b, 1, none⟩ = some (.slice r' k' j')) (hlo : w0.heap.size ≤ b) (hv : Rt w (.agg #[.slice a n c, .slice a' n' c']) p q) (C' : List (Nat × Nat × Value)) (hC : ∀ p ∈ C', p ∈ C ∧ p.1 ≠ b) :
    SX w0 ((w.setCell ⟨b, 0, none⟩ (.slice a n c)).setCell ⟨b, 1, none⟩ (.slice a' n' c')) N M ((.agg #[.slice a n c, .slice a' n' c'], p, q) :: F) G ((b, 0, .slice a n c) :: (b, 1, .slice a' n' c') :: C') := by
  have hd : (w.setCell ⟨b, 0, none⟩ (.slice a n c)).cell? ⟨b, 1, none⟩ = some (.slice r' k' j') := by rw [World.cell?_setCell_other (h := by simp), c1]
  have h1 := (h.addF hv).set c0 hlo C' hC (.slice a n c)
  have h2 := h1.set hd hlo C' (fun p hp => ⟨hp, (hC p hp).2⟩) (.slice a' n' c')
  obtain ⟨g0, g1⟩ := box_put (a := a) (n := n) (c := c) (a' := a') (n' := n') (c' := c') c0 c1
  exact (h2.addC g1).addC g0
set_option maxHeartbeats 16000000 in
theorem gtell_any (Res : Nat → Nat → Bool → Prop) (hRes : ∀ x y ok, Res x y ok → RS x ∧ RS y) (g mb : Nat) (L : List Nat) (B : Nat) (z : Int) (sh : Value) (w : World) (h : Gau w g mb L B) (hT : Tab w) (hz : z ≤ 9223372036854775807) (HJ : ∀ w', Below w.heap.size w w' → Calls Tryz.prog 13 #[sh] w' fun e w9 => ∃ x y ok, Res x y ok ∧ MakesRB w' x y ok e w9) :
    Calls Tryz.prog 19 #[.pointer (some ⟨g, 0, none⟩), .int .i64 z, sh] w fun e w' => ∃ (ss : List Int) (k1 k2 k3 x y : Nat) (ok : Bool), KeysG L ss ∧ (qfG (cntL L) ss (plG L.length 1 1)).1 = (k1 : Int) ∧ (qfG (cntL L) ss (plG L.length 1 2)).1 = (k2 : Int) ∧ (qfG (cntL L) ss (plG L.length 99 100)).1 = (k3 : Int) ∧ Res x y ok ∧ e = .returned (telV L B z k1 k2 k3 (if ok = true then x else 1) (if ok = true then y else 1)) ∧ Below w.heap.size w w' := by
  obtain ⟨w0, hw0⟩ : ∃ w0, w0 = w.alloc (.cells #[.float .f64 0, .float .f64 0, .float .f64 0, .float .f64 0, .float .f64 0, .float .f64 0] 64) := ⟨_, rfl⟩
  obtain ⟨b6, hb6⟩ : ∃ b6, b6 = w.heap.size := ⟨_, rfl⟩
  have B0 : Below w.heap.size w w0 := by rw [hw0]; exact bel_al (bel_refl w)
  have e0 : w0.cell? ⟨b6, 0, none⟩ = some (.float .f64 0) := by rw [hw0, hb6]; simp [go_sem]
  have e1 : w0.cell? ⟨b6, 1, none⟩ = some (.float .f64 0) := by rw [hw0, hb6]; simp [go_sem]
  have e2 : w0.cell? ⟨b6, 2, none⟩ = some (.float .f64 0) := by rw [hw0, hb6]; simp [go_sem]
  have e3 : w0.cell? ⟨b6, 3, none⟩ = some (.float .f64 0) := by rw [hw0, hb6]; simp [go_sem]
  have e4 : w0.cell? ⟨b6, 4, none⟩ = some (.float .f64 0) := by rw [hw0, hb6]; simp [go_sem]
  have e5 : w0.cell? ⟨b6, 5, none⟩ = some (.float .f64 0) := by rw [hw0, hb6]; simp [go_sem]
  have F6 : Hid (∀ i, w0.frozen? ⟨b6, i, none⟩ = false) := fun i => by rw [hw0, hb6]; simp [go_sem]
  have S0 : Hid (SX w w0 [] [] [] [] [(b6, 0, .float .f64 0), (b6, 1, .float .f64 0), (b6, 2, .float .f64 0), (b6, 3, .float .f64 0), (b6, 4, .float .f64 0), (b6, 5, .float .f64 0)]) := by
    refine ⟨(fun _ h => by cases h), (fun _ h => by cases h), (fun _ h => by cases h), (fun _ h => by cases h), fun p hp => ?_, B0⟩
    simp only [List.mem_cons, List.not_mem_nil, or_false] at hp
    rcases hp with rfl | rfl | rfl | rfl | rfl | rfl
    · exact e0
    · exact e1
    · exact e2
    · exact e3
    · exact e4
    exact e5
  have GA : Hid (Gau w g mb L B ∧ Tab w ∧ z ≤ 9223372036854775807 ∧ w.heap.size ≤ b6 ∧ B ≤ 9223372036854775807) := ⟨h, hT, hz, by omega, by have := h.byt; have := h.few; omega⟩
  have JC : Hid (∀ w', Below w.heap.size w w' → Calls Tryz.prog 13 #[sh] w' fun e w9 => ∃ x y ok, Res x y ok ∧ MakesRB w' x y ok e w9) := HJ
  have HRS : Hid (∀ x y ok, Res x y ok → RS x ∧ RS y) := hRes
  clear h hT hz HJ hRes e0 e1 e2 e3 e4 e5 B0
  go_enter Tryz.func19, Tryz.ntmps19
  go_upto_region 1 with fail
  rw [← hw0, ← hb6]
  clear hw0 hb6
  go_upto_region 2 with (go_at_call 48; refine Calls.mono (ranked_any g mb L B _ (GA.out.1.go S0.out.bel)) ?_; rintro e w1 ⟨v1, ss, rfl, hk, hrow, hb1⟩)
  have HK : Hid (KeysG L ss) := hk
  have S1 : Hid _ := S0.out.go hb1
  have F1 : Hid (∀ i, i < 6 → w1.frozen? ⟨b6, i, none⟩ = false) := fun i hi => frz_go hb1 (S0.out.cel b6 0 (.float .f64 0)) (F6.out i)
  have HRW : Hid (w1.ownsRow w0.heap.size 3 1 v1 ss.length (ss.map encZ)) := hrow
  clear hk hrow hb1 S0 F6
  have CME : Hid (Calls Tryz.prog 28 #[.pointer (some ⟨g, 0, none⟩)] w1 (MakesRB w1 (mnP L) (mnQ L) (decide (0 < L.length)))) := gmean_any g mb L B w1 (GA.out.1.go S1.out.bel) (GA.out.2.1.go S1.out.bel)
  obtain ⟨okm, hokm⟩ : ∃ okm, okm = decide (0 < L.length) := ⟨_, rfl⟩
  rw [← hokm] at CME
  clear hokm
  go_upto_region 3 with (go_at_call 28; refine Calls.mono CME.out ?_; rintro e w2 ⟨v2, rfl, hv2, hb2⟩; obtain ⟨p1, n1, c1, p2, n2, c2, rfl⟩ := rt_slices hv2)
  have bl2 := bel_al (o := .cells #[.slice p1 n1 c1, .slice p2 n2 c2] 47) (bel_refl w2)
  have S2 : Hid _ := ((S1.out.go hb2).addF hv2).box (.slice p1 n1 c1) (.slice p2 n2 c2) 47 _ rfl
  obtain ⟨w3, hw3⟩ : ∃ w3, w3 = w2.alloc (.cells #[.slice p1 n1 c1, .slice p2 n2 c2] 47) := ⟨_, rfl⟩
  obtain ⟨b8, hb8⟩ : ∃ b8, b8 = w2.heap.size := ⟨_, rfl⟩
  rw [← hw3, ← hb8] at S2
  rw [← hw3] at bl2
  have hb13 := bel_go hb2 bl2
  have F3 : Hid (∀ i, i < 6 → w3.frozen? ⟨b6, i, none⟩ = false) := fun i hi => frz_go hb13 (S1.out.cel b6 0 (.float .f64 0)) (F1.out i hi)
  have HRW3 : Hid (w3.ownsRow w0.heap.size 3 1 v1 ss.length (ss.map encZ)) := rowI_below HRW.out hb13
  rw [← hw3, ← hb8]
  clear hw3 hb8 bl2 hb2 hv2 hb13 S1 F1 HRW CME
  have G3 : Hid (Gau w3 g mb L B) := GA.out.1.go S2.out.bel
  obtain ⟨k1, hk1, hl1⟩ := qfG_nat GA.out.1 HK.out (plG L.length 1 1)
  obtain ⟨k2, hk2, hl2⟩ := qfG_nat GA.out.1 HK.out (plG L.length 1 2)
  obtain ⟨k3, hk3, hl3⟩ := qfG_nat GA.out.1 HK.out (plG L.length 99 100)
  obtain ⟨z1, hz1⟩ : ∃ z1, z1 = (qfG (cntL L) ss (plG L.length 1 1)).2 := ⟨_, rfl⟩
  obtain ⟨z2, hz2⟩ : ∃ z2, z2 = (qfG (cntL L) ss (plG L.length 1 2)).2 := ⟨_, rfl⟩
  obtain ⟨z3, hz3⟩ : ∃ z3, z3 = (qfG (cntL L) ss (plG L.length 99 100)).2 := ⟨_, rfl⟩
  have CQ1 : Hid (Calls Tryz.prog 47 #[.pointer (some ⟨g, 0, none⟩), v1, .int .i64 1, .int .i64 1] w3 fun e w' => e = .returned (.tuple #[.int .i64 (k1 : Int), .bool z1]) ∧ w' = w3) := by
    rw [hz1, ← hk1]; exact quantile_any g mb L B v1 ss _ 1 1 w3 G3.out HK.out HRW3.out (by omega) (by omega) (by omega) (by omega)
  have CQ2 : Hid (Calls Tryz.prog 47 #[.pointer (some ⟨g, 0, none⟩), v1, .int .i64 1, .int .i64 2] w3 fun e w' => e = .returned (.tuple #[.int .i64 (k2 : Int), .bool z2]) ∧ w' = w3) := by
    rw [hz2, ← hk2]; exact quantile_any g mb L B v1 ss _ 1 2 w3 G3.out HK.out HRW3.out (by omega) (by omega) (by omega) (by omega)
  have CQ3 : Hid (Calls Tryz.prog 47 #[.pointer (some ⟨g, 0, none⟩), v1, .int .i64 99, .int .i64 100] w3 fun e w' => e = .returned (.tuple #[.int .i64 (k3 : Int), .bool z3]) ∧ w' = w3) := by
    rw [hz3, ← hk3]; exact quantile_any g mb L B v1 ss _ 99 100 w3 G3.out HK.out HRW3.out (by omega) (by omega) (by omega) (by omega)
  have KK : Hid (k1 ≤ 9223372036854775807 ∧ k2 ≤ 9223372036854775807 ∧ k3 ≤ 9223372036854775807 ∧ (qfG (cntL L) ss (plG L.length 1 1)).1 = (k1 : Int) ∧ (qfG (cntL L) ss (plG L.length 1 2)).1 = (k2 : Int) ∧ (qfG (cntL L) ss (plG L.length 99 100)).1 = (k3 : Int)) := ⟨hl1, hl2, hl3, hk1, hk2, hk3⟩
  clear hk1 hk2 hk3 hl1 hl2 hl3 hz1 hz2 hz3
  obtain ⟨hs1, hs2, hs3⟩ := sh_of B z GA.out.2.2.2.2 GA.out.2.2.1
  obtain ⟨oks, cO⟩ := hs3 w3 (GA.out.2.1.go S2.out.bel)
  have CO : Hid (Calls Tryz.prog 20 #[.int .i64 (B : Int), .int .i64 z] w3 (MakesRB w3 (shP B z) (shQ B z) oks)) := cO
  have HS : Hid (RS (shP B z) ∧ RS (shQ B z) ∧ RS (mnP L) ∧ RS (mnQ L)) := ⟨hs1, hs2, (mn_rs GA.out.1).1, (mn_rs GA.out.1).2⟩
  clear hs1 hs2 hs3 cO
  have c1g : w3.cell? ⟨g, 1, none⟩ = some (.int .i64 (B : Int)) := by
    obtain ⟨a, n, c, hr, _⟩ := G3.out.row
    exact hr.cell (i := 1) (by omega)
  go_upto_region 7 with (first
    | (go_at_call 47; with_reducible refine Calls.mono CQ1.out ?_; rintro e wq ⟨rfl, rfl⟩)
    | (go_at_call 47; with_reducible refine Calls.mono CQ2.out ?_; rintro e wq ⟨rfl, rfl⟩)
    | (go_at_call 47; with_reducible refine Calls.mono CQ3.out ?_; rintro e wq ⟨rfl, rfl⟩)
    | (go_at_call 20; refine Calls.mono CO.out ?_; rintro e w4 ⟨v4, rfl, hv4, hb4⟩; obtain ⟨p3, n3, c3, p4, n4, c4, rfl⟩ := rt_slices hv4))
  have bl4 := bel_al (o := .cells #[.slice p3 n3 c3, .slice p4 n4 c4] 47) (bel_refl w4)
  have S4 : Hid _ := ((S2.out.go hb4).addF hv4).box (.slice p3 n3 c3) (.slice p4 n4 c4) 47 _ rfl
  obtain ⟨w5, hw5⟩ : ∃ w5, w5 = w4.alloc (.cells #[.slice p3 n3 c3, .slice p4 n4 c4] 47) := ⟨_, rfl⟩
  obtain ⟨b16, hb16⟩ : ∃ b16, b16 = w4.heap.size := ⟨_, rfl⟩
  rw [← hw5, ← hb16] at S4
  rw [← hw5] at bl4
  have F5 : Hid (∀ i, i < 6 → w5.frozen? ⟨b6, i, none⟩ = false) := fun i hi => frz_go (bel_go hb4 bl4) (S2.out.cel b6 0 (.float .f64 0)) (F3.out i hi)
  rw [← hw5, ← hb16]
  clear hw5 hb16 bl4 hb4 hv4 S2 F3 HRW3 CQ1 CQ2 CQ3 CO G3 c1g
  have CJ : Hid (Calls Tryz.prog 13 #[sh] w5 fun e w9 => ∃ x y ok, Res x y ok ∧ MakesRB w5 x y ok e w9) := JC.out w5 S4.out.bel
  go_upto_region 8 with (go_at_call 13; (with_reducible refine Calls.mono CJ.out ?_); rintro e w6 ⟨x, y, ok, hres, v6, rfl, hv6, hb6'⟩; obtain ⟨p5, n5, c5, p6, n6, c6, rfl⟩ := rt_slices hv6)
  have bl6 := bel_al (o := .cells #[.slice p5 n5 c5, .slice p6 n6 c6] 47) (bel_refl w6)
  have S6 : Hid _ := ((S4.out.go hb6').addF hv6).box (.slice p5 n5 c5) (.slice p6 n6 c6) 47 _ rfl
  obtain ⟨w7, hw7⟩ : ∃ w7, w7 = w6.alloc (.cells #[.slice p5 n5 c5, .slice p6 n6 c6] 47) := ⟨_, rfl⟩
  obtain ⟨b18, hb18⟩ : ∃ b18, b18 = w6.heap.size := ⟨_, rfl⟩
  have HLT : Hid (b6 < b18 ∧ b8 < b18 ∧ b16 < b18 ∧ w.heap.size ≤ b18) := by
    have S5 := S4.out.go hb6'
    exact ⟨by rw [hb18]; exact World.block_lt_of_cell? _ ⟨b6, 0, none⟩ (S5.cel b6 0 (.float .f64 0)), by rw [hb18]; exact World.block_lt_of_cell? _ ⟨b8, 0, none⟩ (S5.cel b8 0 (.slice p1 n1 c1)), by rw [hb18]; exact World.block_lt_of_cell? _ ⟨b16, 0, none⟩ (S5.cel b16 0 (.slice p3 n3 c3)), by rw [hb18]; exact S5.bel.size⟩
  have fz0 : w7.frozen? ⟨b18, 0, none⟩ = false := by rw [hw7, hb18]; simp [go_sem]
  have fz1 : w7.frozen? ⟨b18, 1, none⟩ = false := by rw [hw7, hb18]; simp [go_sem]
  rw [← hw7, ← hb18] at S6
  rw [← hw7] at bl6
  have F7 : Hid (∀ i, i < 6 → w7.frozen? ⟨b6, i, none⟩ = false) := fun i hi => frz_go (bel_go hb6' bl6) (S4.out.cel b6 0 (.float .f64 0)) (F5.out i hi)
  rw [← hw7, ← hb18]
  have HRES : Hid (Res x y ok) := hres
  clear hw7 hb18 bl6 hb6' hv6 S4 F5 CJ JC hres
  have y0 := S6.out.cel b18 0 (.slice p5 n5 c5)
  have y1 := S6.out.cel b18 1 (.slice p6 n6 c6)
  have CW : Hid (Calls Tryz.prog 49 #[.int .i64 1] w7 (MakesR w7 1 1)) := gwhole_any 1 w7 (by omega) (GA.out.2.1.go S6.out.bel)
  go_upto_if 61 with fail
  go_cut [18] from 62 to 62 (fun s18 wx => s18 = .pointer (some ⟨b18, 0, none⟩) ∧ ∃ (p5 : Option Addr) (n5 c5 : Nat) (p6 : Option Addr) (n6 c6 : Nat), Hid (SX w wx [] [] [(.agg #[.slice p5 n5 c5, .slice p6 n6 c6], if ok = true then x else 1, if ok = true then y else 1), (.agg #[.slice p3 n3 c3, .slice p4 n4 c4], shP B z, shQ B z), (.agg #[.slice p1 n1 c1, .slice p2 n2 c2], mnP L, mnQ L)] [] [(b18, 0, .slice p5 n5 c5), (b18, 1, .slice p6 n6 c6), (b16, 0, .slice p3 n3 c3), (b16, 1, .slice p4 n4 c4), (b8, 0, .slice p1 n1 c1), (b8, 1, .slice p2 n2 c2), (b6, 0, .float .f64 0), (b6, 1, .float .f64 0), (b6, 2, .float .f64 0), (b6, 3, .float .f64 0), (b6, 4, .float .f64 0), (b6, 5, .float .f64 0)] ∧ ∀ i, i < 6 → wx.frozen? ⟨b6, i, none⟩ = false))
  case first =>
    cases ok with
    | true =>
      go_wp2_with fail
      go_meet
      exact ⟨rfl, p5, n5, c5, p6, n6, c6, S6.out.subG _ _ (by simp) (by simp), F7.out⟩
    | false =>
      go_wp2_with fail
      with_reducible refine Calls.mono CW.out ?_
      rintro e w8 ⟨v8, rfl, hv8, hb8⟩
      obtain ⟨p7, n7, c7, p8, n8, c8, rfl⟩ := rt_slices hv8
      have S8 : Hid _ := S6.out.go hb8
      have x0 := S8.out.cel b18 0 (.slice p5 n5 c5)
      have x1 := S8.out.cel b18 1 (.slice p6 n6 c6)
      have gz0 := frz_go hb8 y0 fz0
      have gz1 := frz_go hb8 y0 fz1
      have F8 : Hid (∀ i, i < 6 → w8.frozen? ⟨b6, i, none⟩ = false) := fun i hi => frz_go hb8 (S6.out.cel b6 0 (.float .f64 0)) (F7.out i hi)
      have S9 : Hid _ := S8.out.putG x0 x1 HLT.out.2.2.2 hv8 [(b16, 0, .slice p3 n3 c3), (b16, 1, .slice p4 n4 c4), (b8, 0, .slice p1 n1 c1), (b8, 1, .slice p2 n2 c2), (b6, 0, .float .f64 0), (b6, 1, .float .f64 0), (b6, 2, .float .f64 0), (b6, 3, .float .f64 0), (b6, 4, .float .f64 0), (b6, 5, .float .f64 0)] (by have := HLT.out; simp; omega)
      clear hv8 hb8 S6 F7 CW
      go_wp2_with fail
      go_meet
      exact ⟨rfl, p7, n7, c7, p8, n8, c8, S9.out.subG _ _ (by simp) (by simp), fun i hi => by simpa [World.frozen?_setCell] using F8.out i hi⟩
  case rest =>
    obtain ⟨rfl, p5, n5, c5, p6, n6, c6, hcu⟩ := hcut
    have SC : Hid _ := hcu.out.1
    have FC : Hid (∀ i, i < 6 → wc.frozen? ⟨b6, i, none⟩ = false) := hcu.out.2
    clear hcu y0 y1 fz0 fz1 S6 F7 CW
    obtain ⟨xf, hxf⟩ : ∃ xf, xf = if ok = true then x else 1 := ⟨_, rfl⟩
    obtain ⟨yf, hyf⟩ : ∃ yf, yf = if ok = true then y else 1 := ⟨_, rfl⟩
    obtain ⟨um, hum⟩ : ∃ um, um = mnP L := ⟨_, rfl⟩
    obtain ⟨uq, huq⟩ : ∃ uq, uq = mnQ L := ⟨_, rfl⟩
    obtain ⟨us, hus⟩ : ∃ us, us = shP B z := ⟨_, rfl⟩
    obtain ⟨ut, hut⟩ : ∃ ut, ut = shQ B z := ⟨_, rfl⟩
    rw [← hxf, ← hyf, ← hum, ← huq, ← hus, ← hut] at SC
    rw [← hum, ← huq, ← hus, ← hut] at HS
    have HXY : Hid (RS xf ∧ RS yf) := by
      rw [hxf, hyf]
      obtain ⟨r1, r2⟩ := HRS.out x y ok HRES.out
      cases ok with
      | true => exact ⟨r1, r2⟩
      | false => exact ⟨rs_few (by simp), rs_few (by simp)⟩
    have HE : Hid ((if ok = true then x else 1) = xf ∧ (if ok = true then y else 1) = yf ∧ mnP L = um ∧ mnQ L = uq ∧ shP B z = us ∧ shQ B z = ut) := ⟨hxf.symm, hyf.symm, hum.symm, huq.symm, hus.symm, hut.symm⟩
    clear hxf hyf HRS hum huq hus hut
    have R1 : Hid (RS 1) := rs_few (by omega)
    have RK : Hid (RS k1 ∧ RS k2 ∧ RS k3) := ⟨rs_word (by have := KK.out.1; omega), rs_word (by have := KK.out.2.1; omega), rs_word (by have := KK.out.2.2.1; omega)⟩
    have e0 := SC.out.cel b6 0 (.float .f64 0)
    have f0 := FC.out 0 (by omega)
    have e1 := SC.out.cel b6 1 (.float .f64 0)
    have f1 := FC.out 1 (by omega)
    have e2 := SC.out.cel b6 2 (.float .f64 0)
    have f2 := FC.out 2 (by omega)
    have e3 := SC.out.cel b6 3 (.float .f64 0)
    have f3 := FC.out 3 (by omega)
    have e4 := SC.out.cel b6 4 (.float .f64 0)
    have f4 := FC.out 4 (by omega)
    have e5 := SC.out.cel b6 5 (.float .f64 0)
    have f5 := FC.out 5 (by omega)
    go_wp2_with fail
    refine wp_region_inv (JD wc [sRt (um) (uq), sEq (.float .f64 (tfV (um) (uq))), sEq (.int .i64 (k1 : Int)), sRt (k1) (1), sEq (.float .f64 (tfV (k1) (1))), sEq (.int .i64 (k2 : Int)), sRt (k2) (1), sEq (.float .f64 (tfV (k2) (1))), sEq (.int .i64 (k3 : Int)), sRt (k3) (1), sEq (.float .f64 (tfV (k3) (1))), sRt (us) (ut), sEq (.float .f64 (tfV (us) (ut))), sRt (xf) (yf), sEq (.float .f64 (tfV (xf) (yf))), sEq (.agg #[(.float .f64 (tfV (um) (uq))), (.float .f64 (tfV (k1) (1))), (.float .f64 (tfV (k2) (1))), (.float .f64 (tfV (k3) (1))), (.float .f64 (tfV (us) (ut))), (.float .f64 (tfV (xf) (yf)))]), sAny] [[], [0], [], [2], [3], [], [5], [6], [], [8], [9], [], [11], [], [13], [1, 4, 7, 10, 12, 14], [15]] 16 15 [0, 1, 2, 3, 4, 5, 6, 7, 8, 9, 10, 11, 12, 13, 14, 15] (Sto6 (b6))) 79 (by kernel_rfl) rfl (by kernel_rfl) (JD.start _ _ _ _ _ _ _) (fun HG HN => ⟨?_, ?_, ?_, ?_, ?_, ?_, ?_, ?_, ?_, ?_, ?_, ?_, ?_, ?_, ?_, ?_, ?_, trivial⟩) ?_
    · intro L vs a w' hJ hF hP hL
      have hK := hJ
      have hJ := hK.open hL (by decide)
      have q8 : (a.tmps[8]?).getD undef = .pointer (some ⟨b8, 0, none⟩) := hF.old 8 rfl
      have cb := cell_later hJ.bel (SC.out.cel (b8) 0 (.slice p1 n1 c1))
      have cc := cell_later hJ.bel (SC.out.cel (b8) 1 (.slice p2 n2 c2))
      exact run_val (v := .agg #[.slice p1 n1 c1, .slice p2 n2 c2]) rfl (by simp [execOp, go_sem, q8, cb, cc]) ⟨_, rfl, hK.step hL (by decide) (by decide) rfl (nd_nil) <| hJ.step hL rfl (Below.refl _ _) (by exact ((SC.out.fr (.agg #[.slice p1 n1 c1, .slice p2 n2 c2]) (um) (uq)).mono hJ.bel))⟩
    · intro L vs a w' hJ hF hP hL
      have hK := hJ
      have hJ := hK.open hL (by decide)
      have p0 : L 0 = true := hP ⟨0, .data⟩ (by simp) rfl
      have s0 : Rt w' (vs 0) (um) (uq) := hJ.sp 0 p0
      have q63 := hF.slot 0 63 rfl p0
      refine run_call (f := 50) (args := #[vs 0]) rfl (by simp [go_sem, q63]) (near_any _ (um) (uq) _ s0 HS.out.2.2.1 HS.out.2.2.2) ?_
      rintro e w2 ⟨rfl, hb⟩
      exact ⟨_, rfl, _, rfl, hK.step hL (by decide) (by decide) rfl (nd_cons p0 (nd_nil)) <| hJ.step hL rfl hb (by exact rfl)⟩
    · intro L vs a w' hJ hF hP hL
      have hK := hJ
      have hJ := hK.open hL (by decide)
      have q10 : (a.tmps[10]?).getD undef = .int .i64 (k1 : Int) := hF.old 10 rfl
      exact run_val (v := .int .i64 (k1 : Int)) rfl (by simp [execOp, go_sem, q10]) ⟨_, rfl, hK.step hL (by decide) (by decide) rfl (nd_nil) <| hJ.step hL rfl (Below.refl _ _) (by exact rfl)⟩
    · intro L vs a w' hJ hF hP hL
      have hK := hJ
      have hJ := hK.open hL (by decide)
      have p2 : L 2 = true := hP ⟨2, .data⟩ (by simp) rfl
      have s2 : vs 2 = .int .i64 (k1 : Int) := hJ.sp 2 p2
      have q65 := hF.slot 2 65 rfl p2
      refine run_call (f := 49) (args := #[.int .i64 (k1 : Int)]) rfl (by simp [go_sem, q65, s2]) (gwhole_any k1 _ KK.out.1 (GA.out.2.1.go (bel_go SC.out.bel hJ.bel))) ?_
      rintro e w2 ⟨v, rfl, hv, hb⟩
      exact ⟨_, rfl, _, rfl, hK.step hL (by decide) (by decide) rfl (nd_cons p2 (nd_nil)) <| hJ.step hL rfl hb (by exact hv)⟩
    · intro L vs a w' hJ hF hP hL
      have hK := hJ
      have hJ := hK.open hL (by decide)
      have p3 : L 3 = true := hP ⟨3, .data⟩ (by simp) rfl
      have s3 : Rt w' (vs 3) (k1) (1) := hJ.sp 3 p3
      have q66 := hF.slot 3 66 rfl p3
      refine run_call (f := 50) (args := #[vs 3]) rfl (by simp [go_sem, q66]) (near_any _ (k1) (1) _ s3 RK.out.1 R1.out) ?_
      rintro e w2 ⟨rfl, hb⟩
      exact ⟨_, rfl, _, rfl, hK.step hL (by decide) (by decide) rfl (nd_cons p3 (nd_nil)) <| hJ.step hL rfl hb (by exact rfl)⟩
    · intro L vs a w' hJ hF hP hL
      have hK := hJ
      have hJ := hK.open hL (by decide)
      have q12 : (a.tmps[12]?).getD undef = .int .i64 (k2 : Int) := hF.old 12 rfl
      exact run_val (v := .int .i64 (k2 : Int)) rfl (by simp [execOp, go_sem, q12]) ⟨_, rfl, hK.step hL (by decide) (by decide) rfl (nd_nil) <| hJ.step hL rfl (Below.refl _ _) (by exact rfl)⟩
    · intro L vs a w' hJ hF hP hL
      have hK := hJ
      have hJ := hK.open hL (by decide)
      have p5 : L 5 = true := hP ⟨5, .data⟩ (by simp) rfl
      have s5 : vs 5 = .int .i64 (k2 : Int) := hJ.sp 5 p5
      have q68 := hF.slot 5 68 rfl p5
      refine run_call (f := 49) (args := #[.int .i64 (k2 : Int)]) rfl (by simp [go_sem, q68, s5]) (gwhole_any k2 _ KK.out.2.1 (GA.out.2.1.go (bel_go SC.out.bel hJ.bel))) ?_
      rintro e w2 ⟨v, rfl, hv, hb⟩
      exact ⟨_, rfl, _, rfl, hK.step hL (by decide) (by decide) rfl (nd_cons p5 (nd_nil)) <| hJ.step hL rfl hb (by exact hv)⟩
    · intro L vs a w' hJ hF hP hL
      have hK := hJ
      have hJ := hK.open hL (by decide)
      have p6 : L 6 = true := hP ⟨6, .data⟩ (by simp) rfl
      have s6 : Rt w' (vs 6) (k2) (1) := hJ.sp 6 p6
      have q69 := hF.slot 6 69 rfl p6
      refine run_call (f := 50) (args := #[vs 6]) rfl (by simp [go_sem, q69]) (near_any _ (k2) (1) _ s6 RK.out.2.1 R1.out) ?_
      rintro e w2 ⟨rfl, hb⟩
      exact ⟨_, rfl, _, rfl, hK.step hL (by decide) (by decide) rfl (nd_cons p6 (nd_nil)) <| hJ.step hL rfl hb (by exact rfl)⟩
    · intro L vs a w' hJ hF hP hL
      have hK := hJ
      have hJ := hK.open hL (by decide)
      have q14 : (a.tmps[14]?).getD undef = .int .i64 (k3 : Int) := hF.old 14 rfl
      exact run_val (v := .int .i64 (k3 : Int)) rfl (by simp [execOp, go_sem, q14]) ⟨_, rfl, hK.step hL (by decide) (by decide) rfl (nd_nil) <| hJ.step hL rfl (Below.refl _ _) (by exact rfl)⟩
    · intro L vs a w' hJ hF hP hL
      have hK := hJ
      have hJ := hK.open hL (by decide)
      have p8 : L 8 = true := hP ⟨8, .data⟩ (by simp) rfl
      have s8 : vs 8 = .int .i64 (k3 : Int) := hJ.sp 8 p8
      have q71 := hF.slot 8 71 rfl p8
      refine run_call (f := 49) (args := #[.int .i64 (k3 : Int)]) rfl (by simp [go_sem, q71, s8]) (gwhole_any k3 _ KK.out.2.2.1 (GA.out.2.1.go (bel_go SC.out.bel hJ.bel))) ?_
      rintro e w2 ⟨v, rfl, hv, hb⟩
      exact ⟨_, rfl, _, rfl, hK.step hL (by decide) (by decide) rfl (nd_cons p8 (nd_nil)) <| hJ.step hL rfl hb (by exact hv)⟩
    · intro L vs a w' hJ hF hP hL
      have hK := hJ
      have hJ := hK.open hL (by decide)
      have p9 : L 9 = true := hP ⟨9, .data⟩ (by simp) rfl
      have s9 : Rt w' (vs 9) (k3) (1) := hJ.sp 9 p9
      have q72 := hF.slot 9 72 rfl p9
      refine run_call (f := 50) (args := #[vs 9]) rfl (by simp [go_sem, q72]) (near_any _ (k3) (1) _ s9 RK.out.2.2 R1.out) ?_
      rintro e w2 ⟨rfl, hb⟩
      exact ⟨_, rfl, _, rfl, hK.step hL (by decide) (by decide) rfl (nd_cons p9 (nd_nil)) <| hJ.step hL rfl hb (by exact rfl)⟩
    · intro L vs a w' hJ hF hP hL
      have hK := hJ
      have hJ := hK.open hL (by decide)
      have q16 : (a.tmps[16]?).getD undef = .pointer (some ⟨b16, 0, none⟩) := hF.old 16 rfl
      have cb := cell_later hJ.bel (SC.out.cel (b16) 0 (.slice p3 n3 c3))
      have cc := cell_later hJ.bel (SC.out.cel (b16) 1 (.slice p4 n4 c4))
      exact run_val (v := .agg #[.slice p3 n3 c3, .slice p4 n4 c4]) rfl (by simp [execOp, go_sem, q16, cb, cc]) ⟨_, rfl, hK.step hL (by decide) (by decide) rfl (nd_nil) <| hJ.step hL rfl (Below.refl _ _) (by exact ((SC.out.fr (.agg #[.slice p3 n3 c3, .slice p4 n4 c4]) (us) (ut)).mono hJ.bel))⟩
    · intro L vs a w' hJ hF hP hL
      have hK := hJ
      have hJ := hK.open hL (by decide)
      have p11 : L 11 = true := hP ⟨11, .data⟩ (by simp) rfl
      have s11 : Rt w' (vs 11) (us) (ut) := hJ.sp 11 p11
      have q74 := hF.slot 11 74 rfl p11
      refine run_call (f := 50) (args := #[vs 11]) rfl (by simp [go_sem, q74]) (near_any _ (us) (ut) _ s11 HS.out.1 HS.out.2.1) ?_
      rintro e w2 ⟨rfl, hb⟩
      exact ⟨_, rfl, _, rfl, hK.step hL (by decide) (by decide) rfl (nd_cons p11 (nd_nil)) <| hJ.step hL rfl hb (by exact rfl)⟩
    · intro L vs a w' hJ hF hP hL
      have hK := hJ
      have hJ := hK.open hL (by decide)
      have q18 : (a.tmps[18]?).getD undef = .pointer (some ⟨b18, 0, none⟩) := hF.old 18 rfl
      have cb := cell_later hJ.bel (SC.out.cel (b18) 0 (.slice p5 n5 c5))
      have cc := cell_later hJ.bel (SC.out.cel (b18) 1 (.slice p6 n6 c6))
      exact run_val (v := .agg #[.slice p5 n5 c5, .slice p6 n6 c6]) rfl (by simp [execOp, go_sem, q18, cb, cc]) ⟨_, rfl, hK.step hL (by decide) (by decide) rfl (nd_nil) <| hJ.step hL rfl (Below.refl _ _) (by exact ((SC.out.fr (.agg #[.slice p5 n5 c5, .slice p6 n6 c6]) (xf) (yf)).mono hJ.bel))⟩
    · intro L vs a w' hJ hF hP hL
      have hK := hJ
      have hJ := hK.open hL (by decide)
      have p13 : L 13 = true := hP ⟨13, .data⟩ (by simp) rfl
      have s13 : Rt w' (vs 13) (xf) (yf) := hJ.sp 13 p13
      have q76 := hF.slot 13 76 rfl p13
      refine run_call (f := 50) (args := #[vs 13]) rfl (by simp [go_sem, q76]) (near_any _ (xf) (yf) _ s13 HXY.out.1 HXY.out.2) ?_
      rintro e w2 ⟨rfl, hb⟩
      exact ⟨_, rfl, _, rfl, hK.step hL (by decide) (by decide) rfl (nd_cons p13 (nd_nil)) <| hJ.step hL rfl hb (by exact rfl)⟩
    · intro L vs a w' hJ hF hP hL
      have hK := hJ
      have hJ := hK.open hL (by decide)
      have p1 : L 1 = true := hP ⟨1, .data⟩ (by simp) rfl
      have s1 : vs 1 = .float .f64 (tfV (um) (uq)) := hJ.sp 1 p1
      have q64 := hF.slot 1 64 rfl p1
      have p4 : L 4 = true := hP ⟨4, .data⟩ (by simp) rfl
      have s4 : vs 4 = .float .f64 (tfV (k1) (1)) := hJ.sp 4 p4
      have q67 := hF.slot 4 67 rfl p4
      have p7 : L 7 = true := hP ⟨7, .data⟩ (by simp) rfl
      have s7 : vs 7 = .float .f64 (tfV (k2) (1)) := hJ.sp 7 p7
      have q70 := hF.slot 7 70 rfl p7
      have p10 : L 10 = true := hP ⟨10, .data⟩ (by simp) rfl
      have s10 : vs 10 = .float .f64 (tfV (k3) (1)) := hJ.sp 10 p10
      have q73 := hF.slot 10 73 rfl p10
      have p12 : L 12 = true := hP ⟨12, .data⟩ (by simp) rfl
      have s12 : vs 12 = .float .f64 (tfV (us) (ut)) := hJ.sp 12 p12
      have q75 := hF.slot 12 75 rfl p12
      have p14 : L 14 = true := hP ⟨14, .data⟩ (by simp) rfl
      have s14 : vs 14 = .float .f64 (tfV (xf) (yf)) := hJ.sp 14 p14
      have q77 := hF.slot 14 77 rfl p14
      exact run_val (v := .agg #[(.float .f64 (tfV (um) (uq))), (.float .f64 (tfV (k1) (1))), (.float .f64 (tfV (k2) (1))), (.float .f64 (tfV (k3) (1))), (.float .f64 (tfV (us) (ut))), (.float .f64 (tfV (xf) (yf)))]) rfl (by simp [execOp, go_sem, q64, s1, q67, s4, q70, s7, q73, s10, q75, s12, q77, s14]) ⟨_, rfl, hK.step hL (by decide) (by decide) rfl (nd_cons p1 (nd_cons p4 (nd_cons p7 (nd_cons p10 (nd_cons p12 (nd_cons p14 (nd_nil))))))) <| hJ.step hL rfl (Below.refl _ _) (by exact rfl)⟩
    · intro L vs a w' hJ hF hP hL
      have hK := hJ
      have hJ := hK.core hL
      have q6 : (a.tmps[6]?).getD undef = .pointer (some ⟨b6, 0, none⟩) := hF.old 6 rfl
      have p15 : L 15 = true := hP ⟨15, .data⟩ (by simp) rfl
      have s15 : vs 15 = .agg #[(.float .f64 (tfV (um) (uq))), (.float .f64 (tfV (k1) (1))), (.float .f64 (tfV (k2) (1))), (.float .f64 (tfV (k3) (1))), (.float .f64 (tfV (us) (ut))), (.float .f64 (tfV (xf) (yf)))] := hJ.sp 15 p15
      have q78 := hF.slot 15 78 rfl p15
      have p1 : L 1 = true := hK.cl 15 p15 1 (by simp)
      have p0 : L 0 = true := hK.cl 1 p1 0 (by simp)
      have p4 : L 4 = true := hK.cl 15 p15 4 (by simp)
      have p3 : L 3 = true := hK.cl 4 p4 3 (by simp)
      have p2 : L 2 = true := hK.cl 3 p3 2 (by simp)
      have p7 : L 7 = true := hK.cl 15 p15 7 (by simp)
      have p6 : L 6 = true := hK.cl 7 p7 6 (by simp)
      have p5 : L 5 = true := hK.cl 6 p6 5 (by simp)
      have p10 : L 10 = true := hK.cl 15 p15 10 (by simp)
      have p9 : L 9 = true := hK.cl 10 p10 9 (by simp)
      have p8 : L 8 = true := hK.cl 9 p9 8 (by simp)
      have p12 : L 12 = true := hK.cl 15 p15 12 (by simp)
      have p11 : L 11 = true := hK.cl 12 p12 11 (by simp)
      have p14 : L 14 = true := hK.cl 15 p15 14 (by simp)
      have p13 : L 13 = true := hK.cl 14 p14 13 (by simp)
      have x0 := cell_later hJ.bel e0
      have y0 := (hJ.bel.frozen (World.block_lt_of_cell? _ _ e0)).trans f0
      have x1 := cell_later hJ.bel e1
      have y1 := (hJ.bel.frozen (World.block_lt_of_cell? _ _ e1)).trans f1
      have x2 := cell_later hJ.bel e2
      have y2 := (hJ.bel.frozen (World.block_lt_of_cell? _ _ e2)).trans f2
      have x3 := cell_later hJ.bel e3
      have y3 := (hJ.bel.frozen (World.block_lt_of_cell? _ _ e3)).trans f3
      have x4 := cell_later hJ.bel e4
      have y4 := (hJ.bel.frozen (World.block_lt_of_cell? _ _ e4)).trans f4
      have x5 := cell_later hJ.bel e5
      have y5 := (hJ.bel.frozen (World.block_lt_of_cell? _ _ e5)).trans f5
      have e8 := s15
      exact run_unit (w' := ((((((w'.setCell ⟨b6, 0, none⟩ ((.float .f64 (tfV (um) (uq))))).setCell ⟨b6, 1, none⟩ ((.float .f64 (tfV (k1) (1))))).setCell ⟨b6, 2, none⟩ ((.float .f64 (tfV (k2) (1))))).setCell ⟨b6, 3, none⟩ ((.float .f64 (tfV (k3) (1))))).setCell ⟨b6, 4, none⟩ ((.float .f64 (tfV (us) (ut))))).setCell ⟨b6, 5, none⟩ ((.float .f64 (tfV (xf) (yf)))))) rfl (by simp [execOp, go_sem, run_store_floatG, q6, q78, s15, x0, y0, x1, y1, x2, y2, x3, y3, x4, y4, x5, y5]) ⟨undef, rfl, hK.put hL (by decide) rfl (nd_cons p15 (nd_nil)) (nd_cons p0 (nd_cons p1 (nd_cons p2 (nd_cons p3 (nd_cons p4 (nd_cons p5 (nd_cons p6 (nd_cons p7 (nd_cons p8 (nd_cons p9 (nd_cons p10 (nd_cons p11 (nd_cons p12 (nd_cons p13 (nd_cons p14 (nd_cons p15 (nd_nil))))))))))))))))) p15 ⟨_, _, _, _, _, _, e8, rfl⟩⟩
    intro L vs w' hA hK
    obtain ⟨_, w1, hb1, sv, u1, u2, u3, u4, u5, u6, ev, ew⟩ := hK.fin (hA 16 (by simp))
    replace sv : vs 15 = .agg #[(.float .f64 (tfV (um) (uq))), (.float .f64 (tfV (k1) (1))), (.float .f64 (tfV (k2) (1))), (.float .f64 (tfV (k3) (1))), (.float .f64 (tfV (us) (ut))), (.float .f64 (tfV (xf) (yf)))] := sv
    rw [sv] at ev
    obtain ⟨rfl, rfl, rfl, rfl, rfl, rfl⟩ : u1 = (.float .f64 (tfV um uq)) ∧ u2 = (.float .f64 (tfV k1 1)) ∧ u3 = (.float .f64 (tfV k2 1)) ∧ u4 = (.float .f64 (tfV k3 1)) ∧ u5 = (.float .f64 (tfV us ut)) ∧ u6 = (.float .f64 (tfV xf yf)) := by simpa [eq_comm] using ev
    have x0 := cell_later hb1 e0
    have x1 := cell_later hb1 e1
    have x2 := cell_later hb1 e2
    have x3 := cell_later hb1 e3
    have x4 := cell_later hb1 e4
    have x5 := cell_later hb1 e5
    have l0 : w'.cell? ⟨b6, 0, none⟩ = some (.float .f64 (tfV (um) (uq))) := by rw [ew]; simp [go_sem, x0]
    have l1 : w'.cell? ⟨b6, 1, none⟩ = some (.float .f64 (tfV (k1) (1))) := by rw [ew]; simp [go_sem, x1]
    have l2 : w'.cell? ⟨b6, 2, none⟩ = some (.float .f64 (tfV (k2) (1))) := by rw [ew]; simp [go_sem, x2]
    have l3 : w'.cell? ⟨b6, 3, none⟩ = some (.float .f64 (tfV (k3) (1))) := by rw [ew]; simp [go_sem, x3]
    have l4 : w'.cell? ⟨b6, 4, none⟩ = some (.float .f64 (tfV (us) (ut))) := by rw [ew]; simp [go_sem, x4]
    have l5 : w'.cell? ⟨b6, 5, none⟩ = some (.float .f64 (tfV (xf) (yf))) := by rw [ew]; simp [go_sem, x5]
    have ZB : Hid (Below w.heap.size w w') := by
      rw [ew]
      have hlo : w.heap.size ≤ b6 := GA.out.2.2.2.1
      exact ((((((bel_go SC.out.bel hb1).setCell (p := ⟨b6, 0, none⟩) hlo _).setCell (p := ⟨b6, 1, none⟩) hlo _).setCell (p := ⟨b6, 2, none⟩) hlo _).setCell (p := ⟨b6, 3, none⟩) hlo _).setCell (p := ⟨b6, 4, none⟩) hlo _).setCell (p := ⟨b6, 5, none⟩) hlo _
    clear ew x0 x1 x2 x3 x4 x5 ev hb1 hK hA SC FC sv e0 e1 e2 e3 e4 e5 f0 f1 f2 f3 f4 f5
    simp only [putL, Act.put, List.setIfInBounds_toArray, List.set_cons_zero, List.set_cons_succ, Nat.reduceAdd]
    go_wp2_with fail
    refine bodyPost_ret (v := .agg #[.float .f64 (tfV um uq), .float .f64 (tfV k1 1), .float .f64 (tfV k2 1), .float .f64 (tfV k3 1), .float .f64 (tfV us ut), .float .f64 (tfV xf yf)]) (by simp [results, Tryz.results19, go_sem, l0, l1, l2, l3, l4, l5]) rfl ⟨ss, k1, k2, k3, x, y, ok, HK.out, KK.out.2.2.2.1, KK.out.2.2.2.2.1, KK.out.2.2.2.2.2, HRES.out, ?_, ZB.out⟩
    unfold telV
    rw [HE.out.1, HE.out.2.1, HE.out.2.2.1, HE.out.2.2.2.1, HE.out.2.2.2.2.1, HE.out.2.2.2.2.2]
end Go.Proofs.YtfkkomppfghagaaGreatDoor
