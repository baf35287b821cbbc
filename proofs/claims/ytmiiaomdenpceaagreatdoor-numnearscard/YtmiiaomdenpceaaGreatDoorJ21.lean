/- Contracts of the program's functions, part 21: own work, joined in build order. -/
import Derived.Test.YtmiiaomdenpceaaGreatDoorJ20
import Derived.Handy
namespace Go.Proofs.YtmiiaomdenpceaaGreatDoor
open Go.RowKit
set_option maxRecDepth 100000
set_option linter.unusedVariables false
/-- The parts are runs of digits, and not too long. -/
structure GoodP (p : PtS) : Prop where
  w0 : 0 < p.whole.size
  dw : Digits p.whole p.whole.size
  dp : Digits p.places p.places.size
  db : Digits p.below p.below.size
  dx : Digits p.power p.power.size
  sz : p.whole.size + p.places.size ≤ 400
  sb : p.below.size ≤ 400
  sx : p.power.size ≤ 3
/-- The power of 10. -/
def pwI (p : PtS) : Int := (if p.minus then -((decVal p.power p.power.size : Nat) : Int) else ((decVal p.power p.power.size : Nat) : Int)) - (p.places.size : Int)
def numA (p : PtS) : Nat := decVal (p.whole ++ p.places) (p.whole ++ p.places).size
def vN (p : PtS) : Nat := if p.below.size = 0 then numA p * 10 ^ (pwI p).toNat else numA p
def vD (p : PtS) : Nat := if p.below.size = 0 then 10 ^ (-(pwI p)).toNat else decVal p.below p.below.size
theorem size_em {s : ByteArray} (h : s.size = 0) : s = ⟨#[]⟩ := by
  cases s with
  | mk d =>
    have : d.size = 0 := h
    rw [Array.eq_empty_of_size_eq_zero this]
theorem str_ne {s : ByteArray} (h : ¬ s.size = 0) : (s.toList == ([] : List UInt8)) = false := by
  refine beq_eq_false_iff_ne.2 fun h2 => h ?_
  rw [ByteArray.toList_eq] at h2
  cases s with
  | mk d =>
    simp at h2
    show d.size = 0
    rw [h2]
    rfl
theorem ten400 {x n : Nat} (h : x < 10 ^ n) (hn : n ≤ 400) : x < P 21 :=
  Nat.lt_trans (Nat.lt_of_lt_of_le h (Nat.pow_le_pow_right (by omega) hn)) (by decide +kernel : 10 ^ 400 < P 21)
theorem ten999 : 10 ^ 999 < P 60 := by decide +kernel
theorem GoodP.a {p : PtS} (h : GoodP p) : numA p < P 21 := by
  have h1 := decVal_lt (dig_app h.dw h.dp)
  exact ten400 h1 (by rw [ByteArray.size_append]; exact h.sz)
theorem GoodP.b {p : PtS} (h : GoodP p) : decVal p.below p.below.size < P 21 := ten400 (decVal_lt h.db) h.sb
theorem GoodP.pw {p : PtS} (h : GoodP p) : -1399 ≤ pwI p ∧ pwI p ≤ 999 := by
  have h1 := decVal_3 h.dx h.sx
  have h2 := h.sz
  unfold pwI
  split <;> omega
def PAgg (p : PtS) : Value := .agg #[.string p.whole, .string p.below, .string p.places, .string p.power, .bool p.minus]
def MakesV (w : World) (p : PtS) (e : Ending) (w' : World) : Prop := if vD p = 0 then MakesRB w 0 1 false e w' else MakesRB w (vN p / Nat.gcd (vN p) (vD p)) (vD p / Nat.gcd (vN p) (vD p)) true e w'
set_option maxHeartbeats 2000000 in
theorem value_below (p : PtS) (w : World) (hg : GoodP p) (hb0 : ¬ p.below.size = 0) (hT : Tab w) :
    Calls Tryz.prog 81 #[PAgg p] w (MakesV w p) := by
  obtain ⟨P1, P2, P3, P4, P5⟩ := p
  simp only at hb0
  unfold PAgg
  have HG : Hid _ := hg
  have c1 := cat_run P1 P3 (by have := hg.sz; simp only at this; omega)
  have q1 : P1.size + P3.size ≤ 9223372036854775807 := by have := hg.sz; simp only at this; omega
  have p1 : ∀ w : World, (Op.stringOp .add P1 P3).run Tryz.prog w = .ok (.string (P1 ++ P3)) w := fun w => run_string_add_sum w _ _ q1
  obtain ⟨X, hX⟩ : ∃ X, X = P1 ++ P3 := ⟨_, rfl⟩
  rw [← hX] at c1 p1
  have HX : Hid (X = P1 ++ P3) := hX
  obtain ⟨A, hA⟩ : ∃ A, A = decVal X X.size := ⟨_, rfl⟩
  have HP : Hid (0 < X.size ∧ X.size ≤ 400 ∧ Digits X X.size ∧ decVal X X.size = A) := ⟨by rw [hX, ByteArray.size_append]; have := hg.w0; simp only at this; omega, by rw [hX, ByteArray.size_append]; exact hg.sz, by rw [hX]; exact dig_app hg.dw hg.dp, hA.symm⟩
  have HA : Hid (numA ⟨P1, P2, P3, P4, P5⟩ = A ∧ A < P 21) := ⟨by show decVal (P1 ++ P3) (P1 ++ P3).size = A; rw [← hX]; exact hA.symm, by have := hg.a; rw [show numA ⟨P1, P2, P3, P4, P5⟩ = A by show decVal (P1 ++ P3) (P1 ++ P3).size = A; rw [← hX]; exact hA.symm] at this; exact this⟩
  obtain ⟨w0, hw0⟩ : ∃ w0, w0 = (w.alloc (.cells #[.string P1, .string P2, .string P3, .string P4, .bool P5] 117)).alloc (.cells #[.slice none 0 0, .slice none 0 0] 28) := ⟨_, rfl⟩
  have S0 : Hid _ := (((((((sy_start w).go (w' := w.alloc (.cells #[.string P1, .string P2, .string P3, .string P4, .bool P5] 117)) (bel_al (bel_refl _))).addC (b := w.heap.size) (i := 0) (v := .string P1) (by simp [go_sem])).addC (b := w.heap.size) (i := 1) (v := .string P2) (by simp [go_sem])).addC (b := w.heap.size) (i := 2) (v := .string P3) (by simp [go_sem])).addC (b := w.heap.size) (i := 3) (v := .string P4) (by simp [go_sem])).addC (b := w.heap.size) (i := 4) (v := .bool P5) (by simp [go_sem])).box (.slice none 0 0) (.slice none 0 0) 28 _ rfl
  simp only [World.size_alloc] at S0
  have HT : Hid (Tab w) := hT
  clear hg hX hA hT q1
  go_enter Tryz.func81, Tryz.ntmps81
  go_wp2_with fail
  rw [← hw0] at S0
  rw [← hw0]
  obtain ⟨b, hb⟩ : ∃ b, b = w.heap.size := ⟨_, rfl⟩
  rw [← hb] at S0
  rw [← hb]
  clear hw0 hb
  refine (parse_digits X A _ HP.out.1 HP.out.2.1 HP.out.2.2.1 HP.out.2.2.2).mono ?_
  rintro e w1 ⟨v1, rfl, hv1, hb1⟩
  obtain ⟨a1, n1, c1', rfl⟩ := hv1.isAgg
  have S1 : Hid _ := ((S0.out.go hb1).addN hv1).box1 (.slice a1 n1 c1') 26 _ rfl
  have LT1 : Hid (b + 1 < w1.heap.size) := (S0.out.go hb1).lt (b + 1)
  clear hv1 hb1 S0 HP
  have z1 := S1.out.cel b 1 (.string P2)
  have z2 := S1.out.cel b 2 (.string P3)
  have z3 := S1.out.cel b 3 (.string P4)
  have z4 := S1.out.cel b 4 (.bool P5)
  have ne := str_ne hb0
  obtain ⟨B, hB⟩ : ∃ B, B = decVal P2 P2.size := ⟨_, rfl⟩
  have HQ : Hid (0 < P2.size ∧ P2.size ≤ 400 ∧ Digits P2 P2.size ∧ decVal P2 P2.size = B ∧ B < P 21) := ⟨by omega, HG.out.sb, HG.out.db, hB.symm, by rw [hB]; exact HG.out.b⟩
  have HV : Hid (vN ⟨P1, P2, P3, P4, P5⟩ = A ∧ vD ⟨P1, P2, P3, P4, P5⟩ = B) := ⟨by unfold vN; rw [if_neg hb0]; exact HA.out.1, by unfold vD; rw [if_neg hb0]; exact hB.symm⟩
  clear hb0 hB
  go_wp2_with fail
  obtain ⟨g, hg⟩ : ∃ g, g = w1.heap.size := ⟨_, rfl⟩
  obtain ⟨w2, hw2⟩ : ∃ w2, w2 = w1.alloc (.cells #[.slice a1 n1 c1'] 26) := ⟨_, rfl⟩
  rw [← hw2, ← hg] at S1
  rw [← hw2, ← hg]
  clear hw2 hg z1 z2 z3 z4
  refine (parse_digits P2 B _ HQ.out.1 HQ.out.2.1 HQ.out.2.2.1 HQ.out.2.2.2.1).mono ?_
  rintro e w3 ⟨v3, rfl, hv3, hb3⟩
  obtain ⟨a3, n3, c3, rfl⟩ := hv3.isAgg
  have HGW : Hid (g < w3.heap.size) := (S1.out.go hb3).lt g
  have S2 : Hid _ := ((S1.out.go hb3).addN hv3).box1 (.slice a3 n3 c3) 26 _ rfl
  clear hv3 hb3 S1
  have y1 := S2.out.cel g 0 (.slice a1 n1 c1')
  go_wp2_with fail
  obtain ⟨w4, hw4⟩ : ∃ w4, w4 = w3.alloc (.cells #[.slice a3 n3 c3] 26) := ⟨_, rfl⟩
  rw [← hw4] at S2
  rw [← hw4]
  clear hw4 y1
  by_cases hz : B = 0
  · have hN := S2.out.at (.agg #[.slice a3 n3 c3]) B
    rw [hz] at hN
    refine (from_none _ _ A _ (S2.out.at (.agg #[.slice a1 n1 c1']) A) hN).mono ?_
    clear hN
    rintro e w5 ⟨v5, rfl, hv5, hb5⟩
    obtain ⟨a5, n5, c5, a6, n6, c6, ev, _, _⟩ := hv5.raw
    subst ev
    have S3 : Hid _ := (S2.out.go hb5).addF hv5
    clear hv5 hb5 S2
    have x0 := S3.out.cel (b + 1) 0 (.slice none 0 0)
    have x1 := S3.out.cel (b + 1) 1 (.slice none 0 0)
    have f0 := S3.out.fz (b + 1) 0
    have f1 := S3.out.fz (b + 1) 1
    have Z : Hid _ := rat_put (w0 := w) (v := .slice a5 n5 c5) (u := .slice a6 n6 c6) x0 x1 (S3.out.fr (.agg #[.slice a5 n5 c5, .slice a6 n6 c6]) 0 1) S3.out.bel (S3.out.lo (b + 1))
    have HZ : Hid (vD ⟨P1, P2, P3, P4, P5⟩ = 0) := by show _ = _; rw [HV.out.2]; exact hz
    clear hz
    go_wp2_with fail
    refine bodyPost_ret (v := .tuple #[.agg #[.slice a5 n5 c5, .slice a6 n6 c6], .bool false]) (by simp [results, Tryz.results81, go_sem, x0, x1]) rfl ?_
    unfold MakesV
    rw [if_pos HZ.out]
    exact ⟨_, rfl, Z.out.1, Z.out.2⟩
  · refine (from_any _ _ A B _ (S2.out.at (.agg #[.slice a1 n1 c1']) A) (S2.out.at (.agg #[.slice a3 n3 c3]) B) ⟨P_up HA.out.2 (by omega)⟩ ⟨P_up HQ.out.2.2.2.2 (by omega)⟩ (by omega) (HT.out.go S2.out.bel)).mono ?_
    rintro e w5 ⟨v5, rfl, hv5, hb5⟩
    obtain ⟨a5, n5, c5, a6, n6, c6, ev, _, _⟩ := hv5.raw
    subst ev
    have S3 : Hid _ := (S2.out.go hb5).addF hv5
    clear hv5 hb5 S2
    have x0 := S3.out.cel (b + 1) 0 (.slice none 0 0)
    have x1 := S3.out.cel (b + 1) 1 (.slice none 0 0)
    have f0 := S3.out.fz (b + 1) 0
    have f1 := S3.out.fz (b + 1) 1
    have Z : Hid _ := rat_put (w0 := w) (v := .slice a5 n5 c5) (u := .slice a6 n6 c6) x0 x1 (S3.out.fr (.agg #[.slice a5 n5 c5, .slice a6 n6 c6]) (A / Nat.gcd A B) (B / Nat.gcd A B)) S3.out.bel (S3.out.lo (b + 1))
    have HZ : Hid (¬ vD ⟨P1, P2, P3, P4, P5⟩ = 0) := fun h9 => hz (by rw [HV.out.2] at h9; exact h9)
    clear hz
    go_wp2_with fail
    refine bodyPost_ret (v := .tuple #[.agg #[.slice a5 n5 c5, .slice a6 n6 c6], .bool true]) (by simp [results, Tryz.results81, go_sem, x0, x1]) rfl ?_
    unfold MakesV
    rw [if_neg HZ.out, HV.out.1, HV.out.2]
    exact ⟨_, rfl, Z.out.1, Z.out.2⟩
set_option maxHeartbeats 4000000 in
theorem value_pow (p : PtS) (w : World) (hg : GoodP p) (hb0 : p.below.size = 0) (hT : Tab w) :
    Calls Tryz.prog 81 #[PAgg p] w (MakesV w p) := by
  obtain ⟨P1, P2, P3, P4, P5⟩ := p
  simp only at hb0
  obtain rfl : P2 = ⟨#[]⟩ := size_em hb0
  clear hb0
  unfold PAgg
  have HG : Hid _ := hg
  have c1 := cat_run P1 P3 (by have := hg.sz; simp only at this; omega)
  have q1 : P1.size + P3.size ≤ 9223372036854775807 := by have := hg.sz; simp only at this; omega
  have p1 : ∀ w : World, (Op.stringOp .add P1 P3).run Tryz.prog w = .ok (.string (P1 ++ P3)) w := fun w => run_string_add_sum w _ _ q1
  obtain ⟨X, hX⟩ : ∃ X, X = P1 ++ P3 := ⟨_, rfl⟩
  rw [← hX] at c1 p1
  have HX : Hid (X = P1 ++ P3) := hX
  obtain ⟨A, hA⟩ : ∃ A, A = decVal X X.size := ⟨_, rfl⟩
  have HP : Hid (0 < X.size ∧ X.size ≤ 400 ∧ Digits X X.size ∧ decVal X X.size = A) := ⟨by rw [hX, ByteArray.size_append]; have := hg.w0; simp only at this; omega, by rw [hX, ByteArray.size_append]; exact hg.sz, by rw [hX]; exact dig_app hg.dw hg.dp, hA.symm⟩
  have HA : Hid (numA ⟨P1, ⟨#[]⟩, P3, P4, P5⟩ = A ∧ A < P 21) := ⟨by show decVal (P1 ++ P3) (P1 ++ P3).size = A; rw [← hX]; exact hA.symm, by have := hg.a; rw [show numA ⟨P1, ⟨#[]⟩, P3, P4, P5⟩ = A by show decVal (P1 ++ P3) (P1 ++ P3).size = A; rw [← hX]; exact hA.symm] at this; exact this⟩
  obtain ⟨w0, hw0⟩ : ∃ w0, w0 = (w.alloc (.cells #[.string P1, .string ⟨#[]⟩, .string P3, .string P4, .bool P5] 117)).alloc (.cells #[.slice none 0 0, .slice none 0 0] 28) := ⟨_, rfl⟩
  have S0 : Hid _ := (((((((sy_start w).go (w' := w.alloc (.cells #[.string P1, .string ⟨#[]⟩, .string P3, .string P4, .bool P5] 117)) (bel_al (bel_refl _))).addC (b := w.heap.size) (i := 0) (v := .string P1) (by simp [go_sem])).addC (b := w.heap.size) (i := 1) (v := .string ⟨#[]⟩) (by simp [go_sem])).addC (b := w.heap.size) (i := 2) (v := .string P3) (by simp [go_sem])).addC (b := w.heap.size) (i := 3) (v := .string P4) (by simp [go_sem])).addC (b := w.heap.size) (i := 4) (v := .bool P5) (by simp [go_sem])).box (.slice none 0 0) (.slice none 0 0) 28 _ rfl
  simp only [World.size_alloc] at S0
  have HT : Hid (Tab w) := hT
  clear hg hX hA hT q1
  go_enter Tryz.func81, Tryz.ntmps81
  go_wp2_with fail
  rw [← hw0] at S0
  rw [← hw0]
  obtain ⟨b, hb⟩ : ∃ b, b = w.heap.size := ⟨_, rfl⟩
  rw [← hb] at S0
  rw [← hb]
  clear hw0 hb
  refine (parse_digits X A _ HP.out.1 HP.out.2.1 HP.out.2.2.1 HP.out.2.2.2).mono ?_
  rintro e w1 ⟨v1, rfl, hv1, hb1⟩
  obtain ⟨a1, n1, c1', rfl⟩ := hv1.isAgg
  have S1 : Hid _ := ((S0.out.go hb1).addN hv1).box1 (.slice a1 n1 c1') 26 _ rfl
  have LT1 : Hid (b + 1 < w1.heap.size) := (S0.out.go hb1).lt (b + 1)
  clear hv1 hb1 S0 HP
  have z1 := S1.out.cel b 1 (.string ⟨#[]⟩)
  have z2 := S1.out.cel b 2 (.string P3)
  have z3 := S1.out.cel b 3 (.string P4)
  have z4 := S1.out.cel b 4 (.bool P5)
  obtain ⟨n, hn⟩ : ∃ n, n = decVal P4 P4.size := ⟨_, rfl⟩
  have hn9 : n ≤ 999 := by rw [hn]; exact decVal_3 HG.out.dx HG.out.sx
  obtain ⟨k, hk⟩ : ∃ k, k = P3.size := ⟨_, rfl⟩
  have hk4 : k ≤ 400 := by rw [hk]; have := HG.out.sz; simp only at this; omega
  obtain ⟨y, hy⟩ : ∃ y : Int, y = (if P5 then -(n : Int) else (n : Int)) - (k : Int) := ⟨_, rfl⟩
  have hPw : pwI ⟨P1, ⟨#[]⟩, P3, P4, P5⟩ = y := by unfold pwI; simp only; rw [← hn, ← hk, ← hy]
  have hyb : -1399 ≤ y ∧ y ≤ 999 := by rw [← hPw]; exact HG.out.pw
  have HN : Hid (decVal P4 P4.size = n) := hn.symm
  have hk' : P3.size = k := hk.symm
  obtain ⟨t, ht⟩ : ∃ t, t = if y < 0 then (-y).toNat else y.toNat := ⟨_, rfl⟩
  have HY : Hid (-1399 ≤ y ∧ t ≤ 1500 ∧ A * 10 ^ (if y < 0 then 0 else t) < P 90) := by
    refine ⟨hyb.1, by rw [ht]; split <;> omega, ?_⟩
    split
    · rw [Nat.pow_zero, Nat.mul_one]
      exact P_up HA.out.2 (by omega)
    · rename_i hh
      have h1 : 10 ^ t < P 60 := Nat.lt_of_le_of_lt (Nat.pow_le_pow_right (by omega) (by rw [ht, if_neg hh]; omega)) ten999
      exact P_up (mulP_lt HA.out.2 h1) (by omega)
  have HV0 : Hid (vN ⟨P1, ⟨#[]⟩, P3, P4, P5⟩ = A * 10 ^ y.toNat ∧ vD ⟨P1, ⟨#[]⟩, P3, P4, P5⟩ = 10 ^ (-y).toNat) := ⟨by unfold vN; simp only; rw [if_pos (show (⟨#[]⟩ : ByteArray).size = 0 from rfl), HA.out.1, hPw], by unfold vD; simp only; rw [if_pos (show (⟨#[]⟩ : ByteArray).size = 0 from rfl), hPw]⟩
  have HZ : Hid (¬ vD ⟨P1, ⟨#[]⟩, P3, P4, P5⟩ = 0) := by show ¬ _; rw [HV0.out.2]; exact Nat.ne_of_gt (Nat.pow_pos (by omega))
  have w1' : IntKind.i64.wrap (-(n : Int)) = -(n : Int) := by rw [IntKind.wrap_i64]; omega
  have w2' : IntKind.i64.wrap (-y) = -y := by rw [IntKind.wrap_i64]; omega
  clear hn hk hPw
  cases P5 with
  | true =>
    have w3' : wrap64 (-(n : Int) - (k : Int)) = y := by rw [hy]; exact IntWalk.wrap64_in _ ⟨by omega, by omega⟩
    clear hy
    have W3 : Hid _ := w3'
    clear w3'
    by_cases hs : y < 0
    · have d1 : decide (y < 0) = true := decide_eq_true hs
      have w4' : IntKind.i64.wrap (-y) = (t : Int) := by rw [w2', ht, if_pos hs]; omega
      have HV : Hid (vN ⟨P1, ⟨#[]⟩, P3, P4, true⟩ = A ∧ vD ⟨P1, ⟨#[]⟩, P3, P4, true⟩ = 10 ^ t) := ⟨by rw [HV0.out.1, show y.toNat = 0 by omega, Nat.pow_zero, Nat.mul_one], by rw [HV0.out.2, ht, if_pos hs]⟩
      have HY : Hid (-1399 ≤ y ∧ t ≤ 1500 ∧ True) := ⟨HY.out.1, HY.out.2.1, trivial⟩
      clear hs ht w2' HV0 hn9 hk4 hyb
      have w3' := W3.out
      go_wp2_with fail
      refine (small_any P4 _ HG.out.dx HG.out.sx).mono ?_
      rintro e wx ⟨rfl, hwx⟩
      rw [hwx, HN.out]
      clear hwx
      go_wp2_with fail
      obtain ⟨g, hg⟩ : ∃ g, g = w1.heap.size := ⟨_, rfl⟩
      obtain ⟨w2, hw2⟩ : ∃ w2, w2 = w1.alloc (.cells #[.slice a1 n1 c1'] 26) := ⟨_, rfl⟩
      rw [← hw2, ← hg] at S1
      rw [← hw2, ← hg]
      have nb1 : ¬ b + 1 = g := by rw [hg]; have := LT1.out; omega
      have nb2 : ¬ g = b + 1 := fun e => nb1 e.symm
      clear hw2 hg z1 z2 z3 z4
      refine wp_region_held_drew (S := fun w9 => w9.cell? ⟨g, 0, none⟩ = some (.slice a1 n1 c1')) (by kernel_rfl) (S1.out.cel g 0 (.slice a1 n1 c1')) (fun hHeld => ?_)
      refine wpAnyH_take (i := 0) (v := .agg #[.slice a1 n1 c1']) rfl (by kernel_rfl) (by kernel_rfl) (by kernel_rfl) (fun _ _ _ h => h) (Or.inl ⟨by rfl, ?_⟩) (by assumption) ?_
      · intro w hSw
        go_simp
      refine wpAnyH_take (i := 1) (v := .int .i64 y) rfl (by kernel_rfl) (by kernel_rfl) (by kernel_rfl) (fun _ _ _ h => h) (Or.inl ⟨by rfl, ?_⟩) (by assumption) ?_
      · intro w hSw
        go_simp
      refine wpAnyH_take (i := 2) (v := .int .i64 (t : Int)) rfl (by kernel_rfl) (by kernel_rfl) (by kernel_rfl) (fun _ _ _ h => h) (Or.inl ⟨by rfl, ?_⟩) (by assumption) ?_
      · intro w hSw
        go_simp
      refine wpAnyH_ready (rs := [3]) (by kernel_rfl) (by simp) ?_
      refine AllReadyH.cons rfl (fun K9 hK9 => ?_) AllReadyH.nil
      go_simp
      refine Calls.mono (tenTo_any t _ HY.out.2.1) ?_
      rintro e w3 ⟨v3, rfl, hv3, hb3⟩
      replace hb3 : Below w2.heap.size w2 w3 := bel_undrew hb3
      have S2 : Hid _ := (S1.out.go hb3).addN hv3
      clear hv3 hb3 S1 hHeld
      refine hK9.out _ _ (S2.out.cel g 0 (.slice a1 n1 c1')) (fun hHeld => ?_)
      clear hK9 K9
      refine wpAnyH_ready (rs := [4]) (by kernel_rfl) (by simp) ?_
      refine AllReadyH.cons rfl (fun K9 hK9 => ?_) AllReadyH.nil
      go_simp
      refine Calls.mono (from_any _ _ A (10 ^ t) _ (S2.out.at (.agg #[.slice a1 n1 c1']) A) (S2.out.at v3 (10 ^ t)) ⟨P_up HA.out.2 (by omega)⟩ ⟨ten_P90 HY.out.2.1⟩ (Nat.pow_pos (by omega)) (HT.out.go S2.out.bel)) ?_
      rintro e w5 ⟨v5, rfl, hv5, hb5⟩
      have S3 : Hid _ := (S2.out.go hb5).addF hv5
      obtain ⟨a5, n5, c5, a6, n6, c6, ev, _, _⟩ := hv5.raw
      subst ev
      clear hv5 hb5 S2 hHeld
      have x0 := S3.out.cel (b + 1) 0 (.slice none 0 0)
      have x1 := S3.out.cel (b + 1) 1 (.slice none 0 0)
      have f0 := S3.out.fz (b + 1) 0
      have f1 := S3.out.fz (b + 1) 1
      have t0 := S3.out.cel g 0 (.slice a1 n1 c1')
      refine hK9.out _ _ t0 (fun hHeld => ?_)
      clear hK9 K9
      refine wpAnyH_take (i := 5) (v := .agg #[.slice a5 n5 c5, .slice a6 n6 c6]) rfl (by kernel_rfl) (by kernel_rfl) (by kernel_rfl) (fun _ _ _ h => h) (Or.inl ⟨by rfl, ?_⟩) (by assumption) ?_
      · intro w hSw
        go_simp
      refine wpAnyH_take (i := 6) (v := .bool true) rfl (by kernel_rfl) (by kernel_rfl) (by kernel_rfl) (fun _ _ _ h => h) (Or.inl ⟨by rfl, ?_⟩) (by assumption) ?_
      · intro w hSw
        go_simp
      refine wpAnyH_ready (rs := [7]) (by kernel_rfl) (by simp) ?_
      refine AllReadyH.cons rfl (fun K9 hK9 => ?_) AllReadyH.nil
      go_simp
      clear hHeld
      refine hK9.out _ _ (by simp [go_sem, *]) (fun hHeld => ?_)
      clear hK9 K9
      refine wpAnyH_take (i := 8) (v := .bool true) rfl (by kernel_rfl) (by kernel_rfl) (by kernel_rfl) (fun _ _ _ h => h) (Or.inl ⟨by rfl, ?_⟩) (by assumption) ?_
      · intro w hSw
        go_simp
      refine wpAnyH_done (by kernel_rfl) ?_ _
      have Z : Hid _ := rat_put (w0 := w) (v := .slice a5 n5 c5) (u := .slice a6 n6 c6) x0 x1 (S3.out.fr (.agg #[.slice a5 n5 c5, .slice a6 n6 c6]) ((A) / Nat.gcd (A) (10 ^ t)) ((10 ^ t) / Nat.gcd (A) (10 ^ t))) S3.out.bel (S3.out.lo (b + 1))
      go_wp2_with fail
      refine bodyPost_ret (v := .tuple #[.agg #[.slice a5 n5 c5, .slice a6 n6 c6], .bool true]) (by simp [results, Tryz.results81, go_sem, x0, x1]) rfl ?_
      unfold MakesV
      rw [if_neg HZ.out, HV.out.1, HV.out.2]
      exact ⟨_, rfl, Z.out.1, Z.out.2⟩
    · have d1 : decide (y < 0) = false := decide_eq_false hs
      have ey : y = (t : Int) := by rw [ht, if_neg hs]; omega
      have HV : Hid (vN ⟨P1, ⟨#[]⟩, P3, P4, true⟩ = A * 10 ^ t ∧ vD ⟨P1, ⟨#[]⟩, P3, P4, true⟩ = 1) := ⟨by rw [HV0.out.1, ht, if_neg hs], by rw [HV0.out.2, show (-y).toNat = 0 by omega, Nat.pow_zero]⟩
      have HY : Hid (-1399 ≤ y ∧ t ≤ 1500 ∧ A * 10 ^ t < P 90) := ⟨HY.out.1, HY.out.2.1, by have := HY.out.2.2; rw [if_neg hs] at this; exact this⟩
      have w3' := W3.out
      rw [ey] at w3' d1
      clear hs ht w2' HV0 hn9 hk4 hyb ey W3
      go_wp2_with fail
      refine (small_any P4 _ HG.out.dx HG.out.sx).mono ?_
      rintro e wx ⟨rfl, hwx⟩
      rw [hwx, HN.out]
      clear hwx
      go_wp2_with fail
      obtain ⟨g, hg⟩ : ∃ g, g = w1.heap.size := ⟨_, rfl⟩
      obtain ⟨w2, hw2⟩ : ∃ w2, w2 = w1.alloc (.cells #[.slice a1 n1 c1'] 26) := ⟨_, rfl⟩
      rw [← hw2, ← hg] at S1
      rw [← hw2, ← hg]
      have nb1 : ¬ b + 1 = g := by rw [hg]; have := LT1.out; omega
      have nb2 : ¬ g = b + 1 := fun e => nb1 e.symm
      clear hw2 hg z1 z2 z3 z4
      refine wp_region_held_drew (S := fun w9 => w9.cell? ⟨g, 0, none⟩ = some (.slice a1 n1 c1')) (by kernel_rfl) (S1.out.cel g 0 (.slice a1 n1 c1')) (fun hHeld => ?_)
      refine wpAnyH_take (i := 0) (v := .agg #[.slice a1 n1 c1']) rfl (by kernel_rfl) (by kernel_rfl) (by kernel_rfl) (fun _ _ _ h => h) (Or.inl ⟨by rfl, ?_⟩) (by assumption) ?_
      · intro w hSw
        go_simp
      refine wpAnyH_take (i := 1) (v := .int .i64 (t : Int)) rfl (by kernel_rfl) (by kernel_rfl) (by kernel_rfl) (fun _ _ _ h => h) (Or.inl ⟨by rfl, ?_⟩) (by assumption) ?_
      · intro w hSw
        go_simp
      refine wpAnyH_ready (rs := [2]) (by kernel_rfl) (by simp) ?_
      refine AllReadyH.cons rfl (fun K9 hK9 => ?_) AllReadyH.nil
      go_simp
      refine Calls.mono (tenTo_any t _ HY.out.2.1) ?_
      rintro e w3 ⟨v3, rfl, hv3, hb3⟩
      replace hb3 : Below w2.heap.size w2 w3 := bel_undrew hb3
      have S2 : Hid _ := (S1.out.go hb3).addN hv3
      clear hv3 hb3 S1 hHeld
      refine hK9.out _ _ (S2.out.cel g 0 (.slice a1 n1 c1')) (fun hHeld => ?_)
      clear hK9 K9
      refine wpAnyH_ready (rs := [3]) (by kernel_rfl) (by simp) ?_
      refine AllReadyH.cons rfl (fun K9 hK9 => ?_) AllReadyH.nil
      go_simp
      refine Calls.mono (mul_short _ _ A (10 ^ t) _ (S2.out.at (.agg #[.slice a1 n1 c1']) A) (S2.out.at v3 (10 ^ t)) (fits_P HA.out.2 (by omega)) (fits_P (ten_P90 HY.out.2.1) (by omega)) (.inl (P_up HA.out.2 (by omega)))) ?_
      rintro e w4 ⟨v4, rfl, hv4, hb4⟩
      have S3 : Hid _ := (S2.out.go hb4).addN hv4
      clear hv4 hb4 S2 hHeld
      refine hK9.out _ _ (S3.out.cel g 0 (.slice a1 n1 c1')) (fun hHeld => ?_)
      clear hK9 K9
      refine wpAnyH_ready (rs := [4]) (by kernel_rfl) (by simp) ?_
      refine AllReadyH.cons rfl (fun K9 hK9 => ?_) AllReadyH.nil
      go_simp
      refine Calls.mono (of_any 1 _ (by omega)) ?_
      rintro e w6 ⟨v6, rfl, hv6, hb6⟩
      have S4 : Hid _ := (S3.out.go hb6).addN hv6
      clear hv6 hb6 S3 hHeld
      refine hK9.out _ _ (S4.out.cel g 0 (.slice a1 n1 c1')) (fun hHeld => ?_)
      clear hK9 K9
      refine wpAnyH_ready (rs := [5]) (by kernel_rfl) (by simp) ?_
      refine AllReadyH.cons rfl (fun K9 hK9 => ?_) AllReadyH.nil
      go_simp
      refine Calls.mono (from_any _ _ (A * 10 ^ t) 1 _ (S4.out.at v4 (A * 10 ^ t)) (S4.out.at v6 1) ⟨HY.out.2.2⟩ (rs_word (by omega)) (by omega) (HT.out.go S4.out.bel)) ?_
      rintro e w5 ⟨v5, rfl, hv5, hb5⟩
      have S3 : Hid _ := (S4.out.go hb5).addF hv5
      obtain ⟨a5, n5, c5, a6, n6, c6, ev, _, _⟩ := hv5.raw
      subst ev
      clear hv5 hb5 S4 hHeld
      have x0 := S3.out.cel (b + 1) 0 (.slice none 0 0)
      have x1 := S3.out.cel (b + 1) 1 (.slice none 0 0)
      have f0 := S3.out.fz (b + 1) 0
      have f1 := S3.out.fz (b + 1) 1
      have t0 := S3.out.cel g 0 (.slice a1 n1 c1')
      refine hK9.out _ _ t0 (fun hHeld => ?_)
      clear hK9 K9
      refine wpAnyH_take (i := 6) (v := .agg #[.slice a5 n5 c5, .slice a6 n6 c6]) rfl (by kernel_rfl) (by kernel_rfl) (by kernel_rfl) (fun _ _ _ h => h) (Or.inl ⟨by rfl, ?_⟩) (by assumption) ?_
      · intro w hSw
        go_simp
      refine wpAnyH_take (i := 7) (v := .bool true) rfl (by kernel_rfl) (by kernel_rfl) (by kernel_rfl) (fun _ _ _ h => h) (Or.inl ⟨by rfl, ?_⟩) (by assumption) ?_
      · intro w hSw
        go_simp
      refine wpAnyH_ready (rs := [8]) (by kernel_rfl) (by simp) ?_
      refine AllReadyH.cons rfl (fun K9 hK9 => ?_) AllReadyH.nil
      go_simp
      clear hHeld
      refine hK9.out _ _ (by simp [go_sem, *]) (fun hHeld => ?_)
      clear hK9 K9
      refine wpAnyH_take (i := 9) (v := .bool true) rfl (by kernel_rfl) (by kernel_rfl) (by kernel_rfl) (fun _ _ _ h => h) (Or.inl ⟨by rfl, ?_⟩) (by assumption) ?_
      · intro w hSw
        go_simp
      refine wpAnyH_done (by kernel_rfl) ?_ _
      have Z : Hid _ := rat_put (w0 := w) (v := .slice a5 n5 c5) (u := .slice a6 n6 c6) x0 x1 (S3.out.fr (.agg #[.slice a5 n5 c5, .slice a6 n6 c6]) ((A * 10 ^ t) / Nat.gcd (A * 10 ^ t) (1)) ((1) / Nat.gcd (A * 10 ^ t) (1))) S3.out.bel (S3.out.lo (b + 1))
      go_wp2_with fail
      refine bodyPost_ret (v := .tuple #[.agg #[.slice a5 n5 c5, .slice a6 n6 c6], .bool true]) (by simp [results, Tryz.results81, go_sem, x0, x1]) rfl ?_
      unfold MakesV
      rw [if_neg HZ.out, HV.out.1, HV.out.2]
      exact ⟨_, rfl, Z.out.1, Z.out.2⟩
  | false =>
    have w3' : wrap64 ((n : Int) - (k : Int)) = y := by rw [hy]; exact IntWalk.wrap64_in _ ⟨by omega, by omega⟩
    clear hy
    have W3 : Hid _ := w3'
    clear w3'
    by_cases hs : y < 0
    · have d1 : decide (y < 0) = true := decide_eq_true hs
      have w4' : IntKind.i64.wrap (-y) = (t : Int) := by rw [w2', ht, if_pos hs]; omega
      have HV : Hid (vN ⟨P1, ⟨#[]⟩, P3, P4, false⟩ = A ∧ vD ⟨P1, ⟨#[]⟩, P3, P4, false⟩ = 10 ^ t) := ⟨by rw [HV0.out.1, show y.toNat = 0 by omega, Nat.pow_zero, Nat.mul_one], by rw [HV0.out.2, ht, if_pos hs]⟩
      have HY : Hid (-1399 ≤ y ∧ t ≤ 1500 ∧ True) := ⟨HY.out.1, HY.out.2.1, trivial⟩
      clear hs ht w2' HV0 hn9 hk4 hyb
      have w3' := W3.out
      go_wp2_with fail
      refine (small_any P4 _ HG.out.dx HG.out.sx).mono ?_
      rintro e wx ⟨rfl, hwx⟩
      rw [hwx, HN.out]
      clear hwx
      go_wp2_with fail
      obtain ⟨g, hg⟩ : ∃ g, g = w1.heap.size := ⟨_, rfl⟩
      obtain ⟨w2, hw2⟩ : ∃ w2, w2 = w1.alloc (.cells #[.slice a1 n1 c1'] 26) := ⟨_, rfl⟩
      rw [← hw2, ← hg] at S1
      rw [← hw2, ← hg]
      have nb1 : ¬ b + 1 = g := by rw [hg]; have := LT1.out; omega
      have nb2 : ¬ g = b + 1 := fun e => nb1 e.symm
      clear hw2 hg z1 z2 z3 z4
      refine wp_region_held_drew (S := fun w9 => w9.cell? ⟨g, 0, none⟩ = some (.slice a1 n1 c1')) (by kernel_rfl) (S1.out.cel g 0 (.slice a1 n1 c1')) (fun hHeld => ?_)
      refine wpAnyH_take (i := 0) (v := .agg #[.slice a1 n1 c1']) rfl (by kernel_rfl) (by kernel_rfl) (by kernel_rfl) (fun _ _ _ h => h) (Or.inl ⟨by rfl, ?_⟩) (by assumption) ?_
      · intro w hSw
        go_simp
      refine wpAnyH_take (i := 1) (v := .int .i64 y) rfl (by kernel_rfl) (by kernel_rfl) (by kernel_rfl) (fun _ _ _ h => h) (Or.inl ⟨by rfl, ?_⟩) (by assumption) ?_
      · intro w hSw
        go_simp
      refine wpAnyH_take (i := 2) (v := .int .i64 (t : Int)) rfl (by kernel_rfl) (by kernel_rfl) (by kernel_rfl) (fun _ _ _ h => h) (Or.inl ⟨by rfl, ?_⟩) (by assumption) ?_
      · intro w hSw
        go_simp
      refine wpAnyH_ready (rs := [3]) (by kernel_rfl) (by simp) ?_
      refine AllReadyH.cons rfl (fun K9 hK9 => ?_) AllReadyH.nil
      go_simp
      refine Calls.mono (tenTo_any t _ HY.out.2.1) ?_
      rintro e w3 ⟨v3, rfl, hv3, hb3⟩
      replace hb3 : Below w2.heap.size w2 w3 := bel_undrew hb3
      have S2 : Hid _ := (S1.out.go hb3).addN hv3
      clear hv3 hb3 S1 hHeld
      refine hK9.out _ _ (S2.out.cel g 0 (.slice a1 n1 c1')) (fun hHeld => ?_)
      clear hK9 K9
      refine wpAnyH_ready (rs := [4]) (by kernel_rfl) (by simp) ?_
      refine AllReadyH.cons rfl (fun K9 hK9 => ?_) AllReadyH.nil
      go_simp
      refine Calls.mono (from_any _ _ A (10 ^ t) _ (S2.out.at (.agg #[.slice a1 n1 c1']) A) (S2.out.at v3 (10 ^ t)) ⟨P_up HA.out.2 (by omega)⟩ ⟨ten_P90 HY.out.2.1⟩ (Nat.pow_pos (by omega)) (HT.out.go S2.out.bel)) ?_
      rintro e w5 ⟨v5, rfl, hv5, hb5⟩
      have S3 : Hid _ := (S2.out.go hb5).addF hv5
      obtain ⟨a5, n5, c5, a6, n6, c6, ev, _, _⟩ := hv5.raw
      subst ev
      clear hv5 hb5 S2 hHeld
      have x0 := S3.out.cel (b + 1) 0 (.slice none 0 0)
      have x1 := S3.out.cel (b + 1) 1 (.slice none 0 0)
      have f0 := S3.out.fz (b + 1) 0
      have f1 := S3.out.fz (b + 1) 1
      have t0 := S3.out.cel g 0 (.slice a1 n1 c1')
      refine hK9.out _ _ t0 (fun hHeld => ?_)
      clear hK9 K9
      refine wpAnyH_take (i := 5) (v := .agg #[.slice a5 n5 c5, .slice a6 n6 c6]) rfl (by kernel_rfl) (by kernel_rfl) (by kernel_rfl) (fun _ _ _ h => h) (Or.inl ⟨by rfl, ?_⟩) (by assumption) ?_
      · intro w hSw
        go_simp
      refine wpAnyH_take (i := 6) (v := .bool true) rfl (by kernel_rfl) (by kernel_rfl) (by kernel_rfl) (fun _ _ _ h => h) (Or.inl ⟨by rfl, ?_⟩) (by assumption) ?_
      · intro w hSw
        go_simp
      refine wpAnyH_ready (rs := [7]) (by kernel_rfl) (by simp) ?_
      refine AllReadyH.cons rfl (fun K9 hK9 => ?_) AllReadyH.nil
      go_simp
      clear hHeld
      refine hK9.out _ _ (by simp [go_sem, *]) (fun hHeld => ?_)
      clear hK9 K9
      refine wpAnyH_take (i := 8) (v := .bool true) rfl (by kernel_rfl) (by kernel_rfl) (by kernel_rfl) (fun _ _ _ h => h) (Or.inl ⟨by rfl, ?_⟩) (by assumption) ?_
      · intro w hSw
        go_simp
      refine wpAnyH_done (by kernel_rfl) ?_ _
      have Z : Hid _ := rat_put (w0 := w) (v := .slice a5 n5 c5) (u := .slice a6 n6 c6) x0 x1 (S3.out.fr (.agg #[.slice a5 n5 c5, .slice a6 n6 c6]) ((A) / Nat.gcd (A) (10 ^ t)) ((10 ^ t) / Nat.gcd (A) (10 ^ t))) S3.out.bel (S3.out.lo (b + 1))
      go_wp2_with fail
      refine bodyPost_ret (v := .tuple #[.agg #[.slice a5 n5 c5, .slice a6 n6 c6], .bool true]) (by simp [results, Tryz.results81, go_sem, x0, x1]) rfl ?_
      unfold MakesV
      rw [if_neg HZ.out, HV.out.1, HV.out.2]
      exact ⟨_, rfl, Z.out.1, Z.out.2⟩
    · have d1 : decide (y < 0) = false := decide_eq_false hs
      have ey : y = (t : Int) := by rw [ht, if_neg hs]; omega
      have HV : Hid (vN ⟨P1, ⟨#[]⟩, P3, P4, false⟩ = A * 10 ^ t ∧ vD ⟨P1, ⟨#[]⟩, P3, P4, false⟩ = 1) := ⟨by rw [HV0.out.1, ht, if_neg hs], by rw [HV0.out.2, show (-y).toNat = 0 by omega, Nat.pow_zero]⟩
      have HY : Hid (-1399 ≤ y ∧ t ≤ 1500 ∧ A * 10 ^ t < P 90) := ⟨HY.out.1, HY.out.2.1, by have := HY.out.2.2; rw [if_neg hs] at this; exact this⟩
      have w3' := W3.out
      rw [ey] at w3' d1
      clear hs ht w2' HV0 hn9 hk4 hyb ey W3
      go_wp2_with fail
      refine (small_any P4 _ HG.out.dx HG.out.sx).mono ?_
      rintro e wx ⟨rfl, hwx⟩
      rw [hwx, HN.out]
      clear hwx
      go_wp2_with fail
      obtain ⟨g, hg⟩ : ∃ g, g = w1.heap.size := ⟨_, rfl⟩
      obtain ⟨w2, hw2⟩ : ∃ w2, w2 = w1.alloc (.cells #[.slice a1 n1 c1'] 26) := ⟨_, rfl⟩
      rw [← hw2, ← hg] at S1
      rw [← hw2, ← hg]
      have nb1 : ¬ b + 1 = g := by rw [hg]; have := LT1.out; omega
      have nb2 : ¬ g = b + 1 := fun e => nb1 e.symm
      clear hw2 hg z1 z2 z3 z4
      refine wp_region_held_drew (S := fun w9 => w9.cell? ⟨g, 0, none⟩ = some (.slice a1 n1 c1')) (by kernel_rfl) (S1.out.cel g 0 (.slice a1 n1 c1')) (fun hHeld => ?_)
      refine wpAnyH_take (i := 0) (v := .agg #[.slice a1 n1 c1']) rfl (by kernel_rfl) (by kernel_rfl) (by kernel_rfl) (fun _ _ _ h => h) (Or.inl ⟨by rfl, ?_⟩) (by assumption) ?_
      · intro w hSw
        go_simp
      refine wpAnyH_take (i := 1) (v := .int .i64 (t : Int)) rfl (by kernel_rfl) (by kernel_rfl) (by kernel_rfl) (fun _ _ _ h => h) (Or.inl ⟨by rfl, ?_⟩) (by assumption) ?_
      · intro w hSw
        go_simp
      refine wpAnyH_ready (rs := [2]) (by kernel_rfl) (by simp) ?_
      refine AllReadyH.cons rfl (fun K9 hK9 => ?_) AllReadyH.nil
      go_simp
      refine Calls.mono (tenTo_any t _ HY.out.2.1) ?_
      rintro e w3 ⟨v3, rfl, hv3, hb3⟩
      replace hb3 : Below w2.heap.size w2 w3 := bel_undrew hb3
      have S2 : Hid _ := (S1.out.go hb3).addN hv3
      clear hv3 hb3 S1 hHeld
      refine hK9.out _ _ (S2.out.cel g 0 (.slice a1 n1 c1')) (fun hHeld => ?_)
      clear hK9 K9
      refine wpAnyH_ready (rs := [3]) (by kernel_rfl) (by simp) ?_
      refine AllReadyH.cons rfl (fun K9 hK9 => ?_) AllReadyH.nil
      go_simp
      refine Calls.mono (mul_short _ _ A (10 ^ t) _ (S2.out.at (.agg #[.slice a1 n1 c1']) A) (S2.out.at v3 (10 ^ t)) (fits_P HA.out.2 (by omega)) (fits_P (ten_P90 HY.out.2.1) (by omega)) (.inl (P_up HA.out.2 (by omega)))) ?_
      rintro e w4 ⟨v4, rfl, hv4, hb4⟩
      have S3 : Hid _ := (S2.out.go hb4).addN hv4
      clear hv4 hb4 S2 hHeld
      refine hK9.out _ _ (S3.out.cel g 0 (.slice a1 n1 c1')) (fun hHeld => ?_)
      clear hK9 K9
      refine wpAnyH_ready (rs := [4]) (by kernel_rfl) (by simp) ?_
      refine AllReadyH.cons rfl (fun K9 hK9 => ?_) AllReadyH.nil
      go_simp
      refine Calls.mono (of_any 1 _ (by omega)) ?_
      rintro e w6 ⟨v6, rfl, hv6, hb6⟩
      have S4 : Hid _ := (S3.out.go hb6).addN hv6
      clear hv6 hb6 S3 hHeld
      refine hK9.out _ _ (S4.out.cel g 0 (.slice a1 n1 c1')) (fun hHeld => ?_)
      clear hK9 K9
      refine wpAnyH_ready (rs := [5]) (by kernel_rfl) (by simp) ?_
      refine AllReadyH.cons rfl (fun K9 hK9 => ?_) AllReadyH.nil
      go_simp
      refine Calls.mono (from_any _ _ (A * 10 ^ t) 1 _ (S4.out.at v4 (A * 10 ^ t)) (S4.out.at v6 1) ⟨HY.out.2.2⟩ (rs_word (by omega)) (by omega) (HT.out.go S4.out.bel)) ?_
      rintro e w5 ⟨v5, rfl, hv5, hb5⟩
      have S3 : Hid _ := (S4.out.go hb5).addF hv5
      obtain ⟨a5, n5, c5, a6, n6, c6, ev, _, _⟩ := hv5.raw
      subst ev
      clear hv5 hb5 S4 hHeld
      have x0 := S3.out.cel (b + 1) 0 (.slice none 0 0)
      have x1 := S3.out.cel (b + 1) 1 (.slice none 0 0)
      have f0 := S3.out.fz (b + 1) 0
      have f1 := S3.out.fz (b + 1) 1
      have t0 := S3.out.cel g 0 (.slice a1 n1 c1')
      refine hK9.out _ _ t0 (fun hHeld => ?_)
      clear hK9 K9
      refine wpAnyH_take (i := 6) (v := .agg #[.slice a5 n5 c5, .slice a6 n6 c6]) rfl (by kernel_rfl) (by kernel_rfl) (by kernel_rfl) (fun _ _ _ h => h) (Or.inl ⟨by rfl, ?_⟩) (by assumption) ?_
      · intro w hSw
        go_simp
      refine wpAnyH_take (i := 7) (v := .bool true) rfl (by kernel_rfl) (by kernel_rfl) (by kernel_rfl) (fun _ _ _ h => h) (Or.inl ⟨by rfl, ?_⟩) (by assumption) ?_
      · intro w hSw
        go_simp
      refine wpAnyH_ready (rs := [8]) (by kernel_rfl) (by simp) ?_
      refine AllReadyH.cons rfl (fun K9 hK9 => ?_) AllReadyH.nil
      go_simp
      clear hHeld
      refine hK9.out _ _ (by simp [go_sem, *]) (fun hHeld => ?_)
      clear hK9 K9
      refine wpAnyH_take (i := 9) (v := .bool true) rfl (by kernel_rfl) (by kernel_rfl) (by kernel_rfl) (fun _ _ _ h => h) (Or.inl ⟨by rfl, ?_⟩) (by assumption) ?_
      · intro w hSw
        go_simp
      refine wpAnyH_done (by kernel_rfl) ?_ _
      have Z : Hid _ := rat_put (w0 := w) (v := .slice a5 n5 c5) (u := .slice a6 n6 c6) x0 x1 (S3.out.fr (.agg #[.slice a5 n5 c5, .slice a6 n6 c6]) ((A * 10 ^ t) / Nat.gcd (A * 10 ^ t) (1)) ((1) / Nat.gcd (A * 10 ^ t) (1))) S3.out.bel (S3.out.lo (b + 1))
      go_wp2_with fail
      refine bodyPost_ret (v := .tuple #[.agg #[.slice a5 n5 c5, .slice a6 n6 c6], .bool true]) (by simp [results, Tryz.results81, go_sem, x0, x1]) rfl ?_
      unfold MakesV
      rw [if_neg HZ.out, HV.out.1, HV.out.2]
      exact ⟨_, rfl, Z.out.1, Z.out.2⟩
end Go.Proofs.YtmiiaomdenpceaaGreatDoor

namespace Go.Proofs.YtmiiaomdenpceaaGreatDoor
open Go.RowKit
set_option maxRecDepth 100000
set_option linter.unusedVariables false
/-- What the bits of a number say: its whole part and its exponent. -/
def fm (u : Nat) : Nat := if u / 4503599627370496 = 0 then u % 4503599627370496 else u % 4503599627370496 + 4503599627370496
def fe (u : Nat) : Nat := u / 4503599627370496 - 1
def fN (u : Nat) : Nat := fm u * 2 ^ (fe u - 1074)
def fD (u : Nat) : Nat := 2 ^ (1074 - fe u)
/-- The number that is -0 is 0. -/
def nz (u : Nat) : Nat := if u = 9223372036854775808 then 0 else u
theorem fm_lt (u : Nat) : fm u < 2 ^ 53 := by unfold fm; split <;> omega
theorem fe_le {u : Nat} (h : u < 9218868437227405312) : fe u ≤ 2045 := by unfold fe; omega
theorem two_lt {a b : Nat} (h : a < b) : 2 ^ a < 2 ^ b := Nat.pow_lt_pow_right (by omega) h
theorem two_P {a n : Nat} (h : a < 64 * n) : 2 ^ a < P n := by
  rw [P_two]
  exact two_lt h
theorem fN_gen {m e n : Nat} (hm : m < 2 ^ 53) (he : 53 + e ≤ 64 * n) : m * 2 ^ e < P n := by
  rw [P_two]
  refine Nat.lt_of_lt_of_le (Nat.mul_lt_mul_of_pos_right hm (Nat.two_pow_pos e)) ?_
  rw [← Nat.pow_add]
  exact Nat.pow_le_pow_right (by omega) he
theorem fN_lt {u : Nat} (h : u < 9218868437227405312) : fN u < P 16 := fN_gen (fm_lt u) (by have := fe_le h; omega)
theorem fD_lt (u : Nat) : fD u < P 17 := two_P (by omega)
theorem fD_pos (u : Nat) : 0 < fD u := Nat.two_pow_pos _
theorem f64bits (u : Nat) (w : World) : (callFunc 52 #[.float .f64 u]).run Tryz.prog w = .ok (.value (.int .u64 (u : Int))) w := by
  rw [run_callFunc_extern Tryz.func52 (by kernel_rfl) (by kernel_rfl) (by kernel_rfl) (e := Extern.MathFloatBits.float64bits) (by kernel_rfl)]
  rfl
theorem f64frombits (u : Nat) (w : World) : (callFunc 79 #[.int .u64 (u : Int)]).run Tryz.prog w = .ok (.value (.float .f64 u)) w := by
  rw [run_callFunc_extern Tryz.func79 (by kernel_rfl) (by kernel_rfl) (by kernel_rfl) (e := Extern.MathFloatBits.float64frombits) (by kernel_rfl)]
  rfl
set_option maxHeartbeats 400000 in
theorem bits_any (u : Nat) (w : World) : Calls Tryz.prog 11 #[.float .f64 u] w fun e w' => e = .returned (.int .u64 (u : Int)) ∧ w' = w := by
  have h1 := f64bits u
  go_enter Tryz.func11, Tryz.ntmps11
  go_wp2_with fail
  go_ret
  exact ⟨rfl, rfl⟩
set_option maxHeartbeats 400000 in
theorem float_any (u : Nat) (w : World) : Calls Tryz.prog 34 #[.int .u64 (u : Int)] w fun e w' => e = .returned (.float .f64 u) ∧ w' = w := by
  have h1 := f64frombits u
  go_enter Tryz.func34, Tryz.ntmps34
  go_wp2_with fail
  go_ret
  exact ⟨rfl, rfl⟩
/-- What FromFloat takes. -/
def isF (u : Nat) : Prop := u = 9223372036854775808 ∨ u < 9218868437227405312
set_option maxHeartbeats 4000000 in
theorem fromFloat_no (u : Nat) (w : World) (h : ¬ isF u) (hu : u < 18446744073709551616) : Calls Tryz.prog 33 #[.float .f64 u] w (MakesRB w 0 1 false) := by
  have a1 : ¬ u = 9223372036854775808 := fun e => h (.inl e)
  have a2 : ¬ u < 9218868437227405312 := fun e => h (.inr e)
  have d1 : decide (u = 9223372036854775808) = false := decide_eq_false a1
  have d1' : ((u : Int) == 9223372036854775808) = false := by simp; omega
  have d2 : decide (9218868437227405312 ≤ u) = true := decide_eq_true (by omega)
  have d2' : decide ((9218868437227405312 : Int) ≤ (u : Int)) = true := decide_eq_true (by omega)
  clear h a1 a2
  go_enter Tryz.func33, Tryz.ntmps33
  go_wp2_with fail
  refine (bits_any u _).mono ?_
  rintro e w1 ⟨rfl, rfl⟩
  go_wp2_with fail
  exact bodyPost_ret (v := .tuple #[.agg #[.slice none 0 0, .slice none 0 0], .bool false]) (by simp [results, Tryz.results33, go_sem]) rfl ⟨_, rfl, rt_zero _, bel_al (bel_refl w)⟩
set_option maxHeartbeats 4000000 in
theorem fromFloat_zero (w : World) : Calls Tryz.prog 33 #[.float .f64 9223372036854775808] w (MakesRB w 0 1 true) := by
  go_enter Tryz.func33, Tryz.ntmps33
  go_wp2_with fail
  refine (bits_any 9223372036854775808 _).mono ?_
  rintro e w1 ⟨rfl, rfl⟩
  go_wp2_with fail
  exact bodyPost_ret (v := .tuple #[.agg #[.slice none 0 0, .slice none 0 0], .bool true]) (by simp [results, Tryz.results33, go_sem]) rfl ⟨_, rfl, rt_zero _, bel_al (bel_refl w)⟩
theorem inUnits_at (v u : Value) (m f : Nat) (s : Int) (w : World) (h : IsNat w v m) (k : IsNat w u 1) (hm : Fits m) (hf : f ≤ 2045) (hs : s = 1074 - (f : Int)) :
    Calls Tryz.prog 44 #[v, u, .int .i64 s] w (Makes2N w (m * 2 ^ (f - 1074)) (2 ^ (1074 - f))) := by
  by_cases h1 : 1074 < f
  · have := inUnits_neg v u m 1 (f - 1074) s w h k hm (by omega) (by omega) (by omega)
    rw [show 1074 - f = 0 by omega]
    exact this
  · have := inUnits_pos v u m 1 (1074 - f) s w h k (fits_P (n := 1) (by rw [P_one]; omega) (by omega)) (by omega) (by omega)
    rw [show f - 1074 = 0 by omega, Nat.pow_zero, Nat.mul_one]
    rw [Nat.one_mul] at this
    exact this
set_option maxHeartbeats 4000000 in
theorem fromFloat_yes (u : Nat) (w : World) (h : u < 9218868437227405312) (hT : Tab w) : Calls Tryz.prog 33 #[.float .f64 u] w (MakesRB w (fN u / Nat.gcd (fN u) (fD u)) (fD u / Nat.gcd (fN u) (fD u)) true) := by
  have d1 : decide (u = 9223372036854775808) = false := decide_eq_false (by omega)
  have d1' : ((u : Int) == 9223372036854775808) = false := by simp; omega
  have d2 : decide (9218868437227405312 ≤ u) = false := decide_eq_false (by omega)
  have d2' : decide ((9218868437227405312 : Int) ≤ (u : Int)) = false := decide_eq_false (by omega)
  have HT : Hid (Tab w ∧ u < 9218868437227405312) := ⟨hT, h⟩
  have S1 : Hid _ := (sx_start w).box (.slice none 0 0) (.slice none 0 0) 28 _ rfl
  have f6 : (w.alloc (.cells #[.slice none 0 0, .slice none 0 0] 28)).frozen? ⟨w.heap.size, 0, none⟩ = false := by simp [go_sem]
  have f7 : (w.alloc (.cells #[.slice none 0 0, .slice none 0 0] 28)).frozen? ⟨w.heap.size, 1, none⟩ = false := by simp [go_sem]
  have FZ : Hid _ := And.intro f6 f7
  obtain ⟨m0, e0⟩ : ∃ m0 : Nat, m0 = u % 4503599627370496 := ⟨_, rfl⟩
  obtain ⟨x0, ex⟩ : ∃ x0 : Nat, x0 = u / 4503599627370496 := ⟨_, rfl⟩
  have r1 : (u : Int) % 4503599627370496 = (m0 : Int) := by omega
  have r2 : (u : Int) / 4503599627370496 = (x0 : Int) := by omega
  have r3 : IntKind.i64.wrap (x0 : Int) = (x0 : Int) := by rw [IntKind.wrap_i64]; omega
  have hfm : fm u = if x0 = 0 then m0 else m0 + 4503599627370496 := by unfold fm; rw [← e0, ← ex]
  have hfe : fe u = x0 - 1 := by unfold fe; rw [← ex]
  have sN : RS (fN u) := ⟨P_up (fN_lt h) (by omega)⟩
  have sD : RS (fD u) := ⟨P_up (fD_lt u) (by omega)⟩
  have hm0 : m0 < 4503599627370496 := by omega
  have hx0 : x0 ≤ 2046 := by omega
  clear hT f6 f7 e0 ex
  go_enter Tryz.func33, Tryz.ntmps33
  go_wp2_with fail
  refine (bits_any u _).mono ?_
  rintro e w1 ⟨rfl, rfl⟩
  clear h
  by_cases h0 : 0 < x0
  · obtain ⟨m, em⟩ : ∃ m : Nat, m = m0 + 4503599627370496 := ⟨_, rfl⟩
    obtain ⟨f, ef⟩ : ∃ f : Nat, f = x0 - 1 := ⟨_, rfl⟩
    have r4 : (m0 : Int) + 4503599627370496 = (m : Int) := by omega
    have r5 : wrap64 ((x0 : Int) - 1) = (f : Int) := by rw [IntWalk.wrap64_in _ ⟨by omega, by omega⟩]; omega
    obtain ⟨s, es⟩ : ∃ s : Int, s = -1074 + (f : Int) := ⟨_, rfl⟩
    have r6 : wrap64 (-1074 + (f : Int)) = s := by rw [IntWalk.wrap64_in _ ⟨by omega, by omega⟩]; omega
    obtain ⟨s2, es2⟩ : ∃ s2 : Int, s2 = -s := ⟨_, rfl⟩
    have r7 : wrap64 (-s) = s2 := by rw [IntWalk.wrap64_in _ ⟨by omega, by omega⟩]; omega
    have r8 : IntKind.i64.wrap (-s) = s2 := by rw [IntKind.wrap_i64]; omega
    have eN : m * 2 ^ (f - 1074) = fN u := by unfold fN; rw [hfm, hfe, if_neg (by omega), ← em, ← ef]
    have eD : 2 ^ (1074 - f) = fD u := by unfold fD; rw [hfe, ← ef]
    have HF : Hid (m < 9007199254740992 ∧ f ≤ 2045 ∧ s2 = 1074 - (f : Int) ∧ (m * 2 ^ (f - 1074) = fN u ∧ 2 ^ (1074 - f) = fD u) ∧ RS (m * 2 ^ (f - 1074)) ∧ RS (2 ^ (1074 - f))) := ⟨by omega, by omega, by omega, ⟨eN, eD⟩, by rw [eN]; exact sN, by rw [eD]; exact sD⟩
    clear em ef es es2 eN eD hfm hfe sN sD hm0 hx0
    go_wp2_with fail
    refine (of_any m _ (by have := HF.out; omega)).mono ?_
    rintro e w2 ⟨v2, rfl, hv2, hb2⟩
    have FZ2 : Hid (w2.frozen? ⟨w.heap.size, 0, none⟩ = false ∧ w2.frozen? ⟨w.heap.size, 1, none⟩ = false) := ⟨(hb2.frozen (World.block_lt_of_cell? _ _ (S1.out.cel w.heap.size 0 (.slice none 0 0)))).trans FZ.out.1, (hb2.frozen (World.block_lt_of_cell? _ _ (S1.out.cel w.heap.size 1 (.slice none 0 0)))).trans FZ.out.2⟩
    have S2 : Hid _ := (S1.out.go hb2).addN hv2
    clear hv2 hb2 S1
    go_wp2_with fail
    refine (of_any 1 _ (by omega)).mono ?_
    rintro e w3 ⟨v3, rfl, hv3, hb3⟩
    have FZ3 : Hid (w3.frozen? ⟨w.heap.size, 0, none⟩ = false ∧ w3.frozen? ⟨w.heap.size, 1, none⟩ = false) := ⟨(hb3.frozen (World.block_lt_of_cell? _ _ (S2.out.cel w.heap.size 0 (.slice none 0 0)))).trans FZ2.out.1, (hb3.frozen (World.block_lt_of_cell? _ _ (S2.out.cel w.heap.size 1 (.slice none 0 0)))).trans FZ2.out.2⟩
    have S3 : Hid _ := (S2.out.go hb3).addN hv3
    clear hv3 hb3 S2
    go_wp2_with fail
    refine (inUnits_at v2 v3 m f _ _ (S3.out.at v2 m) (S3.out.at v3 1) (fits_P (n := 1) (by rw [P_one]; have := HF.out; omega) (by omega)) (by have := HF.out; omega) HF.out.2.2.1).mono ?_
    rintro e w4 ⟨v4, v5, rfl, hv4, hv5, hb4⟩
    have FZ4 : Hid (w4.frozen? ⟨w.heap.size, 0, none⟩ = false ∧ w4.frozen? ⟨w.heap.size, 1, none⟩ = false) := ⟨(hb4.frozen (World.block_lt_of_cell? _ _ (S3.out.cel w.heap.size 0 (.slice none 0 0)))).trans FZ3.out.1, (hb4.frozen (World.block_lt_of_cell? _ _ (S3.out.cel w.heap.size 1 (.slice none 0 0)))).trans FZ3.out.2⟩
    have S4 : Hid _ := ((S3.out.go hb4).addN hv4).addN hv5
    clear hv4 hv5 hb4 S3
    go_wp2_with fail
    refine (from_any v4 v5 _ _ w4 (S4.out.at v4 (m * 2 ^ (f - 1074))) (S4.out.at v5 (2 ^ (1074 - f))) HF.out.2.2.2.2.1 HF.out.2.2.2.2.2 (Nat.two_pow_pos _) (HT.out.1.go S4.out.bel)).mono ?_
    rintro e w5 ⟨v6, rfl, hv, hb⟩
    obtain ⟨a6, n6, k6, a7, n7, k7, ev, _, _⟩ := hv.raw
    subst ev
    rw [HF.out.2.2.2.1.1, HF.out.2.2.2.1.2] at hv
    have z0 := cell_later hb (S4.out.cel w.heap.size 0 (.slice none 0 0))
    have z1 := cell_later hb (S4.out.cel w.heap.size 1 (.slice none 0 0))
    have u0 : w5.frozen? ⟨w.heap.size, 0, none⟩ = false := (hb.frozen (World.block_lt_of_cell? _ _ (S4.out.cel w.heap.size 0 (.slice none 0 0)))).trans FZ4.out.1
    have u1 : w5.frozen? ⟨w.heap.size, 1, none⟩ = false := (hb.frozen (World.block_lt_of_cell? _ _ (S4.out.cel w.heap.size 1 (.slice none 0 0)))).trans FZ4.out.2
    have Z : Hid _ := rat_put (v := .slice a6 n6 k6) (u := .slice a7 n7 k7) z0 z1 hv (bel_go S4.out.bel hb) (Nat.le_refl _)
    clear hv hb S4
    go_wp2_with fail
    exact bodyPost_ret (v := .tuple #[.agg #[.slice a6 n6 k6, .slice a7 n7 k7], .bool true]) (by simp [results, Tryz.results33, go_sem, z0, z1]) rfl ⟨_, rfl, Z.out.1, Z.out.2⟩
  · have x00 : x0 = 0 := by omega
    obtain ⟨f, ef⟩ : ∃ f : Nat, f = 0 := ⟨_, rfl⟩
    have eN : m0 * 2 ^ (f - 1074) = fN u := by unfold fN; rw [hfm, hfe, if_pos x00, x00, ef]
    have eD : 2 ^ (1074 - f) = fD u := by unfold fD; rw [hfe, show x0 - 1 = f by omega]
    have HF : Hid (m0 < 9007199254740992 ∧ f ≤ 2045 ∧ (1074 : Int) = 1074 - (f : Int) ∧ (m0 * 2 ^ (f - 1074) = fN u ∧ 2 ^ (1074 - f) = fD u) ∧ RS (m0 * 2 ^ (f - 1074)) ∧ RS (2 ^ (1074 - f))) := ⟨by omega, by omega, by omega, ⟨eN, eD⟩, by rw [eN]; exact sN, by rw [eD]; exact sD⟩
    clear ef x00 eN eD hfm hfe sN sD hm0 hx0
    go_wp2_with fail
    refine (of_any m0 _ (by have := HF.out; omega)).mono ?_
    rintro e w2 ⟨v2, rfl, hv2, hb2⟩
    have FZ2 : Hid (w2.frozen? ⟨w.heap.size, 0, none⟩ = false ∧ w2.frozen? ⟨w.heap.size, 1, none⟩ = false) := ⟨(hb2.frozen (World.block_lt_of_cell? _ _ (S1.out.cel w.heap.size 0 (.slice none 0 0)))).trans FZ.out.1, (hb2.frozen (World.block_lt_of_cell? _ _ (S1.out.cel w.heap.size 1 (.slice none 0 0)))).trans FZ.out.2⟩
    have S2 : Hid _ := (S1.out.go hb2).addN hv2
    clear hv2 hb2 S1
    go_wp2_with fail
    refine (of_any 1 _ (by omega)).mono ?_
    rintro e w3 ⟨v3, rfl, hv3, hb3⟩
    have FZ3 : Hid (w3.frozen? ⟨w.heap.size, 0, none⟩ = false ∧ w3.frozen? ⟨w.heap.size, 1, none⟩ = false) := ⟨(hb3.frozen (World.block_lt_of_cell? _ _ (S2.out.cel w.heap.size 0 (.slice none 0 0)))).trans FZ2.out.1, (hb3.frozen (World.block_lt_of_cell? _ _ (S2.out.cel w.heap.size 1 (.slice none 0 0)))).trans FZ2.out.2⟩
    have S3 : Hid _ := (S2.out.go hb3).addN hv3
    clear hv3 hb3 S2
    go_wp2_with fail
    refine (inUnits_at v2 v3 m0 f _ _ (S3.out.at v2 m0) (S3.out.at v3 1) (fits_P (n := 1) (by rw [P_one]; have := HF.out; omega) (by omega)) (by have := HF.out; omega) HF.out.2.2.1).mono ?_
    rintro e w4 ⟨v4, v5, rfl, hv4, hv5, hb4⟩
    have FZ4 : Hid (w4.frozen? ⟨w.heap.size, 0, none⟩ = false ∧ w4.frozen? ⟨w.heap.size, 1, none⟩ = false) := ⟨(hb4.frozen (World.block_lt_of_cell? _ _ (S3.out.cel w.heap.size 0 (.slice none 0 0)))).trans FZ3.out.1, (hb4.frozen (World.block_lt_of_cell? _ _ (S3.out.cel w.heap.size 1 (.slice none 0 0)))).trans FZ3.out.2⟩
    have S4 : Hid _ := ((S3.out.go hb4).addN hv4).addN hv5
    clear hv4 hv5 hb4 S3
    go_wp2_with fail
    refine (from_any v4 v5 _ _ w4 (S4.out.at v4 (m0 * 2 ^ (f - 1074))) (S4.out.at v5 (2 ^ (1074 - f))) HF.out.2.2.2.2.1 HF.out.2.2.2.2.2 (Nat.two_pow_pos _) (HT.out.1.go S4.out.bel)).mono ?_
    rintro e w5 ⟨v6, rfl, hv, hb⟩
    obtain ⟨a6, n6, k6, a7, n7, k7, ev, _, _⟩ := hv.raw
    subst ev
    rw [HF.out.2.2.2.1.1, HF.out.2.2.2.1.2] at hv
    have z0 := cell_later hb (S4.out.cel w.heap.size 0 (.slice none 0 0))
    have z1 := cell_later hb (S4.out.cel w.heap.size 1 (.slice none 0 0))
    have u0 : w5.frozen? ⟨w.heap.size, 0, none⟩ = false := (hb.frozen (World.block_lt_of_cell? _ _ (S4.out.cel w.heap.size 0 (.slice none 0 0)))).trans FZ4.out.1
    have u1 : w5.frozen? ⟨w.heap.size, 1, none⟩ = false := (hb.frozen (World.block_lt_of_cell? _ _ (S4.out.cel w.heap.size 1 (.slice none 0 0)))).trans FZ4.out.2
    have Z : Hid _ := rat_put (v := .slice a6 n6 k6) (u := .slice a7 n7 k7) z0 z1 hv (bel_go S4.out.bel hb) (Nat.le_refl _)
    clear hv hb S4
    go_wp2_with fail
    exact bodyPost_ret (v := .tuple #[.agg #[.slice a6 n6 k6, .slice a7 n7 k7], .bool true]) (by simp [results, Tryz.results33, go_sem, z0, z1]) rfl ⟨_, rfl, Z.out.1, Z.out.2⟩
end Go.Proofs.YtmiiaomdenpceaaGreatDoor


