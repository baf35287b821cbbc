/- Contracts of the program's functions, part 23: own work, joined in build order. -/
import Derived.Test.YtmiiaomdenpceaaGreatDoorJ22
namespace Go.Proofs.YtmiiaomdenpceaaGreatDoor
open Go.RowKit
set_option maxRecDepth 100000
set_option linter.unusedVariables false
/-- The parts are runs of digits, and not too long. -/
structure GoodP (p : PtS) : Prop where
  w0 : 0 < p.whole.size
  dw : Digits p.whole p.whole.size
  dp : Digits p.places p.places.size
  db : Digits p.below p.below.size
  dx : Digits p.power p.power.size
  sz : p.whole.size + p.places.size ≤ 400
  sb : p.below.size ≤ 400
  sx : p.power.size ≤ 3
/-- The power of 10. -/
def pwI (p : PtS) : Int := (if p.minus then -((decVal p.power p.power.size : Nat) : Int) else ((decVal p.power p.power.size : Nat) : Int)) - (p.places.size : Int)
def numA (p : PtS) : Nat := decVal (p.whole ++ p.places) (p.whole ++ p.places).size
def vN (p : PtS) : Nat := if p.below.size = 0 then numA p * 10 ^ (pwI p).toNat else numA p
def vD (p : PtS) : Nat := if p.below.size = 0 then 10 ^ (-(pwI p)).toNat else decVal p.below p.below.size
theorem size_em {s : ByteArray} (h : s.size = 0) : s = ⟨#[]⟩ := by
  cases s with
  | mk d =>
    have : d.size = 0 := h
    rw [Array.eq_empty_of_size_eq_zero this]
theorem str_ne {s : ByteArray} (h : ¬ s.size = 0) : (s.toList == ([] : List UInt8)) = false := by
  refine beq_eq_false_iff_ne.2 fun h2 => h ?_
  rw [ByteArray.toList_eq] at h2
  cases s with
  | mk d =>
    simp at h2
    show d.size = 0
    rw [h2]
    rfl
theorem ten400 {x n : Nat} (h : x < 10 ^ n) (hn : n ≤ 400) : x < P 21 :=
  Nat.lt_trans (Nat.lt_of_lt_of_le h (Nat.pow_le_pow_right (by omega) hn)) (by decide +kernel : 10 ^ 400 < P 21)
theorem ten999 : 10 ^ 999 < P 60 := by decide +kernel
theorem GoodP.a {p : PtS} (h : GoodP p) : numA p < P 21 := by
  have h1 := decVal_lt (dig_app h.dw h.dp)
  exact ten400 h1 (by rw [ByteArray.size_append]; exact h.sz)
theorem GoodP.b {p : PtS} (h : GoodP p) : decVal p.below p.below.size < P 21 := ten400 (decVal_lt h.db) h.sb
theorem GoodP.pw {p : PtS} (h : GoodP p) : -1399 ≤ pwI p ∧ pwI p ≤ 999 := by
  have h1 := decVal_3 h.dx h.sx
  have h2 := h.sz
  unfold pwI
  split <;> omega
def PAgg (p : PtS) : Value := .agg #[.string p.whole, .string p.below, .string p.places, .string p.power, .bool p.minus]
def MakesV (w : World) (p : PtS) (e : Ending) (w' : World) : Prop := if vD p = 0 then MakesRB w 0 1 false e w' else MakesRB w (vN p / Nat.gcd (vN p) (vD p)) (vD p / Nat.gcd (vN p) (vD p)) true e w'
set_option maxHeartbeats 2000000 in
theorem value_below (p : PtS) (w : World) (hg : GoodP p) (hb0 : ¬ p.below.size = 0) (hT : Tab w) :
    Calls Tryz.prog 81 #[PAgg p] w (MakesV w p) := by
  obtain ⟨P1, P2, P3, P4, P5⟩ := p
  simp only at hb0
  unfold PAgg
  have HG : Hid _ := hg
  have c1 := cat_run P1 P3 (by have := hg.sz; simp only at this; omega)
  have q1 : P1.size + P3.size ≤ 9223372036854775807 := by have := hg.sz; simp only at this; omega
  have p1 : ∀ w : World, (Op.stringOp .add P1 P3).run Tryz.prog w = .ok (.string (P1 ++ P3)) w := fun w => run_string_add_sum w _ _ q1
  obtain ⟨X, hX⟩ : ∃ X, X = P1 ++ P3 := ⟨_, rfl⟩
  rw [← hX] at c1 p1
  have HX : Hid (X = P1 ++ P3) := hX
  obtain ⟨A, hA⟩ : ∃ A, A = decVal X X.size := ⟨_, rfl⟩
  have HP : Hid (0 < X.size ∧ X.size ≤ 400 ∧ Digits X X.size ∧ decVal X X.size = A) := ⟨by rw [hX, ByteArray.size_append]; have := hg.w0; simp only at this; omega, by rw [hX, ByteArray.size_append]; exact hg.sz, by rw [hX]; exact dig_app hg.dw hg.dp, hA.symm⟩
  have HA : Hid (numA ⟨P1, P2, P3, P4, P5⟩ = A ∧ A < P 21) := ⟨by show decVal (P1 ++ P3) (P1 ++ P3).size = A; rw [← hX]; exact hA.symm, by have := hg.a; rw [show numA ⟨P1, P2, P3, P4, P5⟩ = A by show decVal (P1 ++ P3) (P1 ++ P3).size = A; rw [← hX]; exact hA.symm] at this; exact this⟩
  obtain ⟨w0, hw0⟩ : ∃ w0, w0 = (w.alloc (.cells #[.string P1, .string P2, .string P3, .string P4, .bool P5] 117)).alloc (.cells #[.slice none 0 0, .slice none 0 0] 28) := ⟨_, rfl⟩
  have S0 : Hid _ := (((((((sy_start w).go (w' := w.alloc (.cells #[.string P1, .string P2, .string P3, .string P4, .bool P5] 117)) (bel_al (bel_refl _))).addC (b := w.heap.size) (i := 0) (v := .string P1) (by simp [go_sem])).addC (b := w.heap.size) (i := 1) (v := .string P2) (by simp [go_sem])).addC (b := w.heap.size) (i := 2) (v := .string P3) (by simp [go_sem])).addC (b := w.heap.size) (i := 3) (v := .string P4) (by simp [go_sem])).addC (b := w.heap.size) (i := 4) (v := .bool P5) (by simp [go_sem])).box (.slice none 0 0) (.slice none 0 0) 28 _ rfl
  simp only [World.size_alloc] at S0
  have HT : Hid (Tab w) := hT
  clear hg hX hA hT q1
  go_enter Tryz.func81, Tryz.ntmps81
  go_wp2_with fail
  rw [← hw0] at S0
  rw [← hw0]
  obtain ⟨b, hb⟩ : ∃ b, b = w.heap.size := ⟨_, rfl⟩
  rw [← hb] at S0
  rw [← hb]
  clear hw0 hb
  refine (parse_digits X A _ HP.out.1 HP.out.2.1 HP.out.2.2.1 HP.out.2.2.2).mono ?_
  rintro e w1 ⟨v1, rfl, hv1, hb1⟩
  obtain ⟨a1, n1, c1', rfl⟩ := hv1.isAgg
  have S1 : Hid _ := ((S0.out.go hb1).addN hv1).box1 (.slice a1 n1 c1') 26 _ rfl
  have LT1 : Hid (b + 1 < w1.heap.size) := (S0.out.go hb1).lt (b + 1)
  clear hv1 hb1 S0 HP
  have z1 := S1.out.cel b 1 (.string P2)
  have z2 := S1.out.cel b 2 (.string P3)
  have z3 := S1.out.cel b 3 (.string P4)
  have z4 := S1.out.cel b 4 (.bool P5)
  have ne := str_ne hb0
  obtain ⟨B, hB⟩ : ∃ B, B = decVal P2 P2.size := ⟨_, rfl⟩
  have HQ : Hid (0 < P2.size ∧ P2.size ≤ 400 ∧ Digits P2 P2.size ∧ decVal P2 P2.size = B ∧ B < P 21) := ⟨by omega, HG.out.sb, HG.out.db, hB.symm, by rw [hB]; exact HG.out.b⟩
  have HV : Hid (vN ⟨P1, P2, P3, P4, P5⟩ = A ∧ vD ⟨P1, P2, P3, P4, P5⟩ = B) := ⟨by unfold vN; rw [if_neg hb0]; exact HA.out.1, by unfold vD; rw [if_neg hb0]; exact hB.symm⟩
  clear hb0 hB
  go_wp2_with fail
  obtain ⟨g, hg⟩ : ∃ g, g = w1.heap.size := ⟨_, rfl⟩
  obtain ⟨w2, hw2⟩ : ∃ w2, w2 = w1.alloc (.cells #[.slice a1 n1 c1'] 26) := ⟨_, rfl⟩
  rw [← hw2, ← hg] at S1
  rw [← hw2, ← hg]
  clear hw2 hg z1 z2 z3 z4
  refine (parse_digits P2 B _ HQ.out.1 HQ.out.2.1 HQ.out.2.2.1 HQ.out.2.2.2.1).mono ?_
  rintro e w3 ⟨v3, rfl, hv3, hb3⟩
  obtain ⟨a3, n3, c3, rfl⟩ := hv3.isAgg
  have HGW : Hid (g < w3.heap.size) := (S1.out.go hb3).lt g
  have S2 : Hid _ := ((S1.out.go hb3).addN hv3).box1 (.slice a3 n3 c3) 26 _ rfl
  clear hv3 hb3 S1
  have y1 := S2.out.cel g 0 (.slice a1 n1 c1')
  go_wp2_with fail
  obtain ⟨w4, hw4⟩ : ∃ w4, w4 = w3.alloc (.cells #[.slice a3 n3 c3] 26) := ⟨_, rfl⟩
  rw [← hw4] at S2
  rw [← hw4]
  clear hw4 y1
  by_cases hz : B = 0
  · have hN := S2.out.at (.agg #[.slice a3 n3 c3]) B
    rw [hz] at hN
    refine (from_none _ _ A _ (S2.out.at (.agg #[.slice a1 n1 c1']) A) hN).mono ?_
    clear hN
    rintro e w5 ⟨v5, rfl, hv5, hb5⟩
    obtain ⟨a5, n5, c5, a6, n6, c6, ev, _, _⟩ := hv5.raw
    subst ev
    have S3 : Hid _ := (S2.out.go hb5).addF hv5
    clear hv5 hb5 S2
    have x0 := S3.out.cel (b + 1) 0 (.slice none 0 0)
    have x1 := S3.out.cel (b + 1) 1 (.slice none 0 0)
    have f0 := S3.out.fz (b + 1) 0
    have f1 := S3.out.fz (b + 1) 1
    have Z : Hid _ := rat_put (w0 := w) (v := .slice a5 n5 c5) (u := .slice a6 n6 c6) x0 x1 (S3.out.fr (.agg #[.slice a5 n5 c5, .slice a6 n6 c6]) 0 1) S3.out.bel (S3.out.lo (b + 1))
    have HZ : Hid (vD ⟨P1, P2, P3, P4, P5⟩ = 0) := by show _ = _; rw [HV.out.2]; exact hz
    clear hz
    go_wp2_with fail
    refine bodyPost_ret (v := .tuple #[.agg #[.slice a5 n5 c5, .slice a6 n6 c6], .bool false]) (by simp [results, Tryz.results81, go_sem, x0, x1]) rfl ?_
    unfold MakesV
    rw [if_pos HZ.out]
    exact ⟨_, rfl, Z.out.1, Z.out.2⟩
  · refine (from_any _ _ A B _ (S2.out.at (.agg #[.slice a1 n1 c1']) A) (S2.out.at (.agg #[.slice a3 n3 c3]) B) ⟨P_up HA.out.2 (by omega)⟩ ⟨P_up HQ.out.2.2.2.2 (by omega)⟩ (by omega) (HT.out.go S2.out.bel)).mono ?_
    rintro e w5 ⟨v5, rfl, hv5, hb5⟩
    obtain ⟨a5, n5, c5, a6, n6, c6, ev, _, _⟩ := hv5.raw
    subst ev
    have S3 : Hid _ := (S2.out.go hb5).addF hv5
    clear hv5 hb5 S2
    have x0 := S3.out.cel (b + 1) 0 (.slice none 0 0)
    have x1 := S3.out.cel (b + 1) 1 (.slice none 0 0)
    have f0 := S3.out.fz (b + 1) 0
    have f1 := S3.out.fz (b + 1) 1
    have Z : Hid _ := rat_put (w0 := w) (v := .slice a5 n5 c5) (u := .slice a6 n6 c6) x0 x1 (S3.out.fr (.agg #[.slice a5 n5 c5, .slice a6 n6 c6]) (A / Nat.gcd A B) (B / Nat.gcd A B)) S3.out.bel (S3.out.lo (b + 1))
    have HZ : Hid (¬ vD ⟨P1, P2, P3, P4, P5⟩ = 0) := fun h9 => hz (by rw [HV.out.2] at h9; exact h9)
    clear hz
    go_wp2_with fail
    refine bodyPost_ret (v := .tuple #[.agg #[.slice a5 n5 c5, .slice a6 n6 c6], .bool true]) (by simp [results, Tryz.results81, go_sem, x0, x1]) rfl ?_
    unfold MakesV
    rw [if_neg HZ.out, HV.out.1, HV.out.2]
    exact ⟨_, rfl, Z.out.1, Z.out.2⟩
set_option maxHeartbeats 4000000 in
theorem value_pow (p : PtS) (w : World) (hg : GoodP p) (hb0 : p.below.size = 0) (hT : Tab w) :
    Calls Tryz.prog 81 #[PAgg p] w (MakesV w p) := by
  obtain ⟨P1, P2, P3, P4, P5⟩ := p
  simp only at hb0
  obtain rfl : P2 = ⟨#[]⟩ := size_em hb0
  clear hb0
  unfold PAgg
  have HG : Hid _ := hg
  have c1 := cat_run P1 P3 (by have := hg.sz; simp only at this; omega)
  have q1 : P1.size + P3.size ≤ 9223372036854775807 := by have := hg.sz; simp only at this; omega
  have p1 : ∀ w : World, (Op.stringOp .add P1 P3).run Tryz.prog w = .ok (.string (P1 ++ P3)) w := fun w => run_string_add_sum w _ _ q1
  obtain ⟨X, hX⟩ : ∃ X, X = P1 ++ P3 := ⟨_, rfl⟩
  rw [← hX] at c1 p1
  have HX : Hid (X = P1 ++ P3) := hX
  obtain ⟨A, hA⟩ : ∃ A, A = decVal X X.size := ⟨_, rfl⟩
  have HP : Hid (0 < X.size ∧ X.size ≤ 400 ∧ Digits X X.size ∧ decVal X X.size = A) := ⟨by rw [hX, ByteArray.size_append]; have := hg.w0; simp only at this; omega, by rw [hX, ByteArray.size_append]; exact hg.sz, by rw [hX]; exact dig_app hg.dw hg.dp, hA.symm⟩
  have HA : Hid (numA ⟨P1, ⟨#[]⟩, P3, P4, P5⟩ = A ∧ A < P 21) := ⟨by show decVal (P1 ++ P3) (P1 ++ P3).size = A; rw [← hX]; exact hA.symm, by have := hg.a; rw [show numA ⟨P1, ⟨#[]⟩, P3, P4, P5⟩ = A by show decVal (P1 ++ P3) (P1 ++ P3).size = A; rw [← hX]; exact hA.symm] at this; exact this⟩
  obtain ⟨w0, hw0⟩ : ∃ w0, w0 = (w.alloc (.cells #[.string P1, .string ⟨#[]⟩, .string P3, .string P4, .bool P5] 117)).alloc (.cells #[.slice none 0 0, .slice none 0 0] 28) := ⟨_, rfl⟩
  have S0 : Hid _ := (((((((sy_start w).go (w' := w.alloc (.cells #[.string P1, .string ⟨#[]⟩, .string P3, .string P4, .bool P5] 117)) (bel_al (bel_refl _))).addC (b := w.heap.size) (i := 0) (v := .string P1) (by simp [go_sem])).addC (b := w.heap.size) (i := 1) (v := .string ⟨#[]⟩) (by simp [go_sem])).addC (b := w.heap.size) (i := 2) (v := .string P3) (by simp [go_sem])).addC (b := w.heap.size) (i := 3) (v := .string P4) (by simp [go_sem])).addC (b := w.heap.size) (i := 4) (v := .bool P5) (by simp [go_sem])).box (.slice none 0 0) (.slice none 0 0) 28 _ rfl
  simp only [World.size_alloc] at S0
  have HT : Hid (Tab w) := hT
  clear hg hX hA hT q1
  go_enter Tryz.func81, Tryz.ntmps81
  go_wp2_with fail
  rw [← hw0] at S0
  rw [← hw0]
  obtain ⟨b, hb⟩ : ∃ b, b = w.heap.size := ⟨_, rfl⟩
  rw [← hb] at S0
  rw [← hb]
  clear hw0 hb
  refine (parse_digits X A _ HP.out.1 HP.out.2.1 HP.out.2.2.1 HP.out.2.2.2).mono ?_
  rintro e w1 ⟨v1, rfl, hv1, hb1⟩
  obtain ⟨a1, n1, c1', rfl⟩ := hv1.isAgg
  have S1 : Hid _ := ((S0.out.go hb1).addN hv1).box1 (.slice a1 n1 c1') 26 _ rfl
  have LT1 : Hid (b + 1 < w1.heap.size) := (S0.out.go hb1).lt (b + 1)
  clear hv1 hb1 S0 HP
  have z1 := S1.out.cel b 1 (.string ⟨#[]⟩)
  have z2 := S1.out.cel b 2 (.string P3)
  have z3 := S1.out.cel b 3 (.string P4)
  have z4 := S1.out.cel b 4 (.bool P5)
  obtain ⟨n, hn⟩ : ∃ n, n = decVal P4 P4.size := ⟨_, rfl⟩
  have hn9 : n ≤ 999 := by rw [hn]; exact decVal_3 HG.out.dx HG.out.sx
  obtain ⟨k, hk⟩ : ∃ k, k = P3.size := ⟨_, rfl⟩
  have hk4 : k ≤ 400 := by rw [hk]; have := HG.out.sz; simp only at this; omega
  obtain ⟨y, hy⟩ : ∃ y : Int, y = (if P5 then -(n : Int) else (n : Int)) - (k : Int) := ⟨_, rfl⟩
  have hPw : pwI ⟨P1, ⟨#[]⟩, P3, P4, P5⟩ = y := by unfold pwI; simp only; rw [← hn, ← hk, ← hy]
  have hyb : -1399 ≤ y ∧ y ≤ 999 := by rw [← hPw]; exact HG.out.pw
  have HN : Hid (decVal P4 P4.size = n) := hn.symm
  have hk' : P3.size = k := hk.symm
  obtain ⟨t, ht⟩ : ∃ t, t = if y < 0 then (-y).toNat else y.toNat := ⟨_, rfl⟩
  have HY : Hid (-1399 ≤ y ∧ t ≤ 1500 ∧ A * 10 ^ (if y < 0 then 0 else t) < P 90) := by
    refine ⟨hyb.1, by rw [ht]; split <;> omega, ?_⟩
    split
    · rw [Nat.pow_zero, Nat.mul_one]
      exact P_up HA.out.2 (by omega)
    · rename_i hh
      have h1 : 10 ^ t < P 60 := Nat.lt_of_le_of_lt (Nat.pow_le_pow_right (by omega) (by rw [ht, if_neg hh]; omega)) ten999
      exact P_up (mulP_lt HA.out.2 h1) (by omega)
  have HV0 : Hid (vN ⟨P1, ⟨#[]⟩, P3, P4, P5⟩ = A * 10 ^ y.toNat ∧ vD ⟨P1, ⟨#[]⟩, P3, P4, P5⟩ = 10 ^ (-y).toNat) := ⟨by unfold vN; simp only; rw [if_pos (show (⟨#[]⟩ : ByteArray).size = 0 from rfl), HA.out.1, hPw], by unfold vD; simp only; rw [if_pos (show (⟨#[]⟩ : ByteArray).size = 0 from rfl), hPw]⟩
  have HZ : Hid (¬ vD ⟨P1, ⟨#[]⟩, P3, P4, P5⟩ = 0) := by show ¬ _; rw [HV0.out.2]; exact Nat.ne_of_gt (Nat.pow_pos (by omega))
  have w1' : IntKind.i64.wrap (-(n : Int)) = -(n : Int) := by rw [IntKind.wrap_i64]; omega
  have w2' : IntKind.i64.wrap (-y) = -y := by rw [IntKind.wrap_i64]; omega
  clear hn hk hPw
  cases P5 with
  | true =>
    have w3' : wrap64 (-(n : Int) - (k : Int)) = y := by rw [hy]; exact IntWalk.wrap64_in _ ⟨by omega, by omega⟩
    clear hy
    have W3 : Hid _ := w3'
    clear w3'
    by_cases hs : y < 0
    · have d1 : decide (y < 0) = true := decide_eq_true hs
      have w4' : IntKind.i64.wrap (-y) = (t : Int) := by rw [w2', ht, if_pos hs]; omega
      have HV : Hid (vN ⟨P1, ⟨#[]⟩, P3, P4, true⟩ = A ∧ vD ⟨P1, ⟨#[]⟩, P3, P4, true⟩ = 10 ^ t) := ⟨by rw [HV0.out.1, show y.toNat = 0 by omega, Nat.pow_zero, Nat.mul_one], by rw [HV0.out.2, ht, if_pos hs]⟩
      have HY : Hid (-1399 ≤ y ∧ t ≤ 1500 ∧ True) := ⟨HY.out.1, HY.out.2.1, trivial⟩
      clear hs ht w2' HV0 hn9 hk4 hyb
      have w3' := W3.out
      go_wp2_with fail
      refine (small_any P4 _ HG.out.dx HG.out.sx).mono ?_
      rintro e wx ⟨rfl, hwx⟩
      rw [hwx, HN.out]
      clear hwx
      go_wp2_with fail
      obtain ⟨g, hg⟩ : ∃ g, g = w1.heap.size := ⟨_, rfl⟩
      obtain ⟨w2, hw2⟩ : ∃ w2, w2 = w1.alloc (.cells #[.slice a1 n1 c1'] 26) := ⟨_, rfl⟩
      rw [← hw2, ← hg] at S1
      rw [← hw2, ← hg]
      have nb1 : ¬ b + 1 = g := by rw [hg]; have := LT1.out; omega
      have nb2 : ¬ g = b + 1 := fun e => nb1 e.symm
      clear hw2 hg z1 z2 z3 z4
      refine wp_region_held_drew (S := fun w9 => w9.cell? ⟨g, 0, none⟩ = some (.slice a1 n1 c1')) (by kernel_rfl) (S1.out.cel g 0 (.slice a1 n1 c1')) (fun hHeld => ?_)
      refine wpAnyH_take (i := 0) (v := .agg #[.slice a1 n1 c1']) rfl (by kernel_rfl) (by kernel_rfl) (by kernel_rfl) (fun _ _ _ h => h) (Or.inl ⟨by rfl, ?_⟩) (by assumption) ?_
      · intro w hSw
        go_simp
      refine wpAnyH_take (i := 1) (v := .int .i64 y) rfl (by kernel_rfl) (by kernel_rfl) (by kernel_rfl) (fun _ _ _ h => h) (Or.inl ⟨by rfl, ?_⟩) (by assumption) ?_
      · intro w hSw
        go_simp
      refine wpAnyH_take (i := 2) (v := .int .i64 (t : Int)) rfl (by kernel_rfl) (by kernel_rfl) (by kernel_rfl) (fun _ _ _ h => h) (Or.inl ⟨by rfl, ?_⟩) (by assumption) ?_
      · intro w hSw
        go_simp
      refine wpAnyH_ready (rs := [3]) (by kernel_rfl) (by simp) ?_
      refine AllReadyH.cons rfl (fun K9 hK9 => ?_) AllReadyH.nil
      go_simp
      refine Calls.mono (tenTo_any t _ HY.out.2.1) ?_
      rintro e w3 ⟨v3, rfl, hv3, hb3⟩
      replace hb3 : Below w2.heap.size w2 w3 := bel_undrew hb3
      have S2 : Hid _ := (S1.out.go hb3).addN hv3
      clear hv3 hb3 S1 hHeld
      refine hK9.out _ _ (S2.out.cel g 0 (.slice a1 n1 c1')) (fun hHeld => ?_)
      clear hK9 K9
      refine wpAnyH_ready (rs := [4]) (by kernel_rfl) (by simp) ?_
      refine AllReadyH.cons rfl (fun K9 hK9 => ?_) AllReadyH.nil
      go_simp
      refine Calls.mono (from_any _ _ A (10 ^ t) _ (S2.out.at (.agg #[.slice a1 n1 c1']) A) (S2.out.at v3 (10 ^ t)) ⟨P_up HA.out.2 (by omega)⟩ ⟨ten_P90 HY.out.2.1⟩ (Nat.pow_pos (by omega)) (HT.out.go S2.out.bel)) ?_
      rintro e w5 ⟨v5, rfl, hv5, hb5⟩
      have S3 : Hid _ := (S2.out.go hb5).addF hv5
      obtain ⟨a5, n5, c5, a6, n6, c6, ev, _, _⟩ := hv5.raw
      subst ev
      clear hv5 hb5 S2 hHeld
      have x0 := S3.out.cel (b + 1) 0 (.slice none 0 0)
      have x1 := S3.out.cel (b + 1) 1 (.slice none 0 0)
      have f0 := S3.out.fz (b + 1) 0
      have f1 := S3.out.fz (b + 1) 1
      have t0 := S3.out.cel g 0 (.slice a1 n1 c1')
      refine hK9.out _ _ t0 (fun hHeld => ?_)
      clear hK9 K9
      refine wpAnyH_take (i := 5) (v := .agg #[.slice a5 n5 c5, .slice a6 n6 c6]) rfl (by kernel_rfl) (by kernel_rfl) (by kernel_rfl) (fun _ _ _ h => h) (Or.inl ⟨by rfl, ?_⟩) (by assumption) ?_
      · intro w hSw
        go_simp
      refine wpAnyH_take (i := 6) (v := .bool true) rfl (by kernel_rfl) (by kernel_rfl) (by kernel_rfl) (fun _ _ _ h => h) (Or.inl ⟨by rfl, ?_⟩) (by assumption) ?_
      · intro w hSw
        go_simp
      refine wpAnyH_ready (rs := [7]) (by kernel_rfl) (by simp) ?_
      refine AllReadyH.cons rfl (fun K9 hK9 => ?_) AllReadyH.nil
      go_simp
      clear hHeld
      refine hK9.out _ _ (by simp [go_sem, *]) (fun hHeld => ?_)
      clear hK9 K9
      refine wpAnyH_take (i := 8) (v := .bool true) rfl (by kernel_rfl) (by kernel_rfl) (by kernel_rfl) (fun _ _ _ h => h) (Or.inl ⟨by rfl, ?_⟩) (by assumption) ?_
      · intro w hSw
        go_simp
      refine wpAnyH_done (by kernel_rfl) ?_ _
      have Z : Hid _ := rat_put (w0 := w) (v := .slice a5 n5 c5) (u := .slice a6 n6 c6) x0 x1 (S3.out.fr (.agg #[.slice a5 n5 c5, .slice a6 n6 c6]) ((A) / Nat.gcd (A) (10 ^ t)) ((10 ^ t) / Nat.gcd (A) (10 ^ t))) S3.out.bel (S3.out.lo (b + 1))
      go_wp2_with fail
      refine bodyPost_ret (v := .tuple #[.agg #[.slice a5 n5 c5, .slice a6 n6 c6], .bool true]) (by simp [results, Tryz.results81, go_sem, x0, x1]) rfl ?_
      unfold MakesV
      rw [if_neg HZ.out, HV.out.1, HV.out.2]
      exact ⟨_, rfl, Z.out.1, Z.out.2⟩
    · have d1 : decide (y < 0) = false := decide_eq_false hs
      have ey : y = (t : Int) := by rw [ht, if_neg hs]; omega
      have HV : Hid (vN ⟨P1, ⟨#[]⟩, P3, P4, true⟩ = A * 10 ^ t ∧ vD ⟨P1, ⟨#[]⟩, P3, P4, true⟩ = 1) := ⟨by rw [HV0.out.1, ht, if_neg hs], by rw [HV0.out.2, show (-y).toNat = 0 by omega, Nat.pow_zero]⟩
      have HY : Hid (-1399 ≤ y ∧ t ≤ 1500 ∧ A * 10 ^ t < P 90) := ⟨HY.out.1, HY.out.2.1, by have := HY.out.2.2; rw [if_neg hs] at this; exact this⟩
      have w3' := W3.out
      rw [ey] at w3' d1
      clear hs ht w2' HV0 hn9 hk4 hyb ey W3
      go_wp2_with fail
      refine (small_any P4 _ HG.out.dx HG.out.sx).mono ?_
      rintro e wx ⟨rfl, hwx⟩
      rw [hwx, HN.out]
      clear hwx
      go_wp2_with fail
      obtain ⟨g, hg⟩ : ∃ g, g = w1.heap.size := ⟨_, rfl⟩
      obtain ⟨w2, hw2⟩ : ∃ w2, w2 = w1.alloc (.cells #[.slice a1 n1 c1'] 26) := ⟨_, rfl⟩
      rw [← hw2, ← hg] at S1
      rw [← hw2, ← hg]
      have nb1 : ¬ b + 1 = g := by rw [hg]; have := LT1.out; omega
      have nb2 : ¬ g = b + 1 := fun e => nb1 e.symm
      clear hw2 hg z1 z2 z3 z4
      refine wp_region_held_drew (S := fun w9 => w9.cell? ⟨g, 0, none⟩ = some (.slice a1 n1 c1')) (by kernel_rfl) (S1.out.cel g 0 (.slice a1 n1 c1')) (fun hHeld => ?_)
      refine wpAnyH_take (i := 0) (v := .agg #[.slice a1 n1 c1']) rfl (by kernel_rfl) (by kernel_rfl) (by kernel_rfl) (fun _ _ _ h => h) (Or.inl ⟨by rfl, ?_⟩) (by assumption) ?_
      · intro w hSw
        go_simp
      refine wpAnyH_take (i := 1) (v := .int .i64 (t : Int)) rfl (by kernel_rfl) (by kernel_rfl) (by kernel_rfl) (fun _ _ _ h => h) (Or.inl ⟨by rfl, ?_⟩) (by assumption) ?_
      · intro w hSw
        go_simp
      refine wpAnyH_ready (rs := [2]) (by kernel_rfl) (by simp) ?_
      refine AllReadyH.cons rfl (fun K9 hK9 => ?_) AllReadyH.nil
      go_simp
      refine Calls.mono (tenTo_any t _ HY.out.2.1) ?_
      rintro e w3 ⟨v3, rfl, hv3, hb3⟩
      replace hb3 : Below w2.heap.size w2 w3 := bel_undrew hb3
      have S2 : Hid _ := (S1.out.go hb3).addN hv3
      clear hv3 hb3 S1 hHeld
      refine hK9.out _ _ (S2.out.cel g 0 (.slice a1 n1 c1')) (fun hHeld => ?_)
      clear hK9 K9
      refine wpAnyH_ready (rs := [3]) (by kernel_rfl) (by simp) ?_
      refine AllReadyH.cons rfl (fun K9 hK9 => ?_) AllReadyH.nil
      go_simp
      refine Calls.mono (mul_short _ _ A (10 ^ t) _ (S2.out.at (.agg #[.slice a1 n1 c1']) A) (S2.out.at v3 (10 ^ t)) (fits_P HA.out.2 (by omega)) (fits_P (ten_P90 HY.out.2.1) (by omega)) (.inl (P_up HA.out.2 (by omega)))) ?_
      rintro e w4 ⟨v4, rfl, hv4, hb4⟩
      have S3 : Hid _ := (S2.out.go hb4).addN hv4
      clear hv4 hb4 S2 hHeld
      refine hK9.out _ _ (S3.out.cel g 0 (.slice a1 n1 c1')) (fun hHeld => ?_)
      clear hK9 K9
      refine wpAnyH_ready (rs := [4]) (by kernel_rfl) (by simp) ?_
      refine AllReadyH.cons rfl (fun K9 hK9 => ?_) AllReadyH.nil
      go_simp
      refine Calls.mono (of_any 1 _ (by omega)) ?_
      rintro e w6 ⟨v6, rfl, hv6, hb6⟩
      have S4 : Hid _ := (S3.out.go hb6).addN hv6
      clear hv6 hb6 S3 hHeld
      refine hK9.out _ _ (S4.out.cel g 0 (.slice a1 n1 c1')) (fun hHeld => ?_)
      clear hK9 K9
      refine wpAnyH_ready (rs := [5]) (by kernel_rfl) (by simp) ?_
      refine AllReadyH.cons rfl (fun K9 hK9 => ?_) AllReadyH.nil
      go_simp
      refine Calls.mono (from_any _ _ (A * 10 ^ t) 1 _ (S4.out.at v4 (A * 10 ^ t)) (S4.out.at v6 1) ⟨HY.out.2.2⟩ (rs_word (by omega)) (by omega) (HT.out.go S4.out.bel)) ?_
      rintro e w5 ⟨v5, rfl, hv5, hb5⟩
      have S3 : Hid _ := (S4.out.go hb5).addF hv5
      obtain ⟨a5, n5, c5, a6, n6, c6, ev, _, _⟩ := hv5.raw
      subst ev
      clear hv5 hb5 S4 hHeld
      have x0 := S3.out.cel (b + 1) 0 (.slice none 0 0)
      have x1 := S3.out.cel (b + 1) 1 (.slice none 0 0)
      have f0 := S3.out.fz (b + 1) 0
      have f1 := S3.out.fz (b + 1) 1
      have t0 := S3.out.cel g 0 (.slice a1 n1 c1')
      refine hK9.out _ _ t0 (fun hHeld => ?_)
      clear hK9 K9
      refine wpAnyH_take (i := 6) (v := .agg #[.slice a5 n5 c5, .slice a6 n6 c6]) rfl (by kernel_rfl) (by kernel_rfl) (by kernel_rfl) (fun _ _ _ h => h) (Or.inl ⟨by rfl, ?_⟩) (by assumption) ?_
      · intro w hSw
        go_simp
      refine wpAnyH_take (i := 7) (v := .bool true) rfl (by kernel_rfl) (by kernel_rfl) (by kernel_rfl) (fun _ _ _ h => h) (Or.inl ⟨by rfl, ?_⟩) (by assumption) ?_
      · intro w hSw
        go_simp
      refine wpAnyH_ready (rs := [8]) (by kernel_rfl) (by simp) ?_
      refine AllReadyH.cons rfl (fun K9 hK9 => ?_) AllReadyH.nil
      go_simp
      clear hHeld
      refine hK9.out _ _ (by simp [go_sem, *]) (fun hHeld => ?_)
      clear hK9 K9
      refine wpAnyH_take (i := 9) (v := .bool true) rfl (by kernel_rfl) (by kernel_rfl) (by kernel_rfl) (fun _ _ _ h => h) (Or.inl ⟨by rfl, ?_⟩) (by assumption) ?_
      · intro w hSw
        go_simp
      refine wpAnyH_done (by kernel_rfl) ?_ _
      have Z : Hid _ := rat_put (w0 := w) (v := .slice a5 n5 c5) (u := .slice a6 n6 c6) x0 x1 (S3.out.fr (.agg #[.slice a5 n5 c5, .slice a6 n6 c6]) ((A * 10 ^ t) / Nat.gcd (A * 10 ^ t) (1)) ((1) / Nat.gcd (A * 10 ^ t) (1))) S3.out.bel (S3.out.lo (b + 1))
      go_wp2_with fail
      refine bodyPost_ret (v := .tuple #[.agg #[.slice a5 n5 c5, .slice a6 n6 c6], .bool true]) (by simp [results, Tryz.results81, go_sem, x0, x1]) rfl ?_
      unfold MakesV
      rw [if_neg HZ.out, HV.out.1, HV.out.2]
      exact ⟨_, rfl, Z.out.1, Z.out.2⟩
  | false =>
    have w3' : wrap64 ((n : Int) - (k : Int)) = y := by rw [hy]; exact IntWalk.wrap64_in _ ⟨by omega, by omega⟩
    clear hy
    have W3 : Hid _ := w3'
    clear w3'
    by_cases hs : y < 0
    · have d1 : decide (y < 0) = true := decide_eq_true hs
      have w4' : IntKind.i64.wrap (-y) = (t : Int) := by rw [w2', ht, if_pos hs]; omega
      have HV : Hid (vN ⟨P1, ⟨#[]⟩, P3, P4, false⟩ = A ∧ vD ⟨P1, ⟨#[]⟩, P3, P4, false⟩ = 10 ^ t) := ⟨by rw [HV0.out.1, show y.toNat = 0 by omega, Nat.pow_zero, Nat.mul_one], by rw [HV0.out.2, ht, if_pos hs]⟩
      have HY : Hid (-1399 ≤ y ∧ t ≤ 1500 ∧ True) := ⟨HY.out.1, HY.out.2.1, trivial⟩
      clear hs ht w2' HV0 hn9 hk4 hyb
      have w3' := W3.out
      go_wp2_with fail
      refine (small_any P4 _ HG.out.dx HG.out.sx).mono ?_
      rintro e wx ⟨rfl, hwx⟩
      rw [hwx, HN.out]
      clear hwx
      go_wp2_with fail
      obtain ⟨g, hg⟩ : ∃ g, g = w1.heap.size := ⟨_, rfl⟩
      obtain ⟨w2, hw2⟩ : ∃ w2, w2 = w1.alloc (.cells #[.slice a1 n1 c1'] 26) := ⟨_, rfl⟩
      rw [← hw2, ← hg] at S1
      rw [← hw2, ← hg]
      have nb1 : ¬ b + 1 = g := by rw [hg]; have := LT1.out; omega
      have nb2 : ¬ g = b + 1 := fun e => nb1 e.symm
      clear hw2 hg z1 z2 z3 z4
      refine wp_region_held_drew (S := fun w9 => w9.cell? ⟨g, 0, none⟩ = some (.slice a1 n1 c1')) (by kernel_rfl) (S1.out.cel g 0 (.slice a1 n1 c1')) (fun hHeld => ?_)
      refine wpAnyH_take (i := 0) (v := .agg #[.slice a1 n1 c1']) rfl (by kernel_rfl) (by kernel_rfl) (by kernel_rfl) (fun _ _ _ h => h) (Or.inl ⟨by rfl, ?_⟩) (by assumption) ?_
      · intro w hSw
        go_simp
      refine wpAnyH_take (i := 1) (v := .int .i64 y) rfl (by kernel_rfl) (by kernel_rfl) (by kernel_rfl) (fun _ _ _ h => h) (Or.inl ⟨by rfl, ?_⟩) (by assumption) ?_
      · intro w hSw
        go_simp
      refine wpAnyH_take (i := 2) (v := .int .i64 (t : Int)) rfl (by kernel_rfl) (by kernel_rfl) (by kernel_rfl) (fun _ _ _ h => h) (Or.inl ⟨by rfl, ?_⟩) (by assumption) ?_
      · intro w hSw
        go_simp
      refine wpAnyH_ready (rs := [3]) (by kernel_rfl) (by simp) ?_
      refine AllReadyH.cons rfl (fun K9 hK9 => ?_) AllReadyH.nil
      go_simp
      refine Calls.mono (tenTo_any t _ HY.out.2.1) ?_
      rintro e w3 ⟨v3, rfl, hv3, hb3⟩
      replace hb3 : Below w2.heap.size w2 w3 := bel_undrew hb3
      have S2 : Hid _ := (S1.out.go hb3).addN hv3
      clear hv3 hb3 S1 hHeld
      refine hK9.out _ _ (S2.out.cel g 0 (.slice a1 n1 c1')) (fun hHeld => ?_)
      clear hK9 K9
      refine wpAnyH_ready (rs := [4]) (by kernel_rfl) (by simp) ?_
      refine AllReadyH.cons rfl (fun K9 hK9 => ?_) AllReadyH.nil
      go_simp
      refine Calls.mono (from_any _ _ A (10 ^ t) _ (S2.out.at (.agg #[.slice a1 n1 c1']) A) (S2.out.at v3 (10 ^ t)) ⟨P_up HA.out.2 (by omega)⟩ ⟨ten_P90 HY.out.2.1⟩ (Nat.pow_pos (by omega)) (HT.out.go S2.out.bel)) ?_
      rintro e w5 ⟨v5, rfl, hv5, hb5⟩
      have S3 : Hid _ := (S2.out.go hb5).addF hv5
      obtain ⟨a5, n5, c5, a6, n6, c6, ev, _, _⟩ := hv5.raw
      subst ev
      clear hv5 hb5 S2 hHeld
      have x0 := S3.out.cel (b + 1) 0 (.slice none 0 0)
      have x1 := S3.out.cel (b + 1) 1 (.slice none 0 0)
      have f0 := S3.out.fz (b + 1) 0
      have f1 := S3.out.fz (b + 1) 1
      have t0 := S3.out.cel g 0 (.slice a1 n1 c1')
      refine hK9.out _ _ t0 (fun hHeld => ?_)
      clear hK9 K9
      refine wpAnyH_take (i := 5) (v := .agg #[.slice a5 n5 c5, .slice a6 n6 c6]) rfl (by kernel_rfl) (by kernel_rfl) (by kernel_rfl) (fun _ _ _ h => h) (Or.inl ⟨by rfl, ?_⟩) (by assumption) ?_
      · intro w hSw
        go_simp
      refine wpAnyH_take (i := 6) (v := .bool true) rfl (by kernel_rfl) (by kernel_rfl) (by kernel_rfl) (fun _ _ _ h => h) (Or.inl ⟨by rfl, ?_⟩) (by assumption) ?_
      · intro w hSw
        go_simp
      refine wpAnyH_ready (rs := [7]) (by kernel_rfl) (by simp) ?_
      refine AllReadyH.cons rfl (fun K9 hK9 => ?_) AllReadyH.nil
      go_simp
      clear hHeld
      refine hK9.out _ _ (by simp [go_sem, *]) (fun hHeld => ?_)
      clear hK9 K9
      refine wpAnyH_take (i := 8) (v := .bool true) rfl (by kernel_rfl) (by kernel_rfl) (by kernel_rfl) (fun _ _ _ h => h) (Or.inl ⟨by rfl, ?_⟩) (by assumption) ?_
      · intro w hSw
        go_simp
      refine wpAnyH_done (by kernel_rfl) ?_ _
      have Z : Hid _ := rat_put (w0 := w) (v := .slice a5 n5 c5) (u := .slice a6 n6 c6) x0 x1 (S3.out.fr (.agg #[.slice a5 n5 c5, .slice a6 n6 c6]) ((A) / Nat.gcd (A) (10 ^ t)) ((10 ^ t) / Nat.gcd (A) (10 ^ t))) S3.out.bel (S3.out.lo (b + 1))
      go_wp2_with fail
      refine bodyPost_ret (v := .tuple #[.agg #[.slice a5 n5 c5, .slice a6 n6 c6], .bool true]) (by simp [results, Tryz.results81, go_sem, x0, x1]) rfl ?_
      unfold MakesV
      rw [if_neg HZ.out, HV.out.1, HV.out.2]
      exact ⟨_, rfl, Z.out.1, Z.out.2⟩
    · have d1 : decide (y < 0) = false := decide_eq_false hs
      have ey : y = (t : Int) := by rw [ht, if_neg hs]; omega
      have HV : Hid (vN ⟨P1, ⟨#[]⟩, P3, P4, false⟩ = A * 10 ^ t ∧ vD ⟨P1, ⟨#[]⟩, P3, P4, false⟩ = 1) := ⟨by rw [HV0.out.1, ht, if_neg hs], by rw [HV0.out.2, show (-y).toNat = 0 by omega, Nat.pow_zero]⟩
      have HY : Hid (-1399 ≤ y ∧ t ≤ 1500 ∧ A * 10 ^ t < P 90) := ⟨HY.out.1, HY.out.2.1, by have := HY.out.2.2; rw [if_neg hs] at this; exact this⟩
      have w3' := W3.out
      rw [ey] at w3' d1
      clear hs ht w2' HV0 hn9 hk4 hyb ey W3
      go_wp2_with fail
      refine (small_any P4 _ HG.out.dx HG.out.sx).mono ?_
      rintro e wx ⟨rfl, hwx⟩
      rw [hwx, HN.out]
      clear hwx
      go_wp2_with fail
      obtain ⟨g, hg⟩ : ∃ g, g = w1.heap.size := ⟨_, rfl⟩
      obtain ⟨w2, hw2⟩ : ∃ w2, w2 = w1.alloc (.cells #[.slice a1 n1 c1'] 26) := ⟨_, rfl⟩
      rw [← hw2, ← hg] at S1
      rw [← hw2, ← hg]
      have nb1 : ¬ b + 1 = g := by rw [hg]; have := LT1.out; omega
      have nb2 : ¬ g = b + 1 := fun e => nb1 e.symm
      clear hw2 hg z1 z2 z3 z4
      refine wp_region_held_drew (S := fun w9 => w9.cell? ⟨g, 0, none⟩ = some (.slice a1 n1 c1')) (by kernel_rfl) (S1.out.cel g 0 (.slice a1 n1 c1')) (fun hHeld => ?_)
      refine wpAnyH_take (i := 0) (v := .agg #[.slice a1 n1 c1']) rfl (by kernel_rfl) (by kernel_rfl) (by kernel_rfl) (fun _ _ _ h => h) (Or.inl ⟨by rfl, ?_⟩) (by assumption) ?_
      · intro w hSw
        go_simp
      refine wpAnyH_take (i := 1) (v := .int .i64 (t : Int)) rfl (by kernel_rfl) (by kernel_rfl) (by kernel_rfl) (fun _ _ _ h => h) (Or.inl ⟨by rfl, ?_⟩) (by assumption) ?_
      · intro w hSw
        go_simp
      refine wpAnyH_ready (rs := [2]) (by kernel_rfl) (by simp) ?_
      refine AllReadyH.cons rfl (fun K9 hK9 => ?_) AllReadyH.nil
      go_simp
      refine Calls.mono (tenTo_any t _ HY.out.2.1) ?_
      rintro e w3 ⟨v3, rfl, hv3, hb3⟩
      replace hb3 : Below w2.heap.size w2 w3 := bel_undrew hb3
      have S2 : Hid _ := (S1.out.go hb3).addN hv3
      clear hv3 hb3 S1 hHeld
      refine hK9.out _ _ (S2.out.cel g 0 (.slice a1 n1 c1')) (fun hHeld => ?_)
      clear hK9 K9
      refine wpAnyH_ready (rs := [3]) (by kernel_rfl) (by simp) ?_
      refine AllReadyH.cons rfl (fun K9 hK9 => ?_) AllReadyH.nil
      go_simp
      refine Calls.mono (mul_short _ _ A (10 ^ t) _ (S2.out.at (.agg #[.slice a1 n1 c1']) A) (S2.out.at v3 (10 ^ t)) (fits_P HA.out.2 (by omega)) (fits_P (ten_P90 HY.out.2.1) (by omega)) (.inl (P_up HA.out.2 (by omega)))) ?_
      rintro e w4 ⟨v4, rfl, hv4, hb4⟩
      have S3 : Hid _ := (S2.out.go hb4).addN hv4
      clear hv4 hb4 S2 hHeld
      refine hK9.out _ _ (S3.out.cel g 0 (.slice a1 n1 c1')) (fun hHeld => ?_)
      clear hK9 K9
      refine wpAnyH_ready (rs := [4]) (by kernel_rfl) (by simp) ?_
      refine AllReadyH.cons rfl (fun K9 hK9 => ?_) AllReadyH.nil
      go_simp
      refine Calls.mono (of_any 1 _ (by omega)) ?_
      rintro e w6 ⟨v6, rfl, hv6, hb6⟩
      have S4 : Hid _ := (S3.out.go hb6).addN hv6
      clear hv6 hb6 S3 hHeld
      refine hK9.out _ _ (S4.out.cel g 0 (.slice a1 n1 c1')) (fun hHeld => ?_)
      clear hK9 K9
      refine wpAnyH_ready (rs := [5]) (by kernel_rfl) (by simp) ?_
      refine AllReadyH.cons rfl (fun K9 hK9 => ?_) AllReadyH.nil
      go_simp
      refine Calls.mono (from_any _ _ (A * 10 ^ t) 1 _ (S4.out.at v4 (A * 10 ^ t)) (S4.out.at v6 1) ⟨HY.out.2.2⟩ (rs_word (by omega)) (by omega) (HT.out.go S4.out.bel)) ?_
      rintro e w5 ⟨v5, rfl, hv5, hb5⟩
      have S3 : Hid _ := (S4.out.go hb5).addF hv5
      obtain ⟨a5, n5, c5, a6, n6, c6, ev, _, _⟩ := hv5.raw
      subst ev
      clear hv5 hb5 S4 hHeld
      have x0 := S3.out.cel (b + 1) 0 (.slice none 0 0)
      have x1 := S3.out.cel (b + 1) 1 (.slice none 0 0)
      have f0 := S3.out.fz (b + 1) 0
      have f1 := S3.out.fz (b + 1) 1
      have t0 := S3.out.cel g 0 (.slice a1 n1 c1')
      refine hK9.out _ _ t0 (fun hHeld => ?_)
      clear hK9 K9
      refine wpAnyH_take (i := 6) (v := .agg #[.slice a5 n5 c5, .slice a6 n6 c6]) rfl (by kernel_rfl) (by kernel_rfl) (by kernel_rfl) (fun _ _ _ h => h) (Or.inl ⟨by rfl, ?_⟩) (by assumption) ?_
      · intro w hSw
        go_simp
      refine wpAnyH_take (i := 7) (v := .bool true) rfl (by kernel_rfl) (by kernel_rfl) (by kernel_rfl) (fun _ _ _ h => h) (Or.inl ⟨by rfl, ?_⟩) (by assumption) ?_
      · intro w hSw
        go_simp
      refine wpAnyH_ready (rs := [8]) (by kernel_rfl) (by simp) ?_
      refine AllReadyH.cons rfl (fun K9 hK9 => ?_) AllReadyH.nil
      go_simp
      clear hHeld
      refine hK9.out _ _ (by simp [go_sem, *]) (fun hHeld => ?_)
      clear hK9 K9
      refine wpAnyH_take (i := 9) (v := .bool true) rfl (by kernel_rfl) (by kernel_rfl) (by kernel_rfl) (fun _ _ _ h => h) (Or.inl ⟨by rfl, ?_⟩) (by assumption) ?_
      · intro w hSw
        go_simp
      refine wpAnyH_done (by kernel_rfl) ?_ _
      have Z : Hid _ := rat_put (w0 := w) (v := .slice a5 n5 c5) (u := .slice a6 n6 c6) x0 x1 (S3.out.fr (.agg #[.slice a5 n5 c5, .slice a6 n6 c6]) ((A * 10 ^ t) / Nat.gcd (A * 10 ^ t) (1)) ((1) / Nat.gcd (A * 10 ^ t) (1))) S3.out.bel (S3.out.lo (b + 1))
      go_wp2_with fail
      refine bodyPost_ret (v := .tuple #[.agg #[.slice a5 n5 c5, .slice a6 n6 c6], .bool true]) (by simp [results, Tryz.results81, go_sem, x0, x1]) rfl ?_
      unfold MakesV
      rw [if_neg HZ.out, HV.out.1, HV.out.2]
      exact ⟨_, rfl, Z.out.1, Z.out.2⟩
end Go.Proofs.YtmiiaomdenpceaaGreatDoor

namespace Go.Proofs.YtmiiaomdenpceaaGreatDoor
open Go.RowKit
set_option maxRecDepth 100000
set_option linter.unusedVariables false
theorem endC_some {s : ByteArray} {i f : Nat} {p r : PtS} (h : endC s i f p = some r) : r = p ∧ f < i ∧ i = s.size := by
  unfold endC at h
  split at h
  · rename_i hh
    exact ⟨(Option.some.inj h).symm, hh⟩
  · cases h
theorem em_dig : Digits em em.size := fun i hi => by
  have : em.size = 0 := rfl
  omega
/-- So far the parts are runs of digits within the first i bytes. -/
structure Sofar (s : ByteArray) (p : PtS) (i : Nat) : Prop where
  w0 : 0 < p.whole.size
  dw : Digits p.whole p.whole.size
  dp : Digits p.places p.places.size
  db : Digits p.below p.below.size
  dx : Digits p.power p.power.size
  sz : p.whole.size + p.places.size ≤ i
  sb : p.below.size ≤ s.size
  sx : p.power.size ≤ 3
theorem powC_good {s : ByteArray} {i : Nat} {p r : PtS} (hs : s.size ≤ 400) (hi : i ≤ s.size) (g : Sofar s p i) (h : powC s i i p = some r) : GoodP r := by
  unfold powC at h
  split at h
  · cases h
  · rename_i h3
    obtain ⟨rfl, h1, h2⟩ := endC_some h
    have hz := size_ext (s := s) (a := i) (b := runE s i) (runE_le hi)
    exact ⟨g.w0, g.dw, g.dp, g.db, dig_ext hi, by have := g.sz; simp only; omega, by have := g.sb; simp only; omega, by simp only; rw [hz]; omega⟩
theorem sgnC_good {s : ByteArray} {i : Nat} {p r : PtS} (hs : s.size ≤ 400) (hi : i ≤ s.size) (g : Sofar s p i) (h : sgnC s i p = some r) : GoodP r := by
  unfold sgnC at h
  split at h
  · rename_i hc
    have : i < s.size := by unfold isSgn at hc; simp at hc; exact hc.1
    exact powC_good (p := { p with minus := sb s i == 45 }) hs this ⟨g.w0, g.dw, g.dp, g.db, g.dx, Nat.le_succ_of_le g.sz, g.sb, g.sx⟩ h
  · exact powC_good hs hi g h
theorem em_le (n : Nat) : em.size ≤ n := by rw [show em.size = 0 from rfl]; omega
theorem sofar_mk {s A B : ByteArray} {i : Nat} (hA : 0 < A.size) (dA : Digits A A.size) (dB : Digits B B.size) (hz : A.size + B.size ≤ i) : Sofar s ⟨A, em, B, em, false⟩ i :=
  ⟨hA, dA, dB, em_dig, em_dig, hz, em_le _, em_le _⟩
theorem good_mk {A B C : ByteArray} (hA : 0 < A.size) (dA : Digits A A.size) (dB : Digits B B.size) (dC : Digits C C.size) (hz : A.size + B.size ≤ 400) (hc : C.size ≤ 400) : GoodP ⟨A, C, B, em, false⟩ :=
  ⟨hA, dA, dB, dC, em_dig, hz, hc, em_le _⟩
theorem cutP_good {s : ByteArray} {r : PtS} (hs : s.size ≤ 400) (h : cutP s = some r) : GoodP r := by
  unfold cutP whoC at h
  have l0 := runE_le (s := s) (i := 0) (Nat.zero_le _)
  have z0 := size_ext (s := s) (a := 0) (b := runE s 0) l0
  have d0 := dig_ext (s := s) (i := 0) (Nat.zero_le _)
  have E : em.size = 0 := rfl
  generalize runE s 0 = i0 at *
  generalize s.extract 0 i0 = A at *
  split at h
  · obtain ⟨rfl, h1, h2⟩ := endC_some h
    exact good_mk (A := A) (B := em) (C := em) (by omega) d0 em_dig em_dig (by omega) (em_le _)
  · rename_i hc
    have n0 : ¬ i0 = 0 := fun e => hc (.inl e)
    have n1 : ¬ i0 = s.size := fun e => hc (.inr e)
    have l1 : i0 + 1 ≤ s.size := by omega
    have l2 := runE_le l1
    have z1 := size_ext (s := s) (a := i0 + 1) (b := runE s (i0 + 1)) l2
    have d1 := dig_ext l1
    have ge1 := runE_ge s (i0 + 1)
    unfold belC plaC at h
    generalize runE s (i0 + 1) = i1 at *
    generalize s.extract (i0 + 1) i1 = B at *
    have W0 : 0 < A.size := by omega
    split at h
    · obtain ⟨rfl, h1, h2⟩ := endC_some h
      exact good_mk (A := A) (B := em) (C := B) W0 d0 em_dig d1 (by omega) (by omega)
    · split at h
      · split at h
        · obtain ⟨rfl, h1, h2⟩ := endC_some h
          exact good_mk (A := A) (B := B) (C := em) W0 d0 d1 em_dig (by omega) (em_le _)
        · rename_i hc2
          have n2 : ¬ i1 = s.size := fun e => hc2 (.inr (.inl e))
          exact sgnC_good hs (by omega) (sofar_mk (A := A) (B := B) W0 d0 d1 (by omega)) h
      · split at h
        · exact sgnC_good hs l1 (sofar_mk (A := A) (B := em) W0 d0 em_dig (by omega)) h
        · cases h
theorem value_all (p : PtS) (w : World) (hg : GoodP p) (hT : Tab w) : Calls Tryz.prog 81 #[PAgg p] w (MakesV w p) := by
  by_cases h : p.below.size = 0
  · exact value_pow p w hg h hT
  · exact value_below p w hg h hT
/-- What Parse tells of a text. -/
def npOk (s : ByteArray) : Bool := decide (s.size ≤ 400) && (match cutP s with | some p => !decide (vD p = 0) | none => false)
def npP (s : ByteArray) : Nat := if npOk s then (match cutP s with | some p => vN p / Nat.gcd (vN p) (vD p) | none => 0) else 0
def npQ (s : ByteArray) : Nat := if npOk s then (match cutP s with | some p => vD p / Nat.gcd (vN p) (vD p) | none => 1) else 1
def npE (s : ByteArray) : Int := if npOk s then 0 else 30
def MakesP (w : World) (s : ByteArray) (e : Ending) (w' : World) : Prop := ∃ v, e = .returned (.tuple #[v, .int .i64 (npE s)]) ∧ Rt w' v (npP s) (npQ s) ∧ Below w.heap.size w w'
theorem np_no {s : ByteArray} (h : npOk s = false) : npP s = 0 ∧ npQ s = 1 ∧ npE s = 30 := by
  unfold npP npQ npE
  rw [h]
  exact ⟨rfl, rfl, rfl⟩
theorem np_yes {s : ByteArray} {p : PtS} (h1 : s.size ≤ 400) (h2 : cutP s = some p) (h3 : ¬ vD p = 0) : npP s = vN p / Nat.gcd (vN p) (vD p) ∧ npQ s = vD p / Nat.gcd (vN p) (vD p) ∧ npE s = 0 := by
  have h : npOk s = true := by unfold npOk; rw [h2]; simp [h1, h3]
  unfold npP npQ npE
  rw [h, h2]
  exact ⟨rfl, rfl, rfl⟩
set_option maxHeartbeats 1000000 in
theorem nparse_any (s : ByteArray) (w : World) (hs : s.size ≤ 9223372036854775807) (hT : Tab w) : Calls Tryz.prog 35 #[.string s] w (MakesP w s) := by
  have HT : Hid (Tab w) := hT
  have S0 : Hid _ := (sy_start w).box (.slice none 0 0) (.slice none 0 0) 28 _ rfl
  obtain ⟨b, hb⟩ : ∃ b, b = w.heap.size := ⟨_, rfl⟩
  obtain ⟨w0, hw0⟩ : ∃ w0, w0 = w.alloc (.cells #[.slice none 0 0, .slice none 0 0] 28) := ⟨_, rfl⟩
  rw [← hw0, ← hb] at S0
  clear hT
  by_cases h4 : 400 < s.size
  · have HV : Hid (npP s = 0 ∧ npQ s = 1 ∧ npE s = 30) := np_no (by unfold npOk; simp; omega)
    have t1 : decide (400 < (s.size : Int)) = true := decide_eq_true (by omega)
    go_enter Tryz.func35, Tryz.ntmps35
    go_wp2_with fail
    refine bodyPost_ret (v := .tuple #[.agg #[.slice none 0 0, .slice none 0 0], .int .i64 30]) (by simp [results, Tryz.results35, go_sem]) rfl ?_
    unfold MakesP
    rw [HV.out.1, HV.out.2.1, HV.out.2.2]
    exact ⟨_, rfl, rt_zero _, bel_al (bel_refl w)⟩
  · have HS : Hid (s.size ≤ 400) := by show _ ≤ _; omega
    have t1 : decide (400 < (s.size : Int)) = false := decide_eq_false (by omega)
    have n1 : ¬ 400 < s.size := h4
    clear h4
    go_enter Tryz.func35, Tryz.ntmps35
    go_wp2_with fail
    rw [← hw0, ← hb]
    clear hw0 hb
    refine (ncut_any s _ HS.out).mono ?_
    rintro e w1 ⟨p, ok, rfl, hc, hb1⟩
    have S1 : Hid _ := S0.out.go hb1
    clear hb1 S0
    cases ok with
    | false =>
      have HV : Hid (npP s = 0 ∧ npQ s = 1 ∧ npE s = 30) := np_no (by unfold npOk; rw [hc]; simp)
      clear hc
      have S2 : Hid _ := S1.out.go (w' := w1.alloc (.cells #[.string p.whole, .string p.below, .string p.places, .string p.power, .bool p.minus] 117)) (bel_al (bel_refl _))
      clear S1
      have S9 := S2.out
      have x0 := S9.cel b 0 (.slice none 0 0)
      have x1 := S9.cel b 1 (.slice none 0 0)
      have f0 := S9.fz b 0
      have f1 := S9.fz b 1
      have Z : Hid _ := rat_put (w0 := w) (v := .slice none 0 0) (u := .slice none 0 0) x0 x1 (rt_zero _) S9.bel (S9.lo b)
      clear S9
      go_wp2_with fail
      refine bodyPost_ret (v := .tuple #[.agg #[.slice none 0 0, .slice none 0 0], .int .i64 30]) (by simp [results, Tryz.results35, go_sem, x0, x1]) rfl ?_
      unfold MakesP
      rw [HV.out.1, HV.out.2.1, HV.out.2.2]
      exact ⟨_, rfl, Z.out.1, Z.out.2⟩
    | true =>
      have HC : Hid (cutP s = some p) := hc
      have HG : Hid (GoodP p) := cutP_good HS.out HC.out
      clear hc
      have S2 : Hid _ := S1.out.go (w' := w1.alloc (.cells #[.string p.whole, .string p.below, .string p.places, .string p.power, .bool p.minus] 117)) (bel_al (bel_refl _))
      have k0 : (w1.alloc (.cells #[.string p.whole, .string p.below, .string p.places, .string p.power, .bool p.minus] 117)).cell? ⟨w1.heap.size, 0, none⟩ = some (.string p.whole) := by simp [go_sem]
      clear S1
      go_wp2_with fail
      refine (value_all p _ HG.out (HT.out.go S2.out.bel)).mono ?_
      intro e w3 hV
      unfold MakesV at hV
      by_cases hz : vD p = 0
      · rw [if_pos hz] at hV
        obtain ⟨v3, rfl, hv3, hb3⟩ := hV
        obtain ⟨a5, n5, c5, a6, n6, c6, ev, _, _⟩ := hv3.raw
        subst ev
        have HV : Hid (npP s = 0 ∧ npQ s = 1 ∧ npE s = 30) := np_no (by unfold npOk; rw [HC.out]; simp [hz])
        have S3 : Hid _ := (S2.out.go hb3).go (w' := w3.alloc (.cells #[.slice a5 n5 c5, .slice a6 n6 c6] 28)) (bel_al (bel_refl _))
        clear hv3 hb3 S2 k0 hz
        have S9 := S3.out
        have x0 := S9.cel b 0 (.slice none 0 0)
        have x1 := S9.cel b 1 (.slice none 0 0)
        have f0 := S9.fz b 0
        have f1 := S9.fz b 1
        have Z : Hid _ := rat_put (w0 := w) (v := .slice none 0 0) (u := .slice none 0 0) x0 x1 (rt_zero _) S9.bel (S9.lo b)
        clear S9
        go_wp2_with fail
        refine bodyPost_ret (v := .tuple #[.agg #[.slice none 0 0, .slice none 0 0], .int .i64 30]) (by simp [results, Tryz.results35, go_sem, x0, x1]) rfl ?_
        unfold MakesP
        rw [HV.out.1, HV.out.2.1, HV.out.2.2]
        exact ⟨_, rfl, Z.out.1, Z.out.2⟩
      · rw [if_neg hz] at hV
        obtain ⟨v3, rfl, hv3, hb3⟩ := hV
        obtain ⟨a5, n5, c5, a6, n6, c6, ev, _, _⟩ := hv3.raw
        subst ev
        have HV : Hid (npP s = vN p / Nat.gcd (vN p) (vD p) ∧ npQ s = vD p / Nat.gcd (vN p) (vD p) ∧ npE s = 0) := np_yes HS.out HC.out hz
        have S3 : Hid _ := ((S2.out.go hb3).addF hv3).go (w' := w3.alloc (.cells #[.slice a5 n5 c5, .slice a6 n6 c6] 28)) (bel_al (bel_refl _))
        have y0 : (w3.alloc (.cells #[.slice a5 n5 c5, .slice a6 n6 c6] 28)).cell? ⟨w3.heap.size, 0, none⟩ = some (.slice a5 n5 c5) := by simp [go_sem]
        have y1 : (w3.alloc (.cells #[.slice a5 n5 c5, .slice a6 n6 c6] 28)).cell? ⟨w3.heap.size, 1, none⟩ = some (.slice a6 n6 c6) := by simp [go_sem]
        clear hv3 hb3 S2 k0 hz
        have S9 := S3.out
        have x0 := S9.cel b 0 (.slice none 0 0)
        have x1 := S9.cel b 1 (.slice none 0 0)
        have f0 := S9.fz b 0
        have f1 := S9.fz b 1
        have Z : Hid _ := rat_put (w0 := w) (v := .slice a5 n5 c5) (u := .slice a6 n6 c6) x0 x1 (S9.fr (.agg #[.slice a5 n5 c5, .slice a6 n6 c6]) (vN p / Nat.gcd (vN p) (vD p)) (vD p / Nat.gcd (vN p) (vD p))) S9.bel (S9.lo b)
        clear S9
        go_wp2_with fail
        refine bodyPost_ret (v := .tuple #[.agg #[.slice a5 n5 c5, .slice a6 n6 c6], .int .i64 0]) (by simp [results, Tryz.results35, go_sem, x0, x1]) rfl ?_
        unfold MakesP
        rw [HV.out.1, HV.out.2.1, HV.out.2.2]
        exact ⟨_, rfl, Z.out.1, Z.out.2⟩
end Go.Proofs.YtmiiaomdenpceaaGreatDoor

namespace Go.Proofs.YtmiiaomdenpceaaGreatDoor
open Go.RowKit
set_option maxRecDepth 100000
set_option linter.unusedVariables false
theorem zrs_one : zrs 1 = ⟨#[48]⟩ := by rfl
set_option maxHeartbeats 400000 in
theorem rep_one : RepIs 1 := fun w => by
  rw [zrs_one]
  show Calls Tryz.prog 72 #[.string ⟨#[48]⟩, .int .i64 1] w _
  go_enter Tryz.func72, Tryz.ntmps72
  go_wp2_with fail
  go_ret
  exact ⟨rfl, bel_refl w⟩
theorem st_x (w : World) (hT : Tab w) : Calls Tryz.prog 33 #[.float .f64 4604930618986332160] w (MakesRB w 3 4 true) := by
  have h := fromFloat_all 4604930618986332160 w (by omega) hT
  rw [show ffP 4604930618986332160 = 3 by decide +kernel, show ffQ 4604930618986332160 = 4 by decide +kernel, show isFb 4604930618986332160 = true by decide +kernel] at h
  exact h
def s75 : ByteArray := ⟨#[55, 53, 101, 45, 50]⟩
def s10 : ByteArray := ⟨#[49, 47, 48]⟩
theorem np_75 : npP s75 = 3 ∧ npQ s75 = 4 ∧ npE s75 = 0 := by decide +kernel
theorem np_10 : npP s10 = 0 ∧ npQ s10 = 1 ∧ npE s10 = 30 := by decide +kernel
theorem st_y (w : World) (hT : Tab w) : Calls Tryz.prog 35 #[.string ⟨#[55, 53, 101, 45, 50]⟩] w fun e w' => ∃ v, e = .returned (.tuple #[v, .int .i64 0]) ∧ Rt w' v 3 4 ∧ Below w.heap.size w w' := by
  have h := nparse_any s75 w (by decide +kernel) hT
  unfold MakesP at h
  rw [np_75.1, np_75.2.1, np_75.2.2] at h
  exact h
theorem st_f (w : World) (hT : Tab w) : Calls Tryz.prog 35 #[.string ⟨#[49, 47, 48]⟩] w fun e w' => ∃ v, e = .returned (.tuple #[v, .int .i64 30]) ∧ Rt w' v 0 1 ∧ Below w.heap.size w w' := by
  have h := nparse_any s10 w (by decide +kernel) hT
  unfold MakesP at h
  rw [np_10.1, np_10.2.1, np_10.2.2] at h
  exact h
theorem st_a (v : Value) (w : World) (h : Rt w v 1 3) : Calls Tryz.prog 9 #[v] w fun e w' => e = .returned (.tuple #[.float .f64 4599676419421066581, .bool true]) ∧ Below w.heap.size w w' := by
  have k := toFloat_any v 1 3 w h (rs_few (by omega)) (rs_few (by omega)) (by omega)
  rw [show tfV 1 3 = 4599676419421066581 by decide +kernel, show tfOk 1 3 = true by decide +kernel] at k
  exact k
theorem few_P {x : Nat} (h : x < 100) : x < P 80 := Nat.lt_of_lt_of_le (by rw [P_one]; omega) (P_le (show 1 ≤ 80 by omega))
theorem st_s (v : Value) (w : World) (h : Rt w v 3 4) : Calls Tryz.prog 26 #[v, .int .i64 1] w fun e w' => e = .returned (.tuple #[.string ⟨#[48, 46, 56]⟩, .bool true]) ∧ Below w.heap.size w w' := by
  have k := decimal_any v 3 4 1 1 w h (few_P (by omega)) (few_P (by omega)) (by omega) (by omega) ⟨by omega, by decide +kernel, .inl rfl⟩ rep_one
  rw [show decimalT 3 4 1 1 = ⟨#[48, 46, 56]⟩ by decide +kernel] at k
  exact k
theorem st_t (v : Value) (w : World) (h : Rt w v 3 4) : Calls Tryz.prog 24 #[v] w fun e w' => e = .returned (.string ⟨#[51, 47, 52]⟩) ∧ Below w.heap.size w w' := by
  have k := format_any v 3 4 1 1 w h (rs_few (by omega)) (rs_few (by omega)) ⟨by omega, by omega, .inl rfl⟩ ⟨by omega, by omega, .inl rfl⟩
  rw [show fmtT 3 4 1 1 = ⟨#[51, 47, 52]⟩ by decide +kernel] at k
  exact k
theorem st_c (v u : Value) (w : World) (h : Rt w v 3 4) (k : Rt w u 3 4) : Calls Tryz.prog 30 #[v, u] w fun e w' => e = .returned (.int .i64 0) ∧ Below w.heap.size w w' := by
  have c := ratCmp_any v u 3 4 3 4 w h k (rs_few (by omega)) (rs_few (by omega)) (rs_few (by omega)) (rs_few (by omega))
  rw [show cmpI (3 * 4) (3 * 4) = 0 by decide] at c
  exact c
set_option maxHeartbeats 400000 in
theorem errno3_any (z : Int) (w : World) : Calls Tryz.prog 36 #[.int .i64 z] w fun e w' => e = .returned (.int .i64 z) ∧ w' = w := by
  go_enter Tryz.func36, Tryz.ntmps36
  go_wp2_with fail
  go_ret
  exact ⟨rfl, rfl⟩
set_option maxHeartbeats 1000000 in
theorem started3 (w : World) (hT : Tab w) : Calls Tryz.prog 13 #[] w fun e w' => e = .returned (.bool true) ∧ Below w.heap.size w w' := by
  have HT : Hid (Tab w) := hT
  clear hT
  go_enter Tryz.func13, Tryz.ntmps13
  go_wp2_with fail
  refine (st_x _ HT.out).mono ?_
  rintro e w1 ⟨v1, rfl, hv1, hb1⟩
  have hv1' := hv1
  obtain ⟨a1, n1, c1, d1, m1, g1, ev1, _, _⟩ := hv1'.raw
  subst ev1
  have S1 : Hid _ := (((sy_start w).go hb1).addF hv1).box (.slice a1 n1 c1) (.slice d1 m1 g1) 28 _ rfl
  clear hv1 hv1' hb1
  go_wp2_with fail
  obtain ⟨b1, hb1⟩ : ∃ b1, b1 = w1.heap.size := ⟨_, rfl⟩
  obtain ⟨W1, hW1⟩ : ∃ W1, W1 = w1.alloc (.cells #[.slice a1 n1 c1, .slice d1 m1 g1] 28) := ⟨_, rfl⟩
  rw [← hW1, ← hb1] at S1
  rw [← hW1, ← hb1]
  clear hW1 hb1
  refine (st_y _ (HT.out.go S1.out.bel)).mono ?_
  rintro e w2 ⟨v2, rfl, hv2, hb2⟩
  have hv2' := hv2
  obtain ⟨a2, n2, c2, d2, m2, g2, ev2, _, _⟩ := hv2'.raw
  subst ev2
  have S2 : Hid _ := ((S1.out.go hb2).addF hv2).box (.slice a2 n2 c2) (.slice d2 m2 g2) 28 _ rfl
  clear hv2 hv2' hb2 S1
  go_wp2_with fail
  obtain ⟨b2, hb2⟩ : ∃ b2, b2 = w2.heap.size := ⟨_, rfl⟩
  obtain ⟨W2, hW2⟩ : ∃ W2, W2 = w2.alloc (.cells #[.slice a2 n2 c2, .slice d2 m2 g2] 28) := ⟨_, rfl⟩
  rw [← hW2, ← hb2] at S2
  rw [← hW2, ← hb2]
  clear hW2 hb2
  refine (told_b _ (HT.out.go S2.out.bel)).mono ?_
  rintro e w3 ⟨v3, rfl, hv3, hb3⟩
  have hv3' := hv3
  obtain ⟨a3, n3, c3, d3, m3, g3, ev3, _, _⟩ := hv3'.raw
  subst ev3
  have S3 : Hid _ := ((S2.out.go hb3).addF hv3).box (.slice a3 n3 c3) (.slice d3 m3 g3) 28 _ rfl
  clear hv3 hv3' hb3 S2
  go_wp2_with fail
  obtain ⟨b3, hb3⟩ : ∃ b3, b3 = w3.heap.size := ⟨_, rfl⟩
  obtain ⟨W3, hW3⟩ : ∃ W3, W3 = w3.alloc (.cells #[.slice a3 n3 c3, .slice d3 m3 g3] 28) := ⟨_, rfl⟩
  rw [← hW3, ← hb3] at S3
  rw [← hW3, ← hb3]
  clear hW3 hb3
  refine (st_a _ _ (S3.out.fr (.agg #[.slice a3 n3 c3, .slice d3 m3 g3]) 1 3)).mono ?_
  rintro e w4 ⟨rfl, hb4⟩
  have S4 : Hid _ := S3.out.go hb4
  clear hb4 S3
  have k0 := S4.out.cel b1 0 (.slice a1 n1 c1)
  have k1 := S4.out.cel b1 1 (.slice d1 m1 g1)
  go_wp2_with fail
  refine (st_s _ _ (S4.out.fr (.agg #[.slice a1 n1 c1, .slice d1 m1 g1]) 3 4)).mono ?_
  rintro e w5 ⟨rfl, hb5⟩
  have S5 : Hid _ := S4.out.go hb5
  clear hb5 S4 k0 k1
  go_wp2_with fail
  refine (st_f _ (HT.out.go S5.out.bel)).mono ?_
  rintro e w6 ⟨v6, rfl, hv6, hb6⟩
  have hv6' := hv6
  obtain ⟨a6, n6, c6, d6, m6, g6, ev6, _, _⟩ := hv6'.raw
  subst ev6
  have S6 : Hid _ := (S5.out.go hb6).box (.slice a6 n6 c6) (.slice d6 m6 g6) 28 _ rfl
  clear hv6 hv6' hb6 S5
  go_wp2_with fail
  obtain ⟨W6, hW6⟩ : ∃ W6, W6 = w6.alloc (.cells #[.slice a6 n6 c6, .slice d6 m6 g6] 28) := ⟨_, rfl⟩
  rw [← hW6] at S6
  rw [← hW6]
  clear hW6
  refine (errno3_any 0 _).mono ?_
  rintro e wx ⟨rfl, hwx⟩
  rw [hwx]
  clear hwx wx
  have k0 := S6.out.cel b1 0 (.slice a1 n1 c1)
  have k1 := S6.out.cel b1 1 (.slice d1 m1 g1)
  have k2 := S6.out.cel b2 0 (.slice a2 n2 c2)
  have k3 := S6.out.cel b2 1 (.slice d2 m2 g2)
  go_wp2_with fail
  refine (st_c _ _ _ (S6.out.fr (.agg #[.slice a1 n1 c1, .slice d1 m1 g1]) 3 4) (S6.out.fr (.agg #[.slice a2 n2 c2, .slice d2 m2 g2]) 3 4)).mono ?_
  rintro e w7 ⟨rfl, hb7⟩
  have S7 : Hid _ := S6.out.go hb7
  clear hb7 S6 k0 k1 k2 k3
  go_wp2_with fail
  refine (bits_any 4599676419421066581 _).mono ?_
  rintro e wx ⟨rfl, hwx⟩
  rw [hwx]
  clear hwx wx
  have k0 := S7.out.cel b1 0 (.slice a1 n1 c1)
  have k1 := S7.out.cel b1 1 (.slice d1 m1 g1)
  go_wp2_with fail
  refine (st_t _ _ (S7.out.fr (.agg #[.slice a1 n1 c1, .slice d1 m1 g1]) 3 4)).mono ?_
  rintro e w8 ⟨rfl, hb8⟩
  have S8 : Hid _ := S7.out.go hb8
  clear hb8 S7 k0 k1
  go_wp2_with fail
  refine (errno3_any 30 _).mono ?_
  rintro e wx ⟨rfl, hwx⟩
  rw [hwx]
  clear hwx wx
  go_wp2_with fail
  go_ret
  exact ⟨rfl, S8.out.bel⟩
end Go.Proofs.YtmiiaomdenpceaaGreatDoor

