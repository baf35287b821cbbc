/- Contracts of the program's functions, part 16: own work, joined in build order. -/
import Derived.Test.YtkhdapmipcghoaaDoorJ15
namespace Go.Proofs.YtkhdapmipcghoaaDoor
open Go.RowKit
set_option maxRecDepth 100000
set_option linter.unusedVariables false
theorem i64_and4095 (n : Int) : bits .and .i64 n 4095 = n % 4096 := by
  have h127 : (BitVec.ofInt 64 4095).toNat = 2 ^ 12 - 1 := by decide
  have key : (BitVec.ofInt 64 n &&& BitVec.ofInt 64 4095).toNat = (n % ((2 ^ 64 : Nat) : Int)).toNat % 2 ^ 12 := by
    rw [BitVec.toNat_and, BitVec.toNat_ofInt, h127, Nat.and_two_pow_sub_one_eq_mod]
  show IntKind.i64.wrap ((BitVec.ofInt 64 n &&& BitVec.ofInt 64 4095).toNat : Nat) = n % 4096
  rw [key, IntKind.wrap_i64]
  omega
theorem btw_le {p q x y m n : Nat} (h : Btw p q x y m n) (hle : p * y ≤ x * q) (hq : 0 < q) (hy : 0 < y) : p * n ≤ m * q ∧ m * y ≤ x * n := by
  rcases h with h | ⟨h1, h2⟩
  · exact h
  · have e1 := Nat.mul_le_mul_right n hle
    have e2 := Nat.mul_le_mul_right q h1
    have e3 := Nat.mul_le_mul_right y h2
    have i1 : p * n * y = p * y * n := by grind
    have i2 : x * n * q = x * q * n := by grind
    have i3 : m * y * q = m * q * y := by grind
    refine ⟨Nat.le_of_mul_le_mul_right (c := y) ?_ hy, Nat.le_of_mul_le_mul_right (c := q) ?_ hq⟩
    · omega
    · omega
/-- A fraction in a new box. -/
theorem rat_box {w : World} {a : Option Addr} {n c : Nat} {a' : Option Addr} {n' c' p q : Nat} (t : TypeId) (h : Rt w (.agg #[.slice a n c, .slice a' n' c']) p q) : RAt (w.alloc (.cells #[.slice a n c, .slice a' n' c'] t)) w.heap.size p q :=
  ⟨a, n, c, a', n', c', by simp, by simp, by simp [go_sem], by simp [go_sem], h.mono (bel_al (bel_refl _))⟩
theorem nat_box {w : World} {a : Option Addr} {n c x : Nat} (t : TypeId) (h : IsNat w (.agg #[.slice a n c]) x) : NAt (w.alloc (.cells #[.slice a n c] t)) w.heap.size x :=
  ⟨a, n, c, by simp, by simp [go_sem], h.mono (bel_al (bel_refl _))⟩
set_option maxHeartbeats 16000000 in
theorem ratBetween_true (a0 : Option Addr) (l0 k0 : Nat) (D0 : Nat → Nat) (a1 : Option Addr) (l1 k1 : Nat) (D1 : Nat → Nat) (a2 : Option Addr) (l2 k2 : Nat) (D2 : Nat → Nat) (a3 : Option Addr) (l3 k3 : Nat) (D3 : Nat → Nat) (n d : Int) (w : World) (hB0 : BSl w a0 l0 k0 D0) (hB1 : BSl w a1 l1 k1 D1) (hB2 : BSl w a2 l2 k2 D2) (hB3 : BSl w a3 l3 k3 D3) (hn0 : -9223372036854775808 ≤ n) (hn1 : n ≤ 9223372036854775807) (hd0 : -9223372036854775808 ≤ d) (hd1 : d ≤ 9223372036854775807) (hT : Tab w) :
    Calls Tryd.prog 6 #[.agg #[.slice a0 l0 k0, .slice a1 l1 k1], .agg #[.slice a2 l2 k2, .slice a3 l3 k3], .int .i64 n, .int .i64 d] w fun e w' => e = .returned (.bool true) ∧ Below w.heap.size w w' := by
  obtain ⟨m0, x0, h0⟩ := fed_of hB0
  obtain ⟨m1, x1, h1⟩ := fed_of hB1
  obtain ⟨m2, x2, h2⟩ := fed_of hB2
  obtain ⟨m3, x3, h3⟩ := fed_of hB3
  obtain ⟨tA, jA, uA⟩ := low_terms x0 (orOne x1) (orOne_pos x1)
  have MA0 : ∀ w', Below w.heap.size w w' → Calls Tryd.prog 12 #[.agg #[.slice a0 l0 k0, .slice a1 l1 k1]] w' (MakesM w' (x0 / Nat.gcd x0 (orOne x1)) (orOne x1 / Nat.gcd x0 (orOne x1))) := fun w' hb => made_true _ _ _ _ _ _ m0 m1 x0 x1 w' (h0.go hb) (h1.go hb) (hT.go hb)
  have pA : x0 / Nat.gcd x0 (orOne x1) < P 15 := Nat.lt_of_le_of_lt (Nat.div_le_self _ _) h0.rs
  have qA : orOne x1 / Nat.gcd x0 (orOne x1) < P 15 := Nat.lt_of_le_of_lt (Nat.div_le_self _ _) (orOne_15 h1.rs)
  generalize x0 / Nat.gcd x0 (orOne x1) = PA at MA0 pA tA
  generalize orOne x1 / Nat.gcd x0 (orOne x1) = QA at MA0 qA tA uA
  have fA : Fc PA QA PA QA 15 := Fc.own tA uA pA qA
  have MA : Hid _ := MA0
  clear MA0 jA
  obtain ⟨tB, jB, uB⟩ := low_terms x2 (orOne x3) (orOne_pos x3)
  have MB0 : ∀ w', Below w.heap.size w w' → Calls Tryd.prog 12 #[.agg #[.slice a2 l2 k2, .slice a3 l3 k3]] w' (MakesM w' (x2 / Nat.gcd x2 (orOne x3)) (orOne x3 / Nat.gcd x2 (orOne x3))) := fun w' hb => made_true _ _ _ _ _ _ m2 m3 x2 x3 w' (h2.go hb) (h3.go hb) (hT.go hb)
  have pB : x2 / Nat.gcd x2 (orOne x3) < P 15 := Nat.lt_of_le_of_lt (Nat.div_le_self _ _) h2.rs
  have qB : orOne x3 / Nat.gcd x2 (orOne x3) < P 15 := Nat.lt_of_le_of_lt (Nat.div_le_self _ _) (orOne_15 h3.rs)
  generalize x2 / Nat.gcd x2 (orOne x3) = PB at MB0 pB tB
  generalize orOne x3 / Nat.gcd x2 (orOne x3) = QB at MB0 qB tB uB
  have fB : Fc PB QB PB QB 15 := Fc.own tB uB pB qB
  have MB : Hid _ := MB0
  clear MB0 jB
  obtain ⟨NX, DX, hDX, hgX, hBest⟩ := best_ex QA PA QA PB QB (Nat.le_refl _) uA uB tA tB
  have bs := best_sz hBest uA (Nat.le_total _ _)
  have fX : Fc NX DX NX DX 15 := Fc.own hgX hDX (Nat.lt_of_le_of_lt bs.1 pA) (Nat.lt_of_le_of_lt bs.2 qA)
  have BT : Hid (∀ v u w, Rt w v PA QA → Rt w u PB QB → Calls Tryd.prog 39 #[v, u] w (MakesR w NX DX)) := fun v u w i j => between_any QA v u PA QA PB QB NX DX w (Nat.le_refl _) i j ⟨pA, qA, pB, qB⟩ hBest hDX
  have GG : Hid (Fc PA QA PA QA 15 ∧ Fc PB QB PB QB 15 ∧ Fc NX DX NX DX 15 ∧ Best PA QA PB QB NX DX) := ⟨fA, fB, fX, hBest⟩
  have FF : Hid (Tab w) := hT
  obtain ⟨n', en⟩ : ∃ n' : Nat, n % 4096 = (n' : Int) := ⟨(n % 4096).toNat, by omega⟩
  obtain ⟨d', ed⟩ : ∃ d' : Nat, d % 4096 = (d' : Int) := ⟨(d % 4096).toNat, by omega⟩
  have HN : Hid (n' < 4096 ∧ d' < 4096) := ⟨by omega, by omega⟩
  have bn := i64_and4095 n
  have bd := i64_and4095 d
  rw [en] at bn
  rw [ed] at bd
  have wd : IntKind.i64.wrap ((d' : Int) + 1) = ((d' + 1 : Nat) : Int) := by rw [IntKind.wrap_i64]; omega
  have S0 : Hid _ := ((sx_start w).box (.slice a0 l0 k0) (.slice a1 l1 k1) 24 _ rfl).box (.slice a2 l2 k2) (.slice a3 l3 k3) 24 _ rfl
  simp only [World.size_alloc] at S0
  clear hT fA fB fX hBest bs hgX hDX tA tB uA uB pA qA pB qB en ed hn0 hn1 hd0 hd1 h0 hB0 h1 hB1 h2 hB2 h3 hB3
  go_enter Tryd.func6, Tryd.ntmps6
  go_wp2_with fail
  obtain ⟨w0, hw⟩ : ∃ w0, w0 = (w.alloc (.cells #[.slice a0 l0 k0, .slice a1 l1 k1] 24)).alloc (.cells #[.slice a2 l2 k2, .slice a3 l3 k3] 24) := ⟨_, rfl⟩
  obtain ⟨b0, hb⟩ : ∃ b0, b0 = w.heap.size := ⟨_, rfl⟩
  rw [← hw, ← hb] at S0
  rw [← hw, ← hb]
  clear hw hb
  refine (MA.out _ S0.out.bel).mono ?_
  rintro e v11w ⟨v11, v12, rfl, hv, hu, hb⟩
  obtain ⟨a11, n11, c11, d11, m11, g11, ev, _, _⟩ := hv.raw
  subst ev
  obtain ⟨a12, n12, c12, d12, m12, g12, ev, _, _⟩ := id hu
  subst ev
  have S1 : Hid _ := (((S0.out.go hb).addF hv).box (.slice a11 n11 c11) (.slice d11 m11 g11) 29 _ rfl).box (.slice a12 n12 c12) (.slice d12 m12 g12) 35 _ rfl
  clear hv hu hb S0
  simp only [World.size_alloc] at S1
  have y0 := S1.out.cel (b0 + 1) 0 (.slice a2 l2 k2)
  have y1 := S1.out.cel (b0 + 1) 1 (.slice a3 l3 k3)
  go_wp2_with fail
  clear y0 y1
  obtain ⟨w11, hw⟩ : ∃ w11, w11 = (v11w.alloc (.cells #[.slice a11 n11 c11, .slice d11 m11 g11] 29)).alloc (.cells #[.slice a12 n12 c12, .slice d12 m12 g12] 35) := ⟨_, rfl⟩
  obtain ⟨b11, hb⟩ : ∃ b11, b11 = v11w.heap.size := ⟨_, rfl⟩
  rw [← hw, ← hb] at S1
  rw [← hw, ← hb]
  clear hw hb
  obtain ⟨b12, hb⟩ : ∃ b12, b12 = b11 + 1 := ⟨_, rfl⟩
  rw [← hb] at S1
  rw [← hb]
  clear hb
  refine (MB.out _ S1.out.bel).mono ?_
  rintro e v13w ⟨v13, v14, rfl, hv, hu, hb⟩
  obtain ⟨a13, n13, c13, d13, m13, g13, ev, _, _⟩ := hv.raw
  subst ev
  obtain ⟨a14, n14, c14, d14, m14, g14, ev, _, _⟩ := id hu
  subst ev
  have S2 : Hid _ := (((S1.out.go hb).addF hv).box (.slice a13 n13 c13) (.slice d13 m13 g13) 29 _ rfl).box (.slice a14 n14 c14) (.slice d14 m14 g14) 35 _ rfl
  clear hv hu hb S1
  simp only [World.size_alloc] at S2
  have y0 := S2.out.cel b11 0 (.slice a11 n11 c11)
  have y1 := S2.out.cel b11 1 (.slice d11 m11 g11)
  go_wp2_with fail
  clear y0 y1
  obtain ⟨w13, hw⟩ : ∃ w13, w13 = (v13w.alloc (.cells #[.slice a13 n13 c13, .slice d13 m13 g13] 29)).alloc (.cells #[.slice a14 n14 c14, .slice d14 m14 g14] 35) := ⟨_, rfl⟩
  obtain ⟨b13, hb⟩ : ∃ b13, b13 = v13w.heap.size := ⟨_, rfl⟩
  rw [← hw, ← hb] at S2
  rw [← hw, ← hb]
  clear hw hb
  obtain ⟨b14, hb⟩ : ∃ b14, b14 = b13 + 1 := ⟨_, rfl⟩
  rw [← hb] at S2
  rw [← hb]
  clear hb
  refine (BT.out _ _ _ (S2.out.fr (.agg #[.slice a11 n11 c11, .slice d11 m11 g11]) PA QA) (S2.out.fr (.agg #[.slice a13 n13 c13, .slice d13 m13 g13]) PB QB)).mono ?_
  rintro e v21w ⟨v21, rfl, hv, hb⟩
  obtain ⟨a21, n21, c21, d21, m21, g21, ev, _, _⟩ := hv.raw
  subst ev
  have X3 : Hid (RAt (v21w.alloc (.cells #[.slice a21 n21 c21, .slice d21 m21 g21] 29)) v21w.heap.size NX DX) := rat_box _ hv
  have S3 : Hid _ := (S2.out.go hb).go (bel_al (o := .cells #[.slice a21 n21 c21, .slice d21 m21 g21] 29) (bel_refl _))
  clear hv hb S2
  go_wp2_with fail
  obtain ⟨w21, hw⟩ : ∃ w21, w21 = v21w.alloc (.cells #[.slice a21 n21 c21, .slice d21 m21 g21] 29) := ⟨_, rfl⟩
  obtain ⟨b21, hb⟩ : ∃ b21, b21 = v21w.heap.size := ⟨_, rfl⟩
  rw [← hw, ← hb] at X3
  rw [← hw] at S3
  rw [← hw, ← hb]
  clear hw hb MA MB BT
  have y11 := S3.out.cel b11 0 (.slice a11 n11 c11)
  have z11 := S3.out.cel b11 1 (.slice d11 m11 g11)
  have y13 := S3.out.cel b13 0 (.slice a13 n13 c13)
  have z13 := S3.out.cel b13 1 (.slice d13 m13 g13)
  have bz1 := bel_al (o := .cells #[.slice none 0 0, .slice none 0 0] 29) (bel_refl w21)
  have bz2 := bel_al (o := .cells #[.slice none 0 0, .slice none 0 0] 29) bz1
  have e1 := cell_later bz1 y11
  have e2 := cell_later bz1 z11
  have e3 := cell_later bz1 y13
  have e4 := cell_later bz1 z13
  have e5 := cell_later bz2 y11
  have e6 := cell_later bz2 z11
  have e7 := cell_later bz2 y13
  have e8 := cell_later bz2 z13
  have l11 := World.block_lt_of_cell? _ _ y11
  have l13 := World.block_lt_of_cell? _ _ y13
  simp only at l11 l13
  have i1 : ¬ b11 = w21.heap.size := by omega
  have i2 : ¬ b11 = w21.heap.size + 1 := by omega
  have i3 : ¬ b13 = w21.heap.size := by omega
  have i4 : ¬ b13 = w21.heap.size + 1 := by omega
  have i5 : ¬ w21.heap.size = b11 := by omega
  have i6 : ¬ w21.heap.size + 1 = b11 := by omega
  have i7 : ¬ w21.heap.size = b13 := by omega
  have i8 : ¬ w21.heap.size + 1 = b13 := by omega
  clear bz1 bz2
  go_region
  all_goals clear e1 e2 e3 e4 e5 e6 e7 e8
  · obtain ⟨w22, hw⟩ : ∃ w22, w22 = ((w21.alloc (.cells #[.slice a11 n11 c11, .slice d11 m11 g11] 29)).alloc (.cells #[.slice a13 n13 c13, .slice d13 m13 g13] 29)).drew := ⟨_, rfl⟩
    obtain ⟨bl, hbl⟩ : ∃ bl, bl = w21.heap.size := ⟨_, rfl⟩
    obtain ⟨bh, hbh⟩ : ∃ bh, bh = w21.heap.size + 1 := ⟨_, rfl⟩
    have NE : Hid (bl ≠ bh ∧ bl ≠ b11 ∧ bh ≠ b11 ∧ bl ≠ b13 ∧ bh ≠ b13 ∧ b21 ≠ bl ∧ b21 ≠ bh ∧ w.heap.size ≤ bl ∧ w.heap.size ≤ bh) := by
      have := S3.out.bel.size
      obtain ⟨_, _, _, _, _, _, cx, _⟩ := X3.out
      have l21 := World.block_lt_of_cell? _ _ cx
      simp only at l21
      exact ⟨by omega, by omega, by omega, by omega, by omega, by omega, by omega, by omega, by omega⟩
    have TQ : Hid (RAt w22 b21 NX DX ∧ RAt w22 bl PA QA ∧ RAt w22 bh PB QB ∧ Below w.heap.size w w22) := by
      have bb : Below w21.heap.size w21 w22 := by rw [hw]; exact bel_dr (bel_al (bel_al (bel_refl _)))
      have ra := (S3.out.fr (.agg #[.slice a11 n11 c11, .slice d11 m11 g11]) PA QA).mono bb
      have rb := (S3.out.fr (.agg #[.slice a13 n13 c13, .slice d13 m13 g13]) PB QB).mono bb
      refine ⟨X3.out.go bb, ⟨_, _, _, _, _, _, ?_, ?_, ?_, ?_, ra⟩, ⟨_, _, _, _, _, _, ?_, ?_, ?_, ?_, rb⟩, bel_go S3.out.bel bb⟩ <;> first | rw [hw, hbl] | rw [hw, hbh]
      all_goals simp [go_sem]
    have SQ' : Hid _ := S3.out.go (w' := w22) (by rw [hw]; exact bel_dr (bel_al (bel_al (bel_refl _))))
    rw [← hw, ← hbh, ← hbl]
    clear hw hbl hbh X3 S3 y11 z11 y13 z13 l11 l13 i1 i2 i3 i4 i5 i6 i7 i8
    have y11 := SQ'.out.cel b11 0 (.slice a11 n11 c11)
    have z11 := SQ'.out.cel b11 1 (.slice d11 m11 g11)
    have y13 := SQ'.out.cel b13 0 (.slice a13 n13 c13)
    have z13 := SQ'.out.cel b13 1 (.slice d13 m13 g13)
    go_wp2_with fail
    obtain ⟨kk, ekk⟩ : ∃ kk, kk = cmpI (PA * QB) (PB * QA) := ⟨_, rfl⟩
    refine (GG.out.1.cmp GG.out.2.1 (by omega) (by omega) (z := kk) ekk.symm _ _ _ (SQ'.out.fr (.agg #[.slice a11 n11 c11, .slice d11 m11 g11]) PA QA) (SQ'.out.fr (.agg #[.slice a13 n13 c13, .slice d13 m13 g13]) PB QB)).mono ?_
    rintro e w23 ⟨rfl, hb⟩
    have SR' : Hid _ := SQ'.out.go hb
    have TR : Hid (RAt w23 (b21) NX DX ∧ RAt w23 (bl) PA QA ∧ RAt w23 (bh) PB QB ∧ Below w.heap.size w w23) := ⟨(TQ.out.1.go hb), (TQ.out.2.1.go hb), (TQ.out.2.2.1.go hb), bel_go TQ.out.2.2.2 hb⟩
    clear hb TQ SQ' y11 z11 y13 z13
    by_cases hle : PA * QB ≤ PB * QA
    · have hkk : decide (0 < kk) = false := decide_eq_false (by
        rw [ekk]
        unfold cmpI
        split
        · omega
        · rw [if_pos (by omega)]
          omega)
      have BE : Hid (PA * QB ≤ PB * QA ∧ Best PA QA PB QB NX DX ∧ Fc PA QA PA QA 15 ∧ Fc PB QB PB QB 15) := ⟨hle, GG.out.2.2.2, GG.out.1, GG.out.2.1⟩
      clear ekk hle SR'
      go_wp2_with fail
      clear hkk
      refine (rtold_true _ (FF.out.go TR.out.2.2.2)).mono ?_
      rintro e w31 ⟨rfl, hb⟩
      have T1 : Hid (RAt w31 (b21) NX DX ∧ RAt w31 (bl) PA QA ∧ RAt w31 (bh) PB QB ∧ Below w.heap.size w w31) := ⟨(TR.out.1.go hb), (TR.out.2.1.go hb), (TR.out.2.2.1.go hb), bel_go TR.out.2.2.2 hb⟩
      clear hb TR
      obtain ⟨xx1, xx2, xx3, xx4, xx5, xx6, xxc, xxd, _, _, xxh⟩ := T1.out.1
      obtain ⟨ll1, ll2, ll3, ll4, ll5, ll6, llc, lld, _, _, llh⟩ := T1.out.2.1
      go_wp2_with fail
      obtain ⟨k1, ek1⟩ : ∃ k1, k1 = cmpI (NX * QA) (PA * DX) := ⟨_, rfl⟩
      have le := btw_le BE.out.2.1.mem BE.out.1 BE.out.2.2.1.pos BE.out.2.2.2.pos
      have hk1 : decide (k1 < 0) = false := decide_eq_false (by
        rw [ek1]
        unfold cmpI
        rw [if_neg (by omega)]
        split <;> omega)
      refine (GG.out.2.2.1.cmp BE.out.2.2.1 (by omega) (by omega) (z := k1) ek1.symm _ _ _ xxh llh).mono ?_
      rintro e w32 ⟨rfl, hb⟩
      have T2 : Hid (RAt w32 (b21) NX DX ∧ RAt w32 (bl) PA QA ∧ RAt w32 (bh) PB QB ∧ Below w.heap.size w w32) := ⟨(T1.out.1.go hb), (T1.out.2.1.go hb), (T1.out.2.2.1.go hb), bel_go T1.out.2.2.2 hb⟩
      clear hb T1 xxc xxd xxh llc lld llh ek1
      obtain ⟨xx1, xx2, xx3, xx4, xx5, xx6, xxc, xxd, _, _, xxh⟩ := T2.out.1
      obtain ⟨ll1, ll2, ll3, ll4, ll5, ll6, llc, lld, _, _, llh⟩ := T2.out.2.2.1
      go_wp2_with fail
      obtain ⟨k2', ek2⟩ : ∃ k2', k2' = cmpI (NX * QB) (PB * DX) := ⟨_, rfl⟩
      have hk2 : decide (0 < k2') = false := decide_eq_false (by
        rw [ek2]
        unfold cmpI
        split
        · omega
        · rw [if_pos (by omega)]
          omega)
      refine (GG.out.2.2.1.cmp BE.out.2.2.2 (by omega) (by omega) (z := k2') ek2.symm _ _ _ xxh llh).mono ?_
      rintro e w33 ⟨rfl, hb⟩
      have T3 : Hid (RAt w33 (b21) NX DX ∧ RAt w33 (bl) PA QA ∧ RAt w33 (bh) PB QB ∧ Below w.heap.size w w33) := ⟨(T2.out.1.go hb), (T2.out.2.1.go hb), (T2.out.2.2.1.go hb), bel_go T2.out.2.2.2 hb⟩
      clear hb T2 xxc xxd xxh llc lld llh ek2 le
      go_wp2_with fail
      refine (ratOf_yes n' (d' + 1) _ (by have := HN.out; omega) (by have := HN.out; omega) (by omega) (FF.out.go T3.out.2.2.2)).mono ?_
      rintro e v41w ⟨v41, rfl, hv, hb⟩
      obtain ⟨a41, n41, c41, d41, m41, g41, ev, _, _⟩ := hv.raw
      subst ev
      have fN : Fc (n' / Nat.gcd n' (d' + 1)) ((d' + 1) / Nat.gcd n' (d' + 1)) (n' / Nat.gcd n' (d' + 1)) ((d' + 1) / Nat.gcd n' (d' + 1)) 1 := Fc.own hv.low hv.pos (by rw [P_one]; have := HN.out; have := Nat.div_le_self n' (Nat.gcd n' (d' + 1)); omega) (by rw [P_one]; have := HN.out; have := Nat.div_le_self (d' + 1) (Nat.gcd n' (d' + 1)); omega)
      generalize n' / Nat.gcd n' (d' + 1) = PN at hv fN
      generalize (d' + 1) / Nat.gcd n' (d' + 1) = QN at hv fN
      have hbb := bel_go hb (bel_al (o := .cells #[.slice a41 n41 c41, .slice d41 m41 g41] 29) (bel_refl v41w))
      have T4 : Hid (RAt (v41w.alloc (.cells #[.slice a41 n41 c41, .slice d41 m41 g41] 29)) (v41w.heap.size) PN QN ∧ RAt (v41w.alloc (.cells #[.slice a41 n41 c41, .slice d41 m41 g41] 29)) (b21) NX DX ∧ RAt (v41w.alloc (.cells #[.slice a41 n41 c41, .slice d41 m41 g41] 29)) (bl) PA QA ∧ RAt (v41w.alloc (.cells #[.slice a41 n41 c41, .slice d41 m41 g41] 29)) (bh) PB QB ∧ Below w.heap.size w (v41w.alloc (.cells #[.slice a41 n41 c41, .slice d41 m41 g41] 29))) := ⟨rat_box _ hv, (T3.out.1.go hbb), (T3.out.2.1.go hbb), (T3.out.2.2.1.go hbb), bel_go T3.out.2.2.2 hbb⟩
      clear hv hb hbb T3
      obtain ⟨ll1, ll2, ll3, ll4, ll5, ll6, llc, lld, _, _, llh⟩ := T4.out.2.2.1
      go_wp2_with fail
      obtain ⟨w41, hw⟩ : ∃ w41, w41 = (v41w.alloc (.cells #[.slice a41 n41 c41, .slice d41 m41 g41] 29)) := ⟨_, rfl⟩
      obtain ⟨b41, hb⟩ : ∃ b41, b41 = v41w.heap.size := ⟨_, rfl⟩
      rw [← hw, ← hb] at T4
      rw [← hw] at llc lld llh
      rw [← hw, ← hb]
      clear hw hb
      refine (floor_any _ PA QA _ llh (BE.out.2.2.1.rs1 (by omega)) (BE.out.2.2.1.rs2 (by omega))).mono ?_
      rintro e w42 ⟨v42, rfl, hv, hb⟩
      have T5 : Hid (RAt w42 (b41) PN QN ∧ RAt w42 (b21) NX DX ∧ RAt w42 (bl) PA QA ∧ RAt w42 (bh) PB QB ∧ Below w.heap.size w w42) := ⟨(T4.out.1.go hb), (T4.out.2.1.go hb), (T4.out.2.2.1.go hb), (T4.out.2.2.2.1.go hb), bel_go T4.out.2.2.2.2 hb⟩
      have V5 : Hid (IsNat w42 v42 (PA / QA)) := hv
      clear hv hb T4 llc lld llh
      go_wp2_with fail
      refine (of_any 1 _ (by omega)).mono ?_
      rintro e w43 ⟨v43, rfl, hv, hb⟩
      have T6 : Hid (RAt w43 (b41) PN QN ∧ RAt w43 (b21) NX DX ∧ RAt w43 (bl) PA QA ∧ RAt w43 (bh) PB QB ∧ Below w.heap.size w w43) := ⟨(T5.out.1.go hb), (T5.out.2.1.go hb), (T5.out.2.2.1.go hb), (T5.out.2.2.2.1.go hb), bel_go T5.out.2.2.2.2 hb⟩
      have V6 : Hid (IsNat w43 v42 (PA / QA) ∧ IsNat w43 v43 1) := ⟨V5.out.mono hb, hv⟩
      clear hv hb T5 V5
      go_wp2_with fail
      have FR := from_any _ _ (PA / QA) 1 _ V6.out.1 V6.out.2 ((BE.out.2.2.1.rs1 (by omega)).le (Nat.div_le_self _ _)) (rs_few (by omega)) (by omega) (FF.out.go T6.out.2.2.2.2)
      rw [Nat.gcd_one_right, Nat.div_one, Nat.div_one] at FR
      refine FR.mono ?_
      clear FR V6
      rintro e v44w ⟨v44, rfl, hv, hb⟩
      obtain ⟨a44, n44, c44, d44, m44, g44, ev, _, _⟩ := hv.raw
      subst ev
      have hbb := bel_go hb (bel_al (o := .cells #[.slice a44 n44 c44, .slice d44 m44 g44] 29) (bel_refl v44w))
      have T7 : Hid (RAt (v44w.alloc (.cells #[.slice a44 n44 c44, .slice d44 m44 g44] 29)) (v44w.heap.size) (PA / QA) 1 ∧ RAt (v44w.alloc (.cells #[.slice a44 n44 c44, .slice d44 m44 g44] 29)) (b41) PN QN ∧ RAt (v44w.alloc (.cells #[.slice a44 n44 c44, .slice d44 m44 g44] 29)) (b21) NX DX ∧ RAt (v44w.alloc (.cells #[.slice a44 n44 c44, .slice d44 m44 g44] 29)) (bl) PA QA ∧ RAt (v44w.alloc (.cells #[.slice a44 n44 c44, .slice d44 m44 g44] 29)) (bh) PB QB ∧ Below w.heap.size w (v44w.alloc (.cells #[.slice a44 n44 c44, .slice d44 m44 g44] 29))) := ⟨rat_box _ hv, (T6.out.1.go hbb), (T6.out.2.1.go hbb), (T6.out.2.2.1.go hbb), (T6.out.2.2.2.1.go hbb), bel_go T6.out.2.2.2.2 hbb⟩
      clear hv hb hbb T6
      obtain ⟨xx1, xx2, xx3, xx4, xx5, xx6, xxc, xxd, _, _, xxh⟩ := T7.out.2.1
      go_wp2_with fail
      obtain ⟨w44, hw⟩ : ∃ w44, w44 = (v44w.alloc (.cells #[.slice a44 n44 c44, .slice d44 m44 g44] 29)) := ⟨_, rfl⟩
      obtain ⟨b44, hb⟩ : ∃ b44, b44 = v44w.heap.size := ⟨_, rfl⟩
      rw [← hw, ← hb] at T7
      rw [← hw] at xxc xxd xxh
      rw [← hw, ← hb]
      have fW : Fc (PA / QA) 1 (PA / QA) 1 15 := Fc.own (Nat.gcd_one_right _) (by omega) (Nat.lt_of_le_of_lt (Nat.div_le_self _ _) BE.out.2.2.1.s1) (Nat.lt_of_lt_of_le (by rw [P_one]; omega) (P_le (show 1 ≤ 15 by omega)))
      obtain ⟨PY, QY, fY, _, cY⟩ := fW.add fN (by omega) (by omega)
      have wh : Rt w44 (.agg #[.slice a44 n44 c44, .slice d44 m44 g44]) (PA / QA) 1 := by
        obtain ⟨h1, h2, h3, h4, h5, h6, h7, h8, _, _, h9⟩ := T7.out.1
        rw [hw, hb] at h7 h8
        simp at h7 h8
        obtain ⟨rfl, rfl, rfl⟩ := h7
        obtain ⟨rfl, rfl, rfl⟩ := h8
        exact h9
      clear hw hb
      refine (cY _ _ _ wh xxh (FF.out.go T7.out.2.2.2.2.2)).mono ?_
      rintro e v45w ⟨v45, rfl, hv, hb⟩
      obtain ⟨a45, n45, c45, d45, m45, g45, ev, _, _⟩ := hv.raw
      subst ev
      have GY : Hid (Fc PY QY PY QY (15 + 1 + 1)) := ⟨fY.low, fY.pos, fY.pos, rfl, fY.s1, fY.s2⟩
      have hbb := bel_go hb (bel_al (o := .cells #[.slice a45 n45 c45, .slice d45 m45 g45] 29) (bel_refl v45w))
      have T8 : Hid (RAt (v45w.alloc (.cells #[.slice a45 n45 c45, .slice d45 m45 g45] 29)) (v45w.heap.size) PY QY ∧ RAt (v45w.alloc (.cells #[.slice a45 n45 c45, .slice d45 m45 g45] 29)) (b44) (PA / QA) 1 ∧ RAt (v45w.alloc (.cells #[.slice a45 n45 c45, .slice d45 m45 g45] 29)) (b41) PN QN ∧ RAt (v45w.alloc (.cells #[.slice a45 n45 c45, .slice d45 m45 g45] 29)) (b21) NX DX ∧ RAt (v45w.alloc (.cells #[.slice a45 n45 c45, .slice d45 m45 g45] 29)) (bl) PA QA ∧ RAt (v45w.alloc (.cells #[.slice a45 n45 c45, .slice d45 m45 g45] 29)) (bh) PB QB ∧ Below w.heap.size w (v45w.alloc (.cells #[.slice a45 n45 c45, .slice d45 m45 g45] 29))) := ⟨rat_box _ hv, (T7.out.1.go hbb), (T7.out.2.1.go hbb), (T7.out.2.2.1.go hbb), (T7.out.2.2.2.1.go hbb), (T7.out.2.2.2.2.1.go hbb), bel_go T7.out.2.2.2.2.2 hbb⟩
      clear hv hb hbb T7 fY fW fN cY wh xxc xxd xxh
      obtain ⟨ll1, ll2, ll3, ll4, ll5, ll6, llc, lld, _, _, llh⟩ := T8.out.2.2.2.2.1
      have yh := T8.out.1
      go_wp2_with fail
      obtain ⟨w45, hw⟩ : ∃ w45, w45 = (v45w.alloc (.cells #[.slice a45 n45 c45, .slice d45 m45 g45] 29)) := ⟨_, rfl⟩
      obtain ⟨b45, hb⟩ : ∃ b45, b45 = v45w.heap.size := ⟨_, rfl⟩
      have yr : Rt w45 (.agg #[.slice a45 n45 c45, .slice d45 m45 g45]) PY QY := by
        obtain ⟨h1, h2, h3, h4, h5, h6, h7, h8, _, _, h9⟩ := yh
        rw [hw]
        simp at h7 h8
        obtain ⟨rfl, rfl, rfl⟩ := h7
        obtain ⟨rfl, rfl, rfl⟩ := h8
        exact h9
      rw [← hw, ← hb] at T8
      rw [← hw] at llc lld llh
      rw [← hw, ← hb]
      clear hw hb yh
      obtain ⟨k3, ek3⟩ : ∃ k3, k3 = cmpI (PY * QA) (PA * QY) := ⟨_, rfl⟩
      refine (GY.out.cmp BE.out.2.2.1 (by omega) (by omega) (z := k3) ek3.symm _ _ _ yr llh).mono ?_
      rintro e w46 ⟨rfl, hb⟩
      have T9 : Hid (RAt w46 (b45) PY QY ∧ RAt w46 (b44) (PA / QA) 1 ∧ RAt w46 (b41) PN QN ∧ RAt w46 (b21) NX DX ∧ RAt w46 (bl) PA QA ∧ RAt w46 (bh) PB QB ∧ Below w.heap.size w w46) := ⟨(T8.out.1.go hb), (T8.out.2.1.go hb), (T8.out.2.2.1.go hb), (T8.out.2.2.2.1.go hb), (T8.out.2.2.2.2.1.go hb), (T8.out.2.2.2.2.2.1.go hb), bel_go T8.out.2.2.2.2.2.2 hb⟩
      clear hb T8 llc lld llh yr
      by_cases h3 : PY * QA < PA * QY
      · have hk3 : decide (k3 < 0) = true := decide_eq_true (by rw [ek3]; unfold cmpI; rw [if_pos h3]; omega)
        have B : Hid _ := T9.out.2.2.2.2.2.2
        clear ek3 h3 T9
        go_wp2_with fail
        go_ret
        exact ⟨rfl, B.out⟩
      · have hk3 : decide (k3 < 0) = false := decide_eq_false (by
          rw [ek3]
          unfold cmpI
          rw [if_neg h3]
          split <;> omega)
        clear ek3
        obtain ⟨xx1, xx2, xx3, xx4, xx5, xx6, xxc, xxd, _, _, xxh⟩ := T9.out.1
        obtain ⟨ll1, ll2, ll3, ll4, ll5, ll6, llc, lld, _, _, llh⟩ := T9.out.2.2.2.2.2.1
        go_wp2_with fail
        obtain ⟨k4, ek4⟩ : ∃ k4, k4 = cmpI (PY * QB) (PB * QY) := ⟨_, rfl⟩
        refine (GY.out.cmp BE.out.2.2.2 (by omega) (by omega) (z := k4) ek4.symm _ _ _ xxh llh).mono ?_
        rintro e w47 ⟨rfl, hb⟩
        have TA : Hid (RAt w47 (b45) PY QY ∧ RAt w47 (b44) (PA / QA) 1 ∧ RAt w47 (b41) PN QN ∧ RAt w47 (b21) NX DX ∧ RAt w47 (bl) PA QA ∧ RAt w47 (bh) PB QB ∧ Below w.heap.size w w47) := ⟨(T9.out.1.go hb), (T9.out.2.1.go hb), (T9.out.2.2.1.go hb), (T9.out.2.2.2.1.go hb), (T9.out.2.2.2.2.1.go hb), (T9.out.2.2.2.2.2.1.go hb), bel_go T9.out.2.2.2.2.2.2 hb⟩
        clear hb T9 xxc xxd xxh llc lld llh hk3
        by_cases h4 : PB * QY < PY * QB
        · have hk4 : decide (0 < k4) = true := decide_eq_true (by rw [ek4]; unfold cmpI; rw [if_neg (by omega), if_neg (by omega)]; omega)
          have B : Hid _ := TA.out.2.2.2.2.2.2
          clear ek4 h3 h4 TA
          go_wp2_with fail
          go_ret
          exact ⟨rfl, B.out⟩
        · have hk4 : decide (0 < k4) = false := decide_eq_false (by
            rw [ek4]
            unfold cmpI
            split
            · omega
            · rw [if_pos (by omega)]
              omega)
          have LE : Hid (NX ≤ PY ∧ DX ≤ QY) := BE.out.2.1.least PY QY GY.out.pos (.inl ⟨by omega, by omega⟩)
          clear ek4 h3 h4
          obtain ⟨xx1, xx2, xx3, xx4, xx5, xx6, xxc, xxd, _, _, xxh⟩ := TA.out.2.2.2.1
          go_wp2_with fail
          refine (parts_any _ NX DX _ xxh (GG.out.2.2.1.rs2 (by omega)).fits).mono ?_
          rintro e v51w ⟨v51, v52, rfl, hv, hu, hb⟩
          obtain ⟨a51, n51, c51, rfl⟩ := hv.isAgg
          obtain ⟨a52, n52, c52, rfl⟩ := hu.isAgg
          have ba := bel_al (o := .cells #[.slice a51 n51 c51] 27) (bel_refl v51w)
          have hbb := bel_go hb (bel_al (o := .cells #[.slice a52 n52 c52] 27) ba)
          have TB : Hid (NAt ((v51w.alloc (.cells #[.slice a51 n51 c51] 27)).alloc (.cells #[.slice a52 n52 c52] 27)) ((v51w.alloc (.cells #[.slice a51 n51 c51] 27)).heap.size) DX ∧ RAt ((v51w.alloc (.cells #[.slice a51 n51 c51] 27)).alloc (.cells #[.slice a52 n52 c52] 27)) (b45) PY QY ∧ RAt ((v51w.alloc (.cells #[.slice a51 n51 c51] 27)).alloc (.cells #[.slice a52 n52 c52] 27)) (b44) (PA / QA) 1 ∧ RAt ((v51w.alloc (.cells #[.slice a51 n51 c51] 27)).alloc (.cells #[.slice a52 n52 c52] 27)) (b41) PN QN ∧ RAt ((v51w.alloc (.cells #[.slice a51 n51 c51] 27)).alloc (.cells #[.slice a52 n52 c52] 27)) (b21) NX DX ∧ RAt ((v51w.alloc (.cells #[.slice a51 n51 c51] 27)).alloc (.cells #[.slice a52 n52 c52] 27)) (bl) PA QA ∧ RAt ((v51w.alloc (.cells #[.slice a51 n51 c51] 27)).alloc (.cells #[.slice a52 n52 c52] 27)) (bh) PB QB ∧ Below w.heap.size w ((v51w.alloc (.cells #[.slice a51 n51 c51] 27)).alloc (.cells #[.slice a52 n52 c52] 27))) := ⟨nat_box _ (hu.mono ba), (TA.out.1.go hbb), (TA.out.2.1.go hbb), (TA.out.2.2.1.go hbb), (TA.out.2.2.2.1.go hbb), (TA.out.2.2.2.2.1.go hbb), (TA.out.2.2.2.2.2.1.go hbb), bel_go TA.out.2.2.2.2.2.2 hbb⟩
          simp only [World.size_alloc] at TB
          clear hv hu hb hbb ba TA xxc xxd xxh
          obtain ⟨xx1, xx2, xx3, xx4, xx5, xx6, xxc, xxd, _, _, xxh⟩ := TB.out.2.1
          go_wp2_with fail
          obtain ⟨w51, hw⟩ : ∃ w51, w51 = ((v51w.alloc (.cells #[.slice a51 n51 c51] 27)).alloc (.cells #[.slice a52 n52 c52] 27)) := ⟨_, rfl⟩
          obtain ⟨b51, hb⟩ : ∃ b51, b51 = v51w.heap.size := ⟨_, rfl⟩
          rw [← hw, ← hb] at TB
          rw [← hw] at xxc xxd xxh
          rw [← hw, ← hb]
          clear hw hb
          refine (parts_any _ PY QY _ xxh (GY.out.rs2 (by omega)).fits).mono ?_
          rintro e v53w ⟨v53, v54, rfl, hv, hu, hb⟩
          obtain ⟨a53, n53, c53, rfl⟩ := hv.isAgg
          obtain ⟨a54, n54, c54, rfl⟩ := hu.isAgg
          have ba := bel_al (o := .cells #[.slice a53 n53 c53] 27) (bel_refl v53w)
          have hbb := bel_go hb (bel_al (o := .cells #[.slice a54 n54 c54] 27) ba)
          have HU : Hid (IsNat ((v53w.alloc (.cells #[.slice a53 n53 c53] 27)).alloc (.cells #[.slice a54 n54 c54] 27)) (.agg #[.slice a54 n54 c54]) QY) := hu.mono (bel_al (o := .cells #[.slice a54 n54 c54] 27) ba)
          have TC : Hid (NAt ((v53w.alloc (.cells #[.slice a53 n53 c53] 27)).alloc (.cells #[.slice a54 n54 c54] 27)) (b51 + 1) DX ∧ RAt ((v53w.alloc (.cells #[.slice a53 n53 c53] 27)).alloc (.cells #[.slice a54 n54 c54] 27)) (b45) PY QY ∧ RAt ((v53w.alloc (.cells #[.slice a53 n53 c53] 27)).alloc (.cells #[.slice a54 n54 c54] 27)) (b44) (PA / QA) 1 ∧ RAt ((v53w.alloc (.cells #[.slice a53 n53 c53] 27)).alloc (.cells #[.slice a54 n54 c54] 27)) (b41) PN QN ∧ RAt ((v53w.alloc (.cells #[.slice a53 n53 c53] 27)).alloc (.cells #[.slice a54 n54 c54] 27)) (b21) NX DX ∧ RAt ((v53w.alloc (.cells #[.slice a53 n53 c53] 27)).alloc (.cells #[.slice a54 n54 c54] 27)) (bl) PA QA ∧ RAt ((v53w.alloc (.cells #[.slice a53 n53 c53] 27)).alloc (.cells #[.slice a54 n54 c54] 27)) (bh) PB QB ∧ Below w.heap.size w ((v53w.alloc (.cells #[.slice a53 n53 c53] 27)).alloc (.cells #[.slice a54 n54 c54] 27))) := ⟨(TB.out.1.go hbb), (TB.out.2.1.go hbb), (TB.out.2.2.1.go hbb), (TB.out.2.2.2.1.go hbb), (TB.out.2.2.2.2.1.go hbb), (TB.out.2.2.2.2.2.1.go hbb), (TB.out.2.2.2.2.2.2.1.go hbb), bel_go TB.out.2.2.2.2.2.2.2 hbb⟩
          clear hv hu hb hbb ba TB xxc xxd xxh
          obtain ⟨nn1, nn2, nn3, nnc, _, nnh⟩ := TC.out.1
          go_wp2_with fail
          obtain ⟨w53, hw⟩ : ∃ w53, w53 = ((v53w.alloc (.cells #[.slice a53 n53 c53] 27)).alloc (.cells #[.slice a54 n54 c54] 27)) := ⟨_, rfl⟩
          rw [← hw] at TC HU nnc nnh
          rw [← hw]
          clear hw
          refine (cmp_any _ _ DX QY _ nnh HU.out (GG.out.2.2.1.rs2 (by omega)).fits (GY.out.rs2 (by omega)).fits).mono ?_
          rintro e w55 ⟨rfl, hb⟩
          have TD : Hid (NAt w55 (b51 + 1) DX ∧ RAt w55 (b45) PY QY ∧ RAt w55 (b44) (PA / QA) 1 ∧ RAt w55 (b41) PN QN ∧ RAt w55 (b21) NX DX ∧ RAt w55 (bl) PA QA ∧ RAt w55 (bh) PB QB ∧ Below w.heap.size w w55) := ⟨(TC.out.1.go hb), (TC.out.2.1.go hb), (TC.out.2.2.1.go hb), (TC.out.2.2.2.1.go hb), (TC.out.2.2.2.2.1.go hb), (TC.out.2.2.2.2.2.1.go hb), (TC.out.2.2.2.2.2.2.1.go hb), bel_go TC.out.2.2.2.2.2.2.2 hb⟩
          clear hb TC HU nnc nnh
          by_cases h5 : DX < QY
          · have ec : cmpI DX QY = -1 := by unfold cmpI; rw [if_pos h5]
            rw [ec]
            have B : Hid _ := TD.out.2.2.2.2.2.2.2
            clear ec h5 TD
            go_wp2_with fail
            go_ret
            exact ⟨rfl, B.out⟩
          · have eq : DX = QY := by have := LE.out; omega
            have ec : cmpI DX QY = 0 := cmpI_same eq
            rw [ec]
            obtain ⟨k5, ek5⟩ : ∃ k5, k5 = cmpI (NX * QY) (PY * DX) := ⟨_, rfl⟩
            have hk5 : decide (k5 ≤ 0) = true := decide_eq_true (by
              have h6 : NX * QY ≤ PY * DX := by rw [eq]; exact Nat.mul_le_mul_right _ LE.out.1
              rw [ek5]
              unfold cmpI
              split
              · omega
              · rw [if_pos (by omega)]
                omega)
            have hk6 : k5 ≤ 0 := of_decide_eq_true hk5
            clear ec h5 eq
            obtain ⟨xx1, xx2, xx3, xx4, xx5, xx6, xxc, xxd, _, _, xxh⟩ := TD.out.2.2.2.2.1
            obtain ⟨ll1, ll2, ll3, ll4, ll5, ll6, llc, lld, _, _, llh⟩ := TD.out.2.1
            go_wp2_with fail
            refine (GG.out.2.2.1.cmp GY.out (by omega) (by omega) (z := k5) ek5.symm _ _ _ xxh llh).mono ?_
            rintro e w56 ⟨rfl, hb⟩
            have B : Hid _ := bel_go TD.out.2.2.2.2.2.2.2 hb
            clear hb ek5 TD xxc xxd xxh llc lld llh
            go_wp2_with fail
            go_ret
            exact ⟨rfl, B.out⟩
    · have hkk : decide (0 < kk) = true := decide_eq_true (by
        rw [ekk]
        unfold cmpI
        rw [if_neg (by omega), if_neg (by omega)]
        omega)
      have BE : Hid (PB * QA ≤ PA * QB ∧ Best PB QB PA QA NX DX ∧ Fc PB QB PB QB 15 ∧ Fc PA QA PA QA 15) := ⟨by omega, GG.out.2.2.2.swap, GG.out.2.1, GG.out.1⟩
      clear ekk hle
      have y11 := SR'.out.cel b11 0 (.slice a11 n11 c11)
      have z11 := SR'.out.cel b11 1 (.slice d11 m11 g11)
      have y13 := SR'.out.cel b13 0 (.slice a13 n13 c13)
      have z13 := SR'.out.cel b13 1 (.slice d13 m13 g13)
      have ne := NE.out
      obtain ⟨t1, t2, t3, t4, t5, t6, cl0, cl1, fl0, fl1, _⟩ := TR.out.2.1
      obtain ⟨r1, r2, r3, r4, r5, r6, ch0, ch1, fh0, fh1, _⟩ := TR.out.2.2.1
      have ra := SR'.out.fr (.agg #[.slice a11 n11 c11, .slice d11 m11 g11]) PA QA
      have rb := SR'.out.fr (.agg #[.slice a13 n13 c13, .slice d13 m13 g13]) PB QB
      obtain ⟨n1, n2⟩ := two_set cl0 cl1 (.slice a13 n13 c13)
      have lo := TR.out.2.1.put rb
      obtain ⟨_, _, _, _, _, _, dl0, dl1, _⟩ := id lo
      have cd1 : (w23.setCell ⟨bl, 0, none⟩ (.slice a13 n13 c13)).cell? ⟨bl, 1, none⟩ = some (.slice t4 t5 t6) := by rw [World.cell?_setCell_other (h := by simp), cl1]
      have hi1 := (TR.out.2.2.1.far (Ne.symm ne.1) cl0 (.slice a13 n13 c13)).far (Ne.symm ne.1) cd1 (.slice d13 m13 g13)
      have xx1 := (TR.out.1.far ne.2.2.2.2.2.1 cl0 (.slice a13 n13 c13)).far ne.2.2.2.2.2.1 cd1 (.slice d13 m13 g13)
      have ra1 := (ra.setCell n1 (.slice a13 n13 c13)).setCell n2 (.slice d13 m13 g13)
      obtain ⟨h1, h2, h3, h4, h5, h6, gh0, gh1, gf0, gf1, _⟩ := id hi1
      have ge1 : (((w23.setCell ⟨bl, 0, none⟩ (.slice a13 n13 c13)).setCell ⟨bl, 1, none⟩ (.slice d13 m13 g13)).setCell ⟨bh, 0, none⟩ (.slice a11 n11 c11)).cell? ⟨bh, 1, none⟩ = some (.slice h4 h5 h6) := by rw [World.cell?_setCell_other (h := by simp), gh1]
      have hi2 := hi1.put ra1
      have lo2 := (lo.far ne.1 gh0 (.slice a11 n11 c11)).far ne.1 ge1 (.slice d11 m11 g11)
      have xx2 := (xx1.far ne.2.2.2.2.2.2.1 gh0 (.slice a11 n11 c11)).far ne.2.2.2.2.2.2.1 ge1 (.slice d11 m11 g11)
      have kb0 := far_at (j := 1) (u := .slice d13 m13 g13) (far_at (j := 0) (u := .slice a13 n13 c13) y11 (Ne.symm ne.2.1)) (Ne.symm ne.2.1)
      have kb1 := far_at (j := 1) (u := .slice d13 m13 g13) (far_at (j := 0) (u := .slice a13 n13 c13) z11 (Ne.symm ne.2.1)) (Ne.symm ne.2.1)
      have TS : Hid (RAt ((((w23.setCell ⟨bl, 0, none⟩ (.slice a13 n13 c13)).setCell ⟨bl, 1, none⟩ (.slice d13 m13 g13)).setCell ⟨bh, 0, none⟩ (.slice a11 n11 c11)).setCell ⟨bh, 1, none⟩ (.slice d11 m11 g11)) (b21) NX DX ∧ RAt ((((w23.setCell ⟨bl, 0, none⟩ (.slice a13 n13 c13)).setCell ⟨bl, 1, none⟩ (.slice d13 m13 g13)).setCell ⟨bh, 0, none⟩ (.slice a11 n11 c11)).setCell ⟨bh, 1, none⟩ (.slice d11 m11 g11)) (bl) PB QB ∧ RAt ((((w23.setCell ⟨bl, 0, none⟩ (.slice a13 n13 c13)).setCell ⟨bl, 1, none⟩ (.slice d13 m13 g13)).setCell ⟨bh, 0, none⟩ (.slice a11 n11 c11)).setCell ⟨bh, 1, none⟩ (.slice d11 m11 g11)) (bh) PA QA ∧ Below w.heap.size w ((((w23.setCell ⟨bl, 0, none⟩ (.slice a13 n13 c13)).setCell ⟨bl, 1, none⟩ (.slice d13 m13 g13)).setCell ⟨bh, 0, none⟩ (.slice a11 n11 c11)).setCell ⟨bh, 1, none⟩ (.slice d11 m11 g11))) := ⟨xx2, lo2, hi2, (((TR.out.2.2.2.setCell (p := ⟨bl, 0, none⟩) ne.2.2.2.2.2.2.2.1 _).setCell (p := ⟨bl, 1, none⟩) ne.2.2.2.2.2.2.2.1 _).setCell (p := ⟨bh, 0, none⟩) ne.2.2.2.2.2.2.2.2 _).setCell (p := ⟨bh, 1, none⟩) ne.2.2.2.2.2.2.2.2 _⟩
      clear lo2 hi2 xx2 xx1 lo hi1 ra1 ra rb n1 n2 dl0 dl1 cd1 ge1 SR' TR ne
      go_wp2_with fail
      clear hkk y11 z11 y13 z13 cl0 cl1 fl0 fl1 ch0 ch1 fh0 fh1 gh0 gh1 gf0 gf1 kb0 kb1
      obtain ⟨w25, hw⟩ : ∃ w25, w25 = ((((w23.setCell ⟨bl, 0, none⟩ (.slice a13 n13 c13)).setCell ⟨bl, 1, none⟩ (.slice d13 m13 g13)).setCell ⟨bh, 0, none⟩ (.slice a11 n11 c11)).setCell ⟨bh, 1, none⟩ (.slice d11 m11 g11)) := ⟨_, rfl⟩
      rw [← hw] at TS
      rw [← hw]
      clear hw
      refine (rtold_true _ (FF.out.go TS.out.2.2.2)).mono ?_
      rintro e w31 ⟨rfl, hb⟩
      have T1 : Hid (RAt w31 (b21) NX DX ∧ RAt w31 (bl) PB QB ∧ RAt w31 (bh) PA QA ∧ Below w.heap.size w w31) := ⟨(TS.out.1.go hb), (TS.out.2.1.go hb), (TS.out.2.2.1.go hb), bel_go TS.out.2.2.2 hb⟩
      clear hb TS
      obtain ⟨xx1, xx2, xx3, xx4, xx5, xx6, xxc, xxd, _, _, xxh⟩ := T1.out.1
      obtain ⟨ll1, ll2, ll3, ll4, ll5, ll6, llc, lld, _, _, llh⟩ := T1.out.2.1
      go_wp2_with fail
      obtain ⟨k1, ek1⟩ : ∃ k1, k1 = cmpI (NX * QB) (PB * DX) := ⟨_, rfl⟩
      have le := btw_le BE.out.2.1.mem BE.out.1 BE.out.2.2.1.pos BE.out.2.2.2.pos
      have hk1 : decide (k1 < 0) = false := decide_eq_false (by
        rw [ek1]
        unfold cmpI
        rw [if_neg (by omega)]
        split <;> omega)
      refine (GG.out.2.2.1.cmp BE.out.2.2.1 (by omega) (by omega) (z := k1) ek1.symm _ _ _ xxh llh).mono ?_
      rintro e w32 ⟨rfl, hb⟩
      have T2 : Hid (RAt w32 (b21) NX DX ∧ RAt w32 (bl) PB QB ∧ RAt w32 (bh) PA QA ∧ Below w.heap.size w w32) := ⟨(T1.out.1.go hb), (T1.out.2.1.go hb), (T1.out.2.2.1.go hb), bel_go T1.out.2.2.2 hb⟩
      clear hb T1 xxc xxd xxh llc lld llh ek1
      obtain ⟨xx1, xx2, xx3, xx4, xx5, xx6, xxc, xxd, _, _, xxh⟩ := T2.out.1
      obtain ⟨ll1, ll2, ll3, ll4, ll5, ll6, llc, lld, _, _, llh⟩ := T2.out.2.2.1
      go_wp2_with fail
      obtain ⟨k2', ek2⟩ : ∃ k2', k2' = cmpI (NX * QA) (PA * DX) := ⟨_, rfl⟩
      have hk2 : decide (0 < k2') = false := decide_eq_false (by
        rw [ek2]
        unfold cmpI
        split
        · omega
        · rw [if_pos (by omega)]
          omega)
      refine (GG.out.2.2.1.cmp BE.out.2.2.2 (by omega) (by omega) (z := k2') ek2.symm _ _ _ xxh llh).mono ?_
      rintro e w33 ⟨rfl, hb⟩
      have T3 : Hid (RAt w33 (b21) NX DX ∧ RAt w33 (bl) PB QB ∧ RAt w33 (bh) PA QA ∧ Below w.heap.size w w33) := ⟨(T2.out.1.go hb), (T2.out.2.1.go hb), (T2.out.2.2.1.go hb), bel_go T2.out.2.2.2 hb⟩
      clear hb T2 xxc xxd xxh llc lld llh ek2 le
      go_wp2_with fail
      refine (ratOf_yes n' (d' + 1) _ (by have := HN.out; omega) (by have := HN.out; omega) (by omega) (FF.out.go T3.out.2.2.2)).mono ?_
      rintro e v41w ⟨v41, rfl, hv, hb⟩
      obtain ⟨a41, n41, c41, d41, m41, g41, ev, _, _⟩ := hv.raw
      subst ev
      have fN : Fc (n' / Nat.gcd n' (d' + 1)) ((d' + 1) / Nat.gcd n' (d' + 1)) (n' / Nat.gcd n' (d' + 1)) ((d' + 1) / Nat.gcd n' (d' + 1)) 1 := Fc.own hv.low hv.pos (by rw [P_one]; have := HN.out; have := Nat.div_le_self n' (Nat.gcd n' (d' + 1)); omega) (by rw [P_one]; have := HN.out; have := Nat.div_le_self (d' + 1) (Nat.gcd n' (d' + 1)); omega)
      generalize n' / Nat.gcd n' (d' + 1) = PN at hv fN
      generalize (d' + 1) / Nat.gcd n' (d' + 1) = QN at hv fN
      have hbb := bel_go hb (bel_al (o := .cells #[.slice a41 n41 c41, .slice d41 m41 g41] 29) (bel_refl v41w))
      have T4 : Hid (RAt (v41w.alloc (.cells #[.slice a41 n41 c41, .slice d41 m41 g41] 29)) (v41w.heap.size) PN QN ∧ RAt (v41w.alloc (.cells #[.slice a41 n41 c41, .slice d41 m41 g41] 29)) (b21) NX DX ∧ RAt (v41w.alloc (.cells #[.slice a41 n41 c41, .slice d41 m41 g41] 29)) (bl) PB QB ∧ RAt (v41w.alloc (.cells #[.slice a41 n41 c41, .slice d41 m41 g41] 29)) (bh) PA QA ∧ Below w.heap.size w (v41w.alloc (.cells #[.slice a41 n41 c41, .slice d41 m41 g41] 29))) := ⟨rat_box _ hv, (T3.out.1.go hbb), (T3.out.2.1.go hbb), (T3.out.2.2.1.go hbb), bel_go T3.out.2.2.2 hbb⟩
      clear hv hb hbb T3
      obtain ⟨ll1, ll2, ll3, ll4, ll5, ll6, llc, lld, _, _, llh⟩ := T4.out.2.2.1
      go_wp2_with fail
      obtain ⟨w41, hw⟩ : ∃ w41, w41 = (v41w.alloc (.cells #[.slice a41 n41 c41, .slice d41 m41 g41] 29)) := ⟨_, rfl⟩
      obtain ⟨b41, hb⟩ : ∃ b41, b41 = v41w.heap.size := ⟨_, rfl⟩
      rw [← hw, ← hb] at T4
      rw [← hw] at llc lld llh
      rw [← hw, ← hb]
      clear hw hb
      refine (floor_any _ PB QB _ llh (BE.out.2.2.1.rs1 (by omega)) (BE.out.2.2.1.rs2 (by omega))).mono ?_
      rintro e w42 ⟨v42, rfl, hv, hb⟩
      have T5 : Hid (RAt w42 (b41) PN QN ∧ RAt w42 (b21) NX DX ∧ RAt w42 (bl) PB QB ∧ RAt w42 (bh) PA QA ∧ Below w.heap.size w w42) := ⟨(T4.out.1.go hb), (T4.out.2.1.go hb), (T4.out.2.2.1.go hb), (T4.out.2.2.2.1.go hb), bel_go T4.out.2.2.2.2 hb⟩
      have V5 : Hid (IsNat w42 v42 (PB / QB)) := hv
      clear hv hb T4 llc lld llh
      go_wp2_with fail
      refine (of_any 1 _ (by omega)).mono ?_
      rintro e w43 ⟨v43, rfl, hv, hb⟩
      have T6 : Hid (RAt w43 (b41) PN QN ∧ RAt w43 (b21) NX DX ∧ RAt w43 (bl) PB QB ∧ RAt w43 (bh) PA QA ∧ Below w.heap.size w w43) := ⟨(T5.out.1.go hb), (T5.out.2.1.go hb), (T5.out.2.2.1.go hb), (T5.out.2.2.2.1.go hb), bel_go T5.out.2.2.2.2 hb⟩
      have V6 : Hid (IsNat w43 v42 (PB / QB) ∧ IsNat w43 v43 1) := ⟨V5.out.mono hb, hv⟩
      clear hv hb T5 V5
      go_wp2_with fail
      have FR := from_any _ _ (PB / QB) 1 _ V6.out.1 V6.out.2 ((BE.out.2.2.1.rs1 (by omega)).le (Nat.div_le_self _ _)) (rs_few (by omega)) (by omega) (FF.out.go T6.out.2.2.2.2)
      rw [Nat.gcd_one_right, Nat.div_one, Nat.div_one] at FR
      refine FR.mono ?_
      clear FR V6
      rintro e v44w ⟨v44, rfl, hv, hb⟩
      obtain ⟨a44, n44, c44, d44, m44, g44, ev, _, _⟩ := hv.raw
      subst ev
      have hbb := bel_go hb (bel_al (o := .cells #[.slice a44 n44 c44, .slice d44 m44 g44] 29) (bel_refl v44w))
      have T7 : Hid (RAt (v44w.alloc (.cells #[.slice a44 n44 c44, .slice d44 m44 g44] 29)) (v44w.heap.size) (PB / QB) 1 ∧ RAt (v44w.alloc (.cells #[.slice a44 n44 c44, .slice d44 m44 g44] 29)) (b41) PN QN ∧ RAt (v44w.alloc (.cells #[.slice a44 n44 c44, .slice d44 m44 g44] 29)) (b21) NX DX ∧ RAt (v44w.alloc (.cells #[.slice a44 n44 c44, .slice d44 m44 g44] 29)) (bl) PB QB ∧ RAt (v44w.alloc (.cells #[.slice a44 n44 c44, .slice d44 m44 g44] 29)) (bh) PA QA ∧ Below w.heap.size w (v44w.alloc (.cells #[.slice a44 n44 c44, .slice d44 m44 g44] 29))) := ⟨rat_box _ hv, (T6.out.1.go hbb), (T6.out.2.1.go hbb), (T6.out.2.2.1.go hbb), (T6.out.2.2.2.1.go hbb), bel_go T6.out.2.2.2.2 hbb⟩
      clear hv hb hbb T6
      obtain ⟨xx1, xx2, xx3, xx4, xx5, xx6, xxc, xxd, _, _, xxh⟩ := T7.out.2.1
      go_wp2_with fail
      obtain ⟨w44, hw⟩ : ∃ w44, w44 = (v44w.alloc (.cells #[.slice a44 n44 c44, .slice d44 m44 g44] 29)) := ⟨_, rfl⟩
      obtain ⟨b44, hb⟩ : ∃ b44, b44 = v44w.heap.size := ⟨_, rfl⟩
      rw [← hw, ← hb] at T7
      rw [← hw] at xxc xxd xxh
      rw [← hw, ← hb]
      have fW : Fc (PB / QB) 1 (PB / QB) 1 15 := Fc.own (Nat.gcd_one_right _) (by omega) (Nat.lt_of_le_of_lt (Nat.div_le_self _ _) BE.out.2.2.1.s1) (Nat.lt_of_lt_of_le (by rw [P_one]; omega) (P_le (show 1 ≤ 15 by omega)))
      obtain ⟨PY, QY, fY, _, cY⟩ := fW.add fN (by omega) (by omega)
      have wh : Rt w44 (.agg #[.slice a44 n44 c44, .slice d44 m44 g44]) (PB / QB) 1 := by
        obtain ⟨h1, h2, h3, h4, h5, h6, h7, h8, _, _, h9⟩ := T7.out.1
        rw [hw, hb] at h7 h8
        simp at h7 h8
        obtain ⟨rfl, rfl, rfl⟩ := h7
        obtain ⟨rfl, rfl, rfl⟩ := h8
        exact h9
      clear hw hb
      refine (cY _ _ _ wh xxh (FF.out.go T7.out.2.2.2.2.2)).mono ?_
      rintro e v45w ⟨v45, rfl, hv, hb⟩
      obtain ⟨a45, n45, c45, d45, m45, g45, ev, _, _⟩ := hv.raw
      subst ev
      have GY : Hid (Fc PY QY PY QY (15 + 1 + 1)) := ⟨fY.low, fY.pos, fY.pos, rfl, fY.s1, fY.s2⟩
      have hbb := bel_go hb (bel_al (o := .cells #[.slice a45 n45 c45, .slice d45 m45 g45] 29) (bel_refl v45w))
      have T8 : Hid (RAt (v45w.alloc (.cells #[.slice a45 n45 c45, .slice d45 m45 g45] 29)) (v45w.heap.size) PY QY ∧ RAt (v45w.alloc (.cells #[.slice a45 n45 c45, .slice d45 m45 g45] 29)) (b44) (PB / QB) 1 ∧ RAt (v45w.alloc (.cells #[.slice a45 n45 c45, .slice d45 m45 g45] 29)) (b41) PN QN ∧ RAt (v45w.alloc (.cells #[.slice a45 n45 c45, .slice d45 m45 g45] 29)) (b21) NX DX ∧ RAt (v45w.alloc (.cells #[.slice a45 n45 c45, .slice d45 m45 g45] 29)) (bl) PB QB ∧ RAt (v45w.alloc (.cells #[.slice a45 n45 c45, .slice d45 m45 g45] 29)) (bh) PA QA ∧ Below w.heap.size w (v45w.alloc (.cells #[.slice a45 n45 c45, .slice d45 m45 g45] 29))) := ⟨rat_box _ hv, (T7.out.1.go hbb), (T7.out.2.1.go hbb), (T7.out.2.2.1.go hbb), (T7.out.2.2.2.1.go hbb), (T7.out.2.2.2.2.1.go hbb), bel_go T7.out.2.2.2.2.2 hbb⟩
      clear hv hb hbb T7 fY fW fN cY wh xxc xxd xxh
      obtain ⟨ll1, ll2, ll3, ll4, ll5, ll6, llc, lld, _, _, llh⟩ := T8.out.2.2.2.2.1
      have yh := T8.out.1
      go_wp2_with fail
      obtain ⟨w45, hw⟩ : ∃ w45, w45 = (v45w.alloc (.cells #[.slice a45 n45 c45, .slice d45 m45 g45] 29)) := ⟨_, rfl⟩
      obtain ⟨b45, hb⟩ : ∃ b45, b45 = v45w.heap.size := ⟨_, rfl⟩
      have yr : Rt w45 (.agg #[.slice a45 n45 c45, .slice d45 m45 g45]) PY QY := by
        obtain ⟨h1, h2, h3, h4, h5, h6, h7, h8, _, _, h9⟩ := yh
        rw [hw]
        simp at h7 h8
        obtain ⟨rfl, rfl, rfl⟩ := h7
        obtain ⟨rfl, rfl, rfl⟩ := h8
        exact h9
      rw [← hw, ← hb] at T8
      rw [← hw] at llc lld llh
      rw [← hw, ← hb]
      clear hw hb yh
      obtain ⟨k3, ek3⟩ : ∃ k3, k3 = cmpI (PY * QB) (PB * QY) := ⟨_, rfl⟩
      refine (GY.out.cmp BE.out.2.2.1 (by omega) (by omega) (z := k3) ek3.symm _ _ _ yr llh).mono ?_
      rintro e w46 ⟨rfl, hb⟩
      have T9 : Hid (RAt w46 (b45) PY QY ∧ RAt w46 (b44) (PB / QB) 1 ∧ RAt w46 (b41) PN QN ∧ RAt w46 (b21) NX DX ∧ RAt w46 (bl) PB QB ∧ RAt w46 (bh) PA QA ∧ Below w.heap.size w w46) := ⟨(T8.out.1.go hb), (T8.out.2.1.go hb), (T8.out.2.2.1.go hb), (T8.out.2.2.2.1.go hb), (T8.out.2.2.2.2.1.go hb), (T8.out.2.2.2.2.2.1.go hb), bel_go T8.out.2.2.2.2.2.2 hb⟩
      clear hb T8 llc lld llh yr
      by_cases h3 : PY * QB < PB * QY
      · have hk3 : decide (k3 < 0) = true := decide_eq_true (by rw [ek3]; unfold cmpI; rw [if_pos h3]; omega)
        have B : Hid _ := T9.out.2.2.2.2.2.2
        clear ek3 h3 T9
        go_wp2_with fail
        go_ret
        exact ⟨rfl, B.out⟩
      · have hk3 : decide (k3 < 0) = false := decide_eq_false (by
          rw [ek3]
          unfold cmpI
          rw [if_neg h3]
          split <;> omega)
        clear ek3
        obtain ⟨xx1, xx2, xx3, xx4, xx5, xx6, xxc, xxd, _, _, xxh⟩ := T9.out.1
        obtain ⟨ll1, ll2, ll3, ll4, ll5, ll6, llc, lld, _, _, llh⟩ := T9.out.2.2.2.2.2.1
        go_wp2_with fail
        obtain ⟨k4, ek4⟩ : ∃ k4, k4 = cmpI (PY * QA) (PA * QY) := ⟨_, rfl⟩
        refine (GY.out.cmp BE.out.2.2.2 (by omega) (by omega) (z := k4) ek4.symm _ _ _ xxh llh).mono ?_
        rintro e w47 ⟨rfl, hb⟩
        have TA : Hid (RAt w47 (b45) PY QY ∧ RAt w47 (b44) (PB / QB) 1 ∧ RAt w47 (b41) PN QN ∧ RAt w47 (b21) NX DX ∧ RAt w47 (bl) PB QB ∧ RAt w47 (bh) PA QA ∧ Below w.heap.size w w47) := ⟨(T9.out.1.go hb), (T9.out.2.1.go hb), (T9.out.2.2.1.go hb), (T9.out.2.2.2.1.go hb), (T9.out.2.2.2.2.1.go hb), (T9.out.2.2.2.2.2.1.go hb), bel_go T9.out.2.2.2.2.2.2 hb⟩
        clear hb T9 xxc xxd xxh llc lld llh hk3
        by_cases h4 : PA * QY < PY * QA
        · have hk4 : decide (0 < k4) = true := decide_eq_true (by rw [ek4]; unfold cmpI; rw [if_neg (by omega), if_neg (by omega)]; omega)
          have B : Hid _ := TA.out.2.2.2.2.2.2
          clear ek4 h3 h4 TA
          go_wp2_with fail
          go_ret
          exact ⟨rfl, B.out⟩
        · have hk4 : decide (0 < k4) = false := decide_eq_false (by
            rw [ek4]
            unfold cmpI
            split
            · omega
            · rw [if_pos (by omega)]
              omega)
          have LE : Hid (NX ≤ PY ∧ DX ≤ QY) := BE.out.2.1.least PY QY GY.out.pos (.inl ⟨by omega, by omega⟩)
          clear ek4 h3 h4
          obtain ⟨xx1, xx2, xx3, xx4, xx5, xx6, xxc, xxd, _, _, xxh⟩ := TA.out.2.2.2.1
          go_wp2_with fail
          refine (parts_any _ NX DX _ xxh (GG.out.2.2.1.rs2 (by omega)).fits).mono ?_
          rintro e v51w ⟨v51, v52, rfl, hv, hu, hb⟩
          obtain ⟨a51, n51, c51, rfl⟩ := hv.isAgg
          obtain ⟨a52, n52, c52, rfl⟩ := hu.isAgg
          have ba := bel_al (o := .cells #[.slice a51 n51 c51] 27) (bel_refl v51w)
          have hbb := bel_go hb (bel_al (o := .cells #[.slice a52 n52 c52] 27) ba)
          have TB : Hid (NAt ((v51w.alloc (.cells #[.slice a51 n51 c51] 27)).alloc (.cells #[.slice a52 n52 c52] 27)) ((v51w.alloc (.cells #[.slice a51 n51 c51] 27)).heap.size) DX ∧ RAt ((v51w.alloc (.cells #[.slice a51 n51 c51] 27)).alloc (.cells #[.slice a52 n52 c52] 27)) (b45) PY QY ∧ RAt ((v51w.alloc (.cells #[.slice a51 n51 c51] 27)).alloc (.cells #[.slice a52 n52 c52] 27)) (b44) (PB / QB) 1 ∧ RAt ((v51w.alloc (.cells #[.slice a51 n51 c51] 27)).alloc (.cells #[.slice a52 n52 c52] 27)) (b41) PN QN ∧ RAt ((v51w.alloc (.cells #[.slice a51 n51 c51] 27)).alloc (.cells #[.slice a52 n52 c52] 27)) (b21) NX DX ∧ RAt ((v51w.alloc (.cells #[.slice a51 n51 c51] 27)).alloc (.cells #[.slice a52 n52 c52] 27)) (bl) PB QB ∧ RAt ((v51w.alloc (.cells #[.slice a51 n51 c51] 27)).alloc (.cells #[.slice a52 n52 c52] 27)) (bh) PA QA ∧ Below w.heap.size w ((v51w.alloc (.cells #[.slice a51 n51 c51] 27)).alloc (.cells #[.slice a52 n52 c52] 27))) := ⟨nat_box _ (hu.mono ba), (TA.out.1.go hbb), (TA.out.2.1.go hbb), (TA.out.2.2.1.go hbb), (TA.out.2.2.2.1.go hbb), (TA.out.2.2.2.2.1.go hbb), (TA.out.2.2.2.2.2.1.go hbb), bel_go TA.out.2.2.2.2.2.2 hbb⟩
          simp only [World.size_alloc] at TB
          clear hv hu hb hbb ba TA xxc xxd xxh
          obtain ⟨xx1, xx2, xx3, xx4, xx5, xx6, xxc, xxd, _, _, xxh⟩ := TB.out.2.1
          go_wp2_with fail
          obtain ⟨w51, hw⟩ : ∃ w51, w51 = ((v51w.alloc (.cells #[.slice a51 n51 c51] 27)).alloc (.cells #[.slice a52 n52 c52] 27)) := ⟨_, rfl⟩
          obtain ⟨b51, hb⟩ : ∃ b51, b51 = v51w.heap.size := ⟨_, rfl⟩
          rw [← hw, ← hb] at TB
          rw [← hw] at xxc xxd xxh
          rw [← hw, ← hb]
          clear hw hb
          refine (parts_any _ PY QY _ xxh (GY.out.rs2 (by omega)).fits).mono ?_
          rintro e v53w ⟨v53, v54, rfl, hv, hu, hb⟩
          obtain ⟨a53, n53, c53, rfl⟩ := hv.isAgg
          obtain ⟨a54, n54, c54, rfl⟩ := hu.isAgg
          have ba := bel_al (o := .cells #[.slice a53 n53 c53] 27) (bel_refl v53w)
          have hbb := bel_go hb (bel_al (o := .cells #[.slice a54 n54 c54] 27) ba)
          have HU : Hid (IsNat ((v53w.alloc (.cells #[.slice a53 n53 c53] 27)).alloc (.cells #[.slice a54 n54 c54] 27)) (.agg #[.slice a54 n54 c54]) QY) := hu.mono (bel_al (o := .cells #[.slice a54 n54 c54] 27) ba)
          have TC : Hid (NAt ((v53w.alloc (.cells #[.slice a53 n53 c53] 27)).alloc (.cells #[.slice a54 n54 c54] 27)) (b51 + 1) DX ∧ RAt ((v53w.alloc (.cells #[.slice a53 n53 c53] 27)).alloc (.cells #[.slice a54 n54 c54] 27)) (b45) PY QY ∧ RAt ((v53w.alloc (.cells #[.slice a53 n53 c53] 27)).alloc (.cells #[.slice a54 n54 c54] 27)) (b44) (PB / QB) 1 ∧ RAt ((v53w.alloc (.cells #[.slice a53 n53 c53] 27)).alloc (.cells #[.slice a54 n54 c54] 27)) (b41) PN QN ∧ RAt ((v53w.alloc (.cells #[.slice a53 n53 c53] 27)).alloc (.cells #[.slice a54 n54 c54] 27)) (b21) NX DX ∧ RAt ((v53w.alloc (.cells #[.slice a53 n53 c53] 27)).alloc (.cells #[.slice a54 n54 c54] 27)) (bl) PB QB ∧ RAt ((v53w.alloc (.cells #[.slice a53 n53 c53] 27)).alloc (.cells #[.slice a54 n54 c54] 27)) (bh) PA QA ∧ Below w.heap.size w ((v53w.alloc (.cells #[.slice a53 n53 c53] 27)).alloc (.cells #[.slice a54 n54 c54] 27))) := ⟨(TB.out.1.go hbb), (TB.out.2.1.go hbb), (TB.out.2.2.1.go hbb), (TB.out.2.2.2.1.go hbb), (TB.out.2.2.2.2.1.go hbb), (TB.out.2.2.2.2.2.1.go hbb), (TB.out.2.2.2.2.2.2.1.go hbb), bel_go TB.out.2.2.2.2.2.2.2 hbb⟩
          clear hv hu hb hbb ba TB xxc xxd xxh
          obtain ⟨nn1, nn2, nn3, nnc, _, nnh⟩ := TC.out.1
          go_wp2_with fail
          obtain ⟨w53, hw⟩ : ∃ w53, w53 = ((v53w.alloc (.cells #[.slice a53 n53 c53] 27)).alloc (.cells #[.slice a54 n54 c54] 27)) := ⟨_, rfl⟩
          rw [← hw] at TC HU nnc nnh
          rw [← hw]
          clear hw
          refine (cmp_any _ _ DX QY _ nnh HU.out (GG.out.2.2.1.rs2 (by omega)).fits (GY.out.rs2 (by omega)).fits).mono ?_
          rintro e w55 ⟨rfl, hb⟩
          have TD : Hid (NAt w55 (b51 + 1) DX ∧ RAt w55 (b45) PY QY ∧ RAt w55 (b44) (PB / QB) 1 ∧ RAt w55 (b41) PN QN ∧ RAt w55 (b21) NX DX ∧ RAt w55 (bl) PB QB ∧ RAt w55 (bh) PA QA ∧ Below w.heap.size w w55) := ⟨(TC.out.1.go hb), (TC.out.2.1.go hb), (TC.out.2.2.1.go hb), (TC.out.2.2.2.1.go hb), (TC.out.2.2.2.2.1.go hb), (TC.out.2.2.2.2.2.1.go hb), (TC.out.2.2.2.2.2.2.1.go hb), bel_go TC.out.2.2.2.2.2.2.2 hb⟩
          clear hb TC HU nnc nnh
          by_cases h5 : DX < QY
          · have ec : cmpI DX QY = -1 := by unfold cmpI; rw [if_pos h5]
            rw [ec]
            have B : Hid _ := TD.out.2.2.2.2.2.2.2
            clear ec h5 TD
            go_wp2_with fail
            go_ret
            exact ⟨rfl, B.out⟩
          · have eq : DX = QY := by have := LE.out; omega
            have ec : cmpI DX QY = 0 := cmpI_same eq
            rw [ec]
            obtain ⟨k5, ek5⟩ : ∃ k5, k5 = cmpI (NX * QY) (PY * DX) := ⟨_, rfl⟩
            have hk5 : decide (k5 ≤ 0) = true := decide_eq_true (by
              have h6 : NX * QY ≤ PY * DX := by rw [eq]; exact Nat.mul_le_mul_right _ LE.out.1
              rw [ek5]
              unfold cmpI
              split
              · omega
              · rw [if_pos (by omega)]
                omega)
            have hk6 : k5 ≤ 0 := of_decide_eq_true hk5
            clear ec h5 eq
            obtain ⟨xx1, xx2, xx3, xx4, xx5, xx6, xxc, xxd, _, _, xxh⟩ := TD.out.2.2.2.2.1
            obtain ⟨ll1, ll2, ll3, ll4, ll5, ll6, llc, lld, _, _, llh⟩ := TD.out.2.1
            go_wp2_with fail
            refine (GG.out.2.2.1.cmp GY.out (by omega) (by omega) (z := k5) ek5.symm _ _ _ xxh llh).mono ?_
            rintro e w56 ⟨rfl, hb⟩
            have B : Hid _ := bel_go TD.out.2.2.2.2.2.2.2 hb
            clear hb ek5 TD xxc xxd xxh llc lld llh
            go_wp2_with fail
            go_ret
            exact ⟨rfl, B.out⟩
  · obtain ⟨w22, hw⟩ : ∃ w22, w22 = ((w21.alloc (.cells #[.slice a13 n13 c13, .slice d13 m13 g13] 29)).alloc (.cells #[.slice a11 n11 c11, .slice d11 m11 g11] 29)).drew := ⟨_, rfl⟩
    obtain ⟨bl, hbl⟩ : ∃ bl, bl = w21.heap.size + 1 := ⟨_, rfl⟩
    obtain ⟨bh, hbh⟩ : ∃ bh, bh = w21.heap.size := ⟨_, rfl⟩
    have NE : Hid (bl ≠ bh ∧ bl ≠ b11 ∧ bh ≠ b11 ∧ bl ≠ b13 ∧ bh ≠ b13 ∧ b21 ≠ bl ∧ b21 ≠ bh ∧ w.heap.size ≤ bl ∧ w.heap.size ≤ bh) := by
      have := S3.out.bel.size
      obtain ⟨_, _, _, _, _, _, cx, _⟩ := X3.out
      have l21 := World.block_lt_of_cell? _ _ cx
      simp only at l21
      exact ⟨by omega, by omega, by omega, by omega, by omega, by omega, by omega, by omega, by omega⟩
    have TQ : Hid (RAt w22 b21 NX DX ∧ RAt w22 bl PA QA ∧ RAt w22 bh PB QB ∧ Below w.heap.size w w22) := by
      have bb : Below w21.heap.size w21 w22 := by rw [hw]; exact bel_dr (bel_al (bel_al (bel_refl _)))
      have ra := (S3.out.fr (.agg #[.slice a11 n11 c11, .slice d11 m11 g11]) PA QA).mono bb
      have rb := (S3.out.fr (.agg #[.slice a13 n13 c13, .slice d13 m13 g13]) PB QB).mono bb
      refine ⟨X3.out.go bb, ⟨_, _, _, _, _, _, ?_, ?_, ?_, ?_, ra⟩, ⟨_, _, _, _, _, _, ?_, ?_, ?_, ?_, rb⟩, bel_go S3.out.bel bb⟩ <;> first | rw [hw, hbl] | rw [hw, hbh]
      all_goals simp [go_sem]
    have SQ' : Hid _ := S3.out.go (w' := w22) (by rw [hw]; exact bel_dr (bel_al (bel_al (bel_refl _))))
    rw [← hw, ← hbl, ← hbh]
    clear hw hbl hbh X3 S3 y11 z11 y13 z13 l11 l13 i1 i2 i3 i4 i5 i6 i7 i8
    have y11 := SQ'.out.cel b11 0 (.slice a11 n11 c11)
    have z11 := SQ'.out.cel b11 1 (.slice d11 m11 g11)
    have y13 := SQ'.out.cel b13 0 (.slice a13 n13 c13)
    have z13 := SQ'.out.cel b13 1 (.slice d13 m13 g13)
    go_wp2_with fail
    obtain ⟨kk, ekk⟩ : ∃ kk, kk = cmpI (PA * QB) (PB * QA) := ⟨_, rfl⟩
    refine (GG.out.1.cmp GG.out.2.1 (by omega) (by omega) (z := kk) ekk.symm _ _ _ (SQ'.out.fr (.agg #[.slice a11 n11 c11, .slice d11 m11 g11]) PA QA) (SQ'.out.fr (.agg #[.slice a13 n13 c13, .slice d13 m13 g13]) PB QB)).mono ?_
    rintro e w23 ⟨rfl, hb⟩
    have SR' : Hid _ := SQ'.out.go hb
    have TR : Hid (RAt w23 (b21) NX DX ∧ RAt w23 (bl) PA QA ∧ RAt w23 (bh) PB QB ∧ Below w.heap.size w w23) := ⟨(TQ.out.1.go hb), (TQ.out.2.1.go hb), (TQ.out.2.2.1.go hb), bel_go TQ.out.2.2.2 hb⟩
    clear hb TQ SQ' y11 z11 y13 z13
    by_cases hle : PA * QB ≤ PB * QA
    · have hkk : decide (0 < kk) = false := decide_eq_false (by
        rw [ekk]
        unfold cmpI
        split
        · omega
        · rw [if_pos (by omega)]
          omega)
      have BE : Hid (PA * QB ≤ PB * QA ∧ Best PA QA PB QB NX DX ∧ Fc PA QA PA QA 15 ∧ Fc PB QB PB QB 15) := ⟨hle, GG.out.2.2.2, GG.out.1, GG.out.2.1⟩
      clear ekk hle SR'
      go_wp2_with fail
      clear hkk
      refine (rtold_true _ (FF.out.go TR.out.2.2.2)).mono ?_
      rintro e w31 ⟨rfl, hb⟩
      have T1 : Hid (RAt w31 (b21) NX DX ∧ RAt w31 (bl) PA QA ∧ RAt w31 (bh) PB QB ∧ Below w.heap.size w w31) := ⟨(TR.out.1.go hb), (TR.out.2.1.go hb), (TR.out.2.2.1.go hb), bel_go TR.out.2.2.2 hb⟩
      clear hb TR
      obtain ⟨xx1, xx2, xx3, xx4, xx5, xx6, xxc, xxd, _, _, xxh⟩ := T1.out.1
      obtain ⟨ll1, ll2, ll3, ll4, ll5, ll6, llc, lld, _, _, llh⟩ := T1.out.2.1
      go_wp2_with fail
      obtain ⟨k1, ek1⟩ : ∃ k1, k1 = cmpI (NX * QA) (PA * DX) := ⟨_, rfl⟩
      have le := btw_le BE.out.2.1.mem BE.out.1 BE.out.2.2.1.pos BE.out.2.2.2.pos
      have hk1 : decide (k1 < 0) = false := decide_eq_false (by
        rw [ek1]
        unfold cmpI
        rw [if_neg (by omega)]
        split <;> omega)
      refine (GG.out.2.2.1.cmp BE.out.2.2.1 (by omega) (by omega) (z := k1) ek1.symm _ _ _ xxh llh).mono ?_
      rintro e w32 ⟨rfl, hb⟩
      have T2 : Hid (RAt w32 (b21) NX DX ∧ RAt w32 (bl) PA QA ∧ RAt w32 (bh) PB QB ∧ Below w.heap.size w w32) := ⟨(T1.out.1.go hb), (T1.out.2.1.go hb), (T1.out.2.2.1.go hb), bel_go T1.out.2.2.2 hb⟩
      clear hb T1 xxc xxd xxh llc lld llh ek1
      obtain ⟨xx1, xx2, xx3, xx4, xx5, xx6, xxc, xxd, _, _, xxh⟩ := T2.out.1
      obtain ⟨ll1, ll2, ll3, ll4, ll5, ll6, llc, lld, _, _, llh⟩ := T2.out.2.2.1
      go_wp2_with fail
      obtain ⟨k2', ek2⟩ : ∃ k2', k2' = cmpI (NX * QB) (PB * DX) := ⟨_, rfl⟩
      have hk2 : decide (0 < k2') = false := decide_eq_false (by
        rw [ek2]
        unfold cmpI
        split
        · omega
        · rw [if_pos (by omega)]
          omega)
      refine (GG.out.2.2.1.cmp BE.out.2.2.2 (by omega) (by omega) (z := k2') ek2.symm _ _ _ xxh llh).mono ?_
      rintro e w33 ⟨rfl, hb⟩
      have T3 : Hid (RAt w33 (b21) NX DX ∧ RAt w33 (bl) PA QA ∧ RAt w33 (bh) PB QB ∧ Below w.heap.size w w33) := ⟨(T2.out.1.go hb), (T2.out.2.1.go hb), (T2.out.2.2.1.go hb), bel_go T2.out.2.2.2 hb⟩
      clear hb T2 xxc xxd xxh llc lld llh ek2 le
      go_wp2_with fail
      refine (ratOf_yes n' (d' + 1) _ (by have := HN.out; omega) (by have := HN.out; omega) (by omega) (FF.out.go T3.out.2.2.2)).mono ?_
      rintro e v41w ⟨v41, rfl, hv, hb⟩
      obtain ⟨a41, n41, c41, d41, m41, g41, ev, _, _⟩ := hv.raw
      subst ev
      have fN : Fc (n' / Nat.gcd n' (d' + 1)) ((d' + 1) / Nat.gcd n' (d' + 1)) (n' / Nat.gcd n' (d' + 1)) ((d' + 1) / Nat.gcd n' (d' + 1)) 1 := Fc.own hv.low hv.pos (by rw [P_one]; have := HN.out; have := Nat.div_le_self n' (Nat.gcd n' (d' + 1)); omega) (by rw [P_one]; have := HN.out; have := Nat.div_le_self (d' + 1) (Nat.gcd n' (d' + 1)); omega)
      generalize n' / Nat.gcd n' (d' + 1) = PN at hv fN
      generalize (d' + 1) / Nat.gcd n' (d' + 1) = QN at hv fN
      have hbb := bel_go hb (bel_al (o := .cells #[.slice a41 n41 c41, .slice d41 m41 g41] 29) (bel_refl v41w))
      have T4 : Hid (RAt (v41w.alloc (.cells #[.slice a41 n41 c41, .slice d41 m41 g41] 29)) (v41w.heap.size) PN QN ∧ RAt (v41w.alloc (.cells #[.slice a41 n41 c41, .slice d41 m41 g41] 29)) (b21) NX DX ∧ RAt (v41w.alloc (.cells #[.slice a41 n41 c41, .slice d41 m41 g41] 29)) (bl) PA QA ∧ RAt (v41w.alloc (.cells #[.slice a41 n41 c41, .slice d41 m41 g41] 29)) (bh) PB QB ∧ Below w.heap.size w (v41w.alloc (.cells #[.slice a41 n41 c41, .slice d41 m41 g41] 29))) := ⟨rat_box _ hv, (T3.out.1.go hbb), (T3.out.2.1.go hbb), (T3.out.2.2.1.go hbb), bel_go T3.out.2.2.2 hbb⟩
      clear hv hb hbb T3
      obtain ⟨ll1, ll2, ll3, ll4, ll5, ll6, llc, lld, _, _, llh⟩ := T4.out.2.2.1
      go_wp2_with fail
      obtain ⟨w41, hw⟩ : ∃ w41, w41 = (v41w.alloc (.cells #[.slice a41 n41 c41, .slice d41 m41 g41] 29)) := ⟨_, rfl⟩
      obtain ⟨b41, hb⟩ : ∃ b41, b41 = v41w.heap.size := ⟨_, rfl⟩
      rw [← hw, ← hb] at T4
      rw [← hw] at llc lld llh
      rw [← hw, ← hb]
      clear hw hb
      refine (floor_any _ PA QA _ llh (BE.out.2.2.1.rs1 (by omega)) (BE.out.2.2.1.rs2 (by omega))).mono ?_
      rintro e w42 ⟨v42, rfl, hv, hb⟩
      have T5 : Hid (RAt w42 (b41) PN QN ∧ RAt w42 (b21) NX DX ∧ RAt w42 (bl) PA QA ∧ RAt w42 (bh) PB QB ∧ Below w.heap.size w w42) := ⟨(T4.out.1.go hb), (T4.out.2.1.go hb), (T4.out.2.2.1.go hb), (T4.out.2.2.2.1.go hb), bel_go T4.out.2.2.2.2 hb⟩
      have V5 : Hid (IsNat w42 v42 (PA / QA)) := hv
      clear hv hb T4 llc lld llh
      go_wp2_with fail
      refine (of_any 1 _ (by omega)).mono ?_
      rintro e w43 ⟨v43, rfl, hv, hb⟩
      have T6 : Hid (RAt w43 (b41) PN QN ∧ RAt w43 (b21) NX DX ∧ RAt w43 (bl) PA QA ∧ RAt w43 (bh) PB QB ∧ Below w.heap.size w w43) := ⟨(T5.out.1.go hb), (T5.out.2.1.go hb), (T5.out.2.2.1.go hb), (T5.out.2.2.2.1.go hb), bel_go T5.out.2.2.2.2 hb⟩
      have V6 : Hid (IsNat w43 v42 (PA / QA) ∧ IsNat w43 v43 1) := ⟨V5.out.mono hb, hv⟩
      clear hv hb T5 V5
      go_wp2_with fail
      have FR := from_any _ _ (PA / QA) 1 _ V6.out.1 V6.out.2 ((BE.out.2.2.1.rs1 (by omega)).le (Nat.div_le_self _ _)) (rs_few (by omega)) (by omega) (FF.out.go T6.out.2.2.2.2)
      rw [Nat.gcd_one_right, Nat.div_one, Nat.div_one] at FR
      refine FR.mono ?_
      clear FR V6
      rintro e v44w ⟨v44, rfl, hv, hb⟩
      obtain ⟨a44, n44, c44, d44, m44, g44, ev, _, _⟩ := hv.raw
      subst ev
      have hbb := bel_go hb (bel_al (o := .cells #[.slice a44 n44 c44, .slice d44 m44 g44] 29) (bel_refl v44w))
      have T7 : Hid (RAt (v44w.alloc (.cells #[.slice a44 n44 c44, .slice d44 m44 g44] 29)) (v44w.heap.size) (PA / QA) 1 ∧ RAt (v44w.alloc (.cells #[.slice a44 n44 c44, .slice d44 m44 g44] 29)) (b41) PN QN ∧ RAt (v44w.alloc (.cells #[.slice a44 n44 c44, .slice d44 m44 g44] 29)) (b21) NX DX ∧ RAt (v44w.alloc (.cells #[.slice a44 n44 c44, .slice d44 m44 g44] 29)) (bl) PA QA ∧ RAt (v44w.alloc (.cells #[.slice a44 n44 c44, .slice d44 m44 g44] 29)) (bh) PB QB ∧ Below w.heap.size w (v44w.alloc (.cells #[.slice a44 n44 c44, .slice d44 m44 g44] 29))) := ⟨rat_box _ hv, (T6.out.1.go hbb), (T6.out.2.1.go hbb), (T6.out.2.2.1.go hbb), (T6.out.2.2.2.1.go hbb), bel_go T6.out.2.2.2.2 hbb⟩
      clear hv hb hbb T6
      obtain ⟨xx1, xx2, xx3, xx4, xx5, xx6, xxc, xxd, _, _, xxh⟩ := T7.out.2.1
      go_wp2_with fail
      obtain ⟨w44, hw⟩ : ∃ w44, w44 = (v44w.alloc (.cells #[.slice a44 n44 c44, .slice d44 m44 g44] 29)) := ⟨_, rfl⟩
      obtain ⟨b44, hb⟩ : ∃ b44, b44 = v44w.heap.size := ⟨_, rfl⟩
      rw [← hw, ← hb] at T7
      rw [← hw] at xxc xxd xxh
      rw [← hw, ← hb]
      have fW : Fc (PA / QA) 1 (PA / QA) 1 15 := Fc.own (Nat.gcd_one_right _) (by omega) (Nat.lt_of_le_of_lt (Nat.div_le_self _ _) BE.out.2.2.1.s1) (Nat.lt_of_lt_of_le (by rw [P_one]; omega) (P_le (show 1 ≤ 15 by omega)))
      obtain ⟨PY, QY, fY, _, cY⟩ := fW.add fN (by omega) (by omega)
      have wh : Rt w44 (.agg #[.slice a44 n44 c44, .slice d44 m44 g44]) (PA / QA) 1 := by
        obtain ⟨h1, h2, h3, h4, h5, h6, h7, h8, _, _, h9⟩ := T7.out.1
        rw [hw, hb] at h7 h8
        simp at h7 h8
        obtain ⟨rfl, rfl, rfl⟩ := h7
        obtain ⟨rfl, rfl, rfl⟩ := h8
        exact h9
      clear hw hb
      refine (cY _ _ _ wh xxh (FF.out.go T7.out.2.2.2.2.2)).mono ?_
      rintro e v45w ⟨v45, rfl, hv, hb⟩
      obtain ⟨a45, n45, c45, d45, m45, g45, ev, _, _⟩ := hv.raw
      subst ev
      have GY : Hid (Fc PY QY PY QY (15 + 1 + 1)) := ⟨fY.low, fY.pos, fY.pos, rfl, fY.s1, fY.s2⟩
      have hbb := bel_go hb (bel_al (o := .cells #[.slice a45 n45 c45, .slice d45 m45 g45] 29) (bel_refl v45w))
      have T8 : Hid (RAt (v45w.alloc (.cells #[.slice a45 n45 c45, .slice d45 m45 g45] 29)) (v45w.heap.size) PY QY ∧ RAt (v45w.alloc (.cells #[.slice a45 n45 c45, .slice d45 m45 g45] 29)) (b44) (PA / QA) 1 ∧ RAt (v45w.alloc (.cells #[.slice a45 n45 c45, .slice d45 m45 g45] 29)) (b41) PN QN ∧ RAt (v45w.alloc (.cells #[.slice a45 n45 c45, .slice d45 m45 g45] 29)) (b21) NX DX ∧ RAt (v45w.alloc (.cells #[.slice a45 n45 c45, .slice d45 m45 g45] 29)) (bl) PA QA ∧ RAt (v45w.alloc (.cells #[.slice a45 n45 c45, .slice d45 m45 g45] 29)) (bh) PB QB ∧ Below w.heap.size w (v45w.alloc (.cells #[.slice a45 n45 c45, .slice d45 m45 g45] 29))) := ⟨rat_box _ hv, (T7.out.1.go hbb), (T7.out.2.1.go hbb), (T7.out.2.2.1.go hbb), (T7.out.2.2.2.1.go hbb), (T7.out.2.2.2.2.1.go hbb), bel_go T7.out.2.2.2.2.2 hbb⟩
      clear hv hb hbb T7 fY fW fN cY wh xxc xxd xxh
      obtain ⟨ll1, ll2, ll3, ll4, ll5, ll6, llc, lld, _, _, llh⟩ := T8.out.2.2.2.2.1
      have yh := T8.out.1
      go_wp2_with fail
      obtain ⟨w45, hw⟩ : ∃ w45, w45 = (v45w.alloc (.cells #[.slice a45 n45 c45, .slice d45 m45 g45] 29)) := ⟨_, rfl⟩
      obtain ⟨b45, hb⟩ : ∃ b45, b45 = v45w.heap.size := ⟨_, rfl⟩
      have yr : Rt w45 (.agg #[.slice a45 n45 c45, .slice d45 m45 g45]) PY QY := by
        obtain ⟨h1, h2, h3, h4, h5, h6, h7, h8, _, _, h9⟩ := yh
        rw [hw]
        simp at h7 h8
        obtain ⟨rfl, rfl, rfl⟩ := h7
        obtain ⟨rfl, rfl, rfl⟩ := h8
        exact h9
      rw [← hw, ← hb] at T8
      rw [← hw] at llc lld llh
      rw [← hw, ← hb]
      clear hw hb yh
      obtain ⟨k3, ek3⟩ : ∃ k3, k3 = cmpI (PY * QA) (PA * QY) := ⟨_, rfl⟩
      refine (GY.out.cmp BE.out.2.2.1 (by omega) (by omega) (z := k3) ek3.symm _ _ _ yr llh).mono ?_
      rintro e w46 ⟨rfl, hb⟩
      have T9 : Hid (RAt w46 (b45) PY QY ∧ RAt w46 (b44) (PA / QA) 1 ∧ RAt w46 (b41) PN QN ∧ RAt w46 (b21) NX DX ∧ RAt w46 (bl) PA QA ∧ RAt w46 (bh) PB QB ∧ Below w.heap.size w w46) := ⟨(T8.out.1.go hb), (T8.out.2.1.go hb), (T8.out.2.2.1.go hb), (T8.out.2.2.2.1.go hb), (T8.out.2.2.2.2.1.go hb), (T8.out.2.2.2.2.2.1.go hb), bel_go T8.out.2.2.2.2.2.2 hb⟩
      clear hb T8 llc lld llh yr
      by_cases h3 : PY * QA < PA * QY
      · have hk3 : decide (k3 < 0) = true := decide_eq_true (by rw [ek3]; unfold cmpI; rw [if_pos h3]; omega)
        have B : Hid _ := T9.out.2.2.2.2.2.2
        clear ek3 h3 T9
        go_wp2_with fail
        go_ret
        exact ⟨rfl, B.out⟩
      · have hk3 : decide (k3 < 0) = false := decide_eq_false (by
          rw [ek3]
          unfold cmpI
          rw [if_neg h3]
          split <;> omega)
        clear ek3
        obtain ⟨xx1, xx2, xx3, xx4, xx5, xx6, xxc, xxd, _, _, xxh⟩ := T9.out.1
        obtain ⟨ll1, ll2, ll3, ll4, ll5, ll6, llc, lld, _, _, llh⟩ := T9.out.2.2.2.2.2.1
        go_wp2_with fail
        obtain ⟨k4, ek4⟩ : ∃ k4, k4 = cmpI (PY * QB) (PB * QY) := ⟨_, rfl⟩
        refine (GY.out.cmp BE.out.2.2.2 (by omega) (by omega) (z := k4) ek4.symm _ _ _ xxh llh).mono ?_
        rintro e w47 ⟨rfl, hb⟩
        have TA : Hid (RAt w47 (b45) PY QY ∧ RAt w47 (b44) (PA / QA) 1 ∧ RAt w47 (b41) PN QN ∧ RAt w47 (b21) NX DX ∧ RAt w47 (bl) PA QA ∧ RAt w47 (bh) PB QB ∧ Below w.heap.size w w47) := ⟨(T9.out.1.go hb), (T9.out.2.1.go hb), (T9.out.2.2.1.go hb), (T9.out.2.2.2.1.go hb), (T9.out.2.2.2.2.1.go hb), (T9.out.2.2.2.2.2.1.go hb), bel_go T9.out.2.2.2.2.2.2 hb⟩
        clear hb T9 xxc xxd xxh llc lld llh hk3
        by_cases h4 : PB * QY < PY * QB
        · have hk4 : decide (0 < k4) = true := decide_eq_true (by rw [ek4]; unfold cmpI; rw [if_neg (by omega), if_neg (by omega)]; omega)
          have B : Hid _ := TA.out.2.2.2.2.2.2
          clear ek4 h3 h4 TA
          go_wp2_with fail
          go_ret
          exact ⟨rfl, B.out⟩
        · have hk4 : decide (0 < k4) = false := decide_eq_false (by
            rw [ek4]
            unfold cmpI
            split
            · omega
            · rw [if_pos (by omega)]
              omega)
          have LE : Hid (NX ≤ PY ∧ DX ≤ QY) := BE.out.2.1.least PY QY GY.out.pos (.inl ⟨by omega, by omega⟩)
          clear ek4 h3 h4
          obtain ⟨xx1, xx2, xx3, xx4, xx5, xx6, xxc, xxd, _, _, xxh⟩ := TA.out.2.2.2.1
          go_wp2_with fail
          refine (parts_any _ NX DX _ xxh (GG.out.2.2.1.rs2 (by omega)).fits).mono ?_
          rintro e v51w ⟨v51, v52, rfl, hv, hu, hb⟩
          obtain ⟨a51, n51, c51, rfl⟩ := hv.isAgg
          obtain ⟨a52, n52, c52, rfl⟩ := hu.isAgg
          have ba := bel_al (o := .cells #[.slice a51 n51 c51] 27) (bel_refl v51w)
          have hbb := bel_go hb (bel_al (o := .cells #[.slice a52 n52 c52] 27) ba)
          have TB : Hid (NAt ((v51w.alloc (.cells #[.slice a51 n51 c51] 27)).alloc (.cells #[.slice a52 n52 c52] 27)) ((v51w.alloc (.cells #[.slice a51 n51 c51] 27)).heap.size) DX ∧ RAt ((v51w.alloc (.cells #[.slice a51 n51 c51] 27)).alloc (.cells #[.slice a52 n52 c52] 27)) (b45) PY QY ∧ RAt ((v51w.alloc (.cells #[.slice a51 n51 c51] 27)).alloc (.cells #[.slice a52 n52 c52] 27)) (b44) (PA / QA) 1 ∧ RAt ((v51w.alloc (.cells #[.slice a51 n51 c51] 27)).alloc (.cells #[.slice a52 n52 c52] 27)) (b41) PN QN ∧ RAt ((v51w.alloc (.cells #[.slice a51 n51 c51] 27)).alloc (.cells #[.slice a52 n52 c52] 27)) (b21) NX DX ∧ RAt ((v51w.alloc (.cells #[.slice a51 n51 c51] 27)).alloc (.cells #[.slice a52 n52 c52] 27)) (bl) PA QA ∧ RAt ((v51w.alloc (.cells #[.slice a51 n51 c51] 27)).alloc (.cells #[.slice a52 n52 c52] 27)) (bh) PB QB ∧ Below w.heap.size w ((v51w.alloc (.cells #[.slice a51 n51 c51] 27)).alloc (.cells #[.slice a52 n52 c52] 27))) := ⟨nat_box _ (hu.mono ba), (TA.out.1.go hbb), (TA.out.2.1.go hbb), (TA.out.2.2.1.go hbb), (TA.out.2.2.2.1.go hbb), (TA.out.2.2.2.2.1.go hbb), (TA.out.2.2.2.2.2.1.go hbb), bel_go TA.out.2.2.2.2.2.2 hbb⟩
          simp only [World.size_alloc] at TB
          clear hv hu hb hbb ba TA xxc xxd xxh
          obtain ⟨xx1, xx2, xx3, xx4, xx5, xx6, xxc, xxd, _, _, xxh⟩ := TB.out.2.1
          go_wp2_with fail
          obtain ⟨w51, hw⟩ : ∃ w51, w51 = ((v51w.alloc (.cells #[.slice a51 n51 c51] 27)).alloc (.cells #[.slice a52 n52 c52] 27)) := ⟨_, rfl⟩
          obtain ⟨b51, hb⟩ : ∃ b51, b51 = v51w.heap.size := ⟨_, rfl⟩
          rw [← hw, ← hb] at TB
          rw [← hw] at xxc xxd xxh
          rw [← hw, ← hb]
          clear hw hb
          refine (parts_any _ PY QY _ xxh (GY.out.rs2 (by omega)).fits).mono ?_
          rintro e v53w ⟨v53, v54, rfl, hv, hu, hb⟩
          obtain ⟨a53, n53, c53, rfl⟩ := hv.isAgg
          obtain ⟨a54, n54, c54, rfl⟩ := hu.isAgg
          have ba := bel_al (o := .cells #[.slice a53 n53 c53] 27) (bel_refl v53w)
          have hbb := bel_go hb (bel_al (o := .cells #[.slice a54 n54 c54] 27) ba)
          have HU : Hid (IsNat ((v53w.alloc (.cells #[.slice a53 n53 c53] 27)).alloc (.cells #[.slice a54 n54 c54] 27)) (.agg #[.slice a54 n54 c54]) QY) := hu.mono (bel_al (o := .cells #[.slice a54 n54 c54] 27) ba)
          have TC : Hid (NAt ((v53w.alloc (.cells #[.slice a53 n53 c53] 27)).alloc (.cells #[.slice a54 n54 c54] 27)) (b51 + 1) DX ∧ RAt ((v53w.alloc (.cells #[.slice a53 n53 c53] 27)).alloc (.cells #[.slice a54 n54 c54] 27)) (b45) PY QY ∧ RAt ((v53w.alloc (.cells #[.slice a53 n53 c53] 27)).alloc (.cells #[.slice a54 n54 c54] 27)) (b44) (PA / QA) 1 ∧ RAt ((v53w.alloc (.cells #[.slice a53 n53 c53] 27)).alloc (.cells #[.slice a54 n54 c54] 27)) (b41) PN QN ∧ RAt ((v53w.alloc (.cells #[.slice a53 n53 c53] 27)).alloc (.cells #[.slice a54 n54 c54] 27)) (b21) NX DX ∧ RAt ((v53w.alloc (.cells #[.slice a53 n53 c53] 27)).alloc (.cells #[.slice a54 n54 c54] 27)) (bl) PA QA ∧ RAt ((v53w.alloc (.cells #[.slice a53 n53 c53] 27)).alloc (.cells #[.slice a54 n54 c54] 27)) (bh) PB QB ∧ Below w.heap.size w ((v53w.alloc (.cells #[.slice a53 n53 c53] 27)).alloc (.cells #[.slice a54 n54 c54] 27))) := ⟨(TB.out.1.go hbb), (TB.out.2.1.go hbb), (TB.out.2.2.1.go hbb), (TB.out.2.2.2.1.go hbb), (TB.out.2.2.2.2.1.go hbb), (TB.out.2.2.2.2.2.1.go hbb), (TB.out.2.2.2.2.2.2.1.go hbb), bel_go TB.out.2.2.2.2.2.2.2 hbb⟩
          clear hv hu hb hbb ba TB xxc xxd xxh
          obtain ⟨nn1, nn2, nn3, nnc, _, nnh⟩ := TC.out.1
          go_wp2_with fail
          obtain ⟨w53, hw⟩ : ∃ w53, w53 = ((v53w.alloc (.cells #[.slice a53 n53 c53] 27)).alloc (.cells #[.slice a54 n54 c54] 27)) := ⟨_, rfl⟩
          rw [← hw] at TC HU nnc nnh
          rw [← hw]
          clear hw
          refine (cmp_any _ _ DX QY _ nnh HU.out (GG.out.2.2.1.rs2 (by omega)).fits (GY.out.rs2 (by omega)).fits).mono ?_
          rintro e w55 ⟨rfl, hb⟩
          have TD : Hid (NAt w55 (b51 + 1) DX ∧ RAt w55 (b45) PY QY ∧ RAt w55 (b44) (PA / QA) 1 ∧ RAt w55 (b41) PN QN ∧ RAt w55 (b21) NX DX ∧ RAt w55 (bl) PA QA ∧ RAt w55 (bh) PB QB ∧ Below w.heap.size w w55) := ⟨(TC.out.1.go hb), (TC.out.2.1.go hb), (TC.out.2.2.1.go hb), (TC.out.2.2.2.1.go hb), (TC.out.2.2.2.2.1.go hb), (TC.out.2.2.2.2.2.1.go hb), (TC.out.2.2.2.2.2.2.1.go hb), bel_go TC.out.2.2.2.2.2.2.2 hb⟩
          clear hb TC HU nnc nnh
          by_cases h5 : DX < QY
          · have ec : cmpI DX QY = -1 := by unfold cmpI; rw [if_pos h5]
            rw [ec]
            have B : Hid _ := TD.out.2.2.2.2.2.2.2
            clear ec h5 TD
            go_wp2_with fail
            go_ret
            exact ⟨rfl, B.out⟩
          · have eq : DX = QY := by have := LE.out; omega
            have ec : cmpI DX QY = 0 := cmpI_same eq
            rw [ec]
            obtain ⟨k5, ek5⟩ : ∃ k5, k5 = cmpI (NX * QY) (PY * DX) := ⟨_, rfl⟩
            have hk5 : decide (k5 ≤ 0) = true := decide_eq_true (by
              have h6 : NX * QY ≤ PY * DX := by rw [eq]; exact Nat.mul_le_mul_right _ LE.out.1
              rw [ek5]
              unfold cmpI
              split
              · omega
              · rw [if_pos (by omega)]
                omega)
            have hk6 : k5 ≤ 0 := of_decide_eq_true hk5
            clear ec h5 eq
            obtain ⟨xx1, xx2, xx3, xx4, xx5, xx6, xxc, xxd, _, _, xxh⟩ := TD.out.2.2.2.2.1
            obtain ⟨ll1, ll2, ll3, ll4, ll5, ll6, llc, lld, _, _, llh⟩ := TD.out.2.1
            go_wp2_with fail
            refine (GG.out.2.2.1.cmp GY.out (by omega) (by omega) (z := k5) ek5.symm _ _ _ xxh llh).mono ?_
            rintro e w56 ⟨rfl, hb⟩
            have B : Hid _ := bel_go TD.out.2.2.2.2.2.2.2 hb
            clear hb ek5 TD xxc xxd xxh llc lld llh
            go_wp2_with fail
            go_ret
            exact ⟨rfl, B.out⟩
    · have hkk : decide (0 < kk) = true := decide_eq_true (by
        rw [ekk]
        unfold cmpI
        rw [if_neg (by omega), if_neg (by omega)]
        omega)
      have BE : Hid (PB * QA ≤ PA * QB ∧ Best PB QB PA QA NX DX ∧ Fc PB QB PB QB 15 ∧ Fc PA QA PA QA 15) := ⟨by omega, GG.out.2.2.2.swap, GG.out.2.1, GG.out.1⟩
      clear ekk hle
      have y11 := SR'.out.cel b11 0 (.slice a11 n11 c11)
      have z11 := SR'.out.cel b11 1 (.slice d11 m11 g11)
      have y13 := SR'.out.cel b13 0 (.slice a13 n13 c13)
      have z13 := SR'.out.cel b13 1 (.slice d13 m13 g13)
      have ne := NE.out
      obtain ⟨t1, t2, t3, t4, t5, t6, cl0, cl1, fl0, fl1, _⟩ := TR.out.2.1
      obtain ⟨r1, r2, r3, r4, r5, r6, ch0, ch1, fh0, fh1, _⟩ := TR.out.2.2.1
      have ra := SR'.out.fr (.agg #[.slice a11 n11 c11, .slice d11 m11 g11]) PA QA
      have rb := SR'.out.fr (.agg #[.slice a13 n13 c13, .slice d13 m13 g13]) PB QB
      obtain ⟨n1, n2⟩ := two_set cl0 cl1 (.slice a13 n13 c13)
      have lo := TR.out.2.1.put rb
      obtain ⟨_, _, _, _, _, _, dl0, dl1, _⟩ := id lo
      have cd1 : (w23.setCell ⟨bl, 0, none⟩ (.slice a13 n13 c13)).cell? ⟨bl, 1, none⟩ = some (.slice t4 t5 t6) := by rw [World.cell?_setCell_other (h := by simp), cl1]
      have hi1 := (TR.out.2.2.1.far (Ne.symm ne.1) cl0 (.slice a13 n13 c13)).far (Ne.symm ne.1) cd1 (.slice d13 m13 g13)
      have xx1 := (TR.out.1.far ne.2.2.2.2.2.1 cl0 (.slice a13 n13 c13)).far ne.2.2.2.2.2.1 cd1 (.slice d13 m13 g13)
      have ra1 := (ra.setCell n1 (.slice a13 n13 c13)).setCell n2 (.slice d13 m13 g13)
      obtain ⟨h1, h2, h3, h4, h5, h6, gh0, gh1, gf0, gf1, _⟩ := id hi1
      have ge1 : (((w23.setCell ⟨bl, 0, none⟩ (.slice a13 n13 c13)).setCell ⟨bl, 1, none⟩ (.slice d13 m13 g13)).setCell ⟨bh, 0, none⟩ (.slice a11 n11 c11)).cell? ⟨bh, 1, none⟩ = some (.slice h4 h5 h6) := by rw [World.cell?_setCell_other (h := by simp), gh1]
      have hi2 := hi1.put ra1
      have lo2 := (lo.far ne.1 gh0 (.slice a11 n11 c11)).far ne.1 ge1 (.slice d11 m11 g11)
      have xx2 := (xx1.far ne.2.2.2.2.2.2.1 gh0 (.slice a11 n11 c11)).far ne.2.2.2.2.2.2.1 ge1 (.slice d11 m11 g11)
      have kb0 := far_at (j := 1) (u := .slice d13 m13 g13) (far_at (j := 0) (u := .slice a13 n13 c13) y11 (Ne.symm ne.2.1)) (Ne.symm ne.2.1)
      have kb1 := far_at (j := 1) (u := .slice d13 m13 g13) (far_at (j := 0) (u := .slice a13 n13 c13) z11 (Ne.symm ne.2.1)) (Ne.symm ne.2.1)
      have TS : Hid (RAt ((((w23.setCell ⟨bl, 0, none⟩ (.slice a13 n13 c13)).setCell ⟨bl, 1, none⟩ (.slice d13 m13 g13)).setCell ⟨bh, 0, none⟩ (.slice a11 n11 c11)).setCell ⟨bh, 1, none⟩ (.slice d11 m11 g11)) (b21) NX DX ∧ RAt ((((w23.setCell ⟨bl, 0, none⟩ (.slice a13 n13 c13)).setCell ⟨bl, 1, none⟩ (.slice d13 m13 g13)).setCell ⟨bh, 0, none⟩ (.slice a11 n11 c11)).setCell ⟨bh, 1, none⟩ (.slice d11 m11 g11)) (bl) PB QB ∧ RAt ((((w23.setCell ⟨bl, 0, none⟩ (.slice a13 n13 c13)).setCell ⟨bl, 1, none⟩ (.slice d13 m13 g13)).setCell ⟨bh, 0, none⟩ (.slice a11 n11 c11)).setCell ⟨bh, 1, none⟩ (.slice d11 m11 g11)) (bh) PA QA ∧ Below w.heap.size w ((((w23.setCell ⟨bl, 0, none⟩ (.slice a13 n13 c13)).setCell ⟨bl, 1, none⟩ (.slice d13 m13 g13)).setCell ⟨bh, 0, none⟩ (.slice a11 n11 c11)).setCell ⟨bh, 1, none⟩ (.slice d11 m11 g11))) := ⟨xx2, lo2, hi2, (((TR.out.2.2.2.setCell (p := ⟨bl, 0, none⟩) ne.2.2.2.2.2.2.2.1 _).setCell (p := ⟨bl, 1, none⟩) ne.2.2.2.2.2.2.2.1 _).setCell (p := ⟨bh, 0, none⟩) ne.2.2.2.2.2.2.2.2 _).setCell (p := ⟨bh, 1, none⟩) ne.2.2.2.2.2.2.2.2 _⟩
      clear lo2 hi2 xx2 xx1 lo hi1 ra1 ra rb n1 n2 dl0 dl1 cd1 ge1 SR' TR ne
      go_wp2_with fail
      clear hkk y11 z11 y13 z13 cl0 cl1 fl0 fl1 ch0 ch1 fh0 fh1 gh0 gh1 gf0 gf1 kb0 kb1
      obtain ⟨w25, hw⟩ : ∃ w25, w25 = ((((w23.setCell ⟨bl, 0, none⟩ (.slice a13 n13 c13)).setCell ⟨bl, 1, none⟩ (.slice d13 m13 g13)).setCell ⟨bh, 0, none⟩ (.slice a11 n11 c11)).setCell ⟨bh, 1, none⟩ (.slice d11 m11 g11)) := ⟨_, rfl⟩
      rw [← hw] at TS
      rw [← hw]
      clear hw
      refine (rtold_true _ (FF.out.go TS.out.2.2.2)).mono ?_
      rintro e w31 ⟨rfl, hb⟩
      have T1 : Hid (RAt w31 (b21) NX DX ∧ RAt w31 (bl) PB QB ∧ RAt w31 (bh) PA QA ∧ Below w.heap.size w w31) := ⟨(TS.out.1.go hb), (TS.out.2.1.go hb), (TS.out.2.2.1.go hb), bel_go TS.out.2.2.2 hb⟩
      clear hb TS
      obtain ⟨xx1, xx2, xx3, xx4, xx5, xx6, xxc, xxd, _, _, xxh⟩ := T1.out.1
      obtain ⟨ll1, ll2, ll3, ll4, ll5, ll6, llc, lld, _, _, llh⟩ := T1.out.2.1
      go_wp2_with fail
      obtain ⟨k1, ek1⟩ : ∃ k1, k1 = cmpI (NX * QB) (PB * DX) := ⟨_, rfl⟩
      have le := btw_le BE.out.2.1.mem BE.out.1 BE.out.2.2.1.pos BE.out.2.2.2.pos
      have hk1 : decide (k1 < 0) = false := decide_eq_false (by
        rw [ek1]
        unfold cmpI
        rw [if_neg (by omega)]
        split <;> omega)
      refine (GG.out.2.2.1.cmp BE.out.2.2.1 (by omega) (by omega) (z := k1) ek1.symm _ _ _ xxh llh).mono ?_
      rintro e w32 ⟨rfl, hb⟩
      have T2 : Hid (RAt w32 (b21) NX DX ∧ RAt w32 (bl) PB QB ∧ RAt w32 (bh) PA QA ∧ Below w.heap.size w w32) := ⟨(T1.out.1.go hb), (T1.out.2.1.go hb), (T1.out.2.2.1.go hb), bel_go T1.out.2.2.2 hb⟩
      clear hb T1 xxc xxd xxh llc lld llh ek1
      obtain ⟨xx1, xx2, xx3, xx4, xx5, xx6, xxc, xxd, _, _, xxh⟩ := T2.out.1
      obtain ⟨ll1, ll2, ll3, ll4, ll5, ll6, llc, lld, _, _, llh⟩ := T2.out.2.2.1
      go_wp2_with fail
      obtain ⟨k2', ek2⟩ : ∃ k2', k2' = cmpI (NX * QA) (PA * DX) := ⟨_, rfl⟩
      have hk2 : decide (0 < k2') = false := decide_eq_false (by
        rw [ek2]
        unfold cmpI
        split
        · omega
        · rw [if_pos (by omega)]
          omega)
      refine (GG.out.2.2.1.cmp BE.out.2.2.2 (by omega) (by omega) (z := k2') ek2.symm _ _ _ xxh llh).mono ?_
      rintro e w33 ⟨rfl, hb⟩
      have T3 : Hid (RAt w33 (b21) NX DX ∧ RAt w33 (bl) PB QB ∧ RAt w33 (bh) PA QA ∧ Below w.heap.size w w33) := ⟨(T2.out.1.go hb), (T2.out.2.1.go hb), (T2.out.2.2.1.go hb), bel_go T2.out.2.2.2 hb⟩
      clear hb T2 xxc xxd xxh llc lld llh ek2 le
      go_wp2_with fail
      refine (ratOf_yes n' (d' + 1) _ (by have := HN.out; omega) (by have := HN.out; omega) (by omega) (FF.out.go T3.out.2.2.2)).mono ?_
      rintro e v41w ⟨v41, rfl, hv, hb⟩
      obtain ⟨a41, n41, c41, d41, m41, g41, ev, _, _⟩ := hv.raw
      subst ev
      have fN : Fc (n' / Nat.gcd n' (d' + 1)) ((d' + 1) / Nat.gcd n' (d' + 1)) (n' / Nat.gcd n' (d' + 1)) ((d' + 1) / Nat.gcd n' (d' + 1)) 1 := Fc.own hv.low hv.pos (by rw [P_one]; have := HN.out; have := Nat.div_le_self n' (Nat.gcd n' (d' + 1)); omega) (by rw [P_one]; have := HN.out; have := Nat.div_le_self (d' + 1) (Nat.gcd n' (d' + 1)); omega)
      generalize n' / Nat.gcd n' (d' + 1) = PN at hv fN
      generalize (d' + 1) / Nat.gcd n' (d' + 1) = QN at hv fN
      have hbb := bel_go hb (bel_al (o := .cells #[.slice a41 n41 c41, .slice d41 m41 g41] 29) (bel_refl v41w))
      have T4 : Hid (RAt (v41w.alloc (.cells #[.slice a41 n41 c41, .slice d41 m41 g41] 29)) (v41w.heap.size) PN QN ∧ RAt (v41w.alloc (.cells #[.slice a41 n41 c41, .slice d41 m41 g41] 29)) (b21) NX DX ∧ RAt (v41w.alloc (.cells #[.slice a41 n41 c41, .slice d41 m41 g41] 29)) (bl) PB QB ∧ RAt (v41w.alloc (.cells #[.slice a41 n41 c41, .slice d41 m41 g41] 29)) (bh) PA QA ∧ Below w.heap.size w (v41w.alloc (.cells #[.slice a41 n41 c41, .slice d41 m41 g41] 29))) := ⟨rat_box _ hv, (T3.out.1.go hbb), (T3.out.2.1.go hbb), (T3.out.2.2.1.go hbb), bel_go T3.out.2.2.2 hbb⟩
      clear hv hb hbb T3
      obtain ⟨ll1, ll2, ll3, ll4, ll5, ll6, llc, lld, _, _, llh⟩ := T4.out.2.2.1
      go_wp2_with fail
      obtain ⟨w41, hw⟩ : ∃ w41, w41 = (v41w.alloc (.cells #[.slice a41 n41 c41, .slice d41 m41 g41] 29)) := ⟨_, rfl⟩
      obtain ⟨b41, hb⟩ : ∃ b41, b41 = v41w.heap.size := ⟨_, rfl⟩
      rw [← hw, ← hb] at T4
      rw [← hw] at llc lld llh
      rw [← hw, ← hb]
      clear hw hb
      refine (floor_any _ PB QB _ llh (BE.out.2.2.1.rs1 (by omega)) (BE.out.2.2.1.rs2 (by omega))).mono ?_
      rintro e w42 ⟨v42, rfl, hv, hb⟩
      have T5 : Hid (RAt w42 (b41) PN QN ∧ RAt w42 (b21) NX DX ∧ RAt w42 (bl) PB QB ∧ RAt w42 (bh) PA QA ∧ Below w.heap.size w w42) := ⟨(T4.out.1.go hb), (T4.out.2.1.go hb), (T4.out.2.2.1.go hb), (T4.out.2.2.2.1.go hb), bel_go T4.out.2.2.2.2 hb⟩
      have V5 : Hid (IsNat w42 v42 (PB / QB)) := hv
      clear hv hb T4 llc lld llh
      go_wp2_with fail
      refine (of_any 1 _ (by omega)).mono ?_
      rintro e w43 ⟨v43, rfl, hv, hb⟩
      have T6 : Hid (RAt w43 (b41) PN QN ∧ RAt w43 (b21) NX DX ∧ RAt w43 (bl) PB QB ∧ RAt w43 (bh) PA QA ∧ Below w.heap.size w w43) := ⟨(T5.out.1.go hb), (T5.out.2.1.go hb), (T5.out.2.2.1.go hb), (T5.out.2.2.2.1.go hb), bel_go T5.out.2.2.2.2 hb⟩
      have V6 : Hid (IsNat w43 v42 (PB / QB) ∧ IsNat w43 v43 1) := ⟨V5.out.mono hb, hv⟩
      clear hv hb T5 V5
      go_wp2_with fail
      have FR := from_any _ _ (PB / QB) 1 _ V6.out.1 V6.out.2 ((BE.out.2.2.1.rs1 (by omega)).le (Nat.div_le_self _ _)) (rs_few (by omega)) (by omega) (FF.out.go T6.out.2.2.2.2)
      rw [Nat.gcd_one_right, Nat.div_one, Nat.div_one] at FR
      refine FR.mono ?_
      clear FR V6
      rintro e v44w ⟨v44, rfl, hv, hb⟩
      obtain ⟨a44, n44, c44, d44, m44, g44, ev, _, _⟩ := hv.raw
      subst ev
      have hbb := bel_go hb (bel_al (o := .cells #[.slice a44 n44 c44, .slice d44 m44 g44] 29) (bel_refl v44w))
      have T7 : Hid (RAt (v44w.alloc (.cells #[.slice a44 n44 c44, .slice d44 m44 g44] 29)) (v44w.heap.size) (PB / QB) 1 ∧ RAt (v44w.alloc (.cells #[.slice a44 n44 c44, .slice d44 m44 g44] 29)) (b41) PN QN ∧ RAt (v44w.alloc (.cells #[.slice a44 n44 c44, .slice d44 m44 g44] 29)) (b21) NX DX ∧ RAt (v44w.alloc (.cells #[.slice a44 n44 c44, .slice d44 m44 g44] 29)) (bl) PB QB ∧ RAt (v44w.alloc (.cells #[.slice a44 n44 c44, .slice d44 m44 g44] 29)) (bh) PA QA ∧ Below w.heap.size w (v44w.alloc (.cells #[.slice a44 n44 c44, .slice d44 m44 g44] 29))) := ⟨rat_box _ hv, (T6.out.1.go hbb), (T6.out.2.1.go hbb), (T6.out.2.2.1.go hbb), (T6.out.2.2.2.1.go hbb), bel_go T6.out.2.2.2.2 hbb⟩
      clear hv hb hbb T6
      obtain ⟨xx1, xx2, xx3, xx4, xx5, xx6, xxc, xxd, _, _, xxh⟩ := T7.out.2.1
      go_wp2_with fail
      obtain ⟨w44, hw⟩ : ∃ w44, w44 = (v44w.alloc (.cells #[.slice a44 n44 c44, .slice d44 m44 g44] 29)) := ⟨_, rfl⟩
      obtain ⟨b44, hb⟩ : ∃ b44, b44 = v44w.heap.size := ⟨_, rfl⟩
      rw [← hw, ← hb] at T7
      rw [← hw] at xxc xxd xxh
      rw [← hw, ← hb]
      have fW : Fc (PB / QB) 1 (PB / QB) 1 15 := Fc.own (Nat.gcd_one_right _) (by omega) (Nat.lt_of_le_of_lt (Nat.div_le_self _ _) BE.out.2.2.1.s1) (Nat.lt_of_lt_of_le (by rw [P_one]; omega) (P_le (show 1 ≤ 15 by omega)))
      obtain ⟨PY, QY, fY, _, cY⟩ := fW.add fN (by omega) (by omega)
      have wh : Rt w44 (.agg #[.slice a44 n44 c44, .slice d44 m44 g44]) (PB / QB) 1 := by
        obtain ⟨h1, h2, h3, h4, h5, h6, h7, h8, _, _, h9⟩ := T7.out.1
        rw [hw, hb] at h7 h8
        simp at h7 h8
        obtain ⟨rfl, rfl, rfl⟩ := h7
        obtain ⟨rfl, rfl, rfl⟩ := h8
        exact h9
      clear hw hb
      refine (cY _ _ _ wh xxh (FF.out.go T7.out.2.2.2.2.2)).mono ?_
      rintro e v45w ⟨v45, rfl, hv, hb⟩
      obtain ⟨a45, n45, c45, d45, m45, g45, ev, _, _⟩ := hv.raw
      subst ev
      have GY : Hid (Fc PY QY PY QY (15 + 1 + 1)) := ⟨fY.low, fY.pos, fY.pos, rfl, fY.s1, fY.s2⟩
      have hbb := bel_go hb (bel_al (o := .cells #[.slice a45 n45 c45, .slice d45 m45 g45] 29) (bel_refl v45w))
      have T8 : Hid (RAt (v45w.alloc (.cells #[.slice a45 n45 c45, .slice d45 m45 g45] 29)) (v45w.heap.size) PY QY ∧ RAt (v45w.alloc (.cells #[.slice a45 n45 c45, .slice d45 m45 g45] 29)) (b44) (PB / QB) 1 ∧ RAt (v45w.alloc (.cells #[.slice a45 n45 c45, .slice d45 m45 g45] 29)) (b41) PN QN ∧ RAt (v45w.alloc (.cells #[.slice a45 n45 c45, .slice d45 m45 g45] 29)) (b21) NX DX ∧ RAt (v45w.alloc (.cells #[.slice a45 n45 c45, .slice d45 m45 g45] 29)) (bl) PB QB ∧ RAt (v45w.alloc (.cells #[.slice a45 n45 c45, .slice d45 m45 g45] 29)) (bh) PA QA ∧ Below w.heap.size w (v45w.alloc (.cells #[.slice a45 n45 c45, .slice d45 m45 g45] 29))) := ⟨rat_box _ hv, (T7.out.1.go hbb), (T7.out.2.1.go hbb), (T7.out.2.2.1.go hbb), (T7.out.2.2.2.1.go hbb), (T7.out.2.2.2.2.1.go hbb), bel_go T7.out.2.2.2.2.2 hbb⟩
      clear hv hb hbb T7 fY fW fN cY wh xxc xxd xxh
      obtain ⟨ll1, ll2, ll3, ll4, ll5, ll6, llc, lld, _, _, llh⟩ := T8.out.2.2.2.2.1
      have yh := T8.out.1
      go_wp2_with fail
      obtain ⟨w45, hw⟩ : ∃ w45, w45 = (v45w.alloc (.cells #[.slice a45 n45 c45, .slice d45 m45 g45] 29)) := ⟨_, rfl⟩
      obtain ⟨b45, hb⟩ : ∃ b45, b45 = v45w.heap.size := ⟨_, rfl⟩
      have yr : Rt w45 (.agg #[.slice a45 n45 c45, .slice d45 m45 g45]) PY QY := by
        obtain ⟨h1, h2, h3, h4, h5, h6, h7, h8, _, _, h9⟩ := yh
        rw [hw]
        simp at h7 h8
        obtain ⟨rfl, rfl, rfl⟩ := h7
        obtain ⟨rfl, rfl, rfl⟩ := h8
        exact h9
      rw [← hw, ← hb] at T8
      rw [← hw] at llc lld llh
      rw [← hw, ← hb]
      clear hw hb yh
      obtain ⟨k3, ek3⟩ : ∃ k3, k3 = cmpI (PY * QB) (PB * QY) := ⟨_, rfl⟩
      refine (GY.out.cmp BE.out.2.2.1 (by omega) (by omega) (z := k3) ek3.symm _ _ _ yr llh).mono ?_
      rintro e w46 ⟨rfl, hb⟩
      have T9 : Hid (RAt w46 (b45) PY QY ∧ RAt w46 (b44) (PB / QB) 1 ∧ RAt w46 (b41) PN QN ∧ RAt w46 (b21) NX DX ∧ RAt w46 (bl) PB QB ∧ RAt w46 (bh) PA QA ∧ Below w.heap.size w w46) := ⟨(T8.out.1.go hb), (T8.out.2.1.go hb), (T8.out.2.2.1.go hb), (T8.out.2.2.2.1.go hb), (T8.out.2.2.2.2.1.go hb), (T8.out.2.2.2.2.2.1.go hb), bel_go T8.out.2.2.2.2.2.2 hb⟩
      clear hb T8 llc lld llh yr
      by_cases h3 : PY * QB < PB * QY
      · have hk3 : decide (k3 < 0) = true := decide_eq_true (by rw [ek3]; unfold cmpI; rw [if_pos h3]; omega)
        have B : Hid _ := T9.out.2.2.2.2.2.2
        clear ek3 h3 T9
        go_wp2_with fail
        go_ret
        exact ⟨rfl, B.out⟩
      · have hk3 : decide (k3 < 0) = false := decide_eq_false (by
          rw [ek3]
          unfold cmpI
          rw [if_neg h3]
          split <;> omega)
        clear ek3
        obtain ⟨xx1, xx2, xx3, xx4, xx5, xx6, xxc, xxd, _, _, xxh⟩ := T9.out.1
        obtain ⟨ll1, ll2, ll3, ll4, ll5, ll6, llc, lld, _, _, llh⟩ := T9.out.2.2.2.2.2.1
        go_wp2_with fail
        obtain ⟨k4, ek4⟩ : ∃ k4, k4 = cmpI (PY * QA) (PA * QY) := ⟨_, rfl⟩
        refine (GY.out.cmp BE.out.2.2.2 (by omega) (by omega) (z := k4) ek4.symm _ _ _ xxh llh).mono ?_
        rintro e w47 ⟨rfl, hb⟩
        have TA : Hid (RAt w47 (b45) PY QY ∧ RAt w47 (b44) (PB / QB) 1 ∧ RAt w47 (b41) PN QN ∧ RAt w47 (b21) NX DX ∧ RAt w47 (bl) PB QB ∧ RAt w47 (bh) PA QA ∧ Below w.heap.size w w47) := ⟨(T9.out.1.go hb), (T9.out.2.1.go hb), (T9.out.2.2.1.go hb), (T9.out.2.2.2.1.go hb), (T9.out.2.2.2.2.1.go hb), (T9.out.2.2.2.2.2.1.go hb), bel_go T9.out.2.2.2.2.2.2 hb⟩
        clear hb T9 xxc xxd xxh llc lld llh hk3
        by_cases h4 : PA * QY < PY * QA
        · have hk4 : decide (0 < k4) = true := decide_eq_true (by rw [ek4]; unfold cmpI; rw [if_neg (by omega), if_neg (by omega)]; omega)
          have B : Hid _ := TA.out.2.2.2.2.2.2
          clear ek4 h3 h4 TA
          go_wp2_with fail
          go_ret
          exact ⟨rfl, B.out⟩
        · have hk4 : decide (0 < k4) = false := decide_eq_false (by
            rw [ek4]
            unfold cmpI
            split
            · omega
            · rw [if_pos (by omega)]
              omega)
          have LE : Hid (NX ≤ PY ∧ DX ≤ QY) := BE.out.2.1.least PY QY GY.out.pos (.inl ⟨by omega, by omega⟩)
          clear ek4 h3 h4
          obtain ⟨xx1, xx2, xx3, xx4, xx5, xx6, xxc, xxd, _, _, xxh⟩ := TA.out.2.2.2.1
          go_wp2_with fail
          refine (parts_any _ NX DX _ xxh (GG.out.2.2.1.rs2 (by omega)).fits).mono ?_
          rintro e v51w ⟨v51, v52, rfl, hv, hu, hb⟩
          obtain ⟨a51, n51, c51, rfl⟩ := hv.isAgg
          obtain ⟨a52, n52, c52, rfl⟩ := hu.isAgg
          have ba := bel_al (o := .cells #[.slice a51 n51 c51] 27) (bel_refl v51w)
          have hbb := bel_go hb (bel_al (o := .cells #[.slice a52 n52 c52] 27) ba)
          have TB : Hid (NAt ((v51w.alloc (.cells #[.slice a51 n51 c51] 27)).alloc (.cells #[.slice a52 n52 c52] 27)) ((v51w.alloc (.cells #[.slice a51 n51 c51] 27)).heap.size) DX ∧ RAt ((v51w.alloc (.cells #[.slice a51 n51 c51] 27)).alloc (.cells #[.slice a52 n52 c52] 27)) (b45) PY QY ∧ RAt ((v51w.alloc (.cells #[.slice a51 n51 c51] 27)).alloc (.cells #[.slice a52 n52 c52] 27)) (b44) (PB / QB) 1 ∧ RAt ((v51w.alloc (.cells #[.slice a51 n51 c51] 27)).alloc (.cells #[.slice a52 n52 c52] 27)) (b41) PN QN ∧ RAt ((v51w.alloc (.cells #[.slice a51 n51 c51] 27)).alloc (.cells #[.slice a52 n52 c52] 27)) (b21) NX DX ∧ RAt ((v51w.alloc (.cells #[.slice a51 n51 c51] 27)).alloc (.cells #[.slice a52 n52 c52] 27)) (bl) PB QB ∧ RAt ((v51w.alloc (.cells #[.slice a51 n51 c51] 27)).alloc (.cells #[.slice a52 n52 c52] 27)) (bh) PA QA ∧ Below w.heap.size w ((v51w.alloc (.cells #[.slice a51 n51 c51] 27)).alloc (.cells #[.slice a52 n52 c52] 27))) := ⟨nat_box _ (hu.mono ba), (TA.out.1.go hbb), (TA.out.2.1.go hbb), (TA.out.2.2.1.go hbb), (TA.out.2.2.2.1.go hbb), (TA.out.2.2.2.2.1.go hbb), (TA.out.2.2.2.2.2.1.go hbb), bel_go TA.out.2.2.2.2.2.2 hbb⟩
          simp only [World.size_alloc] at TB
          clear hv hu hb hbb ba TA xxc xxd xxh
          obtain ⟨xx1, xx2, xx3, xx4, xx5, xx6, xxc, xxd, _, _, xxh⟩ := TB.out.2.1
          go_wp2_with fail
          obtain ⟨w51, hw⟩ : ∃ w51, w51 = ((v51w.alloc (.cells #[.slice a51 n51 c51] 27)).alloc (.cells #[.slice a52 n52 c52] 27)) := ⟨_, rfl⟩
          obtain ⟨b51, hb⟩ : ∃ b51, b51 = v51w.heap.size := ⟨_, rfl⟩
          rw [← hw, ← hb] at TB
          rw [← hw] at xxc xxd xxh
          rw [← hw, ← hb]
          clear hw hb
          refine (parts_any _ PY QY _ xxh (GY.out.rs2 (by omega)).fits).mono ?_
          rintro e v53w ⟨v53, v54, rfl, hv, hu, hb⟩
          obtain ⟨a53, n53, c53, rfl⟩ := hv.isAgg
          obtain ⟨a54, n54, c54, rfl⟩ := hu.isAgg
          have ba := bel_al (o := .cells #[.slice a53 n53 c53] 27) (bel_refl v53w)
          have hbb := bel_go hb (bel_al (o := .cells #[.slice a54 n54 c54] 27) ba)
          have HU : Hid (IsNat ((v53w.alloc (.cells #[.slice a53 n53 c53] 27)).alloc (.cells #[.slice a54 n54 c54] 27)) (.agg #[.slice a54 n54 c54]) QY) := hu.mono (bel_al (o := .cells #[.slice a54 n54 c54] 27) ba)
          have TC : Hid (NAt ((v53w.alloc (.cells #[.slice a53 n53 c53] 27)).alloc (.cells #[.slice a54 n54 c54] 27)) (b51 + 1) DX ∧ RAt ((v53w.alloc (.cells #[.slice a53 n53 c53] 27)).alloc (.cells #[.slice a54 n54 c54] 27)) (b45) PY QY ∧ RAt ((v53w.alloc (.cells #[.slice a53 n53 c53] 27)).alloc (.cells #[.slice a54 n54 c54] 27)) (b44) (PB / QB) 1 ∧ RAt ((v53w.alloc (.cells #[.slice a53 n53 c53] 27)).alloc (.cells #[.slice a54 n54 c54] 27)) (b41) PN QN ∧ RAt ((v53w.alloc (.cells #[.slice a53 n53 c53] 27)).alloc (.cells #[.slice a54 n54 c54] 27)) (b21) NX DX ∧ RAt ((v53w.alloc (.cells #[.slice a53 n53 c53] 27)).alloc (.cells #[.slice a54 n54 c54] 27)) (bl) PB QB ∧ RAt ((v53w.alloc (.cells #[.slice a53 n53 c53] 27)).alloc (.cells #[.slice a54 n54 c54] 27)) (bh) PA QA ∧ Below w.heap.size w ((v53w.alloc (.cells #[.slice a53 n53 c53] 27)).alloc (.cells #[.slice a54 n54 c54] 27))) := ⟨(TB.out.1.go hbb), (TB.out.2.1.go hbb), (TB.out.2.2.1.go hbb), (TB.out.2.2.2.1.go hbb), (TB.out.2.2.2.2.1.go hbb), (TB.out.2.2.2.2.2.1.go hbb), (TB.out.2.2.2.2.2.2.1.go hbb), bel_go TB.out.2.2.2.2.2.2.2 hbb⟩
          clear hv hu hb hbb ba TB xxc xxd xxh
          obtain ⟨nn1, nn2, nn3, nnc, _, nnh⟩ := TC.out.1
          go_wp2_with fail
          obtain ⟨w53, hw⟩ : ∃ w53, w53 = ((v53w.alloc (.cells #[.slice a53 n53 c53] 27)).alloc (.cells #[.slice a54 n54 c54] 27)) := ⟨_, rfl⟩
          rw [← hw] at TC HU nnc nnh
          rw [← hw]
          clear hw
          refine (cmp_any _ _ DX QY _ nnh HU.out (GG.out.2.2.1.rs2 (by omega)).fits (GY.out.rs2 (by omega)).fits).mono ?_
          rintro e w55 ⟨rfl, hb⟩
          have TD : Hid (NAt w55 (b51 + 1) DX ∧ RAt w55 (b45) PY QY ∧ RAt w55 (b44) (PB / QB) 1 ∧ RAt w55 (b41) PN QN ∧ RAt w55 (b21) NX DX ∧ RAt w55 (bl) PB QB ∧ RAt w55 (bh) PA QA ∧ Below w.heap.size w w55) := ⟨(TC.out.1.go hb), (TC.out.2.1.go hb), (TC.out.2.2.1.go hb), (TC.out.2.2.2.1.go hb), (TC.out.2.2.2.2.1.go hb), (TC.out.2.2.2.2.2.1.go hb), (TC.out.2.2.2.2.2.2.1.go hb), bel_go TC.out.2.2.2.2.2.2.2 hb⟩
          clear hb TC HU nnc nnh
          by_cases h5 : DX < QY
          · have ec : cmpI DX QY = -1 := by unfold cmpI; rw [if_pos h5]
            rw [ec]
            have B : Hid _ := TD.out.2.2.2.2.2.2.2
            clear ec h5 TD
            go_wp2_with fail
            go_ret
            exact ⟨rfl, B.out⟩
          · have eq : DX = QY := by have := LE.out; omega
            have ec : cmpI DX QY = 0 := cmpI_same eq
            rw [ec]
            obtain ⟨k5, ek5⟩ : ∃ k5, k5 = cmpI (NX * QY) (PY * DX) := ⟨_, rfl⟩
            have hk5 : decide (k5 ≤ 0) = true := decide_eq_true (by
              have h6 : NX * QY ≤ PY * DX := by rw [eq]; exact Nat.mul_le_mul_right _ LE.out.1
              rw [ek5]
              unfold cmpI
              split
              · omega
              · rw [if_pos (by omega)]
                omega)
            have hk6 : k5 ≤ 0 := of_decide_eq_true hk5
            clear ec h5 eq
            obtain ⟨xx1, xx2, xx3, xx4, xx5, xx6, xxc, xxd, _, _, xxh⟩ := TD.out.2.2.2.2.1
            obtain ⟨ll1, ll2, ll3, ll4, ll5, ll6, llc, lld, _, _, llh⟩ := TD.out.2.1
            go_wp2_with fail
            refine (GG.out.2.2.1.cmp GY.out (by omega) (by omega) (z := k5) ek5.symm _ _ _ xxh llh).mono ?_
            rintro e w56 ⟨rfl, hb⟩
            have B : Hid _ := bel_go TD.out.2.2.2.2.2.2.2 hb
            clear hb ek5 TD xxc xxd xxh llc lld llh
            go_wp2_with fail
            go_ret
            exact ⟨rfl, B.out⟩
end Go.Proofs.YtkhdapmipcghoaaDoor
