/- Contracts of the program's functions, part 13: own work, joined in build order. -/
import Derived.Test.YtkhdapmipcghoaaDoorJ12
import Derived.WalkKit
import Derived.ProofKit
import Derived.OpenShut
import Derived.ShutString
import Derived.ChangeOld
import Derived.Below
import Derived.LaidMore
import Derived.Lib.LaidTab
namespace Go.Proofs.YtkhdapmipcghoaaDoor
open Go.RowKit
set_option maxRecDepth 100000
set_option linter.unusedVariables false
set_option maxHeartbeats 16000000 in
theorem ratKept_true (a0 : Option Addr) (l0 k0 : Nat) (D0 : Nat → Nat) (a9 : Option Addr) (l9 k9 : Nat) (D9 : Nat → Nat) (a1 : Option Addr) (l1 k1 : Nat) (D1 : Nat → Nat) (a2 : Option Addr) (l2 k2 : Nat) (D2 : Nat → Nat) (w : World) (hB0 : BSl w a0 l0 k0 D0) (hB9 : BSl w a9 l9 k9 D9) (hB1 : BSl w a1 l1 k1 D1) (hB2 : BSl w a2 l2 k2 D2) (hnil : a0 = none → k0 = 0) (hT : Tab w) :
    Calls Tryd.prog 7 #[.agg #[.slice a0 l0 k0, .slice a9 l9 k9], .agg #[.slice a1 l1 k1, .slice a2 l2 k2]] w fun e w' => e = .returned (.bool true) ∧ Below w.heap.size w w' := by
  have f0 := fed_at hB0
  have HB0 : Hid (BSl w a0 (Min.min l0 120) k0 D0 ∧ Min.min l0 120 ≤ 120 ∧ (a0 = none → k0 = 0)) := ⟨hB0.min 120, Nat.min_le_right _ _, hnil⟩
  have HV : Hid (BV (ahead D0) (1 + Min.min l0 120) = BV D0 (Min.min l0 120)) := ahead_BV _ _
  generalize BV D0 (Min.min l0 120) = x at f0 HV
  generalize Min.min l0 120 = m0 at f0 HV HB0
  obtain ⟨m9, y, f9⟩ := fed_of hB9
  obtain ⟨m1, x1, f1⟩ := fed_of hB1
  obtain ⟨m2, y1, f2⟩ := fed_of hB2
  obtain ⟨tA, jA, uA⟩ := low_terms x (orOne y) (orOne_pos y)
  obtain ⟨tB, jB, uB⟩ := low_terms x1 (orOne y1) (orOne_pos y1)
  have MD0 : ∀ w', Below w.heap.size w w' → Calls Tryd.prog 12 #[.agg #[.slice a0 l0 k0, .slice a9 l9 k9]] w' (MakesM w' (x / Nat.gcd x (orOne y)) (orOne y / Nat.gcd x (orOne y))) := fun w' hb => made_true a0 l0 k0 a9 l9 k9 m0 m9 x y w' (f0.go hb) (f9.go hb) (hT.go hb)
  have MD1 : ∀ w', Below w.heap.size w w' → Calls Tryd.prog 12 #[.agg #[.slice a1 l1 k1, .slice a2 l2 k2]] w' (MakesM w' (x1 / Nat.gcd x1 (orOne y1)) (orOne y1 / Nat.gcd x1 (orOne y1))) := fun w' hb => made_true a1 l1 k1 a2 l2 k2 m1 m2 x1 y1 w' (f1.go hb) (f2.go hb) (hT.go hb)
  have pA : x / Nat.gcd x (orOne y) < P 15 := Nat.lt_of_le_of_lt (Nat.div_le_self _ _) f0.rs
  have qA : orOne y / Nat.gcd x (orOne y) < P 15 := Nat.lt_of_le_of_lt (Nat.div_le_self _ _) (orOne_15 f9.rs)
  have pB : x1 / Nat.gcd x1 (orOne y1) < P 15 := Nat.lt_of_le_of_lt (Nat.div_le_self _ _) f1.rs
  have qB : orOne y1 / Nat.gcd x1 (orOne y1) < P 15 := Nat.lt_of_le_of_lt (Nat.div_le_self _ _) (orOne_15 f2.rs)
  generalize x / Nat.gcd x (orOne y) = PA at MD0 pA tA
  generalize orOne y / Nat.gcd x (orOne y) = QA at MD0 qA tA uA
  generalize x1 / Nat.gcd x1 (orOne y1) = PB at MD1 pB tB
  generalize orOne y1 / Nat.gcd x1 (orOne y1) = QB at MD1 qB tB uB
  have h7 : RS 7 := rs_few (by omega)
  have FC0 : ∀ v u w', IsNat w' v x → IsNat w' u 7 → Tab w' → Calls Tryd.prog 13 #[v, u] w' (MakesRB w' (x / Nat.gcd x 7) (7 / Nat.gcd x 7) true) := fun v u w' h1 h2 hT' => from_any v u x 7 w' h1 h2 (rs15 f0.rs) h7 (by omega) hT'
  have FD0 : ∀ v u w', RNat w' v x → RNat w' u 7 → Calls Tryd.prog 16 #[v, u] w' (MakesRRB w' (x / Nat.gcd x 7) (7 / Nat.gcd x 7) true) := fun v u w' h1 h2 => rfrom2_yes v u x 7 w' h1 h2 (rs15 f0.rs).rsome h7.rsome (by omega)
  have pC : RS (x / Nat.gcd x 7) := (rs15 f0.rs).le (Nat.div_le_self _ _)
  have qC : RS (7 / Nat.gcd x 7) := h7.le (Nat.div_le_self _ _)
  generalize x / Nat.gcd x 7 = PC at FC0 FD0 pC
  generalize 7 / Nat.gcd x 7 = QC at FC0 FD0 qC
  have AD0 : ∀ v u w', Rt w' v PA QA → Rt w' u PB QB → Tab w' → Calls Tryd.prog 25 #[v, u] w' (MakesR w' (addP PA QA PB QB) (addQ PA QA PB QB)) := fun v u w' h1 h2 hT' => ratAdd_any v u PA QA PB QB w' h1 h2 (rs15 pA) (rs15 qA) (rs15 pB) (rs15 qB) hT'
  have AR0 : ∀ v u w', RRt w' v PA QA → RRt w' u PB QB → Calls Tryd.prog 42 #[v, u] w' (MakesRR w' (addP PA QA PB QB) (addQ PA QA PB QB)) := fun v u w' h1 h2 => by
    have := radd2_any v u PA QA PB QB w' h1 h2 (rs15 pA) (rs15 qA) (rs15 pB) (rs15 qB) uA uB
    rw [(add_same uA uB tA tB).1, (add_same uA uB tA tB).2] at this
    exact this
  obtain ⟨pD, qD⟩ := add_15 pA qA pB qB
  generalize addP PA QA PB QB = PD at AD0 AR0 pD
  generalize addQ PA QA PB QB = QD at AD0 AR0 qD
  have FF : Hid (Fed w a0 l0 k0 m0 x ∧ Tab w) := ⟨f0, hT⟩
  have MA : Hid _ := MD0
  have MB : Hid _ := MD1
  have FC : Hid _ := FC0
  have FD : Hid _ := FD0
  have AD : Hid _ := AD0
  have AR : Hid _ := AR0
  obtain ⟨nP, hnP⟩ : ∃ nP, nP = byteLen PA := ⟨_, rfl⟩
  obtain ⟨nQ, hnQ⟩ : ∃ nQ, nQ = byteLen QA := ⟨_, rfl⟩
  have HY : Hid ((∀ v w', IsNat w' v PA → Calls Tryd.prog 32 #[v] w' fun e w2 => ∃ g, e = .returned (.slice (some ⟨g, 0, none⟩) nP nP) ∧ w'.heap.size ≤ g ∧ BRow w2 g nP (fun i => byteAt PA (nP - 1 - i)) ∧ Below w'.heap.size w' w2) ∧ (∀ v w', IsNat w' v QA → Calls Tryd.prog 32 #[v] w' fun e w2 => ∃ g, e = .returned (.slice (some ⟨g, 0, none⟩) nQ nQ) ∧ w'.heap.size ≤ g ∧ BRow w2 g nQ (fun i => byteAt QA (nQ - 1 - i)) ∧ Below w'.heap.size w' w2)) := by
    rw [hnP, hnQ]
    exact ⟨fun v w' h => bytes_any v PA w' h (rs15 pA).fits, fun v w' h => bytes_any v QA w' h (rs15 qA).fits⟩
  have hnP1 : nP ≤ 1000 := by rw [hnP]; have := byteLen_P pA; omega
  have hnQ1 : nQ ≤ 1000 := by rw [hnQ]; have := byteLen_P qA; omega
  have hm0 : m0 ≤ 120 := HB0.out.2.1
  have RR : Hid (RS PA ∧ RS QA ∧ RS PB ∧ RS QB ∧ RS PC ∧ RS QC ∧ RS PD ∧ RS QD) := ⟨rs15 pA, rs15 qA, rs15 pB, rs15 qB, pC, qC, pD, qD⟩
  have S0 : Hid _ := ((sx_start w).box (.slice a0 l0 k0) (.slice a9 l9 k9) 24 _ rfl).box (.slice a1 l1 k1) (.slice a2 l2 k2) 24 _ rfl
  simp only [World.size_alloc] at S0
  clear f0 f9 f1 f2 hT hB0 hB9 hB1 hB2 hnil tA uA tB uB jA jB MD0 MD1 pA qA pB qB h7 FC0 FD0 pC qC AD0 AR0 pD qD hnP hnQ
  go_enter Tryd.func7, Tryd.ntmps7
  go_wp2_with fail
  obtain ⟨w0, hw0⟩ : ∃ w0, w0 = (w.alloc (.cells #[.slice a0 l0 k0, .slice a9 l9 k9] 24)).alloc (.cells #[.slice a1 l1 k1, .slice a2 l2 k2] 24) := ⟨_, rfl⟩
  obtain ⟨b0, hb0⟩ : ∃ b0, b0 = w.heap.size := ⟨_, rfl⟩
  have HW : Hid (w.heap.size ≤ b0) := by show _ ≤ _; omega
  rw [← hw0, ← hb0] at S0
  rw [← hw0, ← hb0]
  clear hw0 hb0
  refine (MA.out _ S0.out.bel).mono ?_
  rintro e v11w ⟨v11, v12, rfl, hv, hu, hb⟩
  obtain ⟨a11, n11, c11, d11, m11, g11, ev, _, _⟩ := hv.raw
  subst ev
  obtain ⟨a12, n12, c12, d12, m12, g12, ev, _, _⟩ := id hu
  subst ev
  have S1 : Hid _ := ((((S0.out.go hb).addF hv).addG hu).box (.slice a11 n11 c11) (.slice d11 m11 g11) 29 _ rfl).box (.slice a12 n12 c12) (.slice d12 m12 g12) 35 _ rfl
  clear hv hu hb S0
  simp only [World.size_alloc] at S1
  have y0 := S1.out.cel (b0 + 1) 0 (.slice a1 l1 k1)
  have y1 := S1.out.cel (b0 + 1) 1 (.slice a2 l2 k2)
  go_wp2_with fail
  obtain ⟨w11, hw⟩ : ∃ w11, w11 = (v11w.alloc (.cells #[.slice a11 n11 c11, .slice d11 m11 g11] 29)).alloc (.cells #[.slice a12 n12 c12, .slice d12 m12 g12] 35) := ⟨_, rfl⟩
  obtain ⟨b11, hb⟩ : ∃ b11, b11 = v11w.heap.size := ⟨_, rfl⟩
  rw [← hw, ← hb] at S1
  rw [← hw, ← hb]
  clear hw hb
  obtain ⟨b12, hb⟩ : ∃ b12, b12 = b11 + 1 := ⟨_, rfl⟩
  rw [← hb] at S1
  rw [← hb]
  clear hb
  clear y0 y1
  refine (MB.out _ S1.out.bel).mono ?_
  rintro e v13w ⟨v13, v14, rfl, hv, hu, hb⟩
  obtain ⟨a13, n13, c13, d13, m13, g13, ev, _, _⟩ := hv.raw
  subst ev
  obtain ⟨a14, n14, c14, d14, m14, g14, ev, _, _⟩ := id hu
  subst ev
  have S2 : Hid _ := ((((S1.out.go hb).addF hv).addG hu).box (.slice a13 n13 c13) (.slice d13 m13 g13) 29 _ rfl).box (.slice a14 n14 c14) (.slice d14 m14 g14) 35 _ rfl
  clear hv hu hb S1
  simp only [World.size_alloc] at S2
  have z0 := (S2.out.go (bel_al (o := .cells #[.int .u8 0] 5) (bel_refl _))).cel b0 0 (.slice a0 l0 k0)
  go_wp2_with fail
  obtain ⟨w13, hw⟩ : ∃ w13, w13 = (v13w.alloc (.cells #[.slice a13 n13 c13, .slice d13 m13 g13] 29)).alloc (.cells #[.slice a14 n14 c14, .slice d14 m14 g14] 35) := ⟨_, rfl⟩
  obtain ⟨b13, hb⟩ : ∃ b13, b13 = v13w.heap.size := ⟨_, rfl⟩
  have hs13 : b13 + 1 + 1 = w13.heap.size := by rw [hw, hb]; simp
  rw [← hw, ← hb] at S2
  rw [← hw, ← hb]
  clear hw hb z0
  obtain ⟨b14, hb⟩ : ∃ b14, b14 = b13 + 1 := ⟨_, rfl⟩
  rw [← hb] at S2
  rw [← hb]
  rw [← hb] at hs13
  clear hb
  rw [hs13]
  have O15 : Hid (OR (w13.alloc (.cells #[.int .u8 0] 5)) 5 w13.heap.size (.slice (some ⟨w13.heap.size, 0, none⟩) 1 1) 1 (bt (ahead D0))) := or_zero w13 w13.heap.size (Nat.le_refl _) D0
  have B15 : Hid (Below w13.heap.size w13 (w13.alloc (.cells #[.int .u8 0] 5))) := bel_al (bel_refl _)
  obtain ⟨w15, hw⟩ : ∃ w15, w15 = w13.alloc (.cells #[.int .u8 0] 5) := ⟨_, rfl⟩
  rw [← hw] at O15 B15
  rw [← hw]
  obtain ⟨b15, hb⟩ : ∃ b15, b15 = w13.heap.size := ⟨_, rfl⟩
  rw [← hb] at O15
  rw [← hb]
  have HS : Hid (w13.heap.size = b15) := hb.symm
  clear hw hb hs13
  refine (FF.out.1.cut _ (bel_go S2.out.bel B15.out)).mono ?_
  rintro e w16 ⟨rfl, hb⟩
  have O16 : Hid (OR w16 5 b15 (.slice (some ⟨b15, 0, none⟩) 1 1) 1 (bt (ahead D0))) := O15.out.below hb
  have B16 : Hid _ := bel_go B15.out hb
  clear hb O15 B15
  go_wp2_with (refine (id ?_ : wpList Tryd.prog _ _ (⟨some 37, _, _, _, _, _⟩ :: _) _ _); refine hold ?_)
  intro _
  refine wpList_ahead rfl (.tmp 33) (.tmp 36) rfl b15 _ D0 rfl O16.out a0 m0 k0 rfl (HB0.out.1.mono (bel_go S2.out.bel B16.out)) HB0.out.2.2 hm0 (by rw [← HS.out]; exact B16.out.size) ?_
  intro g9 c9 w17 hg9 hc9 hR hbl
  have HN : Hid (1 + m0 ≤ 121) := by show _ ≤ _; omega
  obtain ⟨N9, hN9⟩ : ∃ N9, N9 = 1 + m0 := ⟨_, rfl⟩
  have HC : Hid (BSl w17 (some ⟨g9, 0, none⟩) N9 c9 (ahead D0)) := by
    have h1 := hR.2
    rw [hN9]
    exact ⟨h1, by simp only [maxLen] at hc9; omega, ahead_lt HB0.out.1.2.2.1, .inr ⟨g9, 0, rfl, fun i hi => by rw [Nat.zero_add]; exact hR.cell hi⟩⟩
  have RB : Hid (Bts w17 g9 N9) := by rw [hN9]; exact hR.bts
  have HG : Hid (w.heap.size ≤ g9) := by
    have h1 := S2.out.bel.size
    have h2 := HS.out
    show _ ≤ _
    omega
  have S3 : Hid _ := S2.out.go (w' := w17) (by
    have h3 := B16.out
    rw [HS.out] at h3
    rw [HS.out]
    exact h3.trans hbl)
  rw [← hN9] at HN HV
  rw [← hN9]
  have hN1 : N9 ≤ 121 := HN.out
  clear hN9 hg9 hc9 hR hbl S2 O16 B16 HS HN
  go_wp2_with fail
  refine (fromBytes_any (some ⟨g9, 0, none⟩) N9 c9 (ahead D0) _ HC.out (by omega)).mono ?_
  rintro e w18 ⟨v18, rfl, hv, hb⟩
  rw [HV.out] at hv
  have RB18 : Hid (Bts w18 g9 N9) := RB.out.mono hb
  have S4 : Hid _ := (S3.out.go hb).addN hv
  clear hv hb RB S3 HC
  go_wp2_with fail
  refine (of_any 7 _ (by omega)).mono ?_
  rintro e w19 ⟨v19, rfl, hv, hb⟩
  have RB19 : Hid (Bts w19 g9 N9) := RB18.out.mono hb
  have S5 : Hid _ := (S4.out.go hb).addN hv
  clear hv hb RB18 S4
  go_wp2_with fail
  refine (FC.out _ _ _ (S5.out.at v18 x) (S5.out.at v19 7) (FF.out.2.go S5.out.bel)).mono ?_
  rintro e v21w ⟨v21, rfl, hv, hb⟩
  obtain ⟨a21, n21, c21, d21, m21, g21, ev, _, _⟩ := hv.raw
  subst ev
  have S6 : Hid _ := ((S5.out.go hb).addF hv).box (.slice a21 n21 c21) (.slice d21 m21 g21) 29 _ rfl
  have RB21 : Hid (Bts (v21w.alloc (.cells #[.slice a21 n21 c21, .slice d21 m21 g21] 29)) g9 N9) := (RB19.out.mono hb).mono (bel_al (o := .cells #[.slice a21 n21 c21, .slice d21 m21 g21] 29) (bel_refl _))
  clear hv hb RB19 S5
  have z0 := S6.out.cel b0 0 (.slice a0 l0 k0)
  go_wp2_with fail
  clear z0
  obtain ⟨w21, hw⟩ : ∃ w21, w21 = v21w.alloc (.cells #[.slice a21 n21 c21, .slice d21 m21 g21] 29) := ⟨_, rfl⟩
  obtain ⟨b21, hb⟩ : ∃ b21, b21 = v21w.heap.size := ⟨_, rfl⟩
  rw [← hw, ← hb] at S6
  rw [← hw] at RB21
  rw [← hw, ← hb]
  clear hw hb
  refine (FF.out.1.cut _ S6.out.bel).mono ?_
  rintro e w22 ⟨rfl, hb⟩
  have S7 : Hid _ := S6.out.go hb
  have RB22 : Hid (Bts w22 g9 N9) := RB21.out.mono hb
  clear hb S6 RB21
  go_wp2_with fail
  refine (FF.out.1.ref _ S7.out.bel).mono ?_
  rintro e w23 ⟨v23, rfl, hv, hb⟩
  have S8 : Hid _ := (S7.out.go hb).addM hv
  have RB23 : Hid (Bts w23 g9 N9) := RB22.out.mono hb
  clear hv hb S7 RB22
  go_wp2_with fail
  refine (rof_any 7 _ (by omega)).mono ?_
  rintro e w24 ⟨v24, rfl, hv, hb⟩
  have S9 : Hid _ := (S8.out.go hb).addM hv
  have RB24 : Hid (Bts w24 g9 N9) := RB23.out.mono hb
  clear hv hb S8 RB23
  go_wp2_with fail
  refine (FD.out _ _ _ (S9.out.rat v23 x) (S9.out.rat v24 7)).mono ?_
  rintro e v25w ⟨v25, rfl, hv, hb⟩
  obtain ⟨a25, n25, c25, d25, m25, g25, ev, _, _⟩ := id hv
  subst ev
  have S10 : Hid _ := ((S9.out.go hb).addG hv).box (.slice a25 n25 c25) (.slice d25 m25 g25) 35 _ rfl
  have RB25 : Hid (Bts (v25w.alloc (.cells #[.slice a25 n25 c25, .slice d25 m25 g25] 35)) g9 N9) := (RB24.out.mono hb).mono (bel_al (o := .cells #[.slice a25 n25 c25, .slice d25 m25 g25] 35) (bel_refl _))
  clear hv hb RB24 S9
  go_wp2_with fail
  obtain ⟨w25, hw⟩ : ∃ w25, w25 = v25w.alloc (.cells #[.slice a25 n25 c25, .slice d25 m25 g25] 35) := ⟨_, rfl⟩
  obtain ⟨b25, hb⟩ : ∃ b25, b25 = v25w.heap.size := ⟨_, rfl⟩
  rw [← hw, ← hb] at S10
  rw [← hw] at RB25
  rw [← hw, ← hb]
  clear hw hb
  have S11 : Hid (SX w w25 [] [] [((.agg #[.slice a11 n11 c11, .slice d11 m11 g11]), PA, QA), ((.agg #[.slice a13 n13 c13, .slice d13 m13 g13]), PB, QB), ((.agg #[.slice a21 n21 c21, .slice d21 m21 g21]), PC, QC)] [((.agg #[.slice a12 n12 c12, .slice d12 m12 g12]), PA, QA), ((.agg #[.slice a14 n14 c14, .slice d14 m14 g14]), PB, QB), ((.agg #[.slice a25 n25 c25, .slice d25 m25 g25]), PC, QC)] [(b11, 0, .slice a11 n11 c11), (b11, 1, .slice d11 m11 g11), (b13, 0, .slice a13 n13 c13), (b13, 1, .slice d13 m13 g13), (b21, 0, .slice a21 n21 c21), (b21, 1, .slice d21 m21 g21), (b12, 0, .slice a12 n12 c12), (b12, 1, .slice d12 m12 g12), (b14, 0, .slice a14 n14 c14), (b14, 1, .slice d14 m14 g14), (b25, 0, .slice a25 n25 c25), (b25, 1, .slice d25 m25 g25)]) := S10.out.sub (by simp) (by simp) (by simp)
  clear S10
  have CC : Hid (∀ q ∈ ([(b11, 0, .slice a11 n11 c11), (b11, 1, .slice d11 m11 g11), (b13, 0, .slice a13 n13 c13), (b13, 1, .slice d13 m13 g13), (b21, 0, .slice a21 n21 c21), (b21, 1, .slice d21 m21 g21), (b12, 0, .slice a12 n12 c12), (b12, 1, .slice d12 m12 g12), (b14, 0, .slice a14 n14 c14), (b14, 1, .slice d14 m14 g14), (b25, 0, .slice a25 n25 c25), (b25, 1, .slice d25 m25 g25)] : List (Nat × Nat × Value)), ∃ a n c, q.2.2 = .slice a n c) := fun q hq => by
    simp only [List.mem_cons, List.not_mem_nil, or_false] at hq
    rcases hq with rfl | rfl | rfl | rfl | rfl | rfl | rfl | rfl | rfl | rfl | rfl | rfl <;> exact ⟨_, _, _, rfl⟩
  go_loopw [14] (fun t wr => ∃ i : Nat, i ≤ N9 ∧ t = .int .i64 (i : Int) ∧ Bts wr g9 N9 ∧ SX w wr [] [] [((.agg #[.slice a11 n11 c11, .slice d11 m11 g11]), PA, QA), ((.agg #[.slice a13 n13 c13, .slice d13 m13 g13]), PB, QB), ((.agg #[.slice a21 n21 c21, .slice d21 m21 g21]), PC, QC)] [((.agg #[.slice a12 n12 c12, .slice d12 m12 g12]), PA, QA), ((.agg #[.slice a14 n14 c14, .slice d14 m14 g14]), PB, QB), ((.agg #[.slice a25 n25 c25, .slice d25 m25 g25]), PC, QC)] [(b11, 0, .slice a11 n11 c11), (b11, 1, .slice d11 m11 g11), (b13, 0, .slice a13 n13 c13), (b13, 1, .slice d13 m13 g13), (b21, 0, .slice a21 n21 c21), (b21, 1, .slice d21 m21 g21), (b12, 0, .slice a12 n12 c12), (b12, 1, .slice d12 m12 g12), (b14, 0, .slice a14 n14 c14), (b14, 1, .slice d14 m14 g14), (b25, 0, .slice a25 n25 c25), (b25, 1, .slice d25 m25 g25)]) (fun t _ => N9 - (intOf t).toNat)
  case atStart => exact ⟨0, by omega, rfl, RB25.out, S11.out⟩
  case round =>
    clear RB25 S11
    obtain ⟨i, hi, rfl, hR, hS⟩ := hrel
    by_cases hin : i < N9
    · obtain ⟨⟨z, hz⟩, hf⟩ := hR i hin
      have I5 : Hid (Bts (wr.setCell ⟨g9, i, none⟩ (.int .u8 255)) g9 N9 ∧ SX w (wr.setCell ⟨g9, i, none⟩ (.int .u8 255)) [] [] [((.agg #[.slice a11 n11 c11, .slice d11 m11 g11]), PA, QA), ((.agg #[.slice a13 n13 c13, .slice d13 m13 g13]), PB, QB), ((.agg #[.slice a21 n21 c21, .slice d21 m21 g21]), PC, QC)] [((.agg #[.slice a12 n12 c12, .slice d12 m12 g12]), PA, QA), ((.agg #[.slice a14 n14 c14, .slice d14 m14 g14]), PB, QB), ((.agg #[.slice a25 n25 c25, .slice d25 m25 g25]), PC, QC)] [(b11, 0, .slice a11 n11 c11), (b11, 1, .slice d11 m11 g11), (b13, 0, .slice a13 n13 c13), (b13, 1, .slice d13 m13 g13), (b21, 0, .slice a21 n21 c21), (b21, 1, .slice d21 m21 g21), (b12, 0, .slice a12 n12 c12), (b12, 1, .slice d12 m12 g12), (b14, 0, .slice a14 n14 c14), (b14, 1, .slice d14 m14 g14), (b25, 0, .slice a25 n25 c25), (b25, 1, .slice d25 m25 g25)]) := ⟨hR.put _ _, hS.byte hz HG.out CC.out _⟩
      clear hR hS
      go_wp2_with fail
      go_roundw
      case rel => exact ⟨i + 1, by omega, by go_num, I5.out⟩
      case measure => simp [intOf]; omega
    · obtain rfl : i = N9 := by omega
      have S12 : Hid (SX w wr [] [] [((.agg #[.slice a11 n11 c11, .slice d11 m11 g11]), PA, QA), ((.agg #[.slice a13 n13 c13, .slice d13 m13 g13]), PB, QB), ((.agg #[.slice a21 n21 c21, .slice d21 m21 g21]), PC, QC)] [((.agg #[.slice a12 n12 c12, .slice d12 m12 g12]), PA, QA), ((.agg #[.slice a14 n14 c14, .slice d14 m14 g14]), PB, QB), ((.agg #[.slice a25 n25 c25, .slice d25 m25 g25]), PC, QC)] [(b11, 0, .slice a11 n11 c11), (b11, 1, .slice d11 m11 g11), (b13, 0, .slice a13 n13 c13), (b13, 1, .slice d13 m13 g13), (b21, 0, .slice a21 n21 c21), (b21, 1, .slice d21 m21 g21), (b12, 0, .slice a12 n12 c12), (b12, 1, .slice d12 m12 g12), (b14, 0, .slice a14 n14 c14), (b14, 1, .slice d14 m14 g14), (b25, 0, .slice a25 n25 c25), (b25, 1, .slice d25 m25 g25)]) := hS
      clear hR hS CC
      have y11 := S12.out.cel b11 0 (.slice a11 n11 c11)
      have z11 := S12.out.cel b11 1 (.slice d11 m11 g11)
      have y13 := S12.out.cel b13 0 (.slice a13 n13 c13)
      have z13 := S12.out.cel b13 1 (.slice d13 m13 g13)
      go_wp2_with fail
      refine (AD.out _ _ _ (S12.out.fr (.agg #[.slice a11 n11 c11, .slice d11 m11 g11]) PA QA) (S12.out.fr (.agg #[.slice a13 n13 c13, .slice d13 m13 g13]) PB QB) (FF.out.2.go S12.out.bel)).mono ?_
      rintro e v30w ⟨v30, rfl, hv, hb⟩
      obtain ⟨a30, n30, c30, d30, m30, g30, ev, _, _⟩ := hv.raw
      subst ev
      have S13' : Hid _ := ((S12.out.go hb).addF hv).box (.slice a30 n30 c30) (.slice d30 m30 g30) 29 _ rfl
      clear hv hb S12 y11 z11 y13 z13
      go_wp2_with fail
      obtain ⟨w30, hw⟩ : ∃ w30, w30 = v30w.alloc (.cells #[.slice a30 n30 c30, .slice d30 m30 g30] 29) := ⟨_, rfl⟩
      obtain ⟨b30, hb⟩ : ∃ b30, b30 = v30w.heap.size := ⟨_, rfl⟩
      rw [← hw, ← hb] at S13'
      rw [← hw, ← hb]
      clear hw hb
      have S13 : Hid (SX w w30 [] [] [((.agg #[.slice a11 n11 c11, .slice d11 m11 g11]), PA, QA), ((.agg #[.slice a13 n13 c13, .slice d13 m13 g13]), PB, QB), ((.agg #[.slice a21 n21 c21, .slice d21 m21 g21]), PC, QC), ((.agg #[.slice a30 n30 c30, .slice d30 m30 g30]), PD, QD)] [((.agg #[.slice a12 n12 c12, .slice d12 m12 g12]), PA, QA), ((.agg #[.slice a14 n14 c14, .slice d14 m14 g14]), PB, QB), ((.agg #[.slice a25 n25 c25, .slice d25 m25 g25]), PC, QC)] [(b11, 0, .slice a11 n11 c11), (b11, 1, .slice d11 m11 g11), (b13, 0, .slice a13 n13 c13), (b13, 1, .slice d13 m13 g13), (b21, 0, .slice a21 n21 c21), (b21, 1, .slice d21 m21 g21), (b30, 0, .slice a30 n30 c30), (b30, 1, .slice d30 m30 g30), (b12, 0, .slice a12 n12 c12), (b12, 1, .slice d12 m12 g12), (b14, 0, .slice a14 n14 c14), (b14, 1, .slice d14 m14 g14), (b25, 0, .slice a25 n25 c25), (b25, 1, .slice d25 m25 g25)]) := S13'.out.sub (by simp) (by simp) (by simp)
      clear S13'
      have CC : Hid (∀ q ∈ ([(b11, 0, .slice a11 n11 c11), (b11, 1, .slice d11 m11 g11), (b13, 0, .slice a13 n13 c13), (b13, 1, .slice d13 m13 g13), (b21, 0, .slice a21 n21 c21), (b21, 1, .slice d21 m21 g21), (b30, 0, .slice a30 n30 c30), (b30, 1, .slice d30 m30 g30), (b12, 0, .slice a12 n12 c12), (b12, 1, .slice d12 m12 g12), (b14, 0, .slice a14 n14 c14), (b14, 1, .slice d14 m14 g14), (b25, 0, .slice a25 n25 c25), (b25, 1, .slice d25 m25 g25)] : List (Nat × Nat × Value)), ∃ a n c, q.2.2 = .slice a n c) := fun q hq => by
        simp only [List.mem_cons, List.not_mem_nil, or_false] at hq
        rcases hq with rfl | rfl | rfl | rfl | rfl | rfl | rfl | rfl | rfl | rfl | rfl | rfl | rfl | rfl <;> exact ⟨_, _, _, rfl⟩
      go_loopw [16] (fun t wr => ∃ i : Nat, i ≤ 2 ∧ t = .int .i64 (i : Int) ∧ SX w wr [] [] [((.agg #[.slice a11 n11 c11, .slice d11 m11 g11]), PA, QA), ((.agg #[.slice a13 n13 c13, .slice d13 m13 g13]), PB, QB), ((.agg #[.slice a21 n21 c21, .slice d21 m21 g21]), PC, QC), ((.agg #[.slice a30 n30 c30, .slice d30 m30 g30]), PD, QD)] [((.agg #[.slice a12 n12 c12, .slice d12 m12 g12]), PA, QA), ((.agg #[.slice a14 n14 c14, .slice d14 m14 g14]), PB, QB), ((.agg #[.slice a25 n25 c25, .slice d25 m25 g25]), PC, QC)] [(b11, 0, .slice a11 n11 c11), (b11, 1, .slice d11 m11 g11), (b13, 0, .slice a13 n13 c13), (b13, 1, .slice d13 m13 g13), (b21, 0, .slice a21 n21 c21), (b21, 1, .slice d21 m21 g21), (b30, 0, .slice a30 n30 c30), (b30, 1, .slice d30 m30 g30), (b12, 0, .slice a12 n12 c12), (b12, 1, .slice d12 m12 g12), (b14, 0, .slice a14 n14 c14), (b14, 1, .slice d14 m14 g14), (b25, 0, .slice a25 n25 c25), (b25, 1, .slice d25 m25 g25)]) (fun t _ => 2 - (intOf t).toNat)
      case atStart => exact ⟨0, by omega, rfl, S13.out⟩
      case round =>
        clear S13
        obtain ⟨i2, hi2, rfl, hS⟩ := hrel
        by_cases hin2 : i2 < 2
        · have S14 : Hid (SX w wr [] [] [((.agg #[.slice a11 n11 c11, .slice d11 m11 g11]), PA, QA), ((.agg #[.slice a13 n13 c13, .slice d13 m13 g13]), PB, QB), ((.agg #[.slice a21 n21 c21, .slice d21 m21 g21]), PC, QC), ((.agg #[.slice a30 n30 c30, .slice d30 m30 g30]), PD, QD)] [((.agg #[.slice a12 n12 c12, .slice d12 m12 g12]), PA, QA), ((.agg #[.slice a14 n14 c14, .slice d14 m14 g14]), PB, QB), ((.agg #[.slice a25 n25 c25, .slice d25 m25 g25]), PC, QC)] [(b11, 0, .slice a11 n11 c11), (b11, 1, .slice d11 m11 g11), (b13, 0, .slice a13 n13 c13), (b13, 1, .slice d13 m13 g13), (b21, 0, .slice a21 n21 c21), (b21, 1, .slice d21 m21 g21), (b30, 0, .slice a30 n30 c30), (b30, 1, .slice d30 m30 g30), (b12, 0, .slice a12 n12 c12), (b12, 1, .slice d12 m12 g12), (b14, 0, .slice a14 n14 c14), (b14, 1, .slice d14 m14 g14), (b25, 0, .slice a25 n25 c25), (b25, 1, .slice d25 m25 g25)]) := hS
          clear hS
          have y11 := S14.out.cel b11 0 (.slice a11 n11 c11)
          have z11 := S14.out.cel b11 1 (.slice d11 m11 g11)
          go_wp2_with fail
          refine (parts_any _ PA QA _ (S14.out.fr (.agg #[.slice a11 n11 c11, .slice d11 m11 g11]) PA QA) RR.out.2.1.fits).mono ?_
          rintro e v31w ⟨v31, v32, rfl, hv, hu, hb⟩
          obtain ⟨a31, n31, c31, rfl⟩ := hv.isAgg
          obtain ⟨a32, n32, c32, rfl⟩ := hu.isAgg
          have S15 : Hid _ := ((((S14.out.go hb).addN hv).addN hu).box1 (.slice a31 n31 c31) 27 _ rfl).box1 (.slice a32 n32 c32) 27 _ rfl
          clear hv hu hb S14 y11 z11
          simp only [World.size_alloc] at S15
          go_wp2_with fail
          obtain ⟨w31, hw⟩ : ∃ w31, w31 = (v31w.alloc (.cells #[.slice a31 n31 c31] 27)).alloc (.cells #[.slice a32 n32 c32] 27) := ⟨_, rfl⟩
          obtain ⟨b31, hb⟩ : ∃ b31, b31 = v31w.heap.size := ⟨_, rfl⟩
          rw [← hw, ← hb] at S15
          rw [← hw, ← hb]
          clear hw hb
          obtain ⟨b32, hb⟩ : ∃ b32, b32 = b31 + 1 := ⟨_, rfl⟩
          rw [← hb] at S15
          rw [← hb]
          clear hb
          refine wp_region_inv (JB w31 [sNat (PA), sOwn w.heap.size nP, sNat (QA), sOwn w.heap.size nQ, sOwn w.heap.size nP, sOwn w.heap.size nQ] []) 147 (by kernel_rfl) rfl (by kernel_rfl) (JB.start _ _ _) (fun HG HN => ⟨?_, ?_, ?_, ?_, ?_, ?_, trivial⟩) ?_
          · intro L vs a w' hJ hF hP hL
            have q17 : (a.tmps[17]?).getD undef = .pointer (some ⟨b31, 0, none⟩) := hF.old 17 rfl
            have cb := cell_later hJ.bel (S15.out.cell (b31) (.slice a31 n31 c31))
            exact run_val (v := .agg #[.slice a31 n31 c31]) rfl (by simp [execOp, go_sem, q17, cb]) ⟨_, rfl, hJ.step hL rfl (Below.refl _ _) (by exact ((S15.out.at (.agg #[.slice a31 n31 c31]) (PA)).mono hJ.bel))⟩
          · intro L vs a w' hJ hF hP hL
            have p0 : L 0 = true := hP ⟨0, .data⟩ (by simp) rfl
            have s0 : IsNat w' (vs 0) (PA) := hJ.sp 0 p0
            have q75 := hF.slot 0 75 rfl p0
            refine run_call (f := 32) (args := #[vs 0]) rfl (by simp [go_sem, q75]) (HY.out.1 _ _ s0) ?_
            rintro e w2 ⟨gb, rfl, hg, hR, hb⟩
            exact ⟨_, rfl, _, rfl, hJ.step hL rfl hb (by exact (own_of rfl hg (bel_go S15.out.bel hJ.bel).size hR))⟩
          · intro L vs a w' hJ hF hP hL
            have q18 : (a.tmps[18]?).getD undef = .pointer (some ⟨b32, 0, none⟩) := hF.old 18 rfl
            have cb := cell_later hJ.bel (S15.out.cell (b32) (.slice a32 n32 c32))
            exact run_val (v := .agg #[.slice a32 n32 c32]) rfl (by simp [execOp, go_sem, q18, cb]) ⟨_, rfl, hJ.step hL rfl (Below.refl _ _) (by exact ((S15.out.at (.agg #[.slice a32 n32 c32]) (QA)).mono hJ.bel))⟩
          · intro L vs a w' hJ hF hP hL
            have p2 : L 2 = true := hP ⟨2, .data⟩ (by simp) rfl
            have s2 : IsNat w' (vs 2) (QA) := hJ.sp 2 p2
            have q77 := hF.slot 2 77 rfl p2
            refine run_call (f := 32) (args := #[vs 2]) rfl (by simp [go_sem, q77]) (HY.out.2 _ _ s2) ?_
            rintro e w2 ⟨gb, rfl, hg, hR, hb⟩
            exact ⟨_, rfl, _, rfl, hJ.step hL rfl hb (by exact (own_of rfl hg (bel_go S15.out.bel hJ.bel).size hR))⟩
          · intro L vs a w' hJ hF hP hL
            have p1 : L 1 = true := hP ⟨1, .data⟩ (by simp) rfl
            have s1 : OwnB w' w.heap.size (vs 1) nP := hJ.sp 1 p1
            have q76 := hF.slot 1 76 rfl p1
            exact run_val (v := vs 1) rfl (by simp [execOp, go_sem, q76]) ⟨_, rfl, hJ.step hL rfl (Below.refl _ _) (by exact s1)⟩
          · intro L vs a w' hJ hF hP hL
            have p3 : L 3 = true := hP ⟨3, .data⟩ (by simp) rfl
            have s3 : OwnB w' w.heap.size (vs 3) nQ := hJ.sp 3 p3
            have q78 := hF.slot 3 78 rfl p3
            exact run_val (v := vs 3) rfl (by simp [execOp, go_sem, q78]) ⟨_, rfl, hJ.step hL rfl (Below.refl _ _) (by exact s3)⟩
          intro L vs w' hA hJ
          have s4 : OwnB w' w.heap.size (vs 4) nP := hJ.sp 4 (hA 4 (by simp))
          have s5 : OwnB w' w.heap.size (vs 5) nQ := hJ.sp 5 (hA 5 (by simp))
          simp only [putL, Act.put, List.setIfInBounds_toArray, List.set_cons_zero, List.set_cons_succ, Nat.reduceAdd]
          obtain ⟨g6, e6, hg6, t6⟩ := s4
          obtain ⟨g7, e7, hg7, t7⟩ := s5
          rw [e6, e7]
          have T6 : Hid (Bts w' g6 nP) := t6
          have T7 : Hid (Bts w' g7 nQ) := t7
          have S16 : Hid (SX w w' [] [] [((.agg #[.slice a11 n11 c11, .slice d11 m11 g11]), PA, QA), ((.agg #[.slice a13 n13 c13, .slice d13 m13 g13]), PB, QB), ((.agg #[.slice a21 n21 c21, .slice d21 m21 g21]), PC, QC), ((.agg #[.slice a30 n30 c30, .slice d30 m30 g30]), PD, QD)] [((.agg #[.slice a12 n12 c12, .slice d12 m12 g12]), PA, QA), ((.agg #[.slice a14 n14 c14, .slice d14 m14 g14]), PB, QB), ((.agg #[.slice a25 n25 c25, .slice d25 m25 g25]), PC, QC)] [(b11, 0, .slice a11 n11 c11), (b11, 1, .slice d11 m11 g11), (b13, 0, .slice a13 n13 c13), (b13, 1, .slice d13 m13 g13), (b21, 0, .slice a21 n21 c21), (b21, 1, .slice d21 m21 g21), (b30, 0, .slice a30 n30 c30), (b30, 1, .slice d30 m30 g30), (b12, 0, .slice a12 n12 c12), (b12, 1, .slice d12 m12 g12), (b14, 0, .slice a14 n14 c14), (b14, 1, .slice d14 m14 g14), (b25, 0, .slice a25 n25 c25), (b25, 1, .slice d25 m25 g25)]) := (S15.out.go hJ.bel).sub (by simp) (by simp) (by simp)
          clear e6 e7 t6 t7 hJ hA S15
          go_wp2_with fail
          go_loopw [21] (fun t wr => ∃ i : Nat, i ≤ nP ∧ t = .int .i64 (i : Int) ∧ Bts wr g6 nP ∧ Bts wr g7 nQ ∧ SX w wr [] [] [((.agg #[.slice a11 n11 c11, .slice d11 m11 g11]), PA, QA), ((.agg #[.slice a13 n13 c13, .slice d13 m13 g13]), PB, QB), ((.agg #[.slice a21 n21 c21, .slice d21 m21 g21]), PC, QC), ((.agg #[.slice a30 n30 c30, .slice d30 m30 g30]), PD, QD)] [((.agg #[.slice a12 n12 c12, .slice d12 m12 g12]), PA, QA), ((.agg #[.slice a14 n14 c14, .slice d14 m14 g14]), PB, QB), ((.agg #[.slice a25 n25 c25, .slice d25 m25 g25]), PC, QC)] [(b11, 0, .slice a11 n11 c11), (b11, 1, .slice d11 m11 g11), (b13, 0, .slice a13 n13 c13), (b13, 1, .slice d13 m13 g13), (b21, 0, .slice a21 n21 c21), (b21, 1, .slice d21 m21 g21), (b30, 0, .slice a30 n30 c30), (b30, 1, .slice d30 m30 g30), (b12, 0, .slice a12 n12 c12), (b12, 1, .slice d12 m12 g12), (b14, 0, .slice a14 n14 c14), (b14, 1, .slice d14 m14 g14), (b25, 0, .slice a25 n25 c25), (b25, 1, .slice d25 m25 g25)]) (fun t _ => nP - (intOf t).toNat)
          case atStart => exact ⟨0, by omega, rfl, T6.out, T7.out, S16.out⟩
          case round =>
            clear T6 T7 S16
            obtain ⟨i3, hi3, rfl, hR⟩ := hrel
            by_cases hin3 : i3 < nP
            · obtain ⟨⟨z, hz⟩, hf⟩ := hR.1 i3 hin3
              have I6 : Hid _ := hR
              clear hR
              go_wp2_with fail
              go_roundw
              case rel => exact ⟨i3 + 1, by omega, by go_num, I6.out.1.put _ _, I6.out.2.1.put _ _, I6.out.2.2.byte hz hg6 CC.out _⟩
              case measure => simp [intOf]; omega
            · obtain rfl : i3 = nP := by omega
              have I7 : Hid (Bts wr g6 i3 ∧ Bts wr g7 nQ ∧ SX w wr [] [] [((.agg #[.slice a11 n11 c11, .slice d11 m11 g11]), PA, QA), ((.agg #[.slice a13 n13 c13, .slice d13 m13 g13]), PB, QB), ((.agg #[.slice a21 n21 c21, .slice d21 m21 g21]), PC, QC), ((.agg #[.slice a30 n30 c30, .slice d30 m30 g30]), PD, QD)] [((.agg #[.slice a12 n12 c12, .slice d12 m12 g12]), PA, QA), ((.agg #[.slice a14 n14 c14, .slice d14 m14 g14]), PB, QB), ((.agg #[.slice a25 n25 c25, .slice d25 m25 g25]), PC, QC)] [(b11, 0, .slice a11 n11 c11), (b11, 1, .slice d11 m11 g11), (b13, 0, .slice a13 n13 c13), (b13, 1, .slice d13 m13 g13), (b21, 0, .slice a21 n21 c21), (b21, 1, .slice d21 m21 g21), (b30, 0, .slice a30 n30 c30), (b30, 1, .slice d30 m30 g30), (b12, 0, .slice a12 n12 c12), (b12, 1, .slice d12 m12 g12), (b14, 0, .slice a14 n14 c14), (b14, 1, .slice d14 m14 g14), (b25, 0, .slice a25 n25 c25), (b25, 1, .slice d25 m25 g25)]) := hR
              clear hR
              have hi31 : i3 ≤ 1000 := hnP1
              go_wp2_with fail
              go_loopw [22] (fun t wr => ∃ i : Nat, i ≤ nQ ∧ t = .int .i64 (i : Int) ∧ Bts wr g6 i3 ∧ Bts wr g7 nQ ∧ SX w wr [] [] [((.agg #[.slice a11 n11 c11, .slice d11 m11 g11]), PA, QA), ((.agg #[.slice a13 n13 c13, .slice d13 m13 g13]), PB, QB), ((.agg #[.slice a21 n21 c21, .slice d21 m21 g21]), PC, QC), ((.agg #[.slice a30 n30 c30, .slice d30 m30 g30]), PD, QD)] [((.agg #[.slice a12 n12 c12, .slice d12 m12 g12]), PA, QA), ((.agg #[.slice a14 n14 c14, .slice d14 m14 g14]), PB, QB), ((.agg #[.slice a25 n25 c25, .slice d25 m25 g25]), PC, QC)] [(b11, 0, .slice a11 n11 c11), (b11, 1, .slice d11 m11 g11), (b13, 0, .slice a13 n13 c13), (b13, 1, .slice d13 m13 g13), (b21, 0, .slice a21 n21 c21), (b21, 1, .slice d21 m21 g21), (b30, 0, .slice a30 n30 c30), (b30, 1, .slice d30 m30 g30), (b12, 0, .slice a12 n12 c12), (b12, 1, .slice d12 m12 g12), (b14, 0, .slice a14 n14 c14), (b14, 1, .slice d14 m14 g14), (b25, 0, .slice a25 n25 c25), (b25, 1, .slice d25 m25 g25)]) (fun t _ => nQ - (intOf t).toNat)
              case atStart => exact ⟨0, by omega, rfl, I7.out⟩
              case round =>
                clear I7
                obtain ⟨i4, hi4, rfl, hR⟩ := hrel
                by_cases hin4 : i4 < nQ
                · obtain ⟨⟨z, hz⟩, hf⟩ := hR.2.1 i4 hin4
                  have I8 : Hid _ := hR
                  clear hR
                  go_wp2_with fail
                  go_roundw
                  case rel => exact ⟨i4 + 1, by omega, by go_num, I8.out.1.put _ _, I8.out.2.1.put _ _, I8.out.2.2.byte hz hg7 CC.out _⟩
                  case measure => simp [intOf]; omega
                · obtain rfl : i4 = nQ := by omega
                  have I8 : Hid (Bts wr g6 i3 ∧ Bts wr g7 i4 ∧ SX w wr [] [] [((.agg #[.slice a11 n11 c11, .slice d11 m11 g11]), PA, QA), ((.agg #[.slice a13 n13 c13, .slice d13 m13 g13]), PB, QB), ((.agg #[.slice a21 n21 c21, .slice d21 m21 g21]), PC, QC), ((.agg #[.slice a30 n30 c30, .slice d30 m30 g30]), PD, QD)] [((.agg #[.slice a12 n12 c12, .slice d12 m12 g12]), PA, QA), ((.agg #[.slice a14 n14 c14, .slice d14 m14 g14]), PB, QB), ((.agg #[.slice a25 n25 c25, .slice d25 m25 g25]), PC, QC)] [(b11, 0, .slice a11 n11 c11), (b11, 1, .slice d11 m11 g11), (b13, 0, .slice a13 n13 c13), (b13, 1, .slice d13 m13 g13), (b21, 0, .slice a21 n21 c21), (b21, 1, .slice d21 m21 g21), (b30, 0, .slice a30 n30 c30), (b30, 1, .slice d30 m30 g30), (b12, 0, .slice a12 n12 c12), (b12, 1, .slice d12 m12 g12), (b14, 0, .slice a14 n14 c14), (b14, 1, .slice d14 m14 g14), (b25, 0, .slice a25 n25 c25), (b25, 1, .slice d25 m25 g25)]) := hR
                  have hi41 : i4 ≤ 1000 := hnQ1
                  clear hR
                  go_wp2_with (refine (id ?_ : wpList Tryd.prog _ _ (⟨some 109, _, _, _, _, _⟩ :: _) _ _); refine hold ?_)
                  intro _
                  refine wpList_grow3 rfl (.tmp 107) (.tmp 108) rfl g6 i3 rfl (I8.out.1.mono (bel_al (bel_refl _))) wr.heap.size rfl ?_ hi31 ?_
                  · intro j hj
                    match j, hj with
                    | 0, _ => simp
                    | 1, _ => simp
                    | 2, _ => simp
                  intro g4 c4 w41 hg
                  have b41 := bel_go (bel_al (o := .cells #[.int .u8 1, .int .u8 2, .int .u8 3] 5) (bel_refl wr)) (bel_none hg)
                  have I9 : Hid (Bts w41 g7 i4 ∧ SX w w41 [] [] [((.agg #[.slice a11 n11 c11, .slice d11 m11 g11]), PA, QA), ((.agg #[.slice a13 n13 c13, .slice d13 m13 g13]), PB, QB), ((.agg #[.slice a21 n21 c21, .slice d21 m21 g21]), PC, QC), ((.agg #[.slice a30 n30 c30, .slice d30 m30 g30]), PD, QD)] [((.agg #[.slice a12 n12 c12, .slice d12 m12 g12]), PA, QA), ((.agg #[.slice a14 n14 c14, .slice d14 m14 g14]), PB, QB), ((.agg #[.slice a25 n25 c25, .slice d25 m25 g25]), PC, QC)] [(b11, 0, .slice a11 n11 c11), (b11, 1, .slice d11 m11 g11), (b13, 0, .slice a13 n13 c13), (b13, 1, .slice d13 m13 g13), (b21, 0, .slice a21 n21 c21), (b21, 1, .slice d21 m21 g21), (b30, 0, .slice a30 n30 c30), (b30, 1, .slice d30 m30 g30), (b12, 0, .slice a12 n12 c12), (b12, 1, .slice d12 m12 g12), (b14, 0, .slice a14 n14 c14), (b14, 1, .slice d14 m14 g14), (b25, 0, .slice a25 n25 c25), (b25, 1, .slice d25 m25 g25)]) := ⟨I8.out.2.1.mono b41, I8.out.2.2.go b41⟩
                  clear hg b41 I8
                  go_wp2_with (refine (id ?_ : wpList Tryd.prog _ _ (⟨some 112, _, _, _, _, _⟩ :: _) _ _); refine hold ?_)
                  intro _
                  refine wpList_grow3 rfl (.tmp 110) (.tmp 111) rfl g7 i4 rfl (I9.out.1.mono (bel_al (bel_refl _))) w41.heap.size rfl ?_ hi41 ?_
                  · intro j hj
                    match j, hj with
                    | 0, _ => simp
                    | 1, _ => simp
                    | 2, _ => simp
                  intro g5 c5 w42 hg
                  have b42 := bel_go (bel_al (o := .cells #[.int .u8 1, .int .u8 2, .int .u8 3] 5) (bel_refl w41)) (bel_none hg)
                  have S20 : Hid (SX w w42 [] [] [((.agg #[.slice a11 n11 c11, .slice d11 m11 g11]), PA, QA), ((.agg #[.slice a13 n13 c13, .slice d13 m13 g13]), PB, QB), ((.agg #[.slice a21 n21 c21, .slice d21 m21 g21]), PC, QC), ((.agg #[.slice a30 n30 c30, .slice d30 m30 g30]), PD, QD)] [((.agg #[.slice a12 n12 c12, .slice d12 m12 g12]), PA, QA), ((.agg #[.slice a14 n14 c14, .slice d14 m14 g14]), PB, QB), ((.agg #[.slice a25 n25 c25, .slice d25 m25 g25]), PC, QC)] [(b11, 0, .slice a11 n11 c11), (b11, 1, .slice d11 m11 g11), (b13, 0, .slice a13 n13 c13), (b13, 1, .slice d13 m13 g13), (b21, 0, .slice a21 n21 c21), (b21, 1, .slice d21 m21 g21), (b30, 0, .slice a30 n30 c30), (b30, 1, .slice d30 m30 g30), (b12, 0, .slice a12 n12 c12), (b12, 1, .slice d12 m12 g12), (b14, 0, .slice a14 n14 c14), (b14, 1, .slice d14 m14 g14), (b25, 0, .slice a25 n25 c25), (b25, 1, .slice d25 m25 g25)]) := I9.out.2.go b42
                  clear hg b42 I9
                  obtain ⟨N1, hN1⟩ : ∃ N1, N1 = i3 + 3 := ⟨_, rfl⟩
                  obtain ⟨N2, hN2⟩ : ∃ N2, N2 = i4 + 3 := ⟨_, rfl⟩
                  have d1 : decide ((N1 : Int) < 3) = false := decide_eq_false (by omega)
                  have d2 : decide ((N2 : Int) < 3) = false := decide_eq_false (by omega)
                  rw [← hN1, ← hN2]
                  clear hN1 hN2
                  go_wp2_with fail
                  go_roundw
                  case rel => exact ⟨i2 + 1, by omega, by go_num, S20.out⟩
                  case measure => simp [intOf]; omega
        · obtain rfl : i2 = 2 := by omega
          have S21 : Hid (SX w wr [] [] [((.agg #[.slice a11 n11 c11, .slice d11 m11 g11]), PA, QA), ((.agg #[.slice a13 n13 c13, .slice d13 m13 g13]), PB, QB), ((.agg #[.slice a21 n21 c21, .slice d21 m21 g21]), PC, QC), ((.agg #[.slice a30 n30 c30, .slice d30 m30 g30]), PD, QD)] [((.agg #[.slice a12 n12 c12, .slice d12 m12 g12]), PA, QA), ((.agg #[.slice a14 n14 c14, .slice d14 m14 g14]), PB, QB), ((.agg #[.slice a25 n25 c25, .slice d25 m25 g25]), PC, QC)] [(b11, 0, .slice a11 n11 c11), (b11, 1, .slice d11 m11 g11), (b13, 0, .slice a13 n13 c13), (b13, 1, .slice d13 m13 g13), (b21, 0, .slice a21 n21 c21), (b21, 1, .slice d21 m21 g21), (b30, 0, .slice a30 n30 c30), (b30, 1, .slice d30 m30 g30), (b12, 0, .slice a12 n12 c12), (b12, 1, .slice d12 m12 g12), (b14, 0, .slice a14 n14 c14), (b14, 1, .slice d14 m14 g14), (b25, 0, .slice a25 n25 c25), (b25, 1, .slice d25 m25 g25)]) := hS
          clear hS
          go_wp2_with fail
          refine wp_region_inv (JB wr [sEq (.bool true), sEq (.bool true), sEq (.bool true), sEq (.bool true), sEq (.bool true), sRt (PA) (QA), sRRt (PA) (QA), sEq (.bool true), sEq (.bool true), sEq (.bool true), sRt (PB) (QB), sRRt (PB) (QB), sEq (.bool true), sEq (.bool true), sEq (.bool true), sRt (PC) (QC), sRRt (PC) (QC), sEq (.bool true), sEq (.bool true), sEq (.bool true), sRt (PD) (QD), sRRt (PA) (QA), sRRt (PB) (QB), sRRt (PD) (QD), sEq (.bool true), sEq (.bool true), sEq (.bool true)] []) 147 (by kernel_rfl) rfl (by kernel_rfl) (JB.start _ _ _) (fun HG HN => ⟨?_, ?_, ?_, ?_, ?_, ?_, ?_, ?_, ?_, ?_, ?_, ?_, ?_, ?_, ?_, ?_, ?_, ?_, ?_, ?_, ?_, ?_, ?_, ?_, ?_, ?_, ?_, trivial⟩) ?_
          · intro L vs a w' hJ hF hP hL
            refine run_call (f := 10) (args := #[]) rfl (by simp [go_sem]) (rtold_true _ (FF.out.2.go (bel_go S21.out.bel hJ.bel))) ?_
            rintro e w2 ⟨rfl, hb⟩
            exact ⟨_, rfl, _, rfl, hJ.step hL rfl hb (by exact rfl)⟩
          · intro L vs a w' hJ hF hP hL
            have p0 : L 0 = true := hP ⟨0, .data⟩ (by simp) rfl
            have s0 : vs 0 = .bool true := hJ.sp 0 p0
            have q121 := hF.slot 0 121 rfl p0
            exact run_val (v := .bool true) rfl (by simp [execOp, go_sem, q121, s0]) ⟨_, rfl, hJ.step hL rfl (Below.refl _ _) (by exact rfl)⟩
          · intro L vs a w' hJ hF hP hL
            have q11 : (a.tmps[11]?).getD undef = .bool true := hF.old 11 rfl
            exact run_val (v := .bool true) (hF.wants 147 HN HG _ 1 true true rfl rfl (hP ⟨1, .guard⟩ (by simp) rfl) (hJ.sp 1 (hP ⟨1, .guard⟩ (by simp) rfl))) (by simp [execOp, go_sem, q11]) ⟨_, rfl, hJ.step hL rfl (Below.refl _ _) (by exact rfl)⟩
          · intro L vs a w' hJ hF hP hL
            have p1 : L 1 = true := hP ⟨1, .data⟩ (by simp) rfl
            have s1 : vs 1 = .bool true := hJ.sp 1 p1
            have q122 := hF.slot 1 122 rfl p1
            have p2 : L 2 = true := hP ⟨2, .data⟩ (by simp) rfl
            have s2 : vs 2 = .bool true := hJ.sp 2 p2
            have q123 := hF.slot 2 123 rfl p2
            exact run_val (v := .bool true) rfl (by simp [execOp, go_sem, q122, s1, q123, s2]) ⟨_, rfl, hJ.step hL rfl (Below.refl _ _) (by exact rfl)⟩
          · intro L vs a w' hJ hF hP hL
            have p3 : L 3 = true := hP ⟨3, .data⟩ (by simp) rfl
            have s3 : vs 3 = .bool true := hJ.sp 3 p3
            have q124 := hF.slot 3 124 rfl p3
            exact run_val (v := .bool true) rfl (by simp [execOp, go_sem, q124, s3]) ⟨_, rfl, hJ.step hL rfl (Below.refl _ _) (by exact rfl)⟩
          · intro L vs a w' hJ hF hP hL
            have q5 : (a.tmps[5]?).getD undef = .pointer (some ⟨b11, 0, none⟩) := hF.old 5 rfl
            have cb := cell_later hJ.bel (S21.out.cel (b11) 0 (.slice a11 n11 c11))
            have cc := cell_later hJ.bel (S21.out.cel (b11) 1 (.slice d11 m11 g11))
            exact run_val (v := .agg #[.slice a11 n11 c11, .slice d11 m11 g11]) (hF.wants 147 HN HG _ 4 true true rfl rfl (hP ⟨4, .guard⟩ (by simp) rfl) (hJ.sp 4 (hP ⟨4, .guard⟩ (by simp) rfl))) (by simp [execOp, go_sem, q5, cb, cc]) ⟨_, rfl, hJ.step hL rfl (Below.refl _ _) (by exact ((S21.out.fr (.agg #[.slice a11 n11 c11, .slice d11 m11 g11]) (PA) (QA)).mono hJ.bel))⟩
          · intro L vs a w' hJ hF hP hL
            have q6 : (a.tmps[6]?).getD undef = .pointer (some ⟨b12, 0, none⟩) := hF.old 6 rfl
            have cb := cell_later hJ.bel (S21.out.cel (b12) 0 (.slice a12 n12 c12))
            have cc := cell_later hJ.bel (S21.out.cel (b12) 1 (.slice d12 m12 g12))
            exact run_val (v := .agg #[.slice a12 n12 c12, .slice d12 m12 g12]) (hF.wants 147 HN HG _ 4 true true rfl rfl (hP ⟨4, .guard⟩ (by simp) rfl) (hJ.sp 4 (hP ⟨4, .guard⟩ (by simp) rfl))) (by simp [execOp, go_sem, q6, cb, cc]) ⟨_, rfl, hJ.step hL rfl (Below.refl _ _) (by exact ((S21.out.rfr (.agg #[.slice a12 n12 c12, .slice d12 m12 g12]) (PA) (QA)).mono hJ.bel))⟩
          · intro L vs a w' hJ hF hP hL
            have p5 : L 5 = true := hP ⟨5, .data⟩ (by simp) rfl
            have s5 : Rt w' (vs 5) (PA) (QA) := hJ.sp 5 p5
            have q126 := hF.slot 5 126 rfl p5
            have p6 : L 6 = true := hP ⟨6, .data⟩ (by simp) rfl
            have s6 : RRt w' (vs 6) (PA) (QA) := hJ.sp 6 p6
            have q127 := hF.slot 6 127 rfl p6
            refine run_call (f := 11) (args := #[vs 5, vs 6]) (hF.wants 147 HN HG _ 4 true true rfl rfl (hP ⟨4, .guard⟩ (by simp) rfl) (hJ.sp 4 (hP ⟨4, .guard⟩ (by simp) rfl))) (by simp [go_sem, q126, q127]) (rsame_true _ _ PA QA _ s5 s6 RR.out.1 RR.out.2.1) ?_
            rintro e w2 ⟨rfl, hb⟩
            exact ⟨_, rfl, _, rfl, hJ.step hL rfl hb (by exact rfl)⟩
          · intro L vs a w' hJ hF hP hL
            have p4 : L 4 = true := hP ⟨4, .data⟩ (by simp) rfl
            have s4 : vs 4 = .bool true := hJ.sp 4 p4
            have q125 := hF.slot 4 125 rfl p4
            have p7 : L 7 = true := hP ⟨7, .data⟩ (by simp) rfl
            have s7 : vs 7 = .bool true := hJ.sp 7 p7
            have q128 := hF.slot 7 128 rfl p7
            exact run_val (v := .bool true) rfl (by simp [execOp, go_sem, q125, s4, q128, s7]) ⟨_, rfl, hJ.step hL rfl (Below.refl _ _) (by exact rfl)⟩
          · intro L vs a w' hJ hF hP hL
            have p8 : L 8 = true := hP ⟨8, .data⟩ (by simp) rfl
            have s8 : vs 8 = .bool true := hJ.sp 8 p8
            have q129 := hF.slot 8 129 rfl p8
            exact run_val (v := .bool true) rfl (by simp [execOp, go_sem, q129, s8]) ⟨_, rfl, hJ.step hL rfl (Below.refl _ _) (by exact rfl)⟩
          · intro L vs a w' hJ hF hP hL
            have q7 : (a.tmps[7]?).getD undef = .pointer (some ⟨b13, 0, none⟩) := hF.old 7 rfl
            have cb := cell_later hJ.bel (S21.out.cel (b13) 0 (.slice a13 n13 c13))
            have cc := cell_later hJ.bel (S21.out.cel (b13) 1 (.slice d13 m13 g13))
            exact run_val (v := .agg #[.slice a13 n13 c13, .slice d13 m13 g13]) (hF.wants 147 HN HG _ 9 true true rfl rfl (hP ⟨9, .guard⟩ (by simp) rfl) (hJ.sp 9 (hP ⟨9, .guard⟩ (by simp) rfl))) (by simp [execOp, go_sem, q7, cb, cc]) ⟨_, rfl, hJ.step hL rfl (Below.refl _ _) (by exact ((S21.out.fr (.agg #[.slice a13 n13 c13, .slice d13 m13 g13]) (PB) (QB)).mono hJ.bel))⟩
          · intro L vs a w' hJ hF hP hL
            have q8 : (a.tmps[8]?).getD undef = .pointer (some ⟨b14, 0, none⟩) := hF.old 8 rfl
            have cb := cell_later hJ.bel (S21.out.cel (b14) 0 (.slice a14 n14 c14))
            have cc := cell_later hJ.bel (S21.out.cel (b14) 1 (.slice d14 m14 g14))
            exact run_val (v := .agg #[.slice a14 n14 c14, .slice d14 m14 g14]) (hF.wants 147 HN HG _ 9 true true rfl rfl (hP ⟨9, .guard⟩ (by simp) rfl) (hJ.sp 9 (hP ⟨9, .guard⟩ (by simp) rfl))) (by simp [execOp, go_sem, q8, cb, cc]) ⟨_, rfl, hJ.step hL rfl (Below.refl _ _) (by exact ((S21.out.rfr (.agg #[.slice a14 n14 c14, .slice d14 m14 g14]) (PB) (QB)).mono hJ.bel))⟩
          · intro L vs a w' hJ hF hP hL
            have p10 : L 10 = true := hP ⟨10, .data⟩ (by simp) rfl
            have s10 : Rt w' (vs 10) (PB) (QB) := hJ.sp 10 p10
            have q131 := hF.slot 10 131 rfl p10
            have p11 : L 11 = true := hP ⟨11, .data⟩ (by simp) rfl
            have s11 : RRt w' (vs 11) (PB) (QB) := hJ.sp 11 p11
            have q132 := hF.slot 11 132 rfl p11
            refine run_call (f := 11) (args := #[vs 10, vs 11]) (hF.wants 147 HN HG _ 9 true true rfl rfl (hP ⟨9, .guard⟩ (by simp) rfl) (hJ.sp 9 (hP ⟨9, .guard⟩ (by simp) rfl))) (by simp [go_sem, q131, q132]) (rsame_true _ _ PB QB _ s10 s11 RR.out.2.2.1 RR.out.2.2.2.1) ?_
            rintro e w2 ⟨rfl, hb⟩
            exact ⟨_, rfl, _, rfl, hJ.step hL rfl hb (by exact rfl)⟩
          · intro L vs a w' hJ hF hP hL
            have p9 : L 9 = true := hP ⟨9, .data⟩ (by simp) rfl
            have s9 : vs 9 = .bool true := hJ.sp 9 p9
            have q130 := hF.slot 9 130 rfl p9
            have p12 : L 12 = true := hP ⟨12, .data⟩ (by simp) rfl
            have s12 : vs 12 = .bool true := hJ.sp 12 p12
            have q133 := hF.slot 12 133 rfl p12
            exact run_val (v := .bool true) rfl (by simp [execOp, go_sem, q130, s9, q133, s12]) ⟨_, rfl, hJ.step hL rfl (Below.refl _ _) (by exact rfl)⟩
          · intro L vs a w' hJ hF hP hL
            have p13 : L 13 = true := hP ⟨13, .data⟩ (by simp) rfl
            have s13 : vs 13 = .bool true := hJ.sp 13 p13
            have q134 := hF.slot 13 134 rfl p13
            exact run_val (v := .bool true) rfl (by simp [execOp, go_sem, q134, s13]) ⟨_, rfl, hJ.step hL rfl (Below.refl _ _) (by exact rfl)⟩
          · intro L vs a w' hJ hF hP hL
            have q10 : (a.tmps[10]?).getD undef = .pointer (some ⟨b21, 0, none⟩) := hF.old 10 rfl
            have cb := cell_later hJ.bel (S21.out.cel (b21) 0 (.slice a21 n21 c21))
            have cc := cell_later hJ.bel (S21.out.cel (b21) 1 (.slice d21 m21 g21))
            exact run_val (v := .agg #[.slice a21 n21 c21, .slice d21 m21 g21]) (hF.wants 147 HN HG _ 14 true true rfl rfl (hP ⟨14, .guard⟩ (by simp) rfl) (hJ.sp 14 (hP ⟨14, .guard⟩ (by simp) rfl))) (by simp [execOp, go_sem, q10, cb, cc]) ⟨_, rfl, hJ.step hL rfl (Below.refl _ _) (by exact ((S21.out.fr (.agg #[.slice a21 n21 c21, .slice d21 m21 g21]) (PC) (QC)).mono hJ.bel))⟩
          · intro L vs a w' hJ hF hP hL
            have q12 : (a.tmps[12]?).getD undef = .pointer (some ⟨b25, 0, none⟩) := hF.old 12 rfl
            have cb := cell_later hJ.bel (S21.out.cel (b25) 0 (.slice a25 n25 c25))
            have cc := cell_later hJ.bel (S21.out.cel (b25) 1 (.slice d25 m25 g25))
            exact run_val (v := .agg #[.slice a25 n25 c25, .slice d25 m25 g25]) (hF.wants 147 HN HG _ 14 true true rfl rfl (hP ⟨14, .guard⟩ (by simp) rfl) (hJ.sp 14 (hP ⟨14, .guard⟩ (by simp) rfl))) (by simp [execOp, go_sem, q12, cb, cc]) ⟨_, rfl, hJ.step hL rfl (Below.refl _ _) (by exact ((S21.out.rfr (.agg #[.slice a25 n25 c25, .slice d25 m25 g25]) (PC) (QC)).mono hJ.bel))⟩
          · intro L vs a w' hJ hF hP hL
            have p15 : L 15 = true := hP ⟨15, .data⟩ (by simp) rfl
            have s15 : Rt w' (vs 15) (PC) (QC) := hJ.sp 15 p15
            have q136 := hF.slot 15 136 rfl p15
            have p16 : L 16 = true := hP ⟨16, .data⟩ (by simp) rfl
            have s16 : RRt w' (vs 16) (PC) (QC) := hJ.sp 16 p16
            have q137 := hF.slot 16 137 rfl p16
            refine run_call (f := 11) (args := #[vs 15, vs 16]) (hF.wants 147 HN HG _ 14 true true rfl rfl (hP ⟨14, .guard⟩ (by simp) rfl) (hJ.sp 14 (hP ⟨14, .guard⟩ (by simp) rfl))) (by simp [go_sem, q136, q137]) (rsame_true _ _ PC QC _ s15 s16 RR.out.2.2.2.2.1 RR.out.2.2.2.2.2.1) ?_
            rintro e w2 ⟨rfl, hb⟩
            exact ⟨_, rfl, _, rfl, hJ.step hL rfl hb (by exact rfl)⟩
          · intro L vs a w' hJ hF hP hL
            have p14 : L 14 = true := hP ⟨14, .data⟩ (by simp) rfl
            have s14 : vs 14 = .bool true := hJ.sp 14 p14
            have q135 := hF.slot 14 135 rfl p14
            have p17 : L 17 = true := hP ⟨17, .data⟩ (by simp) rfl
            have s17 : vs 17 = .bool true := hJ.sp 17 p17
            have q138 := hF.slot 17 138 rfl p17
            exact run_val (v := .bool true) rfl (by simp [execOp, go_sem, q135, s14, q138, s17]) ⟨_, rfl, hJ.step hL rfl (Below.refl _ _) (by exact rfl)⟩
          · intro L vs a w' hJ hF hP hL
            have p18 : L 18 = true := hP ⟨18, .data⟩ (by simp) rfl
            have s18 : vs 18 = .bool true := hJ.sp 18 p18
            have q139 := hF.slot 18 139 rfl p18
            exact run_val (v := .bool true) rfl (by simp [execOp, go_sem, q139, s18]) ⟨_, rfl, hJ.step hL rfl (Below.refl _ _) (by exact rfl)⟩
          · intro L vs a w' hJ hF hP hL
            have q15 : (a.tmps[15]?).getD undef = .pointer (some ⟨b30, 0, none⟩) := hF.old 15 rfl
            have cb := cell_later hJ.bel (S21.out.cel (b30) 0 (.slice a30 n30 c30))
            have cc := cell_later hJ.bel (S21.out.cel (b30) 1 (.slice d30 m30 g30))
            exact run_val (v := .agg #[.slice a30 n30 c30, .slice d30 m30 g30]) (hF.wants 147 HN HG _ 19 true true rfl rfl (hP ⟨19, .guard⟩ (by simp) rfl) (hJ.sp 19 (hP ⟨19, .guard⟩ (by simp) rfl))) (by simp [execOp, go_sem, q15, cb, cc]) ⟨_, rfl, hJ.step hL rfl (Below.refl _ _) (by exact ((S21.out.fr (.agg #[.slice a30 n30 c30, .slice d30 m30 g30]) (PD) (QD)).mono hJ.bel))⟩
          · intro L vs a w' hJ hF hP hL
            have q6 : (a.tmps[6]?).getD undef = .pointer (some ⟨b12, 0, none⟩) := hF.old 6 rfl
            have cb := cell_later hJ.bel (S21.out.cel (b12) 0 (.slice a12 n12 c12))
            have cc := cell_later hJ.bel (S21.out.cel (b12) 1 (.slice d12 m12 g12))
            exact run_val (v := .agg #[.slice a12 n12 c12, .slice d12 m12 g12]) (hF.wants 147 HN HG _ 19 true true rfl rfl (hP ⟨19, .guard⟩ (by simp) rfl) (hJ.sp 19 (hP ⟨19, .guard⟩ (by simp) rfl))) (by simp [execOp, go_sem, q6, cb, cc]) ⟨_, rfl, hJ.step hL rfl (Below.refl _ _) (by exact ((S21.out.rfr (.agg #[.slice a12 n12 c12, .slice d12 m12 g12]) (PA) (QA)).mono hJ.bel))⟩
          · intro L vs a w' hJ hF hP hL
            have q8 : (a.tmps[8]?).getD undef = .pointer (some ⟨b14, 0, none⟩) := hF.old 8 rfl
            have cb := cell_later hJ.bel (S21.out.cel (b14) 0 (.slice a14 n14 c14))
            have cc := cell_later hJ.bel (S21.out.cel (b14) 1 (.slice d14 m14 g14))
            exact run_val (v := .agg #[.slice a14 n14 c14, .slice d14 m14 g14]) (hF.wants 147 HN HG _ 19 true true rfl rfl (hP ⟨19, .guard⟩ (by simp) rfl) (hJ.sp 19 (hP ⟨19, .guard⟩ (by simp) rfl))) (by simp [execOp, go_sem, q8, cb, cc]) ⟨_, rfl, hJ.step hL rfl (Below.refl _ _) (by exact ((S21.out.rfr (.agg #[.slice a14 n14 c14, .slice d14 m14 g14]) (PB) (QB)).mono hJ.bel))⟩
          · intro L vs a w' hJ hF hP hL
            have p21 : L 21 = true := hP ⟨21, .data⟩ (by simp) rfl
            have s21 : RRt w' (vs 21) (PA) (QA) := hJ.sp 21 p21
            have q142 := hF.slot 21 142 rfl p21
            have p22 : L 22 = true := hP ⟨22, .data⟩ (by simp) rfl
            have s22 : RRt w' (vs 22) (PB) (QB) := hJ.sp 22 p22
            have q143 := hF.slot 22 143 rfl p22
            refine run_call (f := 42) (args := #[vs 21, vs 22]) (hF.wants 147 HN HG _ 19 true true rfl rfl (hP ⟨19, .guard⟩ (by simp) rfl) (hJ.sp 19 (hP ⟨19, .guard⟩ (by simp) rfl))) (by simp [go_sem, q142, q143]) (AR.out _ _ _ s21 s22) ?_
            rintro e w2 ⟨v, rfl, hv, hb⟩
            exact ⟨_, rfl, _, rfl, hJ.step hL rfl hb (by exact hv)⟩
          · intro L vs a w' hJ hF hP hL
            have p20 : L 20 = true := hP ⟨20, .data⟩ (by simp) rfl
            have s20 : Rt w' (vs 20) (PD) (QD) := hJ.sp 20 p20
            have q141 := hF.slot 20 141 rfl p20
            have p23 : L 23 = true := hP ⟨23, .data⟩ (by simp) rfl
            have s23 : RRt w' (vs 23) (PD) (QD) := hJ.sp 23 p23
            have q144 := hF.slot 23 144 rfl p23
            refine run_call (f := 11) (args := #[vs 20, vs 23]) (hF.wants 147 HN HG _ 19 true true rfl rfl (hP ⟨19, .guard⟩ (by simp) rfl) (hJ.sp 19 (hP ⟨19, .guard⟩ (by simp) rfl))) (by simp [go_sem, q141, q144]) (rsame_true _ _ PD QD _ s20 s23 RR.out.2.2.2.2.2.2.1 RR.out.2.2.2.2.2.2.2) ?_
            rintro e w2 ⟨rfl, hb⟩
            exact ⟨_, rfl, _, rfl, hJ.step hL rfl hb (by exact rfl)⟩
          · intro L vs a w' hJ hF hP hL
            have p19 : L 19 = true := hP ⟨19, .data⟩ (by simp) rfl
            have s19 : vs 19 = .bool true := hJ.sp 19 p19
            have q140 := hF.slot 19 140 rfl p19
            have p24 : L 24 = true := hP ⟨24, .data⟩ (by simp) rfl
            have s24 : vs 24 = .bool true := hJ.sp 24 p24
            have q145 := hF.slot 24 145 rfl p24
            exact run_val (v := .bool true) rfl (by simp [execOp, go_sem, q140, s19, q145, s24]) ⟨_, rfl, hJ.step hL rfl (Below.refl _ _) (by exact rfl)⟩
          · intro L vs a w' hJ hF hP hL
            have p25 : L 25 = true := hP ⟨25, .data⟩ (by simp) rfl
            have s25 : vs 25 = .bool true := hJ.sp 25 p25
            have q146 := hF.slot 25 146 rfl p25
            exact run_val (v := .bool true) rfl (by simp [execOp, go_sem, q146, s25]) ⟨_, rfl, hJ.step hL rfl (Below.refl _ _) (by exact rfl)⟩
          intro L vs w' hA hJ
          have s26 : vs 26 = .bool true := hJ.sp 26 (hA 26 (by simp))
          simp only [putL, Act.put, List.setIfInBounds_toArray, List.set_cons_zero, List.set_cons_succ, Nat.reduceAdd]
          simp only [s26]
          have B : Hid _ := (S21.out.go hJ.bel).bel
          clear s26 hJ hA S21
          go_wp2_with fail
          go_ret
          exact ⟨rfl, B.out⟩
end Go.Proofs.YtkhdapmipcghoaaDoor
namespace Go.Proofs.YtkhdapmipcghoaaDoor
open Go.ChangeShapes Go.WideShapes Go.ChangeAt Go.RowKit
set_option linter.unusedVariables false
theorem ownD : ownKnob Tryd.prog.godebug = none := by kernel_rfl
theorem cellsF : Tryd.prog.cellsOf 24 = 2 := by kernel_rfl
theorem cellsB : Tryd.prog.cellsOf 22 = 1 := by kernel_rfl
theorem laidOutD : laidOutB Tryd.prog = true := by kernel_rfl

def IsRow (k : IntKind) (w : World) (a : Option Addr) (len cap : Nat) (zs : List Int) : Prop :=
  (a = none ∧ len = 0 ∧ cap = 0 ∧ zs = []) ∨
  ∃ x, a = some x ∧ len ≤ cap ∧ cap ≤ maxLen ∧ zs.length = cap ∧ (∀ i, i < zs.length → w.cell? (x.add i) = some (.int k (zs.getD i 0))) ∧ ∀ n ∈ zs, (Lit.int k n).wf = true

theorem row_bsl {w : World} {a : Option Addr} {len cap : Nat} {zs : List Int} (h : IsRow .u8 w a len cap zs) : BSl w a len cap (fun i => (zs.getD i 0).toNat) := by
  rcases h with ⟨rfl, rfl, rfl, rfl⟩ | ⟨x, rfl, hl, hm, hz, hcell, hwz⟩
  · exact ⟨Nat.le_refl _, by omega, fun i hi => absurd hi (by omega), .inl rfl⟩
  · have hw : ∀ i, i < len → 0 ≤ zs.getD i 0 ∧ zs.getD i 0 < 256 := by
      intro i hi
      have hi2 : i < zs.length := by omega
      have := hwz (zs.getD i 0) (by rw [List.getD_eq_getElem?_getD, List.getElem?_eq_getElem hi2]; exact List.getElem_mem hi2)
      have hmin : IntKind.u8.min = 0 := rfl
      have hmax : IntKind.u8.max = 255 := rfl
      have h2 : IntKind.u8.min ≤ zs.getD i 0 ∧ zs.getD i 0 ≤ IntKind.u8.max := by simpa [Lit.wf] using this
      rw [hmin, hmax] at h2
      omega
    refine ⟨hl, by simp only [maxLen] at hm; omega, fun i hi => ?_, ?_⟩
    · have := hw i hi
      show (zs.getD i 0).toNat < 256
      omega
    · rcases Nat.eq_zero_or_pos len with e | e
      · exact .inl e
      · obtain ⟨b, off, spot⟩ := x
        have hc := hcell 0 (by omega)
        have hspot : spot = none := by simpa [Addr.add] using World.cell?_spot hc
        subst hspot
        refine .inr ⟨b, off, rfl, fun i hi => ?_⟩
        have h1 := hcell i (by omega)
        have h2 := hw i hi
        have h3 : (⟨b, off, none⟩ : Addr).add i = ⟨b, off + i, none⟩ := by unfold Addr.add; split <;> simp_all
        rw [h3] at h1
        rw [h1]
        show some (Value.int .u8 (zs.getD i 0)) = some (Value.int .u8 (((zs.getD i 0).toNat : Nat) : Int))
        rw [Int.toNat_of_nonneg h2.1]

theorem row_nil {k : IntKind} {w : World} {a : Option Addr} {len cap : Nat} {zs : List Int} (h : IsRow k w a len cap zs) : a = none → cap = 0 := by
  rcases h with ⟨_, _, h, _⟩ | ⟨x, e, _⟩
  · exact fun _ => h
  · intro e2
    rw [e2] at e
    cases e
theorem open_two {P : Program} {t tb te : TypeId} {f0 f1 : Field} (ht : P.underlying t = some (.struct #[f0, f1])) (h0t : f0.type = tb) (h0o : f0.offset = 0) (h1t : f1.type = tb) (h1o : f1.offset = 1) (hb : P.underlying tb = some (.slice te)) (he : P.underlying te = some (.int .u8)) (hce : P.cellsOf te = 1) (hcb : P.cellsOf tb = 1) (hct : P.cellsOf t = 2)
    {W : World} {H : Type} {enc : TypeId × Value → H} {base : Nat} {v : Value} {d : DataW H} {ps : List MemPlace} : Value.okWide P W .any base t v → DataW.Trod enc P W 0 (fun _ => true) true t v d ps →
    ∃ a2 len2 cap2 z2 a3 len3 cap3 z3, v = .agg #[.slice a2 len2 cap2, .slice a3 len3 cap3] ∧ IsRow .u8 W a2 len2 cap2 z2 ∧ IsRow .u8 W a3 len3 cap3 z3 := by
  intro ho h
  obtain ⟨cs, rfl, hsz⟩ := okWide_struct ht ho
  rw [hct] at hsz
  obtain ⟨l⟩ := cs
  obtain ⟨c0, c1, rfl⟩ : ∃ c0 c1, l = [c0, c1] := by
    match l, hsz with
    | [c0, c1], _ => exact ⟨c0, c1, rfl⟩
  obtain ⟨fuel, hf⟩ := h
  obtain ⟨y0, y1, m, _, _, hy0, hy1⟩ := trod_struct2 ht hf
  rw [h0t, h0o, hcb] at hy0
  rw [h1t, h1o, hcb] at hy1
  simp [Value.cells] at hy0 hy1
  have one : ∀ c y, DataW.trod enc P W 0 (fun _ => true) true m tb [c] = some y → ∃ a len cap zs, c = .slice a len cap ∧ IsRow .u8 W a len cap zs := fun c y hy => by
    rcases open_ints hb he hce hy with ⟨hcs, _⟩ | ⟨x, l, c, zs, hcs, _, hl, hm, hz, _, hcell, hwz⟩
    · simp at hcs
      exact ⟨_, _, _, [], hcs, .inl ⟨rfl, rfl, rfl, rfl⟩⟩
    · simp at hcs
      exact ⟨_, _, _, zs, hcs, .inr ⟨_, rfl, hl, hm, by simpa using hz, hcell, hwz⟩⟩
  obtain ⟨b0, l0, k0, z0, rfl, g0⟩ := one _ _ hy0
  obtain ⟨b1, l1, k1, z1, rfl, g1⟩ := one _ _ hy1
  exact ⟨_, _, _, _, _, _, _, _, rfl, g0, g1⟩
theorem openF {W : World} {H : Type} {enc : TypeId × Value → H} {base : Nat} {v : Value} {d : DataW H} {ps : List MemPlace} : Value.okWide Tryd.prog W .any base 24 v → DataW.Trod enc Tryd.prog W 0 (fun _ => true) true 24 v d ps →
    ∃ a2 len2 cap2 z2 a3 len3 cap3 z3, v = .agg #[.slice a2 len2 cap2, .slice a3 len3 cap3] ∧ IsRow .u8 W a2 len2 cap2 z2 ∧ IsRow .u8 W a3 len3 cap3 z3 :=
  open_two Tryd.underlying24 rfl rfl rfl rfl Tryd.underlying22 Tryd.underlying5 (by kernel_rfl) cellsB cellsF
end Go.Proofs.YtkhdapmipcghoaaDoor
