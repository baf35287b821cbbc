/- Contracts of the program's functions, part 12: own work, joined in build order. -/
import Derived.Test.YtkhdapmipcghoaaDoorJ11
import Derived.WalkKit
import Derived.ProofKit
import Derived.OpenShut
import Derived.ShutString
import Derived.ChangeOld
import Derived.Below
import Derived.LaidMore
import Derived.Lib.LaidTab
namespace Go.Proofs.YtkhdapmipcghoaaDoor
open Go.RowKit
set_option maxRecDepth 100000
set_option linter.unusedVariables false
/-- What Of answers, in the program and in the document. -/
theorem of_both (p q : Int) (hp : p ≤ 9223372036854775807) (hq : q ≤ 9223372036854775807) : ∃ (a b : Nat) (ok : Bool), RS a ∧ RS b ∧ (∀ w, Tab w → Calls Tryd.prog 8 #[.int .i64 p, .int .i64 q] w (MakesRB w a b ok)) ∧ ∀ w, Calls Tryd.prog 9 #[.int .i64 p, .int .i64 q] w (MakesRRB w a b ok) := by
  by_cases h : p < 0 ∨ q < 1
  · exact ⟨0, 1, false, rs_few (by omega), rs_few (by omega), fun w _ => ratOf_no p q w h, fun w => rof2_no p q w h⟩
  · obtain ⟨m, rfl⟩ : ∃ m : Nat, p = (m : Int) := ⟨p.toNat, by omega⟩
    obtain ⟨n, rfl⟩ : ∃ n : Nat, q = (n : Int) := ⟨q.toNat, by omega⟩
    refine ⟨m / Nat.gcd m n, n / Nat.gcd m n, true, (rs_word (x := m) (by omega)).le (Nat.div_le_self _ _), (rs_word (x := n) (by omega)).le (Nat.div_le_self _ _), fun w hT => ratOf_yes m n w (by omega) (by omega) (by omega) hT, fun w => rof2_yes m n w (by omega) (by omega) (by omega)⟩
theorem from_both (x y : Nat) (hx : x < P 15) (hy : y < P 15) : ∃ (a b : Nat) (ok : Bool), RS a ∧ RS b ∧ (∀ v u w, IsNat w v x → IsNat w u y → Tab w → Calls Tryd.prog 13 #[v, u] w (MakesRB w a b ok)) ∧ ∀ v u w, RNat w v x → RNat w u y → Calls Tryd.prog 16 #[v, u] w (MakesRRB w a b ok) := by
  by_cases h : y = 0
  · refine ⟨0, 1, false, rs_few (by omega), rs_few (by omega), fun v u w h1 h2 _ => from_none v u x w h1 (h ▸ h2), fun v u w h1 h2 => rfrom2_none v u x y w h1 h2 (rs15 hx).rsome (rs15 hy).rsome h⟩
  · exact ⟨x / Nat.gcd x y, y / Nat.gcd x y, true, (rs15 hx).le (Nat.div_le_self _ _), (rs15 hy).le (Nat.div_le_self _ _), fun v u w h1 h2 hT => from_any v u x y w h1 h2 (rs15 hx) (rs15 hy) (by omega) hT, fun v u w h1 h2 => rfrom2_yes v u x y w h1 h2 (rs15 hx).rsome (rs15 hy).rsome (by omega)⟩
set_option maxHeartbeats 16000000 in
theorem ratMakes_true (p q : Int) (a0 : Option Addr) (l0 k0 : Nat) (D0 : Nat → Nat) (a9 : Option Addr) (l9 k9 : Nat) (D9 : Nat → Nat) (w : World) (hB0 : BSl w a0 l0 k0 D0) (hB9 : BSl w a9 l9 k9 D9) (hp1 : p ≤ 9223372036854775807) (hq1 : q ≤ 9223372036854775807) (hT : Tab w) :
    Calls Tryd.prog 3 #[.int .i64 p, .int .i64 q, .agg #[.slice a0 l0 k0, .slice a9 l9 k9]] w fun e w' => e = .returned (.bool true) ∧ Below w.heap.size w w' := by
  obtain ⟨m0, x, f0⟩ := fed_of hB0
  obtain ⟨m9, y, f9⟩ := fed_of hB9
  obtain ⟨P1, Q1, ok1, o1, o2, o3, o4⟩ := of_both p q hp1 hq1
  obtain ⟨P3, Q3, ok3, r1, r2, r3, r4⟩ := from_both x y f0.rs f9.rs
  obtain ⟨P2, eP2⟩ : ∃ P2, P2 = x / Nat.gcd x (orOne y) := ⟨_, rfl⟩
  obtain ⟨Q2, eQ2⟩ : ∃ Q2, Q2 = orOne y / Nat.gcd x (orOne y) := ⟨_, rfl⟩
  have FF : Hid (Fed w a0 l0 k0 m0 x ∧ Fed w a9 l9 k9 m9 y ∧ Tab w) := ⟨f0, f9, hT⟩
  have OO : Hid (RS P1 ∧ RS Q1) := ⟨o1, o2⟩
  have O3 : Hid _ := o3
  have O4 : Hid _ := o4
  have RR : Hid (RS P3 ∧ RS Q3) := ⟨r1, r2⟩
  have R3 : Hid _ := r3
  have R4 : Hid _ := r4
  have MM : Hid (RS P2 ∧ RS Q2) := ⟨by rw [eP2]; exact (rs15 f0.rs).le (Nat.div_le_self _ _), by rw [eQ2]; exact (rs15 (orOne_15 f9.rs)).le (Nat.div_le_self _ _)⟩
  have MD : Hid (∀ w', Below w.heap.size w w' → Calls Tryd.prog 12 #[.agg #[.slice a0 l0 k0, .slice a9 l9 k9]] w' (MakesM w' P2 Q2)) := fun w' hb => by
    rw [eP2, eQ2]
    exact made_true a0 l0 k0 a9 l9 k9 m0 m9 x y w' (f0.go hb) (f9.go hb) (hT.go hb)
  have S0 : Hid _ := (sq_start w).box (.slice a0 l0 k0) (.slice a9 l9 k9) 24 _ rfl
  obtain ⟨i1, ei1⟩ : ∃ i1, i1 = intV P1 Q1 := ⟨_, rfl⟩
  obtain ⟨j1, ej1⟩ : ∃ j1, j1 = intB P1 Q1 := ⟨_, rfl⟩
  obtain ⟨i2, ei2⟩ : ∃ i2, i2 = intV P2 Q2 := ⟨_, rfl⟩
  obtain ⟨j2, ej2⟩ : ∃ j2, j2 = intB P2 Q2 := ⟨_, rfl⟩
  have N1 : Hid (∀ v w, Rt w v P1 Q1 → Calls Tryd.prog 18 #[v] w fun e w' => e = .returned (.tuple #[.int .i64 i1, .bool j1]) ∧ Below w.heap.size w w') := fun v w h => by
    rw [ei1, ej1]; exact int_any v P1 Q1 w h o1 o2
  have N1' : Hid (∀ v w, RRt w v P1 Q1 → Calls Tryd.prog 19 #[v] w fun e w' => e = .returned (.tuple #[.int .i64 i1, .bool j1]) ∧ Below w.heap.size w w') := fun v w h => by
    rw [ei1, ej1]; exact rint2_any v P1 Q1 w h o1.rsome o2.rsome
  have N2 : Hid (∀ v w, Rt w v P2 Q2 → Calls Tryd.prog 18 #[v] w fun e w' => e = .returned (.tuple #[.int .i64 i2, .bool j2]) ∧ Below w.heap.size w w') := fun v w h => by
    rw [ei2, ej2]; exact int_any v P2 Q2 w h MM.out.1 MM.out.2
  have N2' : Hid (∀ v w, RRt w v P2 Q2 → Calls Tryd.prog 19 #[v] w fun e w' => e = .returned (.tuple #[.int .i64 i2, .bool j2]) ∧ Below w.heap.size w w') := fun v w h => by
    rw [ei2, ej2]; exact rint2_any v P2 Q2 w h MM.out.1.rsome MM.out.2.rsome
  clear f0 f9 hT o1 o2 o3 o4 r1 r2 r3 r4 eP2 eQ2 hB0 hB9 ei1 ej1 ei2 ej2
  go_enter Tryd.func3, Tryd.ntmps3
  go_wp2_with fail
  obtain ⟨w0, hw0⟩ : ∃ w0, w0 = w.alloc (.cells #[.slice a0 l0 k0, .slice a9 l9 k9] 24) := ⟨_, rfl⟩
  obtain ⟨b0, hb0⟩ : ∃ b0, b0 = w.heap.size := ⟨_, rfl⟩
  rw [← hw0, ← hb0] at S0
  rw [← hw0, ← hb0]
  clear hw0 hb0
  refine (O3.out _ (FF.out.2.2.go S0.out.bel)).mono ?_
  rintro e v1w ⟨v1, rfl, hv, hb⟩
  obtain ⟨a1, n1, c1, d1, m1, g1, ev, _, _⟩ := hv.raw
  subst ev
  have S1 : Hid _ := (((S0.out.go hb).addF hv).box (.slice a1 n1 c1) (.slice d1 m1 g1) 29 _ rfl)
  clear hv hb S0
  go_wp2_with fail
  obtain ⟨w1, hw⟩ : ∃ w1, w1 = v1w.alloc (.cells #[.slice a1 n1 c1, .slice d1 m1 g1] 29) := ⟨_, rfl⟩
  obtain ⟨b1, hb⟩ : ∃ b1, b1 = v1w.heap.size := ⟨_, rfl⟩
  rw [← hw, ← hb] at S1
  rw [← hw, ← hb]
  clear hw hb
  refine (O4.out _).mono ?_
  rintro e v2w ⟨v2, rfl, hv, hb⟩
  obtain ⟨a2, n2, c2, d2, m2, g2, ev, _, _⟩ := id hv
  subst ev
  have S2 : Hid _ := (((S1.out.go hb).addG hv).box (.slice a2 n2 c2) (.slice d2 m2 g2) 35 _ rfl)
  clear hv hb S1
  go_wp2_with fail
  obtain ⟨w2, hw⟩ : ∃ w2, w2 = v2w.alloc (.cells #[.slice a2 n2 c2, .slice d2 m2 g2] 35) := ⟨_, rfl⟩
  obtain ⟨b2, hb⟩ : ∃ b2, b2 = v2w.heap.size := ⟨_, rfl⟩
  rw [← hw, ← hb] at S2
  rw [← hw, ← hb]
  clear hw hb
  refine (rtold_true _ (FF.out.2.2.go S2.out.bel)).mono ?_
  rintro e w3 ⟨rfl, hb⟩
  have S3 : Hid _ := S2.out.go hb
  clear hb S2
  have e1 : (ok1 != ok1) = false := by simp
  have z1 := S3.out.cel b1 0 (.slice a1 n1 c1)
  have y1 := S3.out.cel b1 1 (.slice d1 m1 g1)
  have z2 := S3.out.cel b2 0 (.slice a2 n2 c2)
  have y2 := S3.out.cel b2 1 (.slice d2 m2 g2)
  go_wp2_with fail
  refine (rsame_true _ _ P1 Q1 _ (S3.out.fr (.agg #[.slice a1 n1 c1, .slice d1 m1 g1]) P1 Q1) (S3.out.rfr (.agg #[.slice a2 n2 c2, .slice d2 m2 g2]) P1 Q1) OO.out.1 OO.out.2).mono ?_
  rintro e w4 ⟨rfl, hb⟩
  have S4 : Hid _ := S3.out.go hb
  clear hb S3 e1 z1 y1 z2 y2
  have z0 := S4.out.cel b0 0 (.slice a0 l0 k0)
  have y0 := S4.out.cel b0 1 (.slice a9 l9 k9)
  go_wp2_with fail
  refine (MD.out _ S4.out.bel).mono ?_
  rintro e v5w ⟨v5, v6, rfl, hv, hu, hb⟩
  obtain ⟨a5, n5, c5, d5, m5, g5, ev, _, _⟩ := hv.raw
  subst ev
  obtain ⟨a6, n6, c6, d6, m6, g6, ev, _, _⟩ := id hu
  subst ev
  have S5 : Hid _ := ((((S4.out.go hb).addF hv).addG hu).box (.slice a5 n5 c5) (.slice d5 m5 g5) 29 _ rfl).box (.slice a6 n6 c6) (.slice d6 m6 g6) 35 _ rfl
  have PP : Hid (0 < Q2) := hv.pos
  clear hv hu hb S4 z0 y0
  simp only [World.size_alloc] at S5
  go_wp2_with fail
  obtain ⟨w5, hw⟩ : ∃ w5, w5 = (v5w.alloc (.cells #[.slice a5 n5 c5, .slice d5 m5 g5] 29)).alloc (.cells #[.slice a6 n6 c6, .slice d6 m6 g6] 35) := ⟨_, rfl⟩
  obtain ⟨b5, hb⟩ : ∃ b5, b5 = v5w.heap.size := ⟨_, rfl⟩
  rw [← hw, ← hb] at S5
  rw [← hw, ← hb]
  clear hw hb
  obtain ⟨b6, hb6⟩ : ∃ b6, b6 = b5 + 1 := ⟨_, rfl⟩
  rw [← hb6] at S5
  rw [← hb6]
  clear hb6
  refine wp_region_inv (JC w5 [sEq (.pointer (some ⟨b0, 0, none⟩)), sEq (.slice a0 l0 k0), sEq (.slice a0 m0 k0), sNat (x), sEq (.pointer (some ⟨b0, 1, none⟩)), sEq (.slice a9 l9 k9), sEq (.slice a9 m9 k9), sNat (y), sRtB (P3) (Q3) ok3, sRtB (P3) (Q3) ok3, sRt (P3) (Q3), sEq (.bool ok3), sAny, sAny, sEq (.bool ok3)] (12, 13, 10)) 142 (by kernel_rfl) rfl (by kernel_rfl) (JC.start _ _ _) (fun HG HN => ⟨?_, ?_, ?_, ?_, ?_, ?_, ?_, ?_, ?_, ?_, ?_, ?_, ?_, ?_, ?_, trivial⟩) ?_
  · intro L vs a w' hJ hF hP hL
    have q5 : (a.tmps[5]?).getD undef = .pointer (some ⟨b0, 0, none⟩) := hF.old 5 rfl
    exact run_val (v := .pointer (some ⟨b0, 0, none⟩)) rfl (by simp [execOp, go_sem, q5]) ⟨_, rfl, hJ.step hL rfl (Below.refl _ _) (by exact rfl)⟩
  · intro L vs a w' hJ hF hP hL
    have p0 : L 0 = true := hP ⟨0, .data⟩ (by simp) rfl
    have s0 : vs 0 = .pointer (some ⟨b0, 0, none⟩) := hJ.sp 0 p0
    have q52 := hF.slot 0 52 rfl p0
    have cb := cell_later hJ.bel (S5.out.cel (b0) 0 (.slice a0 l0 k0))
    exact run_val (v := .slice a0 l0 k0) rfl (by simp [execOp, go_sem, q52, s0, cb]) ⟨_, rfl, hJ.step hL rfl (Below.refl _ _) (by exact rfl)⟩
  · intro L vs a w' hJ hF hP hL
    have p1 : L 1 = true := hP ⟨1, .data⟩ (by simp) rfl
    have s1 : vs 1 = .slice a0 l0 k0 := hJ.sp 1 p1
    have q53 := hF.slot 1 53 rfl p1
    refine run_call (f := 15) (args := #[.slice a0 l0 k0]) rfl (by simp [go_sem, q53, s1]) (FF.out.1.cut _ (bel_go S5.out.bel hJ.bel)) ?_
    rintro e w2 ⟨rfl, hb⟩
    exact ⟨_, rfl, _, rfl, hJ.step hL rfl hb (by exact rfl)⟩
  · intro L vs a w' hJ hF hP hL
    have p2 : L 2 = true := hP ⟨2, .data⟩ (by simp) rfl
    have s2 : vs 2 = .slice a0 m0 k0 := hJ.sp 2 p2
    have q54 := hF.slot 2 54 rfl p2
    refine run_call (f := 14) (args := #[.slice a0 m0 k0]) rfl (by simp [go_sem, q54, s2]) (FF.out.1.nat _ (bel_go S5.out.bel hJ.bel)) ?_
    rintro e w2 ⟨v, rfl, hv, hb⟩
    exact ⟨_, rfl, _, rfl, hJ.step hL rfl hb (by exact hv)⟩
  · intro L vs a w' hJ hF hP hL
    have q5 : (a.tmps[5]?).getD undef = .pointer (some ⟨b0, 0, none⟩) := hF.old 5 rfl
    exact run_val (v := .pointer (some ⟨b0, 1, none⟩)) rfl (by simp [execOp, go_sem, q5]) ⟨_, rfl, hJ.step hL rfl (Below.refl _ _) (by exact rfl)⟩
  · intro L vs a w' hJ hF hP hL
    have p4 : L 4 = true := hP ⟨4, .data⟩ (by simp) rfl
    have s4 : vs 4 = .pointer (some ⟨b0, 1, none⟩) := hJ.sp 4 p4
    have q56 := hF.slot 4 56 rfl p4
    have cb := cell_later hJ.bel (S5.out.cel (b0) 1 (.slice a9 l9 k9))
    exact run_val (v := .slice a9 l9 k9) rfl (by simp [execOp, go_sem, q56, s4, cb]) ⟨_, rfl, hJ.step hL rfl (Below.refl _ _) (by exact rfl)⟩
  · intro L vs a w' hJ hF hP hL
    have p5 : L 5 = true := hP ⟨5, .data⟩ (by simp) rfl
    have s5 : vs 5 = .slice a9 l9 k9 := hJ.sp 5 p5
    have q57 := hF.slot 5 57 rfl p5
    refine run_call (f := 15) (args := #[.slice a9 l9 k9]) rfl (by simp [go_sem, q57, s5]) (FF.out.2.1.cut _ (bel_go S5.out.bel hJ.bel)) ?_
    rintro e w2 ⟨rfl, hb⟩
    exact ⟨_, rfl, _, rfl, hJ.step hL rfl hb (by exact rfl)⟩
  · intro L vs a w' hJ hF hP hL
    have p6 : L 6 = true := hP ⟨6, .data⟩ (by simp) rfl
    have s6 : vs 6 = .slice a9 m9 k9 := hJ.sp 6 p6
    have q58 := hF.slot 6 58 rfl p6
    refine run_call (f := 14) (args := #[.slice a9 m9 k9]) rfl (by simp [go_sem, q58, s6]) (FF.out.2.1.nat _ (bel_go S5.out.bel hJ.bel)) ?_
    rintro e w2 ⟨v, rfl, hv, hb⟩
    exact ⟨_, rfl, _, rfl, hJ.step hL rfl hb (by exact hv)⟩
  · intro L vs a w' hJ hF hP hL
    have p3 : L 3 = true := hP ⟨3, .data⟩ (by simp) rfl
    have s3 : IsNat w' (vs 3) (x) := hJ.sp 3 p3
    have q55 := hF.slot 3 55 rfl p3
    have p7 : L 7 = true := hP ⟨7, .data⟩ (by simp) rfl
    have s7 : IsNat w' (vs 7) (y) := hJ.sp 7 p7
    have q59 := hF.slot 7 59 rfl p7
    refine run_call (f := 13) (args := #[vs 3, vs 7]) rfl (by simp [go_sem, q55, q59]) (R3.out _ _ _ s3 s7 (FF.out.2.2.go (bel_go S5.out.bel hJ.bel))) ?_
    rintro e w2 ⟨v1, rfl, h1, hb⟩
    exact ⟨_, rfl, _, rfl, hJ.step hL rfl hb (by exact ⟨v1, rfl, h1⟩)⟩
  · intro L vs a w' hJ hF hP hL
    have p8 : L 8 = true := hP ⟨8, .data⟩ (by simp) rfl
    have s8 : ∃ p, vs 8 = .tuple #[p, .bool ok3] ∧ Rt w' p (P3) (Q3) := hJ.sp 8 p8
    have q60 := hF.slot 8 60 rfl p8
    exact run_val (v := vs 8) rfl (by simp [execOp, go_sem, q60]) ⟨_, rfl, hJ.step hL rfl (Below.refl _ _) (by exact s8)⟩
  · intro L vs a w' hJ hF hP hL
    have p9 : L 9 = true := hP ⟨9, .data⟩ (by simp) rfl
    have s9 : ∃ p, vs 9 = .tuple #[p, .bool ok3] ∧ Rt w' p (P3) (Q3) := hJ.sp 9 p9
    have q51 := hF.slot 9 51 rfl p9
    obtain ⟨vp, e1, e2⟩ := s9
    exact run_val (v := vp) rfl (by simp [execOp, go_sem, q51, e1]) ⟨_, rfl, hJ.step hL rfl (Below.refl _ _) (by exact e2)⟩
  · intro L vs a w' hJ hF hP hL
    have p9 : L 9 = true := hP ⟨9, .data⟩ (by simp) rfl
    have s9 : ∃ p, vs 9 = .tuple #[p, .bool ok3] ∧ Rt w' p (P3) (Q3) := hJ.sp 9 p9
    have q51 := hF.slot 9 51 rfl p9
    obtain ⟨vp, e1, e2⟩ := s9
    exact run_val (v := .bool ok3) rfl (by simp [execOp, go_sem, q51, e1]) ⟨_, rfl, hJ.step hL rfl (Below.refl _ _) (by exact rfl)⟩
  · intro L vs a w' hJ hF hP hL
    exact run_val (v := .pointer (some ⟨w'.heap.size, 0, none⟩)) (w' := w'.alloc (.cells #[.slice none 0 0, .slice none 0 0] 29)) rfl (by simp [execOp, go_sem]) ⟨_, rfl, hJ.alloc hL rfl (by decide) rfl _⟩
  · intro L vs a w' hJ hF hP hL
    have p12 : L 12 = true := hP ⟨12, .data⟩ (by simp) rfl
    have q13 := hF.slot 12 13 rfl p12
    have p10 : L 10 = true := hP ⟨10, .data⟩ (by simp) rfl
    have s10 : Rt w' (vs 10) (P3) (Q3) := hJ.sp 10 p10
    have q61 := hF.slot 10 61 rfl p10
    obtain ⟨bk, e1, e2, e3, e4, e4', e5, e6⟩ := hJ.bx p12
    obtain ⟨e7, e7'⟩ := e5 hL
    obtain ⟨aa, nn, cc, a2, n2, c2, e8, _, _⟩ := s10.raw
    exact run_unit (w' := (w'.setCell ⟨bk, 0, none⟩ (.slice aa nn cc)).setCell ⟨bk, 1, none⟩ (.slice a2 n2 c2)) rfl (by simp [execOp, go_sem, q13, q61, e1, e8, e7, e4, e7', e4']) ⟨undef, rfl, hJ.store hL p12 p10 (by decide) rfl e1 e8⟩
  · intro L vs a w' hJ hF hP hL
    have p11 : L 11 = true := hP ⟨11, .data⟩ (by simp) rfl
    have s11 : vs 11 = .bool ok3 := hJ.sp 11 p11
    have q62 := hF.slot 11 62 rfl p11
    exact run_val (v := .bool ok3) rfl (by simp [execOp, go_sem, q62, s11]) ⟨_, rfl, hJ.step hL rfl (Below.refl _ _) (by exact rfl)⟩
  intro L vs w' hA hJ
  have s10 : Rt w' (vs 10) (P3) (Q3) := hJ.sp 10 (hA 10 (by simp))
  have s14 : vs 14 = .bool ok3 := hJ.sp 14 (hA 14 (by simp))
  obtain ⟨bk12, eb12, ge12, lt12, fz12, fz12', _, e6⟩ := hJ.bx (hA 12 (by simp))
  obtain ⟨_, u12, u12', eu12, ce12, ce12'⟩ := e6 (hA 13 (by simp))
  clear e6
  simp only [putL, Act.put, List.setIfInBounds_toArray, List.set_cons_zero, List.set_cons_succ, Nat.reduceAdd]
  obtain ⟨a7, n7, c7, d7, m7, g7, ev, _, _⟩ := s10.raw
  rw [ev] at s10 eu12
  obtain ⟨rfl, rfl⟩ : u12 = .slice a7 n7 c7 ∧ u12' = .slice d7 m7 g7 := by simpa [eq_comm] using eu12
  simp only [eb12, s14]
  have S7 : Hid _ := (((S5.out.go hJ.bel).addF s10).addC ce12').addC ce12
  obtain ⟨w7, ew⟩ : ∃ w7, w7 = w' := ⟨_, rfl⟩
  obtain ⟨b7, eb⟩ : ∃ b7, b7 = bk12 := ⟨_, rfl⟩
  rw [← ew, ← eb] at S7
  rw [← ew, ← eb]
  clear ew eb ev s10 s14 eu12 eb12 ce12 ce12' ge12 lt12 fz12 fz12' hJ hA S5
  go_wp2_with fail
  refine wp_region_inv (JC w7 [sEq (.pointer (some ⟨b0, 0, none⟩)), sEq (.slice a0 l0 k0), sEq (.slice a0 m0 k0), sR (x), sEq (.pointer (some ⟨b0, 1, none⟩)), sEq (.slice a9 l9 k9), sEq (.slice a9 m9 k9), sR (y), sRRtB (P3) (Q3) ok3, sRRtB (P3) (Q3) ok3, sRRt (P3) (Q3), sEq (.bool ok3), sAny, sAny, sEq (.bool ok3)] (12, 13, 10)) 142 (by kernel_rfl) rfl (by kernel_rfl) (JC.start _ _ _) (fun HG HN => ⟨?_, ?_, ?_, ?_, ?_, ?_, ?_, ?_, ?_, ?_, ?_, ?_, ?_, ?_, ?_, trivial⟩) ?_
  · intro L vs a w' hJ hF hP hL
    have q5 : (a.tmps[5]?).getD undef = .pointer (some ⟨b0, 0, none⟩) := hF.old 5 rfl
    exact run_val (v := .pointer (some ⟨b0, 0, none⟩)) rfl (by simp [execOp, go_sem, q5]) ⟨_, rfl, hJ.step hL rfl (Below.refl _ _) (by exact rfl)⟩
  · intro L vs a w' hJ hF hP hL
    have p0 : L 0 = true := hP ⟨0, .data⟩ (by simp) rfl
    have s0 : vs 0 = .pointer (some ⟨b0, 0, none⟩) := hJ.sp 0 p0
    have q64 := hF.slot 0 64 rfl p0
    have cb := cell_later hJ.bel (S7.out.cel (b0) 0 (.slice a0 l0 k0))
    exact run_val (v := .slice a0 l0 k0) rfl (by simp [execOp, go_sem, q64, s0, cb]) ⟨_, rfl, hJ.step hL rfl (Below.refl _ _) (by exact rfl)⟩
  · intro L vs a w' hJ hF hP hL
    have p1 : L 1 = true := hP ⟨1, .data⟩ (by simp) rfl
    have s1 : vs 1 = .slice a0 l0 k0 := hJ.sp 1 p1
    have q65 := hF.slot 1 65 rfl p1
    refine run_call (f := 15) (args := #[.slice a0 l0 k0]) rfl (by simp [go_sem, q65, s1]) (FF.out.1.cut _ (bel_go S7.out.bel hJ.bel)) ?_
    rintro e w2 ⟨rfl, hb⟩
    exact ⟨_, rfl, _, rfl, hJ.step hL rfl hb (by exact rfl)⟩
  · intro L vs a w' hJ hF hP hL
    have p2 : L 2 = true := hP ⟨2, .data⟩ (by simp) rfl
    have s2 : vs 2 = .slice a0 m0 k0 := hJ.sp 2 p2
    have q66 := hF.slot 2 66 rfl p2
    refine run_call (f := 17) (args := #[.slice a0 m0 k0]) rfl (by simp [go_sem, q66, s2]) (FF.out.1.ref _ (bel_go S7.out.bel hJ.bel)) ?_
    rintro e w2 ⟨v, rfl, hv, hb⟩
    exact ⟨_, rfl, _, rfl, hJ.step hL rfl hb (by exact hv)⟩
  · intro L vs a w' hJ hF hP hL
    have q5 : (a.tmps[5]?).getD undef = .pointer (some ⟨b0, 0, none⟩) := hF.old 5 rfl
    exact run_val (v := .pointer (some ⟨b0, 1, none⟩)) rfl (by simp [execOp, go_sem, q5]) ⟨_, rfl, hJ.step hL rfl (Below.refl _ _) (by exact rfl)⟩
  · intro L vs a w' hJ hF hP hL
    have p4 : L 4 = true := hP ⟨4, .data⟩ (by simp) rfl
    have s4 : vs 4 = .pointer (some ⟨b0, 1, none⟩) := hJ.sp 4 p4
    have q68 := hF.slot 4 68 rfl p4
    have cb := cell_later hJ.bel (S7.out.cel (b0) 1 (.slice a9 l9 k9))
    exact run_val (v := .slice a9 l9 k9) rfl (by simp [execOp, go_sem, q68, s4, cb]) ⟨_, rfl, hJ.step hL rfl (Below.refl _ _) (by exact rfl)⟩
  · intro L vs a w' hJ hF hP hL
    have p5 : L 5 = true := hP ⟨5, .data⟩ (by simp) rfl
    have s5 : vs 5 = .slice a9 l9 k9 := hJ.sp 5 p5
    have q69 := hF.slot 5 69 rfl p5
    refine run_call (f := 15) (args := #[.slice a9 l9 k9]) rfl (by simp [go_sem, q69, s5]) (FF.out.2.1.cut _ (bel_go S7.out.bel hJ.bel)) ?_
    rintro e w2 ⟨rfl, hb⟩
    exact ⟨_, rfl, _, rfl, hJ.step hL rfl hb (by exact rfl)⟩
  · intro L vs a w' hJ hF hP hL
    have p6 : L 6 = true := hP ⟨6, .data⟩ (by simp) rfl
    have s6 : vs 6 = .slice a9 m9 k9 := hJ.sp 6 p6
    have q70 := hF.slot 6 70 rfl p6
    refine run_call (f := 17) (args := #[.slice a9 m9 k9]) rfl (by simp [go_sem, q70, s6]) (FF.out.2.1.ref _ (bel_go S7.out.bel hJ.bel)) ?_
    rintro e w2 ⟨v, rfl, hv, hb⟩
    exact ⟨_, rfl, _, rfl, hJ.step hL rfl hb (by exact hv)⟩
  · intro L vs a w' hJ hF hP hL
    have p3 : L 3 = true := hP ⟨3, .data⟩ (by simp) rfl
    have s3 : RNat w' (vs 3) (x) := hJ.sp 3 p3
    have q67 := hF.slot 3 67 rfl p3
    have p7 : L 7 = true := hP ⟨7, .data⟩ (by simp) rfl
    have s7 : RNat w' (vs 7) (y) := hJ.sp 7 p7
    have q71 := hF.slot 7 71 rfl p7
    refine run_call (f := 16) (args := #[vs 3, vs 7]) rfl (by simp [go_sem, q67, q71]) (R4.out _ _ _ s3 s7) ?_
    rintro e w2 ⟨v1, rfl, h1, hb⟩
    exact ⟨_, rfl, _, rfl, hJ.step hL rfl hb (by exact ⟨v1, rfl, h1⟩)⟩
  · intro L vs a w' hJ hF hP hL
    have p8 : L 8 = true := hP ⟨8, .data⟩ (by simp) rfl
    have s8 : ∃ p, vs 8 = .tuple #[p, .bool ok3] ∧ RRt w' p (P3) (Q3) := hJ.sp 8 p8
    have q72 := hF.slot 8 72 rfl p8
    exact run_val (v := vs 8) rfl (by simp [execOp, go_sem, q72]) ⟨_, rfl, hJ.step hL rfl (Below.refl _ _) (by exact s8)⟩
  · intro L vs a w' hJ hF hP hL
    have p9 : L 9 = true := hP ⟨9, .data⟩ (by simp) rfl
    have s9 : ∃ p, vs 9 = .tuple #[p, .bool ok3] ∧ RRt w' p (P3) (Q3) := hJ.sp 9 p9
    have q63 := hF.slot 9 63 rfl p9
    obtain ⟨vp, e1, e2⟩ := s9
    exact run_val (v := vp) rfl (by simp [execOp, go_sem, q63, e1]) ⟨_, rfl, hJ.step hL rfl (Below.refl _ _) (by exact e2)⟩
  · intro L vs a w' hJ hF hP hL
    have p9 : L 9 = true := hP ⟨9, .data⟩ (by simp) rfl
    have s9 : ∃ p, vs 9 = .tuple #[p, .bool ok3] ∧ RRt w' p (P3) (Q3) := hJ.sp 9 p9
    have q63 := hF.slot 9 63 rfl p9
    obtain ⟨vp, e1, e2⟩ := s9
    exact run_val (v := .bool ok3) rfl (by simp [execOp, go_sem, q63, e1]) ⟨_, rfl, hJ.step hL rfl (Below.refl _ _) (by exact rfl)⟩
  · intro L vs a w' hJ hF hP hL
    exact run_val (v := .pointer (some ⟨w'.heap.size, 0, none⟩)) (w' := w'.alloc (.cells #[.slice none 0 0, .slice none 0 0] 35)) rfl (by simp [execOp, go_sem]) ⟨_, rfl, hJ.alloc hL rfl (by decide) rfl _⟩
  · intro L vs a w' hJ hF hP hL
    have p12 : L 12 = true := hP ⟨12, .data⟩ (by simp) rfl
    have q15 := hF.slot 12 15 rfl p12
    have p10 : L 10 = true := hP ⟨10, .data⟩ (by simp) rfl
    have s10 : RRt w' (vs 10) (P3) (Q3) := hJ.sp 10 p10
    have q73 := hF.slot 10 73 rfl p10
    obtain ⟨bk, e1, e2, e3, e4, e4', e5, e6⟩ := hJ.bx p12
    obtain ⟨e7, e7'⟩ := e5 hL
    have s10' := s10
    obtain ⟨aa, nn, cc, a2, n2, c2, e8, _, _⟩ := s10'
    exact run_unit (w' := (w'.setCell ⟨bk, 0, none⟩ (.slice aa nn cc)).setCell ⟨bk, 1, none⟩ (.slice a2 n2 c2)) rfl (by simp [execOp, go_sem, q15, q73, e1, e8, e7, e4, e7', e4']) ⟨undef, rfl, hJ.store hL p12 p10 (by decide) rfl e1 e8⟩
  · intro L vs a w' hJ hF hP hL
    have p11 : L 11 = true := hP ⟨11, .data⟩ (by simp) rfl
    have s11 : vs 11 = .bool ok3 := hJ.sp 11 p11
    have q74 := hF.slot 11 74 rfl p11
    exact run_val (v := .bool ok3) rfl (by simp [execOp, go_sem, q74, s11]) ⟨_, rfl, hJ.step hL rfl (Below.refl _ _) (by exact rfl)⟩
  intro L vs w' hA hJ
  have s10 : RRt w' (vs 10) (P3) (Q3) := hJ.sp 10 (hA 10 (by simp))
  have s14 : vs 14 = .bool ok3 := hJ.sp 14 (hA 14 (by simp))
  obtain ⟨bk12, eb12, ge12, lt12, fz12, fz12', _, e6⟩ := hJ.bx (hA 12 (by simp))
  obtain ⟨_, u12, u12', eu12, ce12, ce12'⟩ := e6 (hA 13 (by simp))
  clear e6
  simp only [putL, Act.put, List.setIfInBounds_toArray, List.set_cons_zero, List.set_cons_succ, Nat.reduceAdd]
  obtain ⟨a8, n8, c8, d8, m8, g8, ev, _, _⟩ := id s10
  rw [ev] at s10 eu12
  obtain ⟨rfl, rfl⟩ : u12 = .slice a8 n8 c8 ∧ u12' = .slice d8 m8 g8 := by simpa [eq_comm] using eu12
  simp only [eb12, s14]
  have S8 : Hid _ := (((S7.out.go hJ.bel).addG s10).addC ce12').addC ce12
  obtain ⟨w8, ew⟩ : ∃ w8, w8 = w' := ⟨_, rfl⟩
  obtain ⟨b8, eb⟩ : ∃ b8, b8 = bk12 := ⟨_, rfl⟩
  rw [← ew, ← eb] at S8
  rw [← ew, ← eb]
  clear ew eb ev s10 s14 eu12 eb12 ce12 ce12' ge12 lt12 fz12 fz12' hJ hA S7
  have z5 := S8.out.cel b5 0 (.slice a5 n5 c5)
  have y5 := S8.out.cel b5 1 (.slice d5 m5 g5)
  go_wp2_with fail
  refine (N2.out _ _ (S8.out.fr (.agg #[.slice a5 n5 c5, .slice d5 m5 g5]) P2 Q2)).mono ?_
  rintro e w9 ⟨rfl, hb⟩
  have S9 : Hid _ := S8.out.go hb
  clear hb S8 z5 y5
  have z6 := S9.out.cel b6 0 (.slice a6 n6 c6)
  have y6 := S9.out.cel b6 1 (.slice d6 m6 g6)
  go_wp2_with fail
  refine (N2'.out _ _ (S9.out.rfr (.agg #[.slice a6 n6 c6, .slice d6 m6 g6]) P2 Q2)).mono ?_
  rintro e w10 ⟨rfl, hb⟩
  have S10 : Hid _ := S9.out.go hb
  clear hb S9 z6 y6
  have z7 := S10.out.cel b7 0 (.slice a7 n7 c7)
  have y7 := S10.out.cel b7 1 (.slice d7 m7 g7)
  have z8 := S10.out.cel b8 0 (.slice a8 n8 c8)
  have y8 := S10.out.cel b8 1 (.slice d8 m8 g8)
  have e1 : (ok3 != ok3) = false := by simp
  go_wp2_with fail
  refine (rsame_true _ _ P3 Q3 _ (S10.out.fr (.agg #[.slice a7 n7 c7, .slice d7 m7 g7]) P3 Q3) (S10.out.rfr (.agg #[.slice a8 n8 c8, .slice d8 m8 g8]) P3 Q3) RR.out.1 RR.out.2).mono ?_
  rintro e w11 ⟨rfl, hb⟩
  have S11 : Hid _ := S10.out.go hb
  clear hb S10 z7 y7 z8 y8
  have z5 := S11.out.cel b5 0 (.slice a5 n5 c5)
  have y5 := S11.out.cel b5 1 (.slice d5 m5 g5)
  have z6 := S11.out.cel b6 0 (.slice a6 n6 c6)
  have y6 := S11.out.cel b6 1 (.slice d6 m6 g6)
  go_wp2_with fail
  refine (rsame_true _ _ P2 Q2 _ (S11.out.fr (.agg #[.slice a5 n5 c5, .slice d5 m5 g5]) P2 Q2) (S11.out.rfr (.agg #[.slice a6 n6 c6, .slice d6 m6 g6]) P2 Q2) MM.out.1 MM.out.2).mono ?_
  rintro e w12 ⟨rfl, hb⟩
  have S12 : Hid _ := S11.out.go hb
  clear hb S11 z5 y5 z6 y6
  have z1 := S12.out.cel b1 0 (.slice a1 n1 c1)
  have y1 := S12.out.cel b1 1 (.slice d1 m1 g1)
  have e2 : (i2 != i2) = false := by simp
  have e3 : (j2 != j2) = false := by simp
  go_wp2_with fail
  refine (N1.out _ _ (S12.out.fr (.agg #[.slice a1 n1 c1, .slice d1 m1 g1]) P1 Q1)).mono ?_
  rintro e w13 ⟨rfl, hb⟩
  have S13 : Hid _ := S12.out.go hb
  clear hb S12 z1 y1
  have z2 := S13.out.cel b2 0 (.slice a2 n2 c2)
  have y2 := S13.out.cel b2 1 (.slice d2 m2 g2)
  go_wp2_with fail
  refine (N1'.out _ _ (S13.out.rfr (.agg #[.slice a2 n2 c2, .slice d2 m2 g2]) P1 Q1)).mono ?_
  rintro e w14 ⟨rfl, hb⟩
  have S14 : Hid _ := S13.out.go hb
  clear hb S13 z2 y2
  have FL : Hid (Fits (P2 / Q2) ∧ RFits (P2 / Q2) ∧ Fits (ceilN P2 Q2) ∧ RFits (ceilN P2 Q2) ∧ Q2 ≠ 0) := by
    have h1 : RS (P2 / Q2) := MM.out.1.le (Nat.div_le_self _ _)
    have h2 : ceilN P2 Q2 < P 91 := by
      have h3 : ceilN P2 Q2 ≤ P2 / Q2 + 1 := by unfold ceilN; split <;> omega
      have h4 : P2 / Q2 < P 90 := h1.lt
      have h5 : P 90 < P 91 := P_lt (by omega)
      omega
    exact ⟨h1.fits, h1.rfits, fits_P h2 (by omega), rfits_P h2 (by omega), by have := PP.out; omega⟩
  go_wp2_with fail
  refine wp_region_inv (JB w14 [sEq (.int .i64 i1), sEq (.int .i64 i1), sEq (.bool true), sEq (.bool true), sEq (.bool j1), sEq (.bool j1), sEq (.bool true), sEq (.bool true), sEq (.bool true), sRt (P2) (Q2), sNat (P2 / Q2), sRRt (P2) (Q2), sR (P2 / Q2), sEq (.bool true), sEq (.bool true), sEq (.bool true), sRt (P2) (Q2), sNat (ceilN P2 Q2), sRRt (P2) (Q2), sR (ceilN P2 Q2), sEq (.bool true), sEq (.bool true), sEq (.bool true)] []) 142 (by kernel_rfl) rfl (by kernel_rfl) (JB.start _ _ _) (fun HG HN => ⟨?_, ?_, ?_, ?_, ?_, ?_, ?_, ?_, ?_, ?_, ?_, ?_, ?_, ?_, ?_, ?_, ?_, ?_, ?_, ?_, ?_, ?_, ?_, trivial⟩) ?_
  · intro L vs a w' hJ hF hP hL
    have q17 : (a.tmps[17]?).getD undef = .int .i64 i1 := hF.old 17 rfl
    exact run_val (v := .int .i64 i1) rfl (by simp [execOp, go_sem, q17]) ⟨_, rfl, hJ.step hL rfl (Below.refl _ _) (by exact rfl)⟩
  · intro L vs a w' hJ hF hP hL
    have q19 : (a.tmps[19]?).getD undef = .int .i64 i1 := hF.old 19 rfl
    exact run_val (v := .int .i64 i1) rfl (by simp [execOp, go_sem, q19]) ⟨_, rfl, hJ.step hL rfl (Below.refl _ _) (by exact rfl)⟩
  · intro L vs a w' hJ hF hP hL
    have p0 : L 0 = true := hP ⟨0, .data⟩ (by simp) rfl
    have s0 : vs 0 = .int .i64 i1 := hJ.sp 0 p0
    have q120 := hF.slot 0 120 rfl p0
    have p1 : L 1 = true := hP ⟨1, .data⟩ (by simp) rfl
    have s1 : vs 1 = .int .i64 i1 := hJ.sp 1 p1
    have q121 := hF.slot 1 121 rfl p1
    exact run_val (v := .bool true) rfl (by simp [execOp, go_sem, q120, s0, q121, s1]) ⟨_, rfl, hJ.step hL rfl (Below.refl _ _) (by exact rfl)⟩
  · intro L vs a w' hJ hF hP hL
    have p2 : L 2 = true := hP ⟨2, .data⟩ (by simp) rfl
    have s2 : vs 2 = .bool true := hJ.sp 2 p2
    have q122 := hF.slot 2 122 rfl p2
    exact run_val (v := .bool true) rfl (by simp [execOp, go_sem, q122, s2]) ⟨_, rfl, hJ.step hL rfl (Below.refl _ _) (by exact rfl)⟩
  · intro L vs a w' hJ hF hP hL
    have q18 : (a.tmps[18]?).getD undef = .bool j1 := hF.old 18 rfl
    exact run_val (v := .bool j1) (hF.wants 142 HN HG _ 3 true true rfl rfl (hP ⟨3, .guard⟩ (by simp) rfl) (hJ.sp 3 (hP ⟨3, .guard⟩ (by simp) rfl))) (by simp [execOp, go_sem, q18]) ⟨_, rfl, hJ.step hL rfl (Below.refl _ _) (by exact rfl)⟩
  · intro L vs a w' hJ hF hP hL
    have q20 : (a.tmps[20]?).getD undef = .bool j1 := hF.old 20 rfl
    exact run_val (v := .bool j1) (hF.wants 142 HN HG _ 3 true true rfl rfl (hP ⟨3, .guard⟩ (by simp) rfl) (hJ.sp 3 (hP ⟨3, .guard⟩ (by simp) rfl))) (by simp [execOp, go_sem, q20]) ⟨_, rfl, hJ.step hL rfl (Below.refl _ _) (by exact rfl)⟩
  · intro L vs a w' hJ hF hP hL
    have p4 : L 4 = true := hP ⟨4, .data⟩ (by simp) rfl
    have s4 : vs 4 = .bool j1 := hJ.sp 4 p4
    have q124 := hF.slot 4 124 rfl p4
    have p5 : L 5 = true := hP ⟨5, .data⟩ (by simp) rfl
    have s5 : vs 5 = .bool j1 := hJ.sp 5 p5
    have q125 := hF.slot 5 125 rfl p5
    exact run_val (v := .bool true) (hF.wants 142 HN HG _ 3 true true rfl rfl (hP ⟨3, .guard⟩ (by simp) rfl) (hJ.sp 3 (hP ⟨3, .guard⟩ (by simp) rfl))) (by simp [execOp, go_sem, q124, s4, q125, s5]) ⟨_, rfl, hJ.step hL rfl (Below.refl _ _) (by exact rfl)⟩
  · intro L vs a w' hJ hF hP hL
    have p3 : L 3 = true := hP ⟨3, .data⟩ (by simp) rfl
    have s3 : vs 3 = .bool true := hJ.sp 3 p3
    have q123 := hF.slot 3 123 rfl p3
    have p6 : L 6 = true := hP ⟨6, .data⟩ (by simp) rfl
    have s6 : vs 6 = .bool true := hJ.sp 6 p6
    have q126 := hF.slot 6 126 rfl p6
    exact run_val (v := .bool true) rfl (by simp [execOp, go_sem, q123, s3, q126, s6]) ⟨_, rfl, hJ.step hL rfl (Below.refl _ _) (by exact rfl)⟩
  · intro L vs a w' hJ hF hP hL
    have p7 : L 7 = true := hP ⟨7, .data⟩ (by simp) rfl
    have s7 : vs 7 = .bool true := hJ.sp 7 p7
    have q127 := hF.slot 7 127 rfl p7
    exact run_val (v := .bool true) rfl (by simp [execOp, go_sem, q127, s7]) ⟨_, rfl, hJ.step hL rfl (Below.refl _ _) (by exact rfl)⟩
  · intro L vs a w' hJ hF hP hL
    have q11 : (a.tmps[11]?).getD undef = .pointer (some ⟨b5, 0, none⟩) := hF.old 11 rfl
    have cb := cell_later hJ.bel (S14.out.cel (b5) 0 (.slice a5 n5 c5))
    have cc := cell_later hJ.bel (S14.out.cel (b5) 1 (.slice d5 m5 g5))
    exact run_val (v := .agg #[.slice a5 n5 c5, .slice d5 m5 g5]) (hF.wants 142 HN HG _ 8 true true rfl rfl (hP ⟨8, .guard⟩ (by simp) rfl) (hJ.sp 8 (hP ⟨8, .guard⟩ (by simp) rfl))) (by simp [execOp, go_sem, q11, cb, cc]) ⟨_, rfl, hJ.step hL rfl (Below.refl _ _) (by exact ((S14.out.fr (.agg #[.slice a5 n5 c5, .slice d5 m5 g5]) (P2) (Q2)).mono hJ.bel))⟩
  · intro L vs a w' hJ hF hP hL
    have p9 : L 9 = true := hP ⟨9, .data⟩ (by simp) rfl
    have s9 : Rt w' (vs 9) (P2) (Q2) := hJ.sp 9 p9
    have q129 := hF.slot 9 129 rfl p9
    refine run_call (f := 21) (args := #[vs 9]) (hF.wants 142 HN HG _ 8 true true rfl rfl (hP ⟨8, .guard⟩ (by simp) rfl) (hJ.sp 8 (hP ⟨8, .guard⟩ (by simp) rfl))) (by simp [go_sem, q129]) (floor_any _ P2 Q2 _ s9 MM.out.1 MM.out.2) ?_
    rintro e w2 ⟨v, rfl, hv, hb⟩
    exact ⟨_, rfl, _, rfl, hJ.step hL rfl hb (by exact hv)⟩
  · intro L vs a w' hJ hF hP hL
    have q12 : (a.tmps[12]?).getD undef = .pointer (some ⟨b6, 0, none⟩) := hF.old 12 rfl
    have cb := cell_later hJ.bel (S14.out.cel (b6) 0 (.slice a6 n6 c6))
    have cc := cell_later hJ.bel (S14.out.cel (b6) 1 (.slice d6 m6 g6))
    exact run_val (v := .agg #[.slice a6 n6 c6, .slice d6 m6 g6]) (hF.wants 142 HN HG _ 8 true true rfl rfl (hP ⟨8, .guard⟩ (by simp) rfl) (hJ.sp 8 (hP ⟨8, .guard⟩ (by simp) rfl))) (by simp [execOp, go_sem, q12, cb, cc]) ⟨_, rfl, hJ.step hL rfl (Below.refl _ _) (by exact ((S14.out.rfr (.agg #[.slice a6 n6 c6, .slice d6 m6 g6]) (P2) (Q2)).mono hJ.bel))⟩
  · intro L vs a w' hJ hF hP hL
    have p11 : L 11 = true := hP ⟨11, .data⟩ (by simp) rfl
    have s11 : RRt w' (vs 11) (P2) (Q2) := hJ.sp 11 p11
    have q131 := hF.slot 11 131 rfl p11
    refine run_call (f := 22) (args := #[vs 11]) (hF.wants 142 HN HG _ 8 true true rfl rfl (hP ⟨8, .guard⟩ (by simp) rfl) (hJ.sp 8 (hP ⟨8, .guard⟩ (by simp) rfl))) (by simp [go_sem, q131]) (rfloor2_any _ P2 Q2 _ s11 MM.out.1.rsome MM.out.2.rsome FL.out.2.2.2.2) ?_
    rintro e w2 ⟨v, rfl, hv, hb⟩
    exact ⟨_, rfl, _, rfl, hJ.step hL rfl hb (by exact hv)⟩
  · intro L vs a w' hJ hF hP hL
    have p10 : L 10 = true := hP ⟨10, .data⟩ (by simp) rfl
    have s10 : IsNat w' (vs 10) (P2 / Q2) := hJ.sp 10 p10
    have q130 := hF.slot 10 130 rfl p10
    have p12 : L 12 = true := hP ⟨12, .data⟩ (by simp) rfl
    have s12 : RNat w' (vs 12) (P2 / Q2) := hJ.sp 12 p12
    have q132 := hF.slot 12 132 rfl p12
    refine run_call (f := 20) (args := #[vs 10, vs 12]) (hF.wants 142 HN HG _ 8 true true rfl rfl (hP ⟨8, .guard⟩ (by simp) rfl) (hJ.sp 8 (hP ⟨8, .guard⟩ (by simp) rfl))) (by simp [go_sem, q130, q132]) (sameNat_true _ _ (P2 / Q2) _ s10 s12 FL.out.1 FL.out.2.1) ?_
    rintro e w2 ⟨rfl, hb⟩
    exact ⟨_, rfl, _, rfl, hJ.step hL rfl hb (by exact rfl)⟩
  · intro L vs a w' hJ hF hP hL
    have p8 : L 8 = true := hP ⟨8, .data⟩ (by simp) rfl
    have s8 : vs 8 = .bool true := hJ.sp 8 p8
    have q128 := hF.slot 8 128 rfl p8
    have p13 : L 13 = true := hP ⟨13, .data⟩ (by simp) rfl
    have s13 : vs 13 = .bool true := hJ.sp 13 p13
    have q133 := hF.slot 13 133 rfl p13
    exact run_val (v := .bool true) rfl (by simp [execOp, go_sem, q128, s8, q133, s13]) ⟨_, rfl, hJ.step hL rfl (Below.refl _ _) (by exact rfl)⟩
  · intro L vs a w' hJ hF hP hL
    have p14 : L 14 = true := hP ⟨14, .data⟩ (by simp) rfl
    have s14 : vs 14 = .bool true := hJ.sp 14 p14
    have q134 := hF.slot 14 134 rfl p14
    exact run_val (v := .bool true) rfl (by simp [execOp, go_sem, q134, s14]) ⟨_, rfl, hJ.step hL rfl (Below.refl _ _) (by exact rfl)⟩
  · intro L vs a w' hJ hF hP hL
    have q11 : (a.tmps[11]?).getD undef = .pointer (some ⟨b5, 0, none⟩) := hF.old 11 rfl
    have cb := cell_later hJ.bel (S14.out.cel (b5) 0 (.slice a5 n5 c5))
    have cc := cell_later hJ.bel (S14.out.cel (b5) 1 (.slice d5 m5 g5))
    exact run_val (v := .agg #[.slice a5 n5 c5, .slice d5 m5 g5]) (hF.wants 142 HN HG _ 15 true true rfl rfl (hP ⟨15, .guard⟩ (by simp) rfl) (hJ.sp 15 (hP ⟨15, .guard⟩ (by simp) rfl))) (by simp [execOp, go_sem, q11, cb, cc]) ⟨_, rfl, hJ.step hL rfl (Below.refl _ _) (by exact ((S14.out.fr (.agg #[.slice a5 n5 c5, .slice d5 m5 g5]) (P2) (Q2)).mono hJ.bel))⟩
  · intro L vs a w' hJ hF hP hL
    have p16 : L 16 = true := hP ⟨16, .data⟩ (by simp) rfl
    have s16 : Rt w' (vs 16) (P2) (Q2) := hJ.sp 16 p16
    have q136 := hF.slot 16 136 rfl p16
    refine run_call (f := 23) (args := #[vs 16]) (hF.wants 142 HN HG _ 15 true true rfl rfl (hP ⟨15, .guard⟩ (by simp) rfl) (hJ.sp 15 (hP ⟨15, .guard⟩ (by simp) rfl))) (by simp [go_sem, q136]) (ceil_any _ P2 Q2 _ s16 MM.out.1 MM.out.2) ?_
    rintro e w2 ⟨v, rfl, hv, hb⟩
    exact ⟨_, rfl, _, rfl, hJ.step hL rfl hb (by exact hv)⟩
  · intro L vs a w' hJ hF hP hL
    have q12 : (a.tmps[12]?).getD undef = .pointer (some ⟨b6, 0, none⟩) := hF.old 12 rfl
    have cb := cell_later hJ.bel (S14.out.cel (b6) 0 (.slice a6 n6 c6))
    have cc := cell_later hJ.bel (S14.out.cel (b6) 1 (.slice d6 m6 g6))
    exact run_val (v := .agg #[.slice a6 n6 c6, .slice d6 m6 g6]) (hF.wants 142 HN HG _ 15 true true rfl rfl (hP ⟨15, .guard⟩ (by simp) rfl) (hJ.sp 15 (hP ⟨15, .guard⟩ (by simp) rfl))) (by simp [execOp, go_sem, q12, cb, cc]) ⟨_, rfl, hJ.step hL rfl (Below.refl _ _) (by exact ((S14.out.rfr (.agg #[.slice a6 n6 c6, .slice d6 m6 g6]) (P2) (Q2)).mono hJ.bel))⟩
  · intro L vs a w' hJ hF hP hL
    have p18 : L 18 = true := hP ⟨18, .data⟩ (by simp) rfl
    have s18 : RRt w' (vs 18) (P2) (Q2) := hJ.sp 18 p18
    have q138 := hF.slot 18 138 rfl p18
    refine run_call (f := 24) (args := #[vs 18]) (hF.wants 142 HN HG _ 15 true true rfl rfl (hP ⟨15, .guard⟩ (by simp) rfl) (hJ.sp 15 (hP ⟨15, .guard⟩ (by simp) rfl))) (by simp [go_sem, q138]) (rceil2_any _ P2 Q2 _ s18 MM.out.1.rsome MM.out.2.rsome FL.out.2.2.2.2) ?_
    rintro e w2 ⟨v, rfl, hv, hb⟩
    exact ⟨_, rfl, _, rfl, hJ.step hL rfl hb (by exact hv)⟩
  · intro L vs a w' hJ hF hP hL
    have p17 : L 17 = true := hP ⟨17, .data⟩ (by simp) rfl
    have s17 : IsNat w' (vs 17) (ceilN P2 Q2) := hJ.sp 17 p17
    have q137 := hF.slot 17 137 rfl p17
    have p19 : L 19 = true := hP ⟨19, .data⟩ (by simp) rfl
    have s19 : RNat w' (vs 19) (ceilN P2 Q2) := hJ.sp 19 p19
    have q139 := hF.slot 19 139 rfl p19
    refine run_call (f := 20) (args := #[vs 17, vs 19]) (hF.wants 142 HN HG _ 15 true true rfl rfl (hP ⟨15, .guard⟩ (by simp) rfl) (hJ.sp 15 (hP ⟨15, .guard⟩ (by simp) rfl))) (by simp [go_sem, q137, q139]) (sameNat_true _ _ (ceilN P2 Q2) _ s17 s19 FL.out.2.2.1 FL.out.2.2.2.1) ?_
    rintro e w2 ⟨rfl, hb⟩
    exact ⟨_, rfl, _, rfl, hJ.step hL rfl hb (by exact rfl)⟩
  · intro L vs a w' hJ hF hP hL
    have p15 : L 15 = true := hP ⟨15, .data⟩ (by simp) rfl
    have s15 : vs 15 = .bool true := hJ.sp 15 p15
    have q135 := hF.slot 15 135 rfl p15
    have p20 : L 20 = true := hP ⟨20, .data⟩ (by simp) rfl
    have s20 : vs 20 = .bool true := hJ.sp 20 p20
    have q140 := hF.slot 20 140 rfl p20
    exact run_val (v := .bool true) rfl (by simp [execOp, go_sem, q135, s15, q140, s20]) ⟨_, rfl, hJ.step hL rfl (Below.refl _ _) (by exact rfl)⟩
  · intro L vs a w' hJ hF hP hL
    have p21 : L 21 = true := hP ⟨21, .data⟩ (by simp) rfl
    have s21 : vs 21 = .bool true := hJ.sp 21 p21
    have q141 := hF.slot 21 141 rfl p21
    exact run_val (v := .bool true) rfl (by simp [execOp, go_sem, q141, s21]) ⟨_, rfl, hJ.step hL rfl (Below.refl _ _) (by exact rfl)⟩
  intro L vs w' hA hJ
  have s22 : vs 22 = .bool true := hJ.sp 22 (hA 22 (by simp))
  simp only [putL, Act.put, List.setIfInBounds_toArray, List.set_cons_zero, List.set_cons_succ, Nat.reduceAdd]
  simp only [s22]
  go_wp2_with fail
  go_ret
  exact ⟨rfl, (S14.out.go hJ.bel).bel⟩
end Go.Proofs.YtkhdapmipcghoaaDoor
namespace Go.Proofs.YtkhdapmipcghoaaDoor
open Go.ChangeShapes Go.WideShapes Go.ChangeAt Go.RowKit
set_option linter.unusedVariables false
theorem ownD : ownKnob Tryd.prog.godebug = none := by kernel_rfl
theorem cellsF : Tryd.prog.cellsOf 24 = 2 := by kernel_rfl
theorem cellsB : Tryd.prog.cellsOf 22 = 1 := by kernel_rfl
theorem laidOutD : laidOutB Tryd.prog = true := by kernel_rfl

def IsRow (k : IntKind) (w : World) (a : Option Addr) (len cap : Nat) (zs : List Int) : Prop :=
  (a = none ∧ len = 0 ∧ cap = 0 ∧ zs = []) ∨
  ∃ x, a = some x ∧ len ≤ cap ∧ cap ≤ maxLen ∧ zs.length = cap ∧ (∀ i, i < zs.length → w.cell? (x.add i) = some (.int k (zs.getD i 0))) ∧ ∀ n ∈ zs, (Lit.int k n).wf = true

theorem row_bsl {w : World} {a : Option Addr} {len cap : Nat} {zs : List Int} (h : IsRow .u8 w a len cap zs) : BSl w a len cap (fun i => (zs.getD i 0).toNat) := by
  rcases h with ⟨rfl, rfl, rfl, rfl⟩ | ⟨x, rfl, hl, hm, hz, hcell, hwz⟩
  · exact ⟨Nat.le_refl _, by omega, fun i hi => absurd hi (by omega), .inl rfl⟩
  · have hw : ∀ i, i < len → 0 ≤ zs.getD i 0 ∧ zs.getD i 0 < 256 := by
      intro i hi
      have hi2 : i < zs.length := by omega
      have := hwz (zs.getD i 0) (by rw [List.getD_eq_getElem?_getD, List.getElem?_eq_getElem hi2]; exact List.getElem_mem hi2)
      have hmin : IntKind.u8.min = 0 := rfl
      have hmax : IntKind.u8.max = 255 := rfl
      have h2 : IntKind.u8.min ≤ zs.getD i 0 ∧ zs.getD i 0 ≤ IntKind.u8.max := by simpa [Lit.wf] using this
      rw [hmin, hmax] at h2
      omega
    refine ⟨hl, by simp only [maxLen] at hm; omega, fun i hi => ?_, ?_⟩
    · have := hw i hi
      show (zs.getD i 0).toNat < 256
      omega
    · rcases Nat.eq_zero_or_pos len with e | e
      · exact .inl e
      · obtain ⟨b, off, spot⟩ := x
        have hc := hcell 0 (by omega)
        have hspot : spot = none := by simpa [Addr.add] using World.cell?_spot hc
        subst hspot
        refine .inr ⟨b, off, rfl, fun i hi => ?_⟩
        have h1 := hcell i (by omega)
        have h2 := hw i hi
        have h3 : (⟨b, off, none⟩ : Addr).add i = ⟨b, off + i, none⟩ := by unfold Addr.add; split <;> simp_all
        rw [h3] at h1
        rw [h1]
        show some (Value.int .u8 (zs.getD i 0)) = some (Value.int .u8 (((zs.getD i 0).toNat : Nat) : Int))
        rw [Int.toNat_of_nonneg h2.1]

theorem open_two {P : Program} {t tb te : TypeId} {f0 f1 : Field} (ht : P.underlying t = some (.struct #[f0, f1])) (h0t : f0.type = tb) (h0o : f0.offset = 0) (h1t : f1.type = tb) (h1o : f1.offset = 1) (hb : P.underlying tb = some (.slice te)) (he : P.underlying te = some (.int .u8)) (hce : P.cellsOf te = 1) (hcb : P.cellsOf tb = 1) (hct : P.cellsOf t = 2)
    {W : World} {H : Type} {enc : TypeId × Value → H} {base : Nat} {v : Value} {d : DataW H} {ps : List MemPlace} : Value.okWide P W .any base t v → DataW.Trod enc P W 0 (fun _ => true) true t v d ps →
    ∃ a2 len2 cap2 z2 a3 len3 cap3 z3, v = .agg #[.slice a2 len2 cap2, .slice a3 len3 cap3] ∧ IsRow .u8 W a2 len2 cap2 z2 ∧ IsRow .u8 W a3 len3 cap3 z3 := by
  intro ho h
  obtain ⟨cs, rfl, hsz⟩ := okWide_struct ht ho
  rw [hct] at hsz
  obtain ⟨l⟩ := cs
  obtain ⟨c0, c1, rfl⟩ : ∃ c0 c1, l = [c0, c1] := by
    match l, hsz with
    | [c0, c1], _ => exact ⟨c0, c1, rfl⟩
  obtain ⟨fuel, hf⟩ := h
  obtain ⟨y0, y1, m, _, _, hy0, hy1⟩ := trod_struct2 ht hf
  rw [h0t, h0o, hcb] at hy0
  rw [h1t, h1o, hcb] at hy1
  simp [Value.cells] at hy0 hy1
  have one : ∀ c y, DataW.trod enc P W 0 (fun _ => true) true m tb [c] = some y → ∃ a len cap zs, c = .slice a len cap ∧ IsRow .u8 W a len cap zs := fun c y hy => by
    rcases open_ints hb he hce hy with ⟨hcs, _⟩ | ⟨x, l, c, zs, hcs, _, hl, hm, hz, _, hcell, hwz⟩
    · simp at hcs
      exact ⟨_, _, _, [], hcs, .inl ⟨rfl, rfl, rfl, rfl⟩⟩
    · simp at hcs
      exact ⟨_, _, _, zs, hcs, .inr ⟨_, rfl, hl, hm, by simpa using hz, hcell, hwz⟩⟩
  obtain ⟨b0, l0, k0, z0, rfl, g0⟩ := one _ _ hy0
  obtain ⟨b1, l1, k1, z1, rfl, g1⟩ := one _ _ hy1
  exact ⟨_, _, _, _, _, _, _, _, rfl, g0, g1⟩
theorem openF {W : World} {H : Type} {enc : TypeId × Value → H} {base : Nat} {v : Value} {d : DataW H} {ps : List MemPlace} : Value.okWide Tryd.prog W .any base 24 v → DataW.Trod enc Tryd.prog W 0 (fun _ => true) true 24 v d ps →
    ∃ a2 len2 cap2 z2 a3 len3 cap3 z3, v = .agg #[.slice a2 len2 cap2, .slice a3 len3 cap3] ∧ IsRow .u8 W a2 len2 cap2 z2 ∧ IsRow .u8 W a3 len3 cap3 z3 :=
  open_two Tryd.underlying24 rfl rfl rfl rfl Tryd.underlying22 Tryd.underlying5 (by kernel_rfl) cellsB cellsF
end Go.Proofs.YtkhdapmipcghoaaDoor
