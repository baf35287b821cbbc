/- Contracts of the program's functions, part 17: own work, joined in build order. -/
import Derived.Test.YthogfecnbddfoaaGreatDoorJ16
namespace Go.Proofs.YthogfecnbddfoaaGreatDoor
open Go.RowKit
set_option maxRecDepth 100000
set_option linter.unusedVariables false
set_option maxHeartbeats 8000000 in
theorem ratMulInt_yes (v : Value) (p q k : Nat) (w : World) (h : Rt w v p q) (hp : RS p) (hq : RS q) (hk : k ≤ 9223372036854775807) (hT : Tab w) :
    Calls Tryz.prog 56 #[v, .int .i64 (k : Int)] w (MakesRB w (mulP p q k 1) (mulQ p q k 1) true) := by
  obtain ⟨p1, m1, d1, p2, m2, d2, e0, _, _⟩ := h.raw
  subst e0
  have S1 : Hid _ := (((sx_start w).addF h).box (.slice p1 m1 d1) (.slice p2 m2 d2) 51 _ rfl).box (.slice none 0 0) (.slice none 0 0) 51 _ rfl
  simp only [World.size_alloc] at S1
  obtain ⟨w0, hw0⟩ : ∃ w0, w0 = (w.alloc (.cells #[.slice p1 m1 d1, .slice p2 m2 d2] 51)).alloc (.cells #[.slice none 0 0, .slice none 0 0] 51) := ⟨_, rfl⟩
  have f6 : w0.frozen? ⟨w.heap.size + 1, 0, none⟩ = false := by rw [hw0]; simp [go_sem]
  have f7 : w0.frozen? ⟨w.heap.size + 1, 1, none⟩ = false := by rw [hw0]; simp [go_sem]
  have HH : Hid (RS p ∧ RS q ∧ RS k ∧ RS 1 ∧ Tab w) := ⟨hp, hq, rs_word (by omega), rs_word (by omega), hT⟩
  have HO : Hid (∀ w, Tab w → Calls Tryz.prog 34 #[.int .i64 (k : Int), .int .i64 1] w (MakesRB w k 1 true)) := fun w hT => by
    have := ratOf_yes k 1 w (by omega) (by omega) (by omega) hT
    rw [Nat.gcd_one_right, Nat.div_one, Nat.div_one] at this
    exact this
  clear h hp hq hT
  go_enter Tryz.func56, Tryz.ntmps56
  go_wp2_with fail
  rw [← hw0] at S1
  rw [← hw0]
  obtain ⟨b2, hb2⟩ : ∃ b2, b2 = w.heap.size := ⟨_, rfl⟩
  have HB : Hid (w.heap.size ≤ b2 + 1) := by show _ ≤ _; omega
  rw [← hb2] at S1 f6 f7
  rw [← hb2]
  clear hw0 hb2
  have FZ : Hid (w0.frozen? ⟨b2 + 1, 0, none⟩ = false ∧ w0.frozen? ⟨b2 + 1, 1, none⟩ = false) := ⟨f6, f7⟩
  clear f6 f7
  refine (HO.out _ (HH.out.2.2.2.2.go S1.out.bel)).mono ?_
  rintro e w7 ⟨v7, rfl, hv, hb⟩
  obtain ⟨a7, n7, c7, a8, n8, c8, ev, _, _⟩ := hv.raw
  subst ev
  have hbb := bel_go hb (bel_al (o := .cells #[.slice a7 n7 c7, .slice a8 n8 c8] 51) (bel_refl _))
  have FZ : Hid ((w7.alloc (.cells #[.slice a7 n7 c7, .slice a8 n8 c8] 51)).frozen? ⟨b2 + 1, 0, none⟩ = false ∧ (w7.alloc (.cells #[.slice a7 n7 c7, .slice a8 n8 c8] 51)).frozen? ⟨b2 + 1, 1, none⟩ = false) := ⟨(hbb.frozen (World.block_lt_of_cell? _ _ (S1.out.cel (b2 + 1) 0 (.slice none 0 0)))).trans FZ.out.1, (hbb.frozen (World.block_lt_of_cell? _ _ (S1.out.cel (b2 + 1) 1 (.slice none 0 0)))).trans FZ.out.2⟩
  have S3 : Hid _ := ((S1.out.go hb).addF hv).box (.slice a7 n7 c7) (.slice a8 n8 c8) 51 _ rfl
  clear hv hb hbb S1
  have z1 := S3.out.cel b2 0 (.slice p1 m1 d1)
  have z2 := S3.out.cel b2 1 (.slice p2 m2 d2)
  go_wp2_with fail
  clear z1 z2
  refine (ratMul_any _ _ p q k 1 _ (S3.out.fr (.agg #[.slice p1 m1 d1, .slice p2 m2 d2]) p q) (S3.out.fr (.agg #[.slice a7 n7 c7, .slice a8 n8 c8]) k 1) HH.out.1 HH.out.2.1 HH.out.2.2.1 HH.out.2.2.2.1 (HH.out.2.2.2.2.go S3.out.bel)).mono ?_
  rintro e w13 ⟨v13, rfl, hv, hb⟩
  obtain ⟨p7, q7, r7, p8, q8, r8, ev, _, _⟩ := hv.raw
  subst ev
  have x0 := cell_later hb (S3.out.cel (b2 + 1) 0 (.slice none 0 0))
  have x1 := cell_later hb (S3.out.cel (b2 + 1) 1 (.slice none 0 0))
  have f0 : w13.frozen? ⟨b2 + 1, 0, none⟩ = false := (hb.frozen (World.block_lt_of_cell? _ _ (S3.out.cel (b2 + 1) 0 (.slice none 0 0)))).trans FZ.out.1
  have f1 : w13.frozen? ⟨b2 + 1, 1, none⟩ = false := (hb.frozen (World.block_lt_of_cell? _ _ (S3.out.cel (b2 + 1) 1 (.slice none 0 0)))).trans FZ.out.2
  have Z : Hid _ := rat_put (w0 := w) (v := .slice p7 q7 r7) (u := .slice p8 q8 r8) x0 x1 hv (bel_go S3.out.bel hb) HB.out
  clear hv hb S3 FZ
  go_wp2_with fail
  exact bodyPost_ret (v := .tuple #[.agg #[.slice p7 q7 r7, .slice p8 q8 r8], .bool true]) (by simp [results, Tryz.results56, go_sem, x0, x1]) rfl ⟨_, rfl, Z.out.1, Z.out.2⟩
set_option maxHeartbeats 8000000 in
theorem ratDivInt_yes (v : Value) (p q k : Nat) (w : World) (h : Rt w v p q) (hp : RS p) (hq : RS q) (hk : k ≤ 9223372036854775807) (hk0 : 0 < k) (hT : Tab w) :
    Calls Tryz.prog 33 #[v, .int .i64 (k : Int)] w (MakesRB w (mulP p q 1 k) (mulQ p q 1 k) true) := by
  obtain ⟨p1, m1, d1, p2, m2, d2, e0, _, _⟩ := h.raw
  subst e0
  have S1 : Hid _ := (((sx_start w).addF h).box (.slice p1 m1 d1) (.slice p2 m2 d2) 51 _ rfl).box (.slice none 0 0) (.slice none 0 0) 51 _ rfl
  simp only [World.size_alloc] at S1
  obtain ⟨w0, hw0⟩ : ∃ w0, w0 = (w.alloc (.cells #[.slice p1 m1 d1, .slice p2 m2 d2] 51)).alloc (.cells #[.slice none 0 0, .slice none 0 0] 51) := ⟨_, rfl⟩
  have f6 : w0.frozen? ⟨w.heap.size + 1, 0, none⟩ = false := by rw [hw0]; simp [go_sem]
  have f7 : w0.frozen? ⟨w.heap.size + 1, 1, none⟩ = false := by rw [hw0]; simp [go_sem]
  have HH : Hid (RS p ∧ RS q ∧ RS 1 ∧ RS k ∧ Tab w) := ⟨hp, hq, rs_word (by omega), rs_word (by omega), hT⟩
  have HO : Hid (∀ w, Tab w → Calls Tryz.prog 34 #[.int .i64 1, .int .i64 (k : Int)] w (MakesRB w 1 k true)) := fun w hT => by
    have := ratOf_yes 1 k w (by omega) (by omega) (by omega) hT
    rw [Nat.gcd_one_left, Nat.div_one, Nat.div_one] at this
    exact this
  clear h hp hq hT
  go_enter Tryz.func33, Tryz.ntmps33
  go_wp2_with fail
  rw [← hw0] at S1
  rw [← hw0]
  obtain ⟨b2, hb2⟩ : ∃ b2, b2 = w.heap.size := ⟨_, rfl⟩
  have HB : Hid (w.heap.size ≤ b2 + 1) := by show _ ≤ _; omega
  rw [← hb2] at S1 f6 f7
  rw [← hb2]
  clear hw0 hb2
  have FZ : Hid (w0.frozen? ⟨b2 + 1, 0, none⟩ = false ∧ w0.frozen? ⟨b2 + 1, 1, none⟩ = false) := ⟨f6, f7⟩
  clear f6 f7
  refine (HO.out _ (HH.out.2.2.2.2.go S1.out.bel)).mono ?_
  rintro e w7 ⟨v7, rfl, hv, hb⟩
  obtain ⟨a7, n7, c7, a8, n8, c8, ev, _, _⟩ := hv.raw
  subst ev
  have hbb := bel_go hb (bel_al (o := .cells #[.slice a7 n7 c7, .slice a8 n8 c8] 51) (bel_refl _))
  have FZ : Hid ((w7.alloc (.cells #[.slice a7 n7 c7, .slice a8 n8 c8] 51)).frozen? ⟨b2 + 1, 0, none⟩ = false ∧ (w7.alloc (.cells #[.slice a7 n7 c7, .slice a8 n8 c8] 51)).frozen? ⟨b2 + 1, 1, none⟩ = false) := ⟨(hbb.frozen (World.block_lt_of_cell? _ _ (S1.out.cel (b2 + 1) 0 (.slice none 0 0)))).trans FZ.out.1, (hbb.frozen (World.block_lt_of_cell? _ _ (S1.out.cel (b2 + 1) 1 (.slice none 0 0)))).trans FZ.out.2⟩
  have S3 : Hid _ := ((S1.out.go hb).addF hv).box (.slice a7 n7 c7) (.slice a8 n8 c8) 51 _ rfl
  clear hv hb hbb S1
  have z1 := S3.out.cel b2 0 (.slice p1 m1 d1)
  have z2 := S3.out.cel b2 1 (.slice p2 m2 d2)
  go_wp2_with fail
  clear z1 z2
  refine (ratMul_any _ _ p q 1 k _ (S3.out.fr (.agg #[.slice p1 m1 d1, .slice p2 m2 d2]) p q) (S3.out.fr (.agg #[.slice a7 n7 c7, .slice a8 n8 c8]) 1 k) HH.out.1 HH.out.2.1 HH.out.2.2.1 HH.out.2.2.2.1 (HH.out.2.2.2.2.go S3.out.bel)).mono ?_
  rintro e w13 ⟨v13, rfl, hv, hb⟩
  obtain ⟨p7, q7, r7, p8, q8, r8, ev, _, _⟩ := hv.raw
  subst ev
  have x0 := cell_later hb (S3.out.cel (b2 + 1) 0 (.slice none 0 0))
  have x1 := cell_later hb (S3.out.cel (b2 + 1) 1 (.slice none 0 0))
  have f0 : w13.frozen? ⟨b2 + 1, 0, none⟩ = false := (hb.frozen (World.block_lt_of_cell? _ _ (S3.out.cel (b2 + 1) 0 (.slice none 0 0)))).trans FZ.out.1
  have f1 : w13.frozen? ⟨b2 + 1, 1, none⟩ = false := (hb.frozen (World.block_lt_of_cell? _ _ (S3.out.cel (b2 + 1) 1 (.slice none 0 0)))).trans FZ.out.2
  have Z : Hid _ := rat_put (w0 := w) (v := .slice p7 q7 r7) (u := .slice p8 q8 r8) x0 x1 hv (bel_go S3.out.bel hb) HB.out
  clear hv hb S3 FZ
  go_wp2_with fail
  exact bodyPost_ret (v := .tuple #[.agg #[.slice p7 q7 r7, .slice p8 q8 r8], .bool true]) (by simp [results, Tryz.results33, go_sem, x0, x1]) rfl ⟨_, rfl, Z.out.1, Z.out.2⟩
set_option maxHeartbeats 8000000 in
theorem whole_any (k : Nat) (w : World) (hk : k ≤ 9223372036854775807) (hT : Tab w) :
    Calls Tryz.prog 16 #[.int .i64 (k : Int)] w (MakesR w k 1) := by
  have S1 : Hid _ := (sx_start w).box (.slice none 0 0) (.slice none 0 0) 51 _ rfl
  obtain ⟨w0, hw0⟩ : ∃ w0, w0 = w.alloc (.cells #[.slice none 0 0, .slice none 0 0] 51) := ⟨_, rfl⟩
  have f6 : w0.frozen? ⟨w.heap.size, 0, none⟩ = false := by rw [hw0]; simp [go_sem]
  have f7 : w0.frozen? ⟨w.heap.size, 1, none⟩ = false := by rw [hw0]; simp [go_sem]
  have HT : Hid (Tab w) := hT
  have HO : Hid (∀ w, Tab w → Calls Tryz.prog 34 #[.int .i64 (k : Int), .int .i64 1] w (MakesRB w k 1 true)) := fun w hT => by
    have := ratOf_yes k 1 w (by omega) (by omega) (by omega) hT
    rw [Nat.gcd_one_right, Nat.div_one, Nat.div_one] at this
    exact this
  clear hT
  go_enter Tryz.func16, Tryz.ntmps16
  go_wp2_with fail
  rw [← hw0] at S1
  rw [← hw0]
  obtain ⟨b2, hb2⟩ : ∃ b2, b2 = w.heap.size := ⟨_, rfl⟩
  have HB : Hid (w.heap.size ≤ b2) := by show _ ≤ _; omega
  rw [← hb2] at S1 f6 f7
  rw [← hb2]
  clear hw0 hb2
  have FZ : Hid (w0.frozen? ⟨b2, 0, none⟩ = false ∧ w0.frozen? ⟨b2, 1, none⟩ = false) := ⟨f6, f7⟩
  clear f6 f7
  refine (HO.out _ (HT.out.go S1.out.bel)).mono ?_
  rintro e w7 ⟨v7, rfl, hv, hb⟩
  obtain ⟨a7, n7, c7, a8, n8, c8, ev, _, _⟩ := hv.raw
  subst ev
  have hbb := bel_go hb (bel_al (o := .cells #[.slice a7 n7 c7, .slice a8 n8 c8] 51) (bel_refl _))
  have f0 : (w7.alloc (.cells #[.slice a7 n7 c7, .slice a8 n8 c8] 51)).frozen? ⟨b2, 0, none⟩ = false := (hbb.frozen (World.block_lt_of_cell? _ _ (S1.out.cel b2 0 (.slice none 0 0)))).trans FZ.out.1
  have f1 : (w7.alloc (.cells #[.slice a7 n7 c7, .slice a8 n8 c8] 51)).frozen? ⟨b2, 1, none⟩ = false := (hbb.frozen (World.block_lt_of_cell? _ _ (S1.out.cel b2 1 (.slice none 0 0)))).trans FZ.out.2
  have x0 := cell_later hbb (S1.out.cel b2 0 (.slice none 0 0))
  have x1 := cell_later hbb (S1.out.cel b2 1 (.slice none 0 0))
  have Z : Hid _ := rat_put (w0 := w) (v := .slice a7 n7 c7) (u := .slice a8 n8 c8) x0 x1 (hv.mono (bel_al (o := .cells #[.slice a7 n7 c7, .slice a8 n8 c8] 51) (bel_refl _))) (bel_go S1.out.bel hbb) HB.out
  clear hv hb hbb S1 FZ
  go_wp2_with fail
  exact bodyPost_ret (v := .agg #[.slice a7 n7 c7, .slice a8 n8 c8]) (by simp [results, Tryz.results16, go_sem, x0, x1]) rfl ⟨_, rfl, Z.out.1, Z.out.2⟩
/-- Of a fraction's value. -/
theorem Fc.mulInt {p q N D n k : Nat} (h : Fc p q N D n) (hn : n ≤ 90) (hk : k ≤ 9223372036854775807) : ∃ A B, Fc A B (N * k) D (n + 1) ∧ ∀ v w, Rt w v p q → Tab w → Calls Tryz.prog 56 #[v, .int .i64 (k : Int)] w (MakesRB w A B true) := by
  have kk : Fc k 1 k 1 1 := ⟨Nat.gcd_one_right _, by omega, by omega, rfl, by rw [P_one]; omega, by rw [P_one]; omega⟩
  have low := mul_low h.pos kk.pos h.low kk.low
  have s1 : mulP p q k 1 < P (n + 1) := mulP_lt (Nat.lt_of_le_of_lt (Nat.div_le_self _ _) h.s1) (Nat.lt_of_le_of_lt (Nat.div_le_self _ _) kk.s1)
  have s2 : mulQ p q k 1 < P (n + 1) := mulP_lt (Nat.lt_of_le_of_lt (Nat.div_le_self _ _) h.s2) (Nat.lt_of_le_of_lt (Nat.div_le_self _ _) kk.s2)
  have vv := val_mul h.pos kk.pos h.val kk.val low.2.2
  rw [Nat.mul_one] at vv
  exact ⟨_, _, ⟨low.1, low.2.1, h.dpos, vv, s1, s2⟩, fun v w e hT => ratMulInt_yes v p q k w e (h.rs1 hn) (h.rs2 hn) hk hT⟩
theorem Fc.divInt {p q N D n k : Nat} (h : Fc p q N D n) (hn : n ≤ 90) (hk : k ≤ 9223372036854775807) (hk0 : 0 < k) : ∃ A B, Fc A B N (D * k) (n + 1) ∧ ∀ v w, Rt w v p q → Tab w → Calls Tryz.prog 33 #[v, .int .i64 (k : Int)] w (MakesRB w A B true) := by
  have kk : Fc 1 k 1 k 1 := ⟨Nat.gcd_one_left _, by omega, by omega, rfl, by rw [P_one]; omega, by rw [P_one]; omega⟩
  have low := mul_low h.pos kk.pos h.low kk.low
  have s1 : mulP p q 1 k < P (n + 1) := mulP_lt (Nat.lt_of_le_of_lt (Nat.div_le_self _ _) h.s1) (Nat.lt_of_le_of_lt (Nat.div_le_self _ _) kk.s1)
  have s2 : mulQ p q 1 k < P (n + 1) := mulP_lt (Nat.lt_of_le_of_lt (Nat.div_le_self _ _) h.s2) (Nat.lt_of_le_of_lt (Nat.div_le_self _ _) kk.s2)
  have vv := val_mul h.pos kk.pos h.val kk.val low.2.2
  rw [Nat.mul_one] at vv
  exact ⟨_, _, ⟨low.1, low.2.1, Nat.mul_pos h.dpos hk0, vv, s1, s2⟩, fun v w e hT => ratDivInt_yes v p q k w e (h.rs1 hn) (h.rs2 hn) hk hk0 hT⟩
end Go.Proofs.YthogfecnbddfoaaGreatDoor

namespace Go.Proofs.YthogfecnbddfoaaGreatDoor
open Go.RowKit
set_option maxRecDepth 100000
set_option linter.unusedVariables false
theorem cmpI_ge {x y : Nat} : decide (0 ≤ cmpI x y) = decide (y ≤ x) := by
  unfold cmpI
  by_cases h1 : x < y
  · rw [if_pos h1, decide_eq_false (by omega), decide_eq_false (by omega)]
  · by_cases h2 : x = y
    · rw [if_neg h1, if_pos h2, decide_eq_true (by omega), decide_eq_true (by omega)]
    · rw [if_neg h1, if_neg h2, decide_eq_true (by omega), decide_eq_true (by omega)]
set_option maxHeartbeats 4000000 in
theorem has_any (T : Int) (a1 : Option Addr) (n1 c1 : Nat) (a2 : Option Addr) (n2 c2 : Nat) (a3 : Option Addr) (n3 c3 : Nat) (a4 : Option Addr) (n4 c4 : Nat) (p q x y : Nat) (w : World) (h : Rt w (.agg #[.slice a1 n1 c1, .slice a2 n2 c2]) p q) (k : Rt w (.agg #[.slice a3 n3 c3, .slice a4 n4 c4]) x y) (hp : RS p) (hq : RS q) (hx : RS x) (hy : RS y) (bb : Bool) (hbb : decide (x * q ≤ p * y) = bb) :
    Calls Tryz.prog 55 #[.agg #[.int .i64 T, .slice a1 n1 c1, .slice a2 n2 c2], .agg #[.slice a3 n3 c3, .slice a4 n4 c4]] w fun e w' => e = .returned (.bool bb) ∧ Below w.heap.size w w' := by
  have ba : Hid (Below w.heap.size w ((w.alloc (.cells #[.int .i64 T, .slice a1 n1 c1, .slice a2 n2 c2] 55)).alloc (.cells #[.slice a3 n3 c3, .slice a4 n4 c4] 51))) := bel_al (bel_al (bel_refl w))
  have HH : Hid (Rt w (.agg #[.slice a1 n1 c1, .slice a2 n2 c2]) p q ∧ Rt w (.agg #[.slice a3 n3 c3, .slice a4 n4 c4]) x y ∧ RS p ∧ RS q ∧ RS x ∧ RS y) := ⟨h, k, hp, hq, hx, hy⟩
  have hz : decide (0 ≤ cmpI (p * y) (x * q)) = bb := by rw [cmpI_ge, hbb]
  clear h k hp hq hx hy hbb
  go_enter Tryz.func55, Tryz.ntmps55
  go_wp2_with fail
  refine (ratCmp_any _ _ p q x y _ (HH.out.1.mono ba.out) (HH.out.2.1.mono ba.out) HH.out.2.2.1 HH.out.2.2.2.1 HH.out.2.2.2.2.1 HH.out.2.2.2.2.2).mono ?_
  rintro e w1 ⟨rfl, hb1⟩
  have B1 : Hid (Below w.heap.size w w1) := bel_go ba.out hb1
  obtain ⟨z, ez⟩ : ∃ z, z = cmpI (p * y) (x * q) := ⟨_, rfl⟩
  rw [← ez] at hz ⊢
  clear ez hb1 ba HH
  go_wp2_with fail
  go_ret
  exact ⟨by rw [← hz]; rfl, B1.out⟩
/-- Two cells of a bucket take what it has. -/
def Sto12 (R : Nat) (w : World) (v : Value) (w' : World) : Prop := ∃ u u', v = .agg #[u, u'] ∧ w' = (w.setCell ⟨R, 1, none⟩ u).setCell ⟨R, 2, none⟩ u'

set_option maxHeartbeats 8000000 in
theorem bfill_any (b T N R D B k : Nat) (w : World) (h : Bu w b T N R D B) (hk : k ≤ 4611686018427387904) (hT : Tab w) :
    Calls Tryz.prog 39 #[.pointer (some ⟨b, 0, none⟩), .int .i64 (k : Int)] w fun e w' => e = .returned (.tuple #[]) ∧ Bu w' b T (fillN N R D B k) R D B ∧ Fb (fun x => x = b) w w' := by
  have HB : Hid (Bu w b T N R D B ∧ Tab w ∧ k ≤ 4611686018427387904) := ⟨h, hT, hk⟩
  obtain ⟨p, q, a1, n1, c1, a2, n2, c2, a3, n3, c3, a4, n4, c4, a5, n5, c5, a6, n6, c6, f1, S1', fz⟩ := h.toBv.open
  have S1 : Hid _ := S1'
  have FB : Fc B 1 B 1 1 := ⟨Nat.gcd_one_right _, by omega, by omega, rfl, by rw [P_one]; have := h.cB; omega, by rw [P_one]; omega⟩
  have HS : Hid (RS p ∧ RS q ∧ RS B ∧ RS 1) := ⟨f1.rs1 (by omega), f1.rs2 (by omega), FB.rs1 (by omega), FB.rs2 (by omega)⟩
  have FH : Hid (Fc p q N D 20 ∧ Fc B 1 B 1 1) := ⟨f1, FB⟩
  have HN : Hid (N ≤ B * D) := h.cN
  clear S1' fz h hT f1 FB
  obtain ⟨bb, hbb⟩ : ∃ bb, decide (B * q ≤ p * 1) = bb := ⟨_, rfl⟩
  have hbn : decide (B * D ≤ N) = bb := by
    rw [← hbb]
    have := FH.out.1.le FH.out.2
    rw [Nat.mul_one N] at this
    exact decide_eq_decide.2 this.symm
  have HBB : Hid (decide (B * q ≤ p * 1) = bb) := hbb
  have HBN : Hid (decide (B * D ≤ N) = bb) := hbn
  clear hbb hbn
  go_enter Tryz.func39, Tryz.ntmps39
  go_wp2_with fail
  refine wp_region_inv (JB w [sEq (.pointer (some ⟨b, 0, none⟩)), sEq (.pointer (some ⟨b, 0, none⟩)), sEq (.pointer (some ⟨b, 0, none⟩)), sEq (.agg #[.int .i64 (T : Int), .slice a1 n1 c1, .slice a2 n2 c2]), sEq (.pointer (some ⟨b, 0, none⟩)), sEq (.pointer (some ⟨b, 0, none⟩)), sEq (.pointer (some ⟨b, 3, none⟩)), sEq (.agg #[.slice a3 n3 c3, .slice a4 n4 c4]), sEq (.bool bb)] []) 52 (by kernel_rfl) rfl (by kernel_rfl) (JB.start _ _ _) (fun HG HN => ⟨?_, ?_, ?_, ?_, ?_, ?_, ?_, ?_, ?_, trivial⟩) ?_
  · intro L vs a w' hJ hF hP hL
    have q0 : (a.tmps[0]?).getD undef = .pointer (some ⟨b, 0, none⟩) := hF.old 0 rfl
    exact run_val (v := .pointer (some ⟨b, 0, none⟩)) rfl (by simp [execOp, go_sem, q0]) ⟨_, rfl, hJ.step hL rfl (Below.refl _ _) (by exact rfl)⟩
  · intro L vs a w' hJ hF hP hL
    have p0 : L 0 = true := hP ⟨0, .data⟩ (by simp) rfl
    have s0 : vs 0 = .pointer (some ⟨b, 0, none⟩) := hJ.sp 0 p0
    have q6 := hF.slot 0 6 rfl p0
    exact run_val (v := .pointer (some ⟨b, 0, none⟩)) rfl (by simp [execOp, go_sem, q6, s0]) ⟨_, rfl, hJ.step hL rfl (Below.refl _ _) (by exact rfl)⟩
  · intro L vs a w' hJ hF hP hL
    have p1 : L 1 = true := hP ⟨1, .data⟩ (by simp) rfl
    have s1 : vs 1 = .pointer (some ⟨b, 0, none⟩) := hJ.sp 1 p1
    have q7 := hF.slot 1 7 rfl p1
    exact run_val (v := .pointer (some ⟨b, 0, none⟩)) rfl (by simp [execOp, go_sem, q7, s1]) ⟨_, rfl, hJ.step hL rfl (Below.refl _ _) (by exact rfl)⟩
  · intro L vs a w' hJ hF hP hL
    have p2 : L 2 = true := hP ⟨2, .data⟩ (by simp) rfl
    have s2 : vs 2 = .pointer (some ⟨b, 0, none⟩) := hJ.sp 2 p2
    have q8 := hF.slot 2 8 rfl p2
    have cb0 := cell_later hJ.bel (S1.out.cel (b) 0 (.int .i64 (T : Int)))
    have cb1 := cell_later hJ.bel (S1.out.cel (b) 1 (.slice a1 n1 c1))
    have cb2 := cell_later hJ.bel (S1.out.cel (b) 2 (.slice a2 n2 c2))
    exact run_val (v := .agg #[.int .i64 (T : Int), .slice a1 n1 c1, .slice a2 n2 c2]) rfl (by simp [execOp, go_sem, q8, s2, cb0, cb1, cb2]) ⟨_, rfl, hJ.step hL rfl (Below.refl _ _) (by exact rfl)⟩
  · intro L vs a w' hJ hF hP hL
    have q0 : (a.tmps[0]?).getD undef = .pointer (some ⟨b, 0, none⟩) := hF.old 0 rfl
    exact run_val (v := .pointer (some ⟨b, 0, none⟩)) rfl (by simp [execOp, go_sem, q0]) ⟨_, rfl, hJ.step hL rfl (Below.refl _ _) (by exact rfl)⟩
  · intro L vs a w' hJ hF hP hL
    have p4 : L 4 = true := hP ⟨4, .data⟩ (by simp) rfl
    have s4 : vs 4 = .pointer (some ⟨b, 0, none⟩) := hJ.sp 4 p4
    have q10 := hF.slot 4 10 rfl p4
    exact run_val (v := .pointer (some ⟨b, 0, none⟩)) rfl (by simp [execOp, go_sem, q10, s4]) ⟨_, rfl, hJ.step hL rfl (Below.refl _ _) (by exact rfl)⟩
  · intro L vs a w' hJ hF hP hL
    have p5 : L 5 = true := hP ⟨5, .data⟩ (by simp) rfl
    have s5 : vs 5 = .pointer (some ⟨b, 0, none⟩) := hJ.sp 5 p5
    have q11 := hF.slot 5 11 rfl p5
    exact run_val (v := .pointer (some ⟨b, 3, none⟩)) rfl (by simp [execOp, go_sem, q11, s5]) ⟨_, rfl, hJ.step hL rfl (Below.refl _ _) (by exact rfl)⟩
  · intro L vs a w' hJ hF hP hL
    have p6 : L 6 = true := hP ⟨6, .data⟩ (by simp) rfl
    have s6 : vs 6 = .pointer (some ⟨b, 3, none⟩) := hJ.sp 6 p6
    have q12 := hF.slot 6 12 rfl p6
    have cb0 := cell_later hJ.bel (S1.out.cel (b) 3 (.slice a3 n3 c3))
    have cb1 := cell_later hJ.bel (S1.out.cel (b) 4 (.slice a4 n4 c4))
    exact run_val (v := .agg #[.slice a3 n3 c3, .slice a4 n4 c4]) rfl (by simp [execOp, go_sem, q12, s6, cb0, cb1]) ⟨_, rfl, hJ.step hL rfl (Below.refl _ _) (by exact rfl)⟩
  · intro L vs a w' hJ hF hP hL
    have p3 : L 3 = true := hP ⟨3, .data⟩ (by simp) rfl
    have s3 : vs 3 = .agg #[.int .i64 (T : Int), .slice a1 n1 c1, .slice a2 n2 c2] := hJ.sp 3 p3
    have q9 := hF.slot 3 9 rfl p3
    have p7 : L 7 = true := hP ⟨7, .data⟩ (by simp) rfl
    have s7 : vs 7 = .agg #[.slice a3 n3 c3, .slice a4 n4 c4] := hJ.sp 7 p7
    have q13 := hF.slot 7 13 rfl p7
    refine run_call (f := 55) (args := #[.agg #[.int .i64 (T : Int), .slice a1 n1 c1, .slice a2 n2 c2], .agg #[.slice a3 n3 c3, .slice a4 n4 c4]]) rfl (by simp [go_sem, q9, s3, q13, s7]) (has_any (T : Int) a1 n1 c1 a2 n2 c2 a3 n3 c3 a4 n4 c4 p q B 1 _ ((S1.out.fr (.agg #[.slice a1 n1 c1, .slice a2 n2 c2]) p q).mono hJ.bel) ((S1.out.fr (.agg #[.slice a3 n3 c3, .slice a4 n4 c4]) B 1).mono hJ.bel) HS.out.1 HS.out.2.1 HS.out.2.2.1 HS.out.2.2.2 bb HBB.out) ?_
    rintro e w2 ⟨rfl, hb⟩
    exact ⟨_, rfl, _, rfl, hJ.step hL rfl hb (by exact rfl)⟩
  intro L vs w' hA hJ
  have s8 : vs 8 = .bool bb := hJ.sp 8 (hA 8 (by simp))
  simp only [putL, Act.put, List.setIfInBounds_toArray, List.set_cons_zero, List.set_cons_succ, Nat.reduceAdd]
  have HJ : Hid (Below w.heap.size w w') := hJ.bel
  simp only [s8]
  clear hJ hA s8
  cases bb
  · have S2 : Hid _ := S1.out.go HJ.out
    have Z2 : Hid (Bu w' b T N R D B ∧ Tab w' ∧ Below w.heap.size w w') := ⟨HB.out.1.go HJ.out, HB.out.2.1.go HJ.out, HJ.out⟩
    have z5 := S2.out.cel b 5 (.slice a5 n5 c5)
    have z6 := S2.out.cel b 6 (.slice a6 n6 c6)
    have hlow : Hid (Nat.gcd R D = 1 ∧ 0 < D ∧ D < P 18 ∧ R < P 17) := ⟨HB.out.1.low, HB.out.1.cD.1, HB.out.1.cD.2, HB.out.1.cR⟩
    go_wp2_with fail
    clear z5 z6
    have FR : Fc R D R D 18 := ⟨hlow.out.1, hlow.out.2.1, hlow.out.2.1, rfl, P_up hlow.out.2.2.2 (by omega), hlow.out.2.2.1⟩
    obtain ⟨A, C, fg, mi⟩ := FR.mulInt (by omega) (k := k) (by have := HB.out.2.2; omega)
    refine (mi (.agg #[.slice a5 n5 c5, .slice a6 n6 c6]) w' (S2.out.fr (.agg #[.slice a5 n5 c5, .slice a6 n6 c6]) R D) Z2.out.2.1).mono ?_
    rintro e w7 ⟨v7, rfl, hv, hb⟩
    obtain ⟨a7, n7, c7, a8, n8, c8, ev, _, _⟩ := hv.raw
    subst ev
    have FG : Hid (Fc A C (R * k) D 19) := fg
    clear fg mi FR
    have hbb := bel_go hb (bel_al (o := .cells #[.slice a7 n7 c7, .slice a8 n8 c8] 51) (bel_refl _))
    have S3 : Hid _ := ((S2.out.go hb).addF hv).box (.slice a7 n7 c7) (.slice a8 n8 c8) 51 _ rfl
    have Z3 : Hid (Bu (w7.alloc (.cells #[.slice a7 n7 c7, .slice a8 n8 c8] 51)) b T N R D B ∧ Tab (w7.alloc (.cells #[.slice a7 n7 c7, .slice a8 n8 c8] 51)) ∧ Below w.heap.size w (w7.alloc (.cells #[.slice a7 n7 c7, .slice a8 n8 c8] 51))) := ⟨Z2.out.1.go hbb, Z2.out.2.1.go hbb, bel_go Z2.out.2.2 hbb⟩
    clear hv hb hbb S2 Z2 HJ
    go_wp2_with fail
    obtain ⟨w8, hw⟩ : ∃ w8, w8 = w7.alloc (.cells #[.slice a7 n7 c7, .slice a8 n8 c8] 51) := ⟨_, rfl⟩
    obtain ⟨g, hg⟩ : ∃ g, g = w7.heap.size := ⟨_, rfl⟩
    rw [← hw, ← hg] at S3
    rw [← hw] at Z3
    rw [← hw, ← hg]
    clear hw hg
    obtain ⟨X, Y, fs, _, ad⟩ := FH.out.1.add FG.out (by omega) (by omega)
    have ne1 : N * D + R * k * D = (N + R * k) * D := by grind
    have fs2 := (fs.scale ne1 rfl hlow.out.2.1).norm (m := 20) (by
      have h1 := HN.out
      have h2 : B * D < P 1 * P 18 := Nat.mul_lt_mul'' (by rw [P_one]; have := HB.out.1.cB; omega) hlow.out.2.2.1
      have h3 : R * k < P 17 * P 1 := Nat.mul_lt_mul'' hlow.out.2.2.2 (by rw [P_one]; have := HB.out.2.2; omega)
      rw [← P_add] at h2 h3
      have h4 : N + R * k < P (19 + 1) := P_twice (Nat.lt_of_le_of_lt h1 h2) (P_up h3 (by omega))
      exact h4) (P_up hlow.out.2.2.1 (by omega))
    have FS : Hid (Fc X Y (N + R * k) D 20) := fs2
    have AD : Hid (∀ v u w, Rt w v p q → Rt w u A C → Tab w → Calls Tryz.prog 57 #[v, u] w (MakesR w X Y)) := ad
    clear fs fs2 ne1 ad
    have e6 := S3.out.cel b 1 (.slice a1 n1 c1)
    have e7 := S3.out.cel b 2 (.slice a2 n2 c2)
    have fz := (Z3.out.1.toBv.open)
    have f67 : w8.frozen? ⟨b, 1, none⟩ = false ∧ w8.frozen? ⟨b, 2, none⟩ = false := by
      obtain ⟨_, _, _, _, _, _, _, _, _, _, _, _, _, _, _, _, _, _, _, _, _, _, hf⟩ := fz
      exact ⟨hf 1, hf 2⟩
    obtain ⟨f6, f7⟩ := f67
    clear fz
    refine wp_region_inv (JD w8 [sEq (.pointer (some ⟨b, 0, none⟩)), sEq (.pointer (some ⟨b, 0, none⟩)), sEq (.pointer (some ⟨b, 0, none⟩)), sEq (.pointer (some ⟨b, 0, none⟩)), sEq (.pointer (some ⟨b, 1, none⟩)), sEq (.agg #[.slice a1 n1 c1, .slice a2 n2 c2]), sEq (.agg #[.slice a7 n7 c7, .slice a8 n8 c8]), sRt (X) (Y), sEq (.pointer (some ⟨b, 0, none⟩)), sEq (.pointer (some ⟨b, 0, none⟩)), sEq (.pointer (some ⟨b, 1, none⟩)), sAny] [[], [], [1], [2], [3], [4], [], [5, 6], [0], [8], [9], [10, 7]] 11 7 [0, 1, 2, 3, 4, 5, 6, 7, 8, 9, 10] (Sto12 (b))) 52 (by kernel_rfl) rfl (by kernel_rfl) (JD.start _ _ _ _ _ _ _) (fun HG HN => ⟨?_, ?_, ?_, ?_, ?_, ?_, ?_, ?_, ?_, ?_, ?_, ?_, trivial⟩) ?_
    · intro L vs a w' hJ hF hP hL
      have hK := hJ
      have hJ := hK.open hL (by decide)
      have q0 : (a.tmps[0]?).getD undef = .pointer (some ⟨b, 0, none⟩) := hF.old 0 rfl
      exact run_val (v := .pointer (some ⟨b, 0, none⟩)) rfl (by simp [execOp, go_sem, q0]) ⟨_, rfl, hK.step hL (by decide) (by decide) rfl (nd_nil) <| hJ.step hL rfl (Below.refl _ _) (by exact rfl)⟩
    · intro L vs a w' hJ hF hP hL
      have hK := hJ
      have hJ := hK.open hL (by decide)
      have q0 : (a.tmps[0]?).getD undef = .pointer (some ⟨b, 0, none⟩) := hF.old 0 rfl
      exact run_val (v := .pointer (some ⟨b, 0, none⟩)) rfl (by simp [execOp, go_sem, q0]) ⟨_, rfl, hK.step hL (by decide) (by decide) rfl (nd_nil) <| hJ.step hL rfl (Below.refl _ _) (by exact rfl)⟩
    · intro L vs a w' hJ hF hP hL
      have hK := hJ
      have hJ := hK.open hL (by decide)
      have p1 : L 1 = true := hP ⟨1, .data⟩ (by simp) rfl
      have s1 : vs 1 = .pointer (some ⟨b, 0, none⟩) := hJ.sp 1 p1
      have q25 := hF.slot 1 25 rfl p1
      exact run_val (v := .pointer (some ⟨b, 0, none⟩)) rfl (by simp [execOp, go_sem, q25, s1]) ⟨_, rfl, hK.step hL (by decide) (by decide) rfl (nd_cons p1 (nd_nil)) <| hJ.step hL rfl (Below.refl _ _) (by exact rfl)⟩
    · intro L vs a w' hJ hF hP hL
      have hK := hJ
      have hJ := hK.open hL (by decide)
      have p2 : L 2 = true := hP ⟨2, .data⟩ (by simp) rfl
      have s2 : vs 2 = .pointer (some ⟨b, 0, none⟩) := hJ.sp 2 p2
      have q26 := hF.slot 2 26 rfl p2
      exact run_val (v := .pointer (some ⟨b, 0, none⟩)) rfl (by simp [execOp, go_sem, q26, s2]) ⟨_, rfl, hK.step hL (by decide) (by decide) rfl (nd_cons p2 (nd_nil)) <| hJ.step hL rfl (Below.refl _ _) (by exact rfl)⟩
    · intro L vs a w' hJ hF hP hL
      have hK := hJ
      have hJ := hK.open hL (by decide)
      have p3 : L 3 = true := hP ⟨3, .data⟩ (by simp) rfl
      have s3 : vs 3 = .pointer (some ⟨b, 0, none⟩) := hJ.sp 3 p3
      have q27 := hF.slot 3 27 rfl p3
      exact run_val (v := .pointer (some ⟨b, 1, none⟩)) rfl (by simp [execOp, go_sem, q27, s3]) ⟨_, rfl, hK.step hL (by decide) (by decide) rfl (nd_cons p3 (nd_nil)) <| hJ.step hL rfl (Below.refl _ _) (by exact rfl)⟩
    · intro L vs a w' hJ hF hP hL
      have hK := hJ
      have hJ := hK.open hL (by decide)
      have p4 : L 4 = true := hP ⟨4, .data⟩ (by simp) rfl
      have s4 : vs 4 = .pointer (some ⟨b, 1, none⟩) := hJ.sp 4 p4
      have q28 := hF.slot 4 28 rfl p4
      have cb0 := cell_later hJ.bel (S3.out.cel (b) 1 (.slice a1 n1 c1))
      have cb1 := cell_later hJ.bel (S3.out.cel (b) 2 (.slice a2 n2 c2))
      exact run_val (v := .agg #[.slice a1 n1 c1, .slice a2 n2 c2]) rfl (by simp [execOp, go_sem, q28, s4, cb0, cb1]) ⟨_, rfl, hK.step hL (by decide) (by decide) rfl (nd_cons p4 (nd_nil)) <| hJ.step hL rfl (Below.refl _ _) (by exact rfl)⟩
    · intro L vs a w' hJ hF hP hL
      have hK := hJ
      have hJ := hK.open hL (by decide)
      have q4 : (a.tmps[4]?).getD undef = .pointer (some ⟨g, 0, none⟩) := hF.old 4 rfl
      have cb0 := cell_later hJ.bel (S3.out.cel (g) 0 (.slice a7 n7 c7))
      have cb1 := cell_later hJ.bel (S3.out.cel (g) 1 (.slice a8 n8 c8))
      exact run_val (v := .agg #[.slice a7 n7 c7, .slice a8 n8 c8]) rfl (by simp [execOp, go_sem, q4, cb0, cb1]) ⟨_, rfl, hK.step hL (by decide) (by decide) rfl (nd_nil) <| hJ.step hL rfl (Below.refl _ _) (by exact rfl)⟩
    · intro L vs a w' hJ hF hP hL
      have hK := hJ
      have hJ := hK.open hL (by decide)
      have p5 : L 5 = true := hP ⟨5, .data⟩ (by simp) rfl
      have s5 : vs 5 = .agg #[.slice a1 n1 c1, .slice a2 n2 c2] := hJ.sp 5 p5
      have q29 := hF.slot 5 29 rfl p5
      have p6 : L 6 = true := hP ⟨6, .data⟩ (by simp) rfl
      have s6 : vs 6 = .agg #[.slice a7 n7 c7, .slice a8 n8 c8] := hJ.sp 6 p6
      have q30 := hF.slot 6 30 rfl p6
      refine run_call (f := 57) (args := #[.agg #[.slice a1 n1 c1, .slice a2 n2 c2], .agg #[.slice a7 n7 c7, .slice a8 n8 c8]]) rfl (by simp [go_sem, q29, s5, q30, s6]) (AD.out _ _ _ ((S3.out.fr (.agg #[.slice a1 n1 c1, .slice a2 n2 c2]) p q).mono hJ.bel) ((S3.out.fr (.agg #[.slice a7 n7 c7, .slice a8 n8 c8]) A C).mono hJ.bel) (Z3.out.2.1.go hJ.bel)) ?_
      rintro e w2 ⟨v, rfl, hv, hb⟩
      exact ⟨_, rfl, _, rfl, hK.step hL (by decide) (by decide) rfl (nd_cons p5 (nd_cons p6 (nd_nil))) <| hJ.step hL rfl hb (by exact hv)⟩
    · intro L vs a w' hJ hF hP hL
      have hK := hJ
      have hJ := hK.open hL (by decide)
      have p0 : L 0 = true := hP ⟨0, .data⟩ (by simp) rfl
      have s0 : vs 0 = .pointer (some ⟨b, 0, none⟩) := hJ.sp 0 p0
      have q24 := hF.slot 0 24 rfl p0
      exact run_val (v := .pointer (some ⟨b, 0, none⟩)) rfl (by simp [execOp, go_sem, q24, s0]) ⟨_, rfl, hK.step hL (by decide) (by decide) rfl (nd_cons p0 (nd_nil)) <| hJ.step hL rfl (Below.refl _ _) (by exact rfl)⟩
    · intro L vs a w' hJ hF hP hL
      have hK := hJ
      have hJ := hK.open hL (by decide)
      have p8 : L 8 = true := hP ⟨8, .data⟩ (by simp) rfl
      have s8 : vs 8 = .pointer (some ⟨b, 0, none⟩) := hJ.sp 8 p8
      have q32 := hF.slot 8 32 rfl p8
      exact run_val (v := .pointer (some ⟨b, 0, none⟩)) rfl (by simp [execOp, go_sem, q32, s8]) ⟨_, rfl, hK.step hL (by decide) (by decide) rfl (nd_cons p8 (nd_nil)) <| hJ.step hL rfl (Below.refl _ _) (by exact rfl)⟩
    · intro L vs a w' hJ hF hP hL
      have hK := hJ
      have hJ := hK.open hL (by decide)
      have p9 : L 9 = true := hP ⟨9, .data⟩ (by simp) rfl
      have s9 : vs 9 = .pointer (some ⟨b, 0, none⟩) := hJ.sp 9 p9
      have q33 := hF.slot 9 33 rfl p9
      exact run_val (v := .pointer (some ⟨b, 1, none⟩)) rfl (by simp [execOp, go_sem, q33, s9]) ⟨_, rfl, hK.step hL (by decide) (by decide) rfl (nd_cons p9 (nd_nil)) <| hJ.step hL rfl (Below.refl _ _) (by exact rfl)⟩
    · intro L vs a w' hJ hF hP hL
      have hK := hJ
      have hJ := hK.core hL
      have p10 : L 10 = true := hP ⟨10, .data⟩ (by simp) rfl
      have s10 : vs 10 = .pointer (some ⟨b, 1, none⟩) := hJ.sp 10 p10
      have q34 := hF.slot 10 34 rfl p10
      have p7 : L 7 = true := hP ⟨7, .data⟩ (by simp) rfl
      have s7 : Rt w' (vs 7) (X) (Y) := hJ.sp 7 p7
      have q31 := hF.slot 7 31 rfl p7
      have p5 : L 5 = true := hK.cl 7 p7 5 (by simp)
      have p4 : L 4 = true := hK.cl 5 p5 4 (by simp)
      have p3 : L 3 = true := hK.cl 4 p4 3 (by simp)
      have p2 : L 2 = true := hK.cl 3 p3 2 (by simp)
      have p1 : L 1 = true := hK.cl 2 p2 1 (by simp)
      have p6 : L 6 = true := hK.cl 7 p7 6 (by simp)
      have p9 : L 9 = true := hK.cl 10 p10 9 (by simp)
      have p8 : L 8 = true := hK.cl 9 p9 8 (by simp)
      have p0 : L 0 = true := hK.cl 8 p8 0 (by simp)
      have x0 := cell_later hJ.bel e6
      have y0 := (hJ.bel.frozen (World.block_lt_of_cell? _ _ e6)).trans f6
      have x1 := cell_later hJ.bel e7
      have y1 := (hJ.bel.frozen (World.block_lt_of_cell? _ _ e7)).trans f7
      obtain ⟨aa, nn, cc, a2, n2, c2, e8, _, _⟩ := s7.raw
      exact run_unit (w' := ((w'.setCell ⟨b, 1, none⟩ (.slice aa nn cc)).setCell ⟨b, 2, none⟩ (.slice a2 n2 c2))) rfl (by simp [execOp, go_sem, q34, s10, q31, e8, x0, y0, x1, y1]) ⟨undef, rfl, hK.put hL (by decide) rfl (nd_cons p10 (nd_cons p7 (nd_nil))) (nd_cons p0 (nd_cons p1 (nd_cons p2 (nd_cons p3 (nd_cons p4 (nd_cons p5 (nd_cons p6 (nd_cons p7 (nd_cons p8 (nd_cons p9 (nd_cons p10 (nd_nil)))))))))))) p7 ⟨_, _, e8, rfl⟩⟩
    intro L vs w' hA hK
    obtain ⟨_, w1, hb1, sv, u1, u2, ev, ew⟩ := hK.fin (hA 11 (by simp))
    replace sv : Rt w1 (vs 7) (X) (Y) := sv
    simp only [putL, Act.put, List.setIfInBounds_toArray, List.set_cons_zero, List.set_cons_succ, Nat.reduceAdd]
    rw [ev] at sv
    obtain ⟨ZP, FP⟩ := (Z3.out.1.toBv.go hb1).put sv FS.out
    rw [← ew] at ZP FP
    have Z4 : Hid (Bv w' b T (N + R * k) R D B ∧ Fb (fun x => x = b) w w') := ⟨ZP, (Fb.of (bel_go Z3.out.2.2 hb1)).trans FP⟩
    clear hK hA ev ew sv hb1 ZP FP S3 Z3 e6 e7 f6 f7 AD FS FG
    clear S1 HS FH HBB HBN
    obtain ⟨p, q, a1, n1, c1, a2, n2, c2, a3, n3, c3, a4, n4, c4, a5, n5, c5, a6, n6, c6, f1, S1', fz⟩ := Z4.out.1.open
    have S1 : Hid _ := S1'
    have FB : Fc B 1 B 1 1 := ⟨Nat.gcd_one_right _, by omega, by omega, rfl, by rw [P_one]; have := HB.out.1.cB; omega, by rw [P_one]; omega⟩
    have HS : Hid (RS p ∧ RS q ∧ RS B ∧ RS 1) := ⟨f1.rs1 (by omega), f1.rs2 (by omega), FB.rs1 (by omega), FB.rs2 (by omega)⟩
    obtain ⟨bb, hbb⟩ : ∃ bb, decide (B * q ≤ p * 1) = bb := ⟨_, rfl⟩
    have hbn : decide (B * D ≤ N + R * k) = bb := by
      rw [← hbb]
      have := f1.le FB
      rw [Nat.mul_one (N + R * k)] at this
      exact decide_eq_decide.2 this.symm
    have HBB : Hid (decide (B * q ≤ p * 1) = bb) := hbb
    have HBN : Hid (decide (B * D ≤ N + R * k) = bb) := hbn
    have FZ : Hid (∀ i, w'.frozen? ⟨b, i, none⟩ = false) := fz
    clear hbb hbn S1' fz f1 FB
    obtain ⟨w9, hw⟩ : ∃ w9, w9 = w' := ⟨_, rfl⟩
    rw [← hw] at S1 Z4 FZ
    rw [← hw]
    clear hw
    go_wp2_with fail
    refine wp_region_inv (JB w9 [sEq (.pointer (some ⟨b, 0, none⟩)), sEq (.pointer (some ⟨b, 0, none⟩)), sEq (.pointer (some ⟨b, 0, none⟩)), sEq (.agg #[.int .i64 (T : Int), .slice a1 n1 c1, .slice a2 n2 c2]), sEq (.pointer (some ⟨b, 0, none⟩)), sEq (.pointer (some ⟨b, 0, none⟩)), sEq (.pointer (some ⟨b, 3, none⟩)), sEq (.agg #[.slice a3 n3 c3, .slice a4 n4 c4]), sEq (.bool bb)] []) 52 (by kernel_rfl) rfl (by kernel_rfl) (JB.start _ _ _) (fun HG HN => ⟨?_, ?_, ?_, ?_, ?_, ?_, ?_, ?_, ?_, trivial⟩) ?_
    · intro L vs a w' hJ hF hP hL
      have q0 : (a.tmps[0]?).getD undef = .pointer (some ⟨b, 0, none⟩) := hF.old 0 rfl
      exact run_val (v := .pointer (some ⟨b, 0, none⟩)) rfl (by simp [execOp, go_sem, q0]) ⟨_, rfl, hJ.step hL rfl (Below.refl _ _) (by exact rfl)⟩
    · intro L vs a w' hJ hF hP hL
      have p0 : L 0 = true := hP ⟨0, .data⟩ (by simp) rfl
      have s0 : vs 0 = .pointer (some ⟨b, 0, none⟩) := hJ.sp 0 p0
      have q35 := hF.slot 0 35 rfl p0
      exact run_val (v := .pointer (some ⟨b, 0, none⟩)) rfl (by simp [execOp, go_sem, q35, s0]) ⟨_, rfl, hJ.step hL rfl (Below.refl _ _) (by exact rfl)⟩
    · intro L vs a w' hJ hF hP hL
      have p1 : L 1 = true := hP ⟨1, .data⟩ (by simp) rfl
      have s1 : vs 1 = .pointer (some ⟨b, 0, none⟩) := hJ.sp 1 p1
      have q36 := hF.slot 1 36 rfl p1
      exact run_val (v := .pointer (some ⟨b, 0, none⟩)) rfl (by simp [execOp, go_sem, q36, s1]) ⟨_, rfl, hJ.step hL rfl (Below.refl _ _) (by exact rfl)⟩
    · intro L vs a w' hJ hF hP hL
      have p2 : L 2 = true := hP ⟨2, .data⟩ (by simp) rfl
      have s2 : vs 2 = .pointer (some ⟨b, 0, none⟩) := hJ.sp 2 p2
      have q37 := hF.slot 2 37 rfl p2
      have cb0 := cell_later hJ.bel (S1.out.cel (b) 0 (.int .i64 (T : Int)))
      have cb1 := cell_later hJ.bel (S1.out.cel (b) 1 (.slice a1 n1 c1))
      have cb2 := cell_later hJ.bel (S1.out.cel (b) 2 (.slice a2 n2 c2))
      exact run_val (v := .agg #[.int .i64 (T : Int), .slice a1 n1 c1, .slice a2 n2 c2]) rfl (by simp [execOp, go_sem, q37, s2, cb0, cb1, cb2]) ⟨_, rfl, hJ.step hL rfl (Below.refl _ _) (by exact rfl)⟩
    · intro L vs a w' hJ hF hP hL
      have q0 : (a.tmps[0]?).getD undef = .pointer (some ⟨b, 0, none⟩) := hF.old 0 rfl
      exact run_val (v := .pointer (some ⟨b, 0, none⟩)) rfl (by simp [execOp, go_sem, q0]) ⟨_, rfl, hJ.step hL rfl (Below.refl _ _) (by exact rfl)⟩
    · intro L vs a w' hJ hF hP hL
      have p4 : L 4 = true := hP ⟨4, .data⟩ (by simp) rfl
      have s4 : vs 4 = .pointer (some ⟨b, 0, none⟩) := hJ.sp 4 p4
      have q39 := hF.slot 4 39 rfl p4
      exact run_val (v := .pointer (some ⟨b, 0, none⟩)) rfl (by simp [execOp, go_sem, q39, s4]) ⟨_, rfl, hJ.step hL rfl (Below.refl _ _) (by exact rfl)⟩
    · intro L vs a w' hJ hF hP hL
      have p5 : L 5 = true := hP ⟨5, .data⟩ (by simp) rfl
      have s5 : vs 5 = .pointer (some ⟨b, 0, none⟩) := hJ.sp 5 p5
      have q40 := hF.slot 5 40 rfl p5
      exact run_val (v := .pointer (some ⟨b, 3, none⟩)) rfl (by simp [execOp, go_sem, q40, s5]) ⟨_, rfl, hJ.step hL rfl (Below.refl _ _) (by exact rfl)⟩
    · intro L vs a w' hJ hF hP hL
      have p6 : L 6 = true := hP ⟨6, .data⟩ (by simp) rfl
      have s6 : vs 6 = .pointer (some ⟨b, 3, none⟩) := hJ.sp 6 p6
      have q41 := hF.slot 6 41 rfl p6
      have cb0 := cell_later hJ.bel (S1.out.cel (b) 3 (.slice a3 n3 c3))
      have cb1 := cell_later hJ.bel (S1.out.cel (b) 4 (.slice a4 n4 c4))
      exact run_val (v := .agg #[.slice a3 n3 c3, .slice a4 n4 c4]) rfl (by simp [execOp, go_sem, q41, s6, cb0, cb1]) ⟨_, rfl, hJ.step hL rfl (Below.refl _ _) (by exact rfl)⟩
    · intro L vs a w' hJ hF hP hL
      have p3 : L 3 = true := hP ⟨3, .data⟩ (by simp) rfl
      have s3 : vs 3 = .agg #[.int .i64 (T : Int), .slice a1 n1 c1, .slice a2 n2 c2] := hJ.sp 3 p3
      have q38 := hF.slot 3 38 rfl p3
      have p7 : L 7 = true := hP ⟨7, .data⟩ (by simp) rfl
      have s7 : vs 7 = .agg #[.slice a3 n3 c3, .slice a4 n4 c4] := hJ.sp 7 p7
      have q42 := hF.slot 7 42 rfl p7
      refine run_call (f := 55) (args := #[.agg #[.int .i64 (T : Int), .slice a1 n1 c1, .slice a2 n2 c2], .agg #[.slice a3 n3 c3, .slice a4 n4 c4]]) rfl (by simp [go_sem, q38, s3, q42, s7]) (has_any (T : Int) a1 n1 c1 a2 n2 c2 a3 n3 c3 a4 n4 c4 p q B 1 _ ((S1.out.fr (.agg #[.slice a1 n1 c1, .slice a2 n2 c2]) p q).mono hJ.bel) ((S1.out.fr (.agg #[.slice a3 n3 c3, .slice a4 n4 c4]) B 1).mono hJ.bel) HS.out.1 HS.out.2.1 HS.out.2.2.1 HS.out.2.2.2 bb HBB.out) ?_
      rintro e w2 ⟨rfl, hb⟩
      exact ⟨_, rfl, _, rfl, hJ.step hL rfl hb (by exact rfl)⟩
    intro L vs w' hA hJ
    have s8 : vs 8 = .bool bb := hJ.sp 8 (hA 8 (by simp))
    simp only [putL, Act.put, List.setIfInBounds_toArray, List.set_cons_zero, List.set_cons_succ, Nat.reduceAdd]
    have HJ : Hid (Below w9.heap.size w9 w') := hJ.bel
    simp only [s8]
    clear hJ hA s8
    cases bb
    · have XX : Hid (Bu w' b T (fillN N R D B k) R D B ∧ Fb (fun x => x = b) w w') := by
        have h1 : N + R * k ≤ B * D := by have := of_decide_eq_false HBN.out; omega
        have h2 : fillN N R D B k = N + R * k := Nat.min_eq_left h1
        exact ⟨⟨by rw [h2]; exact Z4.out.1.go HJ.out, fillN_le _ _ _ _ _⟩, Z4.out.2.go HJ.out⟩
      go_wp2_with fail
      first | exact bodyPost_end (v := .tuple #[]) (by simp [results, Tryz.results39, go_sem]) rfl ⟨rfl, XX.out⟩ | exact bodyPost_ret (v := .tuple #[]) (by simp [results, Tryz.results39, go_sem]) rfl ⟨rfl, XX.out⟩
    · have S2 : Hid _ := S1.out.go HJ.out
      have z1 := S2.out.cel b 1 (.slice a1 n1 c1)
      have z2 := S2.out.cel b 2 (.slice a2 n2 c2)
      have z3 := S2.out.cel b 3 (.slice a3 n3 c3)
      have z4 := S2.out.cel b 4 (.slice a4 n4 c4)
      have g1 : w'.frozen? ⟨b, 1, none⟩ = false := (HJ.out.frozen (World.block_lt_of_cell? _ _ (S1.out.cel b 1 (.slice a1 n1 c1)))).trans (FZ.out 1)
      have g2 : w'.frozen? ⟨b, 2, none⟩ = false := (HJ.out.frozen (World.block_lt_of_cell? _ _ (S1.out.cel b 2 (.slice a2 n2 c2)))).trans (FZ.out 2)
      have XX : Hid (Bu ((w'.setCell ⟨b, 1, none⟩ (.slice a3 n3 c3)).setCell ⟨b, 2, none⟩ (.slice a4 n4 c4)) b T (fillN N R D B k) R D B ∧ Fb (fun x => x = b) w ((w'.setCell ⟨b, 1, none⟩ (.slice a3 n3 c3)).setCell ⟨b, 2, none⟩ (.slice a4 n4 c4))) := by
        have h1 : B * D ≤ N + R * k := of_decide_eq_true HBN.out
        have h2 : fillN N R D B k = B * D := Nat.min_eq_right h1
        have h3 : B * D < P 1 * P 18 := Nat.mul_lt_mul'' (by rw [P_one]; have := HB.out.1.cB; omega) hlow.out.2.2.1
        rw [← P_add] at h3
        have FF : Fc B 1 (B * D) D 20 := ⟨Nat.gcd_one_right _, by omega, hlow.out.2.1, by rw [Nat.mul_one], by have := HB.out.1.cB; exact P_up (n := 1) (by rw [P_one]; omega) (by omega), P_up (n := 1) (by rw [P_one]; omega) (by omega)⟩
        obtain ⟨ZP, FP⟩ := (Z4.out.1.go HJ.out).put (S2.out.fr (.agg #[.slice a3 n3 c3, .slice a4 n4 c4]) B 1) FF
        exact ⟨⟨by rw [h2]; exact ZP, fillN_le _ _ _ _ _⟩, (Z4.out.2.go HJ.out).trans FP⟩
      clear S1 S2 HJ
      go_wp2_with fail
      first | exact bodyPost_end (v := .tuple #[]) (by simp [results, Tryz.results39, go_sem]) rfl ⟨rfl, XX.out⟩ | exact bodyPost_ret (v := .tuple #[]) (by simp [results, Tryz.results39, go_sem]) rfl ⟨rfl, XX.out⟩
  · have XX : Hid (Bu w' b T (fillN N R D B k) R D B ∧ Fb (fun x => x = b) w w') := by
      have h1 : B * D ≤ N := of_decide_eq_true HBN.out
      exact ⟨by rw [fillN_full h1 HN.out]; exact HB.out.1.go HJ.out, Fb.of HJ.out⟩
    go_wp2_with fail
    first | exact bodyPost_ret (v := .tuple #[]) (by simp [results, Tryz.results39, go_sem]) rfl ⟨rfl, XX.out⟩ | exact bodyPost_end (v := .tuple #[]) (by simp [results, Tryz.results39, go_sem]) rfl ⟨rfl, XX.out⟩
end Go.Proofs.YthogfecnbddfoaaGreatDoor

namespace Go.Proofs.YthogfecnbddfoaaGreatDoor
open Go.RowKit
set_option maxRecDepth 100000
set_option linter.unusedVariables false
/-- What At gives. -/
def AtPost (b T N R D B : Nat) (t : Int) (w : World) (e : Ending) (w' : World) : Prop := ∃ v p q, e = .returned v ∧ Rt w' v p q ∧ Fc p q (atN T N R D B t) D 20 ∧ Bu w' b (atT T t) (atN T N R D B t) R D B ∧ Fb (fun x => x = b) w w'
theorem at_end {W0 W : World} {b T N R D B r : Nat} (h : Bu W b T N R D B) (hf : Fb (fun x => x = b) W0 W) (hr : W0.heap.size ≤ r) (hrb : r ≠ b) {p q : Nat} {v1 v2 : Value} (hv : Rt W (.agg #[v1, v2]) p q) {a1 a2 : Option Addr} {n1 c1 n2 c2 : Nat} (x0 : W.cell? ⟨r, 0, none⟩ = some (.slice a1 n1 c1)) (x1 : W.cell? ⟨r, 1, none⟩ = some (.slice a2 n2 c2)) :
    Rt ((W.setCell ⟨r, 0, none⟩ v1).setCell ⟨r, 1, none⟩ v2) (.agg #[v1, v2]) p q ∧ Bu ((W.setCell ⟨r, 0, none⟩ v1).setCell ⟨r, 1, none⟩ v2) b T N R D B ∧ Fb (fun x => x = b) W0 ((W.setCell ⟨r, 0, none⟩ v1).setCell ⟨r, 1, none⟩ v2) := by
  have F : Fb (fun x => x = r) W ((W.setCell ⟨r, 0, none⟩ v1).setCell ⟨r, 1, none⟩ v2) := ((Fb.refl (fun x => x = r) W).set (x := ⟨r, 0, none⟩) rfl v1).set (x := ⟨r, 1, none⟩) rfl v2
  have hs := two_set x0 x1 v1
  refine ⟨(hv.setCell hs.1 _).setCell hs.2 _, ?_, ?_⟩
  · obtain ⟨p0, q0, u1, u2, u3, u4, u5, u6, hb, h1, f1, h2, h3⟩ := h.ex
    exact ⟨⟨⟨p0, q0, u1, u2, u3, u4, u5, u6, F.heap hb (fun e => hrb e.symm), (h1.setCell hs.1 _).setCell hs.2 _, f1, (h2.setCell hs.1 _).setCell hs.2 _, (h3.setCell hs.1 _).setCell hs.2 _⟩, h.cT, h.cB, h.cD, h.cR, h.low⟩, h.cN⟩
  · refine ⟨F.os.trans hf.os, F.tape.trans hf.tape, F.output.trans hf.output, Nat.le_trans hf.size F.size, fun k hk hn => ?_⟩
    exact (F.block k (Nat.lt_of_lt_of_le hk hf.size) (fun e => by omega)).trans (hf.block k hk hn)
theorem min_int (t : Int) : ∃ M : Int, (if t < 4611686018427387904 then t else 4611686018427387904) = M ∧ (if (4611686018427387904 : Int) < t then 4611686018427387904 else t) = M ∧ M ≤ 4611686018427387904 ∧ (M = t ∨ M = 4611686018427387904) ∧ M ≤ t := by
  by_cases h : t < 4611686018427387904
  · exact ⟨t, if_pos h, if_neg (by omega), by omega, .inl rfl, by omega⟩
  · by_cases h2 : (4611686018427387904 : Int) < t
    · exact ⟨_, if_neg h, if_pos h2, by omega, .inr rfl, by omega⟩
    · exact ⟨_, if_neg h, by rw [if_neg h2]; omega, by omega, .inr rfl, by omega⟩
set_option maxHeartbeats 8000000 in
theorem bat_any (b T N R D B : Nat) (t : Int) (w : World) (h : Bu w b T N R D B) (hT : Tab w) :
    Calls Tryz.prog 24 #[.pointer (some ⟨b, 0, none⟩), .int .i64 t] w (AtPost b T N R D B t w) := by
  have HB : Hid (Bu w b T N R D B ∧ Tab w) := ⟨h, hT⟩
  obtain ⟨p, q, a1, n1, c1, a2, n2, c2, a3, n3, c3, a4, n4, c4, a5, n5, c5, a6, n6, c6, f1, S1', fz⟩ := (h.go (bel_al (o := .cells #[.slice none 0 0, .slice none 0 0] 51) (bel_refl w))).toBv.open
  have S1 : Hid _ := S1'
  have FH : Hid (Fc p q N D 20) := f1
  have nb : Hid (w.heap.size ≠ b ∧ T ≤ 4611686018427387904) := ⟨by have := h.lt; omega, h.cT⟩
  obtain ⟨M, m1, m2, m3, m4, m5⟩ := min_int t
  have Mc : Hid (∀ k : Nat, M = (k : Int) → T < k → atT T t = k) := fun k e hlt => by
    unfold atT
    omega
  have Mn : Hid (¬ (T : Int) < M → atT T t = T) := fun e => by
    have := h.cT
    unfold atT
    omega
  clear S1' fz h hT f1
  have z0 := S1.out.cel b 0 (.int .i64 (T : Int))
  have x0 : (w.alloc (.cells #[.slice none 0 0, .slice none 0 0] 51)).cell? ⟨w.heap.size, 0, none⟩ = some (.slice none 0 0) := by simp [go_sem]
  have x1 : (w.alloc (.cells #[.slice none 0 0, .slice none 0 0] 51)).cell? ⟨w.heap.size, 1, none⟩ = some (.slice none 0 0) := by simp [go_sem]
  have y0 : (w.alloc (.cells #[.slice none 0 0, .slice none 0 0] 51)).frozen? ⟨w.heap.size, 0, none⟩ = false := by simp [go_sem]
  have y1 : (w.alloc (.cells #[.slice none 0 0, .slice none 0 0] 51)).frozen? ⟨w.heap.size, 1, none⟩ = false := by simp [go_sem]
  have XC : Hid (w.heap.size < (w.alloc (.cells #[.slice none 0 0, .slice none 0 0] 51)).heap.size) := by show _ < _; simp
  have BA : Hid (Below w.heap.size w (w.alloc (.cells #[.slice none 0 0, .slice none 0 0] 51))) := bel_al (bel_refl w)
  obtain ⟨w0, hw0⟩ : ∃ w0, w0 = w.alloc (.cells #[.slice none 0 0, .slice none 0 0] 51) := ⟨_, rfl⟩
  by_cases hc : (T : Int) < M
  · obtain ⟨k, hk⟩ : ∃ k : Nat, M = (k : Int) := ⟨M.toNat, by omega⟩
    have ek := Mc.out k hk (by omega)
    have HE : Hid (atT T t = k ∧ T < k ∧ k ≤ 4611686018427387904) := ⟨ek, by omega, by omega⟩
    have hT2 := nb.out.2
    have lk : T < k := by omega
    have lk2 : k ≤ 4611686018427387904 := by omega
    rw [hk] at m1 m2
    have d1 : decide ((T : Int) < (k : Int)) = true := decide_eq_true (by omega)
    have es : (k : Int) - (T : Int) = ((k - T : Nat) : Int) := by omega
    have HD : Hid (k - T ≤ 4611686018427387904) := by show _ ≤ _; omega
    have HW : Hid (∀ j : Nat, j = k - T → IntKind.i64.wrap ((k : Int) - (T : Int)) = (j : Int)) := fun j e => by rw [IntKind.wrap_i64]; omega
    clear hc hk m3 m4 m5 ek Mc Mn
    obtain ⟨j, ej⟩ : ∃ j, j = k - T := ⟨_, rfl⟩
    have mw := HW.out j ej
    have HJ2 : Hid (j = k - T) := ej
    clear HW ej es
    go_enter Tryz.func24, Tryz.ntmps24
    go_wp2_with fail
    refine (bfill_any b T N R D B j _ (HB.out.1.go BA.out) (by rw [HJ2.out]; exact HD.out) (HB.out.2.go BA.out)).mono ?_
    rintro e w1 ⟨rfl, Z1, F1⟩
    have c0 : w1.cell? ⟨b, 0, none⟩ = some (.int .i64 (T : Int)) ∧ w1.frozen? ⟨b, 0, none⟩ = false := by
      obtain ⟨p, q, a1, n1, c1, a2, n2, c2, a3, n3, c3, a4, n4, c4, a5, n5, c5, a6, n6, c6, f1, S2, fz⟩ := Z1.toBv.open
      exact ⟨S2.cel b 0 (.int .i64 (T : Int)), fz 0⟩
    obtain ⟨c0, g0⟩ := c0
    have Z2 := Z1.toBv.time (T' := k) lk2
    have hne : w.heap.size ≠ b := nb.out.1
    have v0 := Z2.2.cell (F1.cell x0 hne) hne
    have v1 := Z2.2.cell (F1.cell x1 hne) hne
    have u0 : (w1.setCell ⟨b, 0, none⟩ (.int .i64 (k : Int))).frozen? ⟨w.heap.size, 0, none⟩ = false := (World.frozen?_of_block (w := w1) (Z2.2.block w.heap.size (World.block_lt_of_cell? _ _ (F1.cell x0 hne)) hne)).trans ((World.frozen?_of_block (F1.block w.heap.size (World.block_lt_of_cell? _ _ x0) hne)).trans y0)
    have u1 : (w1.setCell ⟨b, 0, none⟩ (.int .i64 (k : Int))).frozen? ⟨w.heap.size, 1, none⟩ = false := (World.frozen?_of_block (w := w1) (Z2.2.block w.heap.size (World.block_lt_of_cell? _ _ (F1.cell x0 hne)) hne)).trans ((World.frozen?_of_block (F1.block w.heap.size (World.block_lt_of_cell? _ _ x0) hne)).trans y1)
    have Z3 : Hid (Bu (w1.setCell ⟨b, 0, none⟩ (.int .i64 (k : Int))) b k (fillN N R D B j) R D B ∧ Fb (fun x => x = b) w (w1.setCell ⟨b, 0, none⟩ (.int .i64 (k : Int)))) := ⟨⟨Z2.1, Z1.cN⟩, ((Fb.of BA.out).trans F1).trans Z2.2⟩
    clear S1 FH z0 x0 x1 y0 y1 Z1 F1 Z2 hne
    obtain ⟨p, q, a1, n1, c1, a2, n2, c2, a3, n3, c3, a4, n4, c4, a5, n5, c5, a6, n6, c6, f1, S2', fz⟩ := Z3.out.1.toBv.open
    have S2 : Hid _ := S2'
    have F2 : Hid (Fc p q (fillN N R D B j) D 20) := f1
    clear S2' fz f1
    have z1 := S2.out.cel b 1 (.slice a1 n1 c1)
    have z2 := S2.out.cel b 2 (.slice a2 n2 c2)
    go_wp2_with fail
    have EN := at_end Z3.out.1 Z3.out.2 (Nat.le_refl _) nb.out.1 (S2.out.fr (.agg #[.slice a1 n1 c1, .slice a2 n2 c2]) p q) v0 v1
    refine bodyPost_ret (v := .agg #[.slice a1 n1 c1, .slice a2 n2 c2]) (by simp [results, Tryz.results24, go_sem, v0, v1]) rfl ⟨_, p, q, rfl, EN.1, ?_, ?_, EN.2.2⟩
    · unfold atN
      rw [HE.out.1, ← HJ2.out]
      exact F2.out
    · unfold atN
      rw [HE.out.1, ← HJ2.out]
      exact EN.2.1
  · have ek := Mn.out hc
    have HE : Hid (atT T t = T) := ek
    have d1 : decide ((T : Int) < M) = false := decide_eq_false hc
    clear hc m3 m4 m5 ek Mc Mn
    have z1 := S1.out.cel b 1 (.slice a1 n1 c1)
    have z2 := S1.out.cel b 2 (.slice a2 n2 c2)
    go_enter Tryz.func24, Tryz.ntmps24
    go_wp2_with fail
    have EN := at_end (HB.out.1.go BA.out) (Fb.of BA.out) (Nat.le_refl _) nb.out.1 (S1.out.fr (.agg #[.slice a1 n1 c1, .slice a2 n2 c2]) p q) x0 x1
    have eW : ((w.alloc (.cells #[.slice none 0 0, .slice none 0 0] 51)).setCell ⟨w.heap.size, 0, none⟩ (.slice a1 n1 c1)).setCell ⟨w.heap.size, 1, none⟩ (.slice a2 n2 c2) = w.alloc (.cells #[.slice a1 n1 c1, .slice a2 n2 c2] 51) := by simp [go_sem]
    rw [eW] at EN
    have e0 : atN T N R D B t = N := by
      unfold atN
      rw [HE.out, Nat.sub_self, fillN_zero HB.out.1.cN]
    refine bodyPost_ret (v := .agg #[.slice a1 n1 c1, .slice a2 n2 c2]) (by simp [results, Tryz.results24, go_sem]) rfl ⟨_, p, q, rfl, EN.1, ?_, ?_, EN.2.2⟩
    · rw [e0]
      exact FH.out
    · rw [e0, HE.out]
      exact EN.2.1
end Go.Proofs.YthogfecnbddfoaaGreatDoor

