/- Contracts of the program's functions, part 13: own work, joined in build order. -/
import Derived.Test.YtdmkneojhnhomaaGreatDoorJ12
namespace Go.Proofs.YtdmkneojhnhomaaGreatDoor
open Go.RowKit
set_option maxRecDepth 100000
set_option linter.unusedVariables false
/-- What At gives. -/
def AtPost (b T N R D B : Nat) (t : Int) (w : World) (e : Ending) (w' : World) : Prop := ∃ v p q, e = .returned v ∧ Rt w' v p q ∧ Fc p q (atN T N R D B t) D 20 ∧ Bu w' b (atT T t) (atN T N R D B t) R D B ∧ Fb (fun x => x = b) w w'
theorem at_end {W0 W : World} {b T N R D B r : Nat} (h : Bu W b T N R D B) (hf : Fb (fun x => x = b) W0 W) (hr : W0.heap.size ≤ r) (hrb : r ≠ b) {p q : Nat} {v1 v2 : Value} (hv : Rt W (.agg #[v1, v2]) p q) {a1 a2 : Option Addr} {n1 c1 n2 c2 : Nat} (x0 : W.cell? ⟨r, 0, none⟩ = some (.slice a1 n1 c1)) (x1 : W.cell? ⟨r, 1, none⟩ = some (.slice a2 n2 c2)) :
    Rt ((W.setCell ⟨r, 0, none⟩ v1).setCell ⟨r, 1, none⟩ v2) (.agg #[v1, v2]) p q ∧ Bu ((W.setCell ⟨r, 0, none⟩ v1).setCell ⟨r, 1, none⟩ v2) b T N R D B ∧ Fb (fun x => x = b) W0 ((W.setCell ⟨r, 0, none⟩ v1).setCell ⟨r, 1, none⟩ v2) := by
  have F : Fb (fun x => x = r) W ((W.setCell ⟨r, 0, none⟩ v1).setCell ⟨r, 1, none⟩ v2) := ((Fb.refl (fun x => x = r) W).set (x := ⟨r, 0, none⟩) rfl v1).set (x := ⟨r, 1, none⟩) rfl v2
  have hs := two_set x0 x1 v1
  refine ⟨(hv.setCell hs.1 _).setCell hs.2 _, ?_, ?_⟩
  · obtain ⟨p0, q0, u1, u2, u3, u4, u5, u6, hb, h1, f1, h2, h3⟩ := h.ex
    exact ⟨⟨⟨p0, q0, u1, u2, u3, u4, u5, u6, F.heap hb (fun e => hrb e.symm), (h1.setCell hs.1 _).setCell hs.2 _, f1, (h2.setCell hs.1 _).setCell hs.2 _, (h3.setCell hs.1 _).setCell hs.2 _⟩, h.cT, h.cB, h.cD, h.cR, h.low⟩, h.cN⟩
  · refine ⟨F.os.trans hf.os, F.tape.trans hf.tape, F.output.trans hf.output, Nat.le_trans hf.size F.size, fun k hk hn => ?_⟩
    exact (F.block k (Nat.lt_of_lt_of_le hk hf.size) (fun e => by omega)).trans (hf.block k hk hn)
theorem min_int (t : Int) : ∃ M : Int, (if t < 4611686018427387904 then t else 4611686018427387904) = M ∧ (if (4611686018427387904 : Int) < t then 4611686018427387904 else t) = M ∧ M ≤ 4611686018427387904 ∧ (M = t ∨ M = 4611686018427387904) ∧ M ≤ t := by
  by_cases h : t < 4611686018427387904
  · exact ⟨t, if_pos h, if_neg (by omega), by omega, .inl rfl, by omega⟩
  · by_cases h2 : (4611686018427387904 : Int) < t
    · exact ⟨_, if_neg h, if_pos h2, by omega, .inr rfl, by omega⟩
    · exact ⟨_, if_neg h, by rw [if_neg h2]; omega, by omega, .inr rfl, by omega⟩
set_option maxHeartbeats 8000000 in
theorem bat_any (b T N R D B : Nat) (t : Int) (w : World) (h : Bu w b T N R D B) (hT : Tab w) :
    Calls Tryz.prog 13 #[.pointer (some ⟨b, 0, none⟩), .int .i64 t] w (AtPost b T N R D B t w) := by
  have HB : Hid (Bu w b T N R D B ∧ Tab w) := ⟨h, hT⟩
  obtain ⟨p, q, a1, n1, c1, a2, n2, c2, a3, n3, c3, a4, n4, c4, a5, n5, c5, a6, n6, c6, f1, S1', fz⟩ := (h.go (bel_al (o := .cells #[.slice none 0 0, .slice none 0 0] 46) (bel_refl w))).toBv.open
  have S1 : Hid _ := S1'
  have FH : Hid (Fc p q N D 20) := f1
  have nb : Hid (w.heap.size ≠ b ∧ T ≤ 4611686018427387904) := ⟨by have := h.lt; omega, h.cT⟩
  obtain ⟨M, m1, m2, m3, m4, m5⟩ := min_int t
  have Mc : Hid (∀ k : Nat, M = (k : Int) → T < k → atT T t = k) := fun k e hlt => by
    unfold atT
    omega
  have Mn : Hid (¬ (T : Int) < M → atT T t = T) := fun e => by
    have := h.cT
    unfold atT
    omega
  clear S1' fz h hT f1
  have z0 := S1.out.cel b 0 (.int .i64 (T : Int))
  have x0 : (w.alloc (.cells #[.slice none 0 0, .slice none 0 0] 46)).cell? ⟨w.heap.size, 0, none⟩ = some (.slice none 0 0) := by simp [go_sem]
  have x1 : (w.alloc (.cells #[.slice none 0 0, .slice none 0 0] 46)).cell? ⟨w.heap.size, 1, none⟩ = some (.slice none 0 0) := by simp [go_sem]
  have y0 : (w.alloc (.cells #[.slice none 0 0, .slice none 0 0] 46)).frozen? ⟨w.heap.size, 0, none⟩ = false := by simp [go_sem]
  have y1 : (w.alloc (.cells #[.slice none 0 0, .slice none 0 0] 46)).frozen? ⟨w.heap.size, 1, none⟩ = false := by simp [go_sem]
  have XC : Hid (w.heap.size < (w.alloc (.cells #[.slice none 0 0, .slice none 0 0] 46)).heap.size) := by show _ < _; simp
  have BA : Hid (Below w.heap.size w (w.alloc (.cells #[.slice none 0 0, .slice none 0 0] 46))) := bel_al (bel_refl w)
  obtain ⟨w0, hw0⟩ : ∃ w0, w0 = w.alloc (.cells #[.slice none 0 0, .slice none 0 0] 46) := ⟨_, rfl⟩
  by_cases hc : (T : Int) < M
  · obtain ⟨k, hk⟩ : ∃ k : Nat, M = (k : Int) := ⟨M.toNat, by omega⟩
    have ek := Mc.out k hk (by omega)
    have HE : Hid (atT T t = k ∧ T < k ∧ k ≤ 4611686018427387904) := ⟨ek, by omega, by omega⟩
    have hT2 := nb.out.2
    have lk : T < k := by omega
    have lk2 : k ≤ 4611686018427387904 := by omega
    rw [hk] at m1 m2
    have d1 : decide ((T : Int) < (k : Int)) = true := decide_eq_true (by omega)
    have es : (k : Int) - (T : Int) = ((k - T : Nat) : Int) := by omega
    have HD : Hid (k - T ≤ 4611686018427387904) := by show _ ≤ _; omega
    have HW : Hid (∀ j : Nat, j = k - T → IntKind.i64.wrap ((k : Int) - (T : Int)) = (j : Int)) := fun j e => by rw [IntKind.wrap_i64]; omega
    clear hc hk m3 m4 m5 ek Mc Mn
    obtain ⟨j, ej⟩ : ∃ j, j = k - T := ⟨_, rfl⟩
    have mw := HW.out j ej
    have HJ2 : Hid (j = k - T) := ej
    clear HW ej es
    go_enter Tryz.func13, Tryz.ntmps13
    go_wp2_with fail
    refine (bfill_any b T N R D B j _ (HB.out.1.go BA.out) (by rw [HJ2.out]; exact HD.out) (HB.out.2.go BA.out)).mono ?_
    rintro e w1 ⟨rfl, Z1, F1⟩
    have c0 : w1.cell? ⟨b, 0, none⟩ = some (.int .i64 (T : Int)) ∧ w1.frozen? ⟨b, 0, none⟩ = false := by
      obtain ⟨p, q, a1, n1, c1, a2, n2, c2, a3, n3, c3, a4, n4, c4, a5, n5, c5, a6, n6, c6, f1, S2, fz⟩ := Z1.toBv.open
      exact ⟨S2.cel b 0 (.int .i64 (T : Int)), fz 0⟩
    obtain ⟨c0, g0⟩ := c0
    have Z2 := Z1.toBv.time (T' := k) lk2
    have hne : w.heap.size ≠ b := nb.out.1
    have v0 := Z2.2.cell (F1.cell x0 hne) hne
    have v1 := Z2.2.cell (F1.cell x1 hne) hne
    have u0 : (w1.setCell ⟨b, 0, none⟩ (.int .i64 (k : Int))).frozen? ⟨w.heap.size, 0, none⟩ = false := (World.frozen?_of_block (w := w1) (Z2.2.block w.heap.size (World.block_lt_of_cell? _ _ (F1.cell x0 hne)) hne)).trans ((World.frozen?_of_block (F1.block w.heap.size (World.block_lt_of_cell? _ _ x0) hne)).trans y0)
    have u1 : (w1.setCell ⟨b, 0, none⟩ (.int .i64 (k : Int))).frozen? ⟨w.heap.size, 1, none⟩ = false := (World.frozen?_of_block (w := w1) (Z2.2.block w.heap.size (World.block_lt_of_cell? _ _ (F1.cell x0 hne)) hne)).trans ((World.frozen?_of_block (F1.block w.heap.size (World.block_lt_of_cell? _ _ x0) hne)).trans y1)
    have Z3 : Hid (Bu (w1.setCell ⟨b, 0, none⟩ (.int .i64 (k : Int))) b k (fillN N R D B j) R D B ∧ Fb (fun x => x = b) w (w1.setCell ⟨b, 0, none⟩ (.int .i64 (k : Int)))) := ⟨⟨Z2.1, Z1.cN⟩, ((Fb.of BA.out).trans F1).trans Z2.2⟩
    clear S1 FH z0 x0 x1 y0 y1 Z1 F1 Z2 hne
    obtain ⟨p, q, a1, n1, c1, a2, n2, c2, a3, n3, c3, a4, n4, c4, a5, n5, c5, a6, n6, c6, f1, S2', fz⟩ := Z3.out.1.toBv.open
    have S2 : Hid _ := S2'
    have F2 : Hid (Fc p q (fillN N R D B j) D 20) := f1
    clear S2' fz f1
    have z1 := S2.out.cel b 1 (.slice a1 n1 c1)
    have z2 := S2.out.cel b 2 (.slice a2 n2 c2)
    go_wp2_with fail
    have EN := at_end Z3.out.1 Z3.out.2 (Nat.le_refl _) nb.out.1 (S2.out.fr (.agg #[.slice a1 n1 c1, .slice a2 n2 c2]) p q) v0 v1
    refine bodyPost_ret (v := .agg #[.slice a1 n1 c1, .slice a2 n2 c2]) (by simp [results, Tryz.results13, go_sem, v0, v1]) rfl ⟨_, p, q, rfl, EN.1, ?_, ?_, EN.2.2⟩
    · unfold atN
      rw [HE.out.1, ← HJ2.out]
      exact F2.out
    · unfold atN
      rw [HE.out.1, ← HJ2.out]
      exact EN.2.1
  · have ek := Mn.out hc
    have HE : Hid (atT T t = T) := ek
    have d1 : decide ((T : Int) < M) = false := decide_eq_false hc
    clear hc m3 m4 m5 ek Mc Mn
    have z1 := S1.out.cel b 1 (.slice a1 n1 c1)
    have z2 := S1.out.cel b 2 (.slice a2 n2 c2)
    go_enter Tryz.func13, Tryz.ntmps13
    go_wp2_with fail
    have EN := at_end (HB.out.1.go BA.out) (Fb.of BA.out) (Nat.le_refl _) nb.out.1 (S1.out.fr (.agg #[.slice a1 n1 c1, .slice a2 n2 c2]) p q) x0 x1
    have eW : ((w.alloc (.cells #[.slice none 0 0, .slice none 0 0] 46)).setCell ⟨w.heap.size, 0, none⟩ (.slice a1 n1 c1)).setCell ⟨w.heap.size, 1, none⟩ (.slice a2 n2 c2) = w.alloc (.cells #[.slice a1 n1 c1, .slice a2 n2 c2] 46) := by simp [go_sem]
    rw [eW] at EN
    have e0 : atN T N R D B t = N := by
      unfold atN
      rw [HE.out, Nat.sub_self, fillN_zero HB.out.1.cN]
    refine bodyPost_ret (v := .agg #[.slice a1 n1 c1, .slice a2 n2 c2]) (by simp [results, Tryz.results13, go_sem]) rfl ⟨_, p, q, rfl, EN.1, ?_, ?_, EN.2.2⟩
    · rw [e0]
      exact FH.out
    · rw [e0, HE.out]
      exact EN.2.1
end Go.Proofs.YtdmkneojhnhomaaGreatDoor
namespace Go.Proofs.YtdmkneojhnhomaaGreatDoor
open Go.RowKit
set_option maxRecDepth 100000
set_option linter.unusedVariables false
/-- What Take gives. -/
def TakePost (b T N R D B : Nat) (t n : Int) (w : World) (e : Ending) (w' : World) : Prop := e = .returned (.int .i64 (takeE (atN T N R D B t) D n)) ∧ Bu w' b (atT T t) (takeN (atN T N R D B t) D n) R D B ∧ Fb (fun x => x = b) w w'
set_option maxHeartbeats 8000000 in
theorem btake_any (b T N R D B : Nat) (t n : Int) (w : World) (h : Bu w b T N R D B) (hT : Tab w) (hn : n ≤ 9223372036854775807) :
    Calls Tryz.prog 16 #[.pointer (some ⟨b, 0, none⟩), .int .i64 t, .int .i64 n] w (TakePost b T N R D B t n w) := by
  have HB : Hid (Bu w b T N R D B ∧ Tab w) := ⟨h, hT⟩
  clear h hT
  go_enter Tryz.func16, Tryz.ntmps16
  go_wp2_with fail
  refine (bat_any b T N R D B t _ HB.out.1 HB.out.2).mono ?_
  rintro e w1 ⟨v1, p, q, rfl, hv, f1, Z1, F1⟩
  obtain ⟨a7, n7, c7, a8, n8, c8, ev, _, _⟩ := hv.raw
  subst ev
  obtain ⟨M, hM⟩ : ∃ M, M = atN T N R D B t := ⟨_, rfl⟩
  obtain ⟨T', hT'⟩ : ∃ T', T' = atT T t := ⟨_, rfl⟩
  have HM : Hid (M = atN T N R D B t ∧ T' = atT T t) := ⟨hM, hT'⟩
  rw [← hM] at f1 Z1
  rw [← hT'] at Z1
  clear hM hT'
  have FH : Hid (Fc p q M D 20) := f1
  have hne : w1.heap.size ≠ b := by have := Z1.lt; omega
  have ba := bel_al (o := .cells #[.slice a7 n7 c7, .slice a8 n8 c8] 46) (bel_refl w1)
  have Z2 : Hid (Bu (w1.alloc (.cells #[.slice a7 n7 c7, .slice a8 n8 c8] 46)) b T' M R D B ∧ Tab (w1.alloc (.cells #[.slice a7 n7 c7, .slice a8 n8 c8] 46)) ∧ Fb (fun x => x = b) w (w1.alloc (.cells #[.slice a7 n7 c7, .slice a8 n8 c8] 46))) := ⟨Z1.go ba, (HB.out.2.fb F1 (fun k e => e ▸ HB.out.1.odd)).go ba, F1.go ba⟩
  have S1 : Hid _ := ((sx_start w1).addF hv).box (.slice a7 n7 c7) (.slice a8 n8 c8) 46 _ rfl
  clear f1 Z1 F1 hv ba
  by_cases h1 : n < 1
  · have d1 : decide (n < 1) = true := decide_eq_true h1
    have HE : Hid (takeE M D n = 1 ∧ takeN M D n = M) := by
      unfold takeE takeN
      rw [if_pos h1, if_pos h1]
      exact ⟨rfl, rfl⟩
    clear h1
    go_wp2_with fail
    go_ret
    refine ⟨?_, ?_, Z2.out.2.2⟩
    · exact ret_int (by rw [← HM.out.1, HE.out.1])
    · rw [← HM.out.1, ← HM.out.2, HE.out.2]
      exact Z2.out.1
  · obtain ⟨k, rfl⟩ : ∃ k : Nat, n = (k : Int) := ⟨n.toNat, by omega⟩
    have d1 : decide ((k : Int) < 1) = false := decide_eq_false h1
    have HK : Hid (1 ≤ k ∧ k ≤ 9223372036854775807) := ⟨by omega, by omega⟩
    have FK : Hid (Fc k 1 k 1 1) := ⟨Nat.gcd_one_right _, by omega, by omega, rfl, by rw [P_one]; omega, by rw [P_one]; omega⟩
    clear h1 hn
    go_wp2_with fail
    obtain ⟨w2, hw⟩ : ∃ w2, w2 = w1.alloc (.cells #[.slice a7 n7 c7, .slice a8 n8 c8] 46) := ⟨_, rfl⟩
    obtain ⟨g, hg⟩ : ∃ g, g = w1.heap.size := ⟨_, rfl⟩
    rw [← hw, ← hg] at S1
    rw [← hw] at Z2
    rw [← hg] at hne
    rw [← hw, ← hg]
    clear hw hg
    by_cases h2 : k * D ≤ M
    · have HE : Hid (takeE M D (k : Int) = 0 ∧ takeN M D (k : Int) = M - k * D) := by
        unfold takeE takeN
        have h9 : ¬ (k : Int) < 1 := by have := HK.out; omega
        rw [Int.toNat_natCast, if_neg h9, if_neg h9, if_neg (Nat.not_lt.2 h2), if_neg (Nat.not_lt.2 h2)]
        exact ⟨rfl, rfl⟩
      obtain ⟨X, Y, fs, ad⟩ := FH.out.sub FK.out (by omega) (by omega) (by rw [Nat.mul_one]; exact h2)
      rw [Nat.mul_one, Nat.mul_one] at fs
      have FS : Hid (Fc X Y (M - k * D) D 20) := fs.norm (by
        have h3 : B * D < P 1 * P 18 := Nat.mul_lt_mul'' (by rw [P_one]; have := HB.out.1.cB; omega) HB.out.1.cD.2
        rw [← P_add] at h3
        have := Z2.out.1.cN
        exact Nat.lt_of_le_of_lt (by omega) (P_up h3 (by omega))) (P_up HB.out.1.cD.2 (by omega))
      have AD : Hid (∀ v u w, Rt w v p q → Rt w u k 1 → Tab w → Calls Tryz.prog 40 #[v, u] w (MakesRB w X Y true)) := ad
      clear fs ad h2
      refine wp_region_inv (JC w2 [sEq (.agg #[.slice a7 n7 c7, .slice a8 n8 c8]), sEq (.int .i64 (k : Int)), sRt (k) (1), sRtB (X) (Y) true, sRtB (X) (Y) true, sRt (X) (Y), sEq (.bool true), sAny, sAny, sEq (.bool true)] (7, 8, 5)) 29 (by kernel_rfl) rfl (by kernel_rfl) (JC.start _ _ _) (fun HG HN => ⟨?_, ?_, ?_, ?_, ?_, ?_, ?_, ?_, ?_, ?_, trivial⟩) ?_
      · intro L vs a w' hJ hF hP hL
        have q7 : (a.tmps[7]?).getD undef = .pointer (some ⟨g, 0, none⟩) := hF.old 7 rfl
        have cb0 := cell_later hJ.bel (S1.out.cel (g) 0 (.slice a7 n7 c7))
        have cb1 := cell_later hJ.bel (S1.out.cel (g) 1 (.slice a8 n8 c8))
        exact run_val (v := .agg #[.slice a7 n7 c7, .slice a8 n8 c8]) rfl (by simp [execOp, go_sem, q7, cb0, cb1]) ⟨_, rfl, hJ.step hL rfl (Below.refl _ _) (by exact rfl)⟩
      · intro L vs a w' hJ hF hP hL
        have q2 : (a.tmps[2]?).getD undef = .int .i64 (k : Int) := hF.old 2 rfl
        exact run_val (v := .int .i64 (k : Int)) rfl (by simp [execOp, go_sem, q2]) ⟨_, rfl, hJ.step hL rfl (Below.refl _ _) (by exact rfl)⟩
      · intro L vs a w' hJ hF hP hL
        have p1 : L 1 = true := hP ⟨1, .data⟩ (by simp) rfl
        have s1 : vs 1 = .int .i64 (k : Int) := hJ.sp 1 p1
        have q17 := hF.slot 1 17 rfl p1
        refine run_call (f := 34) (args := #[.int .i64 (k : Int)]) rfl (by simp [go_sem, q17, s1]) (whole_any k _ HK.out.2 (Z2.out.2.1.go hJ.bel)) ?_
        rintro e w2 ⟨v, rfl, hv, hb⟩
        exact ⟨_, rfl, _, rfl, hJ.step hL rfl hb (by exact hv)⟩
      · intro L vs a w' hJ hF hP hL
        have p0 : L 0 = true := hP ⟨0, .data⟩ (by simp) rfl
        have s0 : vs 0 = .agg #[.slice a7 n7 c7, .slice a8 n8 c8] := hJ.sp 0 p0
        have q16 := hF.slot 0 16 rfl p0
        have p2 : L 2 = true := hP ⟨2, .data⟩ (by simp) rfl
        have s2 : Rt w' (vs 2) (k) (1) := hJ.sp 2 p2
        have q18 := hF.slot 2 18 rfl p2
        refine run_call (f := 40) (args := #[.agg #[.slice a7 n7 c7, .slice a8 n8 c8], vs 2]) rfl (by simp [go_sem, q16, s0, q18]) (AD.out _ _ _ ((S1.out.fr (.agg #[.slice a7 n7 c7, .slice a8 n8 c8]) p q).mono hJ.bel) s2 (Z2.out.2.1.go hJ.bel)) ?_
        rintro e w2 ⟨v1, rfl, h1, hb⟩
        exact ⟨_, rfl, _, rfl, hJ.step hL rfl hb (by exact ⟨v1, rfl, h1⟩)⟩
      · intro L vs a w' hJ hF hP hL
        have p3 : L 3 = true := hP ⟨3, .data⟩ (by simp) rfl
        have s3 : ∃ p, vs 3 = .tuple #[p, .bool true] ∧ Rt w' p (X) (Y) := hJ.sp 3 p3
        have q19 := hF.slot 3 19 rfl p3
        exact run_val (v := vs 3) rfl (by simp [execOp, go_sem, q19]) ⟨_, rfl, hJ.step hL rfl (Below.refl _ _) (by exact s3)⟩
      · intro L vs a w' hJ hF hP hL
        have p4 : L 4 = true := hP ⟨4, .data⟩ (by simp) rfl
        have s4 : ∃ p, vs 4 = .tuple #[p, .bool true] ∧ Rt w' p (X) (Y) := hJ.sp 4 p4
        have q15 := hF.slot 4 15 rfl p4
        obtain ⟨vp, e1, e2⟩ := s4
        exact run_val (v := vp) rfl (by simp [execOp, go_sem, q15, e1]) ⟨_, rfl, hJ.step hL rfl (Below.refl _ _) (by exact e2)⟩
      · intro L vs a w' hJ hF hP hL
        have p4 : L 4 = true := hP ⟨4, .data⟩ (by simp) rfl
        have s4 : ∃ p, vs 4 = .tuple #[p, .bool true] ∧ Rt w' p (X) (Y) := hJ.sp 4 p4
        have q15 := hF.slot 4 15 rfl p4
        obtain ⟨vp, e1, e2⟩ := s4
        exact run_val (v := .bool true) rfl (by simp [execOp, go_sem, q15, e1]) ⟨_, rfl, hJ.step hL rfl (Below.refl _ _) (by exact rfl)⟩
      · intro L vs a w' hJ hF hP hL
        exact run_val (v := .pointer (some ⟨w'.heap.size, 0, none⟩)) (w' := w'.alloc (.cells #[.slice none 0 0, .slice none 0 0] 46)) rfl (by simp [execOp, go_sem]) ⟨_, rfl, hJ.alloc hL rfl (by decide) rfl _⟩
      · intro L vs a w' hJ hF hP hL
        have p7 : L 7 = true := hP ⟨7, .data⟩ (by simp) rfl
        have q8 := hF.slot 7 8 rfl p7
        have p5 : L 5 = true := hP ⟨5, .data⟩ (by simp) rfl
        have s5 : Rt w' (vs 5) (X) (Y) := hJ.sp 5 p5
        have q20 := hF.slot 5 20 rfl p5
        obtain ⟨bk, e1, e2, e3, e4, e4', e5, e6⟩ := hJ.bx p7
        obtain ⟨e7, e7'⟩ := e5 hL
        obtain ⟨aa, nn, cc, a2, n2, c2, e8, _, _⟩ := s5.raw
        exact run_unit (w' := (w'.setCell ⟨bk, 0, none⟩ (.slice aa nn cc)).setCell ⟨bk, 1, none⟩ (.slice a2 n2 c2)) rfl (by simp [execOp, go_sem, q8, q20, e1, e8, e7, e4, e7', e4']) ⟨undef, rfl, hJ.store hL p7 p5 (by decide) rfl e1 e8⟩
      · intro L vs a w' hJ hF hP hL
        have p6 : L 6 = true := hP ⟨6, .data⟩ (by simp) rfl
        have s6 : vs 6 = .bool true := hJ.sp 6 p6
        have q21 := hF.slot 6 21 rfl p6
        exact run_val (v := .bool true) rfl (by simp [execOp, go_sem, q21, s6]) ⟨_, rfl, hJ.step hL rfl (Below.refl _ _) (by exact rfl)⟩
      intro L vs w' hA hJ
      have s5 : Rt w' (vs 5) (X) (Y) := hJ.sp 5 (hA 5 (by simp))
      have s6 : vs 6 = .bool true := hJ.sp 6 (hA 6 (by simp))
      have s9 : vs 9 = .bool true := hJ.sp 9 (hA 9 (by simp))
      obtain ⟨bk7, eb7, ge7, lt7, fz7, fz7', _, e6⟩ := hJ.bx (hA 7 (by simp))
      obtain ⟨_, u7, u7', eu7, ce7, ce7'⟩ := e6 (hA 8 (by simp))
      clear e6
      simp only [putL, Act.put, List.setIfInBounds_toArray, List.set_cons_zero, List.set_cons_succ, Nat.reduceAdd]
      obtain ⟨a9, n9, c9, a10, n10, c10, q1, _, _⟩ := s5.raw
      rw [q1] at s5 eu7
      obtain ⟨rfl, rfl⟩ : u7 = .slice a9 n9 c9 ∧ u7' = .slice a10 n10 c10 := by simpa using eu7.symm
      simp only [eb7, s6, s9]
      have Z3 : Hid (Bu w' b T' M R D B ∧ Tab w' ∧ Fb (fun x => x = b) w w') := ⟨Z2.out.1.go hJ.bel, Z2.out.2.1.go hJ.bel, Z2.out.2.2.go hJ.bel⟩
      have RV : Hid (Rt w' (.agg #[.slice a9 n9 c9, .slice a10 n10 c10]) X Y) := s5
      obtain ⟨w3, ew⟩ : ∃ w3, w3 = w' := ⟨_, rfl⟩
      obtain ⟨b9, e1⟩ : ∃ b9, b9 = bk7 := ⟨_, rfl⟩
      rw [← e1] at ce7 ce7'
      rw [← ew] at Z3 RV ce7 ce7'
      rw [← ew, ← e1]
      clear ew e1 q1 s5 s6 s9 eu7 eb7 ge7 lt7 fz7 fz7' hJ hA S1 Z2
      have zz : w3.cell? ⟨b, 1, none⟩ = w3.cell? ⟨b, 1, none⟩ ∧ ∃ s1 s2, isSl s1 ∧ isSl s2 ∧ w3.cell? ⟨b, 1, none⟩ = some s1 ∧ w3.cell? ⟨b, 2, none⟩ = some s2 ∧ w3.frozen? ⟨b, 1, none⟩ = false ∧ w3.frozen? ⟨b, 2, none⟩ = false := by
        obtain ⟨p, q, a1, n1, c1, a2, n2, c2, a3, n3, c3, a4, n4, c4, a5, n5, c5, a6, n6, c6, f1, S2, fz⟩ := Z3.out.1.toBv.open
        exact ⟨rfl, _, _, ⟨_, _, _, rfl⟩, ⟨_, _, _, rfl⟩, S2.cel b 1 (.slice a1 n1 c1), S2.cel b 2 (.slice a2 n2 c2), fz 1, fz 2⟩
      obtain ⟨-, s1, s2, ⟨a1, n1, c1, rfl⟩, ⟨a2, n2, c2, rfl⟩, z1, z2, y1, y2⟩ := zz
      have PT := Z3.out.1.toBv.put RV.out FS.out
      have XX : Hid _ := PT
      clear PT
      go_wp2_with fail
      go_ret
      refine ⟨?_, ?_, Z3.out.2.2.trans XX.out.2⟩
      · exact ret_int (by rw [← HM.out.1, HE.out.1])
      · rw [← HM.out.1, ← HM.out.2, HE.out.2]
        exact ⟨XX.out.1, by have := Z3.out.1.cN; omega⟩
    · have HE : Hid (takeE M D (k : Int) = 80 ∧ takeN M D (k : Int) = M) := by
        unfold takeE takeN
        have h9 : ¬ (k : Int) < 1 := by have := HK.out; omega
        rw [Int.toNat_natCast, if_neg h9, if_neg h9, if_pos (Nat.lt_of_not_le h2), if_pos (Nat.lt_of_not_le h2)]
        exact ⟨rfl, rfl⟩
      have ad := FH.out.sub_no FK.out (by omega) (by omega) (by rw [Nat.mul_one]; omega)
      have AD : Hid (∀ v u w, Rt w v p q → Rt w u k 1 → Tab w → Calls Tryz.prog 40 #[v, u] w (MakesRB w 0 1 false)) := ad
      clear ad h2
      refine wp_region_inv (JC w2 [sEq (.agg #[.slice a7 n7 c7, .slice a8 n8 c8]), sEq (.int .i64 (k : Int)), sRt (k) (1), sRtB (0) (1) false, sRtB (0) (1) false, sRt (0) (1), sEq (.bool false), sAny, sAny, sEq (.bool false)] (7, 8, 5)) 29 (by kernel_rfl) rfl (by kernel_rfl) (JC.start _ _ _) (fun HG HN => ⟨?_, ?_, ?_, ?_, ?_, ?_, ?_, ?_, ?_, ?_, trivial⟩) ?_
      · intro L vs a w' hJ hF hP hL
        have q7 : (a.tmps[7]?).getD undef = .pointer (some ⟨g, 0, none⟩) := hF.old 7 rfl
        have cb0 := cell_later hJ.bel (S1.out.cel (g) 0 (.slice a7 n7 c7))
        have cb1 := cell_later hJ.bel (S1.out.cel (g) 1 (.slice a8 n8 c8))
        exact run_val (v := .agg #[.slice a7 n7 c7, .slice a8 n8 c8]) rfl (by simp [execOp, go_sem, q7, cb0, cb1]) ⟨_, rfl, hJ.step hL rfl (Below.refl _ _) (by exact rfl)⟩
      · intro L vs a w' hJ hF hP hL
        have q2 : (a.tmps[2]?).getD undef = .int .i64 (k : Int) := hF.old 2 rfl
        exact run_val (v := .int .i64 (k : Int)) rfl (by simp [execOp, go_sem, q2]) ⟨_, rfl, hJ.step hL rfl (Below.refl _ _) (by exact rfl)⟩
      · intro L vs a w' hJ hF hP hL
        have p1 : L 1 = true := hP ⟨1, .data⟩ (by simp) rfl
        have s1 : vs 1 = .int .i64 (k : Int) := hJ.sp 1 p1
        have q17 := hF.slot 1 17 rfl p1
        refine run_call (f := 34) (args := #[.int .i64 (k : Int)]) rfl (by simp [go_sem, q17, s1]) (whole_any k _ HK.out.2 (Z2.out.2.1.go hJ.bel)) ?_
        rintro e w2 ⟨v, rfl, hv, hb⟩
        exact ⟨_, rfl, _, rfl, hJ.step hL rfl hb (by exact hv)⟩
      · intro L vs a w' hJ hF hP hL
        have p0 : L 0 = true := hP ⟨0, .data⟩ (by simp) rfl
        have s0 : vs 0 = .agg #[.slice a7 n7 c7, .slice a8 n8 c8] := hJ.sp 0 p0
        have q16 := hF.slot 0 16 rfl p0
        have p2 : L 2 = true := hP ⟨2, .data⟩ (by simp) rfl
        have s2 : Rt w' (vs 2) (k) (1) := hJ.sp 2 p2
        have q18 := hF.slot 2 18 rfl p2
        refine run_call (f := 40) (args := #[.agg #[.slice a7 n7 c7, .slice a8 n8 c8], vs 2]) rfl (by simp [go_sem, q16, s0, q18]) (AD.out _ _ _ ((S1.out.fr (.agg #[.slice a7 n7 c7, .slice a8 n8 c8]) p q).mono hJ.bel) s2 (Z2.out.2.1.go hJ.bel)) ?_
        rintro e w2 ⟨v1, rfl, h1, hb⟩
        exact ⟨_, rfl, _, rfl, hJ.step hL rfl hb (by exact ⟨v1, rfl, h1⟩)⟩
      · intro L vs a w' hJ hF hP hL
        have p3 : L 3 = true := hP ⟨3, .data⟩ (by simp) rfl
        have s3 : ∃ p, vs 3 = .tuple #[p, .bool false] ∧ Rt w' p (0) (1) := hJ.sp 3 p3
        have q19 := hF.slot 3 19 rfl p3
        exact run_val (v := vs 3) rfl (by simp [execOp, go_sem, q19]) ⟨_, rfl, hJ.step hL rfl (Below.refl _ _) (by exact s3)⟩
      · intro L vs a w' hJ hF hP hL
        have p4 : L 4 = true := hP ⟨4, .data⟩ (by simp) rfl
        have s4 : ∃ p, vs 4 = .tuple #[p, .bool false] ∧ Rt w' p (0) (1) := hJ.sp 4 p4
        have q15 := hF.slot 4 15 rfl p4
        obtain ⟨vp, e1, e2⟩ := s4
        exact run_val (v := vp) rfl (by simp [execOp, go_sem, q15, e1]) ⟨_, rfl, hJ.step hL rfl (Below.refl _ _) (by exact e2)⟩
      · intro L vs a w' hJ hF hP hL
        have p4 : L 4 = true := hP ⟨4, .data⟩ (by simp) rfl
        have s4 : ∃ p, vs 4 = .tuple #[p, .bool false] ∧ Rt w' p (0) (1) := hJ.sp 4 p4
        have q15 := hF.slot 4 15 rfl p4
        obtain ⟨vp, e1, e2⟩ := s4
        exact run_val (v := .bool false) rfl (by simp [execOp, go_sem, q15, e1]) ⟨_, rfl, hJ.step hL rfl (Below.refl _ _) (by exact rfl)⟩
      · intro L vs a w' hJ hF hP hL
        exact run_val (v := .pointer (some ⟨w'.heap.size, 0, none⟩)) (w' := w'.alloc (.cells #[.slice none 0 0, .slice none 0 0] 46)) rfl (by simp [execOp, go_sem]) ⟨_, rfl, hJ.alloc hL rfl (by decide) rfl _⟩
      · intro L vs a w' hJ hF hP hL
        have p7 : L 7 = true := hP ⟨7, .data⟩ (by simp) rfl
        have q8 := hF.slot 7 8 rfl p7
        have p5 : L 5 = true := hP ⟨5, .data⟩ (by simp) rfl
        have s5 : Rt w' (vs 5) (0) (1) := hJ.sp 5 p5
        have q20 := hF.slot 5 20 rfl p5
        obtain ⟨bk, e1, e2, e3, e4, e4', e5, e6⟩ := hJ.bx p7
        obtain ⟨e7, e7'⟩ := e5 hL
        obtain ⟨aa, nn, cc, a2, n2, c2, e8, _, _⟩ := s5.raw
        exact run_unit (w' := (w'.setCell ⟨bk, 0, none⟩ (.slice aa nn cc)).setCell ⟨bk, 1, none⟩ (.slice a2 n2 c2)) rfl (by simp [execOp, go_sem, q8, q20, e1, e8, e7, e4, e7', e4']) ⟨undef, rfl, hJ.store hL p7 p5 (by decide) rfl e1 e8⟩
      · intro L vs a w' hJ hF hP hL
        have p6 : L 6 = true := hP ⟨6, .data⟩ (by simp) rfl
        have s6 : vs 6 = .bool false := hJ.sp 6 p6
        have q21 := hF.slot 6 21 rfl p6
        exact run_val (v := .bool false) rfl (by simp [execOp, go_sem, q21, s6]) ⟨_, rfl, hJ.step hL rfl (Below.refl _ _) (by exact rfl)⟩
      intro L vs w' hA hJ
      have s5 : Rt w' (vs 5) (0) (1) := hJ.sp 5 (hA 5 (by simp))
      have s6 : vs 6 = .bool false := hJ.sp 6 (hA 6 (by simp))
      have s9 : vs 9 = .bool false := hJ.sp 9 (hA 9 (by simp))
      obtain ⟨bk7, eb7, ge7, lt7, fz7, fz7', _, e6⟩ := hJ.bx (hA 7 (by simp))
      obtain ⟨_, u7, u7', eu7, ce7, ce7'⟩ := e6 (hA 8 (by simp))
      clear e6
      simp only [putL, Act.put, List.setIfInBounds_toArray, List.set_cons_zero, List.set_cons_succ, Nat.reduceAdd]
      simp only [eb7, s6, s9]
      have Z3 : Hid (Bu w' b T' M R D B ∧ Fb (fun x => x = b) w w') := ⟨Z2.out.1.go hJ.bel, Z2.out.2.2.go hJ.bel⟩
      clear s5 s6 s9 eu7 eb7 ge7 lt7 fz7 fz7' hJ hA S1 Z2 ce7 ce7'
      go_wp2_with fail
      go_ret
      refine ⟨?_, ?_, Z3.out.2⟩
      · exact ret_int (by rw [← HM.out.1, HE.out.1])
      · rw [← HM.out.1, ← HM.out.2, HE.out.2]
        exact Z3.out.1
end Go.Proofs.YtdmkneojhnhomaaGreatDoor
namespace Go.Proofs.YtdmkneojhnhomaaGreatDoor
open Go.RowKit
set_option maxRecDepth 100000
set_option linter.unusedVariables false
/-- What lies above a fraction does not hang on its form. -/
theorem Fc.ceil {p q N D n : Nat} (h : Fc p q N D n) : ceilN p q = ceilN N D := by
  obtain ⟨k, hk⟩ := h.dvd.2
  have hk0 : 0 < k := by
    rcases Nat.eq_zero_or_pos k with e | e
    · have := h.dpos
      rw [hk, e, Nat.mul_zero] at this
      omega
    · exact e
  have hN : N = p * k := by
    have := h.val
    rw [hk] at this
    refine Nat.eq_of_mul_eq_mul_right h.pos ?_
    rw [← this]
    grind
  unfold ceilN
  rw [hN, hk, Nat.mul_div_mul_right _ _ hk0, Nat.mul_mod_mul_right]
  by_cases e : p % q = 0
  · rw [if_pos e, if_pos (by rw [e, Nat.zero_mul])]
  · rw [if_neg e, if_neg (fun e2 => e (by rcases Nat.mul_eq_zero.1 e2 with e3 | e3; exact e3; omega))]
/-- What ticksTo tells: k tokens, from N / D on, R / D a tick. -/
def TickIs (N R D k val : Nat) (ok : Bool) : Prop :=
  (k * D ≤ N ∧ val = 0 ∧ ok = true) ∨ (¬ k * D ≤ N ∧ R = 0 ∧ val = 0 ∧ ok = false) ∨
  (¬ k * D ≤ N ∧ 0 < R ∧ ceilN (k * D - N) R < 18446744073709551616 ∧ val = ceilN (k * D - N) R ∧ ok = true) ∨
  (¬ k * D ≤ N ∧ 0 < R ∧ ¬ ceilN (k * D - N) R < 18446744073709551616 ∧ val = 0 ∧ ok = false)
set_option maxHeartbeats 8000000 in
theorem ticks_any (b T N R D B k val : Nat) (ok : Bool) (a7 : Option Addr) (n7 c7 : Nat) (a8 : Option Addr) (n8 c8 : Nat) (w : World) (h : Bu w b T N R D B) (hT : Tab w) (hv : Rt w (.agg #[.slice a7 n7 c7, .slice a8 n8 c8]) k 1) (hk : k ≤ 9223372036854775807) (ht : TickIs N R D k val ok) :
    Calls Tryz.prog 42 #[.pointer (some ⟨b, 0, none⟩), .agg #[.slice a7 n7 c7, .slice a8 n8 c8]] w fun e w' => e = .returned (.tuple #[.int .u64 (val : Int), .bool ok]) ∧ Below w.heap.size w w' := by
  have ba := bel_al (o := .cells #[.slice a7 n7 c7, .slice a8 n8 c8] 46) (bel_refl w)
  have HB : Hid (Bu w b T N R D B ∧ Tab w ∧ k ≤ 9223372036854775807) := ⟨h, hT, hk⟩
  obtain ⟨p, q, a1, n1, c1, a2, n2, c2, a3, n3, c3, a4, n4, c4, a5, n5, c5, a6, n6, c6, f1, S1', fz⟩ := h.toBv.open
  have S1 : Hid _ := (S1'.addF hv).box (.slice a7 n7 c7) (.slice a8 n8 c8) 46 _ rfl
  have FK : Fc k 1 k 1 1 := ⟨Nat.gcd_one_right _, by omega, by omega, rfl, by rw [P_one]; omega, by rw [P_one]; omega⟩
  have FR : Fc R D R D 18 := ⟨h.low, h.cD.1, h.cD.1, rfl, P_up h.cR (by omega), h.cD.2⟩
  have HS : Hid (RS p ∧ RS q ∧ RS k ∧ RS 1) := ⟨f1.rs1 (by omega), f1.rs2 (by omega), FK.rs1 (by omega), FK.rs2 (by omega)⟩
  have FH : Hid (Fc p q N D 20 ∧ Fc k 1 k 1 1 ∧ Fc R D R D 18) := ⟨f1, FK, FR⟩
  have HT : Hid (TickIs N R D k val ok) := ht
  obtain ⟨bb, hbb⟩ : ∃ bb, decide (k * q ≤ p * 1) = bb := ⟨_, rfl⟩
  have hbn : decide (k * D ≤ N) = bb := by
    rw [← hbb]
    have := f1.le FK
    rw [Nat.mul_one N] at this
    exact decide_eq_decide.2 this.symm
  have HBB : Hid (decide (k * q ≤ p * 1) = bb) := hbb
  have HBN : Hid (decide (k * D ≤ N) = bb) := hbn
  clear hbb hbn S1' fz h hT hv hk ht f1 FK FR ba
  go_enter Tryz.func42, Tryz.ntmps42
  go_wp2_with fail
  obtain ⟨w0, hw⟩ : ∃ w0, w0 = w.alloc (.cells #[.slice a7 n7 c7, .slice a8 n8 c8] 46) := ⟨_, rfl⟩
  obtain ⟨g, hg⟩ : ∃ g, g = w.heap.size := ⟨_, rfl⟩
  rw [← hw, ← hg] at S1
  rw [← hw, ← hg]
  clear hw hg
  refine wp_region_inv (JB w0 [sEq (.pointer (some ⟨b, 0, none⟩)), sEq (.pointer (some ⟨b, 0, none⟩)), sEq (.pointer (some ⟨b, 0, none⟩)), sEq (.agg #[.int .i64 (T : Int), .slice a1 n1 c1, .slice a2 n2 c2]), sEq (.agg #[.slice a7 n7 c7, .slice a8 n8 c8]), sEq (.bool bb)] []) 42 (by kernel_rfl) rfl (by kernel_rfl) (JB.start _ _ _) (fun HG HN => ⟨?_, ?_, ?_, ?_, ?_, ?_, trivial⟩) ?_
  · intro L vs a w' hJ hF hP hL
    have q0 : (a.tmps[0]?).getD undef = .pointer (some ⟨b, 0, none⟩) := hF.old 0 rfl
    exact run_val (v := .pointer (some ⟨b, 0, none⟩)) rfl (by simp [execOp, go_sem, q0]) ⟨_, rfl, hJ.step hL rfl (Below.refl _ _) (by exact rfl)⟩
  · intro L vs a w' hJ hF hP hL
    have p0 : L 0 = true := hP ⟨0, .data⟩ (by simp) rfl
    have s0 : vs 0 = .pointer (some ⟨b, 0, none⟩) := hJ.sp 0 p0
    have q10 := hF.slot 0 10 rfl p0
    exact run_val (v := .pointer (some ⟨b, 0, none⟩)) rfl (by simp [execOp, go_sem, q10, s0]) ⟨_, rfl, hJ.step hL rfl (Below.refl _ _) (by exact rfl)⟩
  · intro L vs a w' hJ hF hP hL
    have p1 : L 1 = true := hP ⟨1, .data⟩ (by simp) rfl
    have s1 : vs 1 = .pointer (some ⟨b, 0, none⟩) := hJ.sp 1 p1
    have q11 := hF.slot 1 11 rfl p1
    exact run_val (v := .pointer (some ⟨b, 0, none⟩)) rfl (by simp [execOp, go_sem, q11, s1]) ⟨_, rfl, hJ.step hL rfl (Below.refl _ _) (by exact rfl)⟩
  · intro L vs a w' hJ hF hP hL
    have p2 : L 2 = true := hP ⟨2, .data⟩ (by simp) rfl
    have s2 : vs 2 = .pointer (some ⟨b, 0, none⟩) := hJ.sp 2 p2
    have q12 := hF.slot 2 12 rfl p2
    have cb0 := cell_later hJ.bel (S1.out.cel (b) 0 (.int .i64 (T : Int)))
    have cb1 := cell_later hJ.bel (S1.out.cel (b) 1 (.slice a1 n1 c1))
    have cb2 := cell_later hJ.bel (S1.out.cel (b) 2 (.slice a2 n2 c2))
    exact run_val (v := .agg #[.int .i64 (T : Int), .slice a1 n1 c1, .slice a2 n2 c2]) rfl (by simp [execOp, go_sem, q12, s2, cb0, cb1, cb2]) ⟨_, rfl, hJ.step hL rfl (Below.refl _ _) (by exact rfl)⟩
  · intro L vs a w' hJ hF hP hL
    have q3 : (a.tmps[3]?).getD undef = .pointer (some ⟨g, 0, none⟩) := hF.old 3 rfl
    have cb0 := cell_later hJ.bel (S1.out.cel (g) 0 (.slice a7 n7 c7))
    have cb1 := cell_later hJ.bel (S1.out.cel (g) 1 (.slice a8 n8 c8))
    exact run_val (v := .agg #[.slice a7 n7 c7, .slice a8 n8 c8]) rfl (by simp [execOp, go_sem, q3, cb0, cb1]) ⟨_, rfl, hJ.step hL rfl (Below.refl _ _) (by exact rfl)⟩
  · intro L vs a w' hJ hF hP hL
    have p3 : L 3 = true := hP ⟨3, .data⟩ (by simp) rfl
    have s3 : vs 3 = .agg #[.int .i64 (T : Int), .slice a1 n1 c1, .slice a2 n2 c2] := hJ.sp 3 p3
    have q13 := hF.slot 3 13 rfl p3
    have p4 : L 4 = true := hP ⟨4, .data⟩ (by simp) rfl
    have s4 : vs 4 = .agg #[.slice a7 n7 c7, .slice a8 n8 c8] := hJ.sp 4 p4
    have q14 := hF.slot 4 14 rfl p4
    refine run_call (f := 62) (args := #[.agg #[.int .i64 (T : Int), .slice a1 n1 c1, .slice a2 n2 c2], .agg #[.slice a7 n7 c7, .slice a8 n8 c8]]) rfl (by simp [go_sem, q13, s3, q14, s4]) (has_any (T : Int) a1 n1 c1 a2 n2 c2 a7 n7 c7 a8 n8 c8 p q k 1 _ ((S1.out.fr (.agg #[.slice a1 n1 c1, .slice a2 n2 c2]) p q).mono hJ.bel) ((S1.out.fr (.agg #[.slice a7 n7 c7, .slice a8 n8 c8]) k 1).mono hJ.bel) HS.out.1 HS.out.2.1 HS.out.2.2.1 HS.out.2.2.2 bb HBB.out) ?_
    rintro e w2 ⟨rfl, hb⟩
    exact ⟨_, rfl, _, rfl, hJ.step hL rfl hb (by exact rfl)⟩
  intro L vs w' hA hJ
  have s5 : vs 5 = .bool bb := hJ.sp 5 (hA 5 (by simp))
  simp only [putL, Act.put, List.setIfInBounds_toArray, List.set_cons_zero, List.set_cons_succ, Nat.reduceAdd]
  have S2 : Hid _ := S1.out.go hJ.bel
  simp only [s5]
  obtain ⟨w1, ew⟩ : ∃ w1, w1 = w' := ⟨_, rfl⟩
  rw [← ew] at S2
  rw [← ew]
  clear hJ hA s5 S1 ew
  cases bb
  · have hnl : ¬ k * D ≤ N := of_decide_eq_false HBN.out
    have HT2 : Hid ((R = 0 ∧ val = 0 ∧ ok = false) ∨ (0 < R ∧ ceilN (k * D - N) R < 18446744073709551616 ∧ val = ceilN (k * D - N) R ∧ ok = true) ∨ (0 < R ∧ ¬ ceilN (k * D - N) R < 18446744073709551616 ∧ val = 0 ∧ ok = false)) := by
      rcases HT.out with h | h | h | h
      · exact absurd h.1 hnl
      · exact .inl h.2
      · exact .inr (.inl h.2)
      · exact .inr (.inr h.2)
    obtain ⟨X, Y, fs, ad⟩ := FH.out.2.1.sub FH.out.1 (by omega) (by omega) (by rw [Nat.mul_one]; omega)
    rw [Nat.mul_one, Nat.one_mul] at fs
    have FS : Hid (Fc X Y (k * D - N) D 21) := fs
    have AD : Hid (∀ v u w, Rt w v k 1 → Rt w u p q → Tab w → Calls Tryz.prog 40 #[v, u] w (MakesRB w X Y true)) := ad
    clear fs ad hnl HT HBN HBB
    go_wp2_with fail
    refine wp_region_inv (JC w1 [sEq (.agg #[.slice a7 n7 c7, .slice a8 n8 c8]), sEq (.pointer (some ⟨b, 0, none⟩)), sEq (.pointer (some ⟨b, 0, none⟩)), sEq (.pointer (some ⟨b, 0, none⟩)), sEq (.pointer (some ⟨b, 1, none⟩)), sEq (.agg #[.slice a1 n1 c1, .slice a2 n2 c2]), sRtB (X) (Y) true, sRtB (X) (Y) true, sRt (X) (Y), sEq (.bool true), sAny, sAny, sEq (.bool true)] (10, 11, 8)) 42 (by kernel_rfl) rfl (by kernel_rfl) (JC.start _ _ _) (fun HG HN => ⟨?_, ?_, ?_, ?_, ?_, ?_, ?_, ?_, ?_, ?_, ?_, ?_, ?_, trivial⟩) ?_
    · intro L vs a w' hJ hF hP hL
      have q3 : (a.tmps[3]?).getD undef = .pointer (some ⟨g, 0, none⟩) := hF.old 3 rfl
      have cb0 := cell_later hJ.bel (S2.out.cel (g) 0 (.slice a7 n7 c7))
      have cb1 := cell_later hJ.bel (S2.out.cel (g) 1 (.slice a8 n8 c8))
      exact run_val (v := .agg #[.slice a7 n7 c7, .slice a8 n8 c8]) rfl (by simp [execOp, go_sem, q3, cb0, cb1]) ⟨_, rfl, hJ.step hL rfl (Below.refl _ _) (by exact rfl)⟩
    · intro L vs a w' hJ hF hP hL
      have q0 : (a.tmps[0]?).getD undef = .pointer (some ⟨b, 0, none⟩) := hF.old 0 rfl
      exact run_val (v := .pointer (some ⟨b, 0, none⟩)) rfl (by simp [execOp, go_sem, q0]) ⟨_, rfl, hJ.step hL rfl (Below.refl _ _) (by exact rfl)⟩
    · intro L vs a w' hJ hF hP hL
      have p1 : L 1 = true := hP ⟨1, .data⟩ (by simp) rfl
      have s1 : vs 1 = .pointer (some ⟨b, 0, none⟩) := hJ.sp 1 p1
      have q18 := hF.slot 1 18 rfl p1
      exact run_val (v := .pointer (some ⟨b, 0, none⟩)) rfl (by simp [execOp, go_sem, q18, s1]) ⟨_, rfl, hJ.step hL rfl (Below.refl _ _) (by exact rfl)⟩
    · intro L vs a w' hJ hF hP hL
      have p2 : L 2 = true := hP ⟨2, .data⟩ (by simp) rfl
      have s2 : vs 2 = .pointer (some ⟨b, 0, none⟩) := hJ.sp 2 p2
      have q19 := hF.slot 2 19 rfl p2
      exact run_val (v := .pointer (some ⟨b, 0, none⟩)) rfl (by simp [execOp, go_sem, q19, s2]) ⟨_, rfl, hJ.step hL rfl (Below.refl _ _) (by exact rfl)⟩
    · intro L vs a w' hJ hF hP hL
      have p3 : L 3 = true := hP ⟨3, .data⟩ (by simp) rfl
      have s3 : vs 3 = .pointer (some ⟨b, 0, none⟩) := hJ.sp 3 p3
      have q20 := hF.slot 3 20 rfl p3
      exact run_val (v := .pointer (some ⟨b, 1, none⟩)) rfl (by simp [execOp, go_sem, q20, s3]) ⟨_, rfl, hJ.step hL rfl (Below.refl _ _) (by exact rfl)⟩
    · intro L vs a w' hJ hF hP hL
      have p4 : L 4 = true := hP ⟨4, .data⟩ (by simp) rfl
      have s4 : vs 4 = .pointer (some ⟨b, 1, none⟩) := hJ.sp 4 p4
      have q21 := hF.slot 4 21 rfl p4
      have cb0 := cell_later hJ.bel (S2.out.cel (b) 1 (.slice a1 n1 c1))
      have cb1 := cell_later hJ.bel (S2.out.cel (b) 2 (.slice a2 n2 c2))
      exact run_val (v := .agg #[.slice a1 n1 c1, .slice a2 n2 c2]) rfl (by simp [execOp, go_sem, q21, s4, cb0, cb1]) ⟨_, rfl, hJ.step hL rfl (Below.refl _ _) (by exact rfl)⟩
    · intro L vs a w' hJ hF hP hL
      have p0 : L 0 = true := hP ⟨0, .data⟩ (by simp) rfl
      have s0 : vs 0 = .agg #[.slice a7 n7 c7, .slice a8 n8 c8] := hJ.sp 0 p0
      have q17 := hF.slot 0 17 rfl p0
      have p5 : L 5 = true := hP ⟨5, .data⟩ (by simp) rfl
      have s5 : vs 5 = .agg #[.slice a1 n1 c1, .slice a2 n2 c2] := hJ.sp 5 p5
      have q22 := hF.slot 5 22 rfl p5
      refine run_call (f := 40) (args := #[.agg #[.slice a7 n7 c7, .slice a8 n8 c8], .agg #[.slice a1 n1 c1, .slice a2 n2 c2]]) rfl (by simp [go_sem, q17, s0, q22, s5]) (AD.out _ _ _ ((S2.out.fr (.agg #[.slice a7 n7 c7, .slice a8 n8 c8]) k 1).mono hJ.bel) ((S2.out.fr (.agg #[.slice a1 n1 c1, .slice a2 n2 c2]) p q).mono hJ.bel) (HB.out.2.1.go (bel_go S2.out.bel hJ.bel))) ?_
      rintro e w2 ⟨v1, rfl, h1, hb⟩
      exact ⟨_, rfl, _, rfl, hJ.step hL rfl hb (by exact ⟨v1, rfl, h1⟩)⟩
    · intro L vs a w' hJ hF hP hL
      have p6 : L 6 = true := hP ⟨6, .data⟩ (by simp) rfl
      have s6 : ∃ p, vs 6 = .tuple #[p, .bool true] ∧ Rt w' p (X) (Y) := hJ.sp 6 p6
      have q23 := hF.slot 6 23 rfl p6
      exact run_val (v := vs 6) rfl (by simp [execOp, go_sem, q23]) ⟨_, rfl, hJ.step hL rfl (Below.refl _ _) (by exact s6)⟩
    · intro L vs a w' hJ hF hP hL
      have p7 : L 7 = true := hP ⟨7, .data⟩ (by simp) rfl
      have s7 : ∃ p, vs 7 = .tuple #[p, .bool true] ∧ Rt w' p (X) (Y) := hJ.sp 7 p7
      have q16 := hF.slot 7 16 rfl p7
      obtain ⟨vp, e1, e2⟩ := s7
      exact run_val (v := vp) rfl (by simp [execOp, go_sem, q16, e1]) ⟨_, rfl, hJ.step hL rfl (Below.refl _ _) (by exact e2)⟩
    · intro L vs a w' hJ hF hP hL
      have p7 : L 7 = true := hP ⟨7, .data⟩ (by simp) rfl
      have s7 : ∃ p, vs 7 = .tuple #[p, .bool true] ∧ Rt w' p (X) (Y) := hJ.sp 7 p7
      have q16 := hF.slot 7 16 rfl p7
      obtain ⟨vp, e1, e2⟩ := s7
      exact run_val (v := .bool true) rfl (by simp [execOp, go_sem, q16, e1]) ⟨_, rfl, hJ.step hL rfl (Below.refl _ _) (by exact rfl)⟩
    · intro L vs a w' hJ hF hP hL
      exact run_val (v := .pointer (some ⟨w'.heap.size, 0, none⟩)) (w' := w'.alloc (.cells #[.slice none 0 0, .slice none 0 0] 46)) rfl (by simp [execOp, go_sem]) ⟨_, rfl, hJ.alloc hL rfl (by decide) rfl _⟩
    · intro L vs a w' hJ hF hP hL
      have p10 : L 10 = true := hP ⟨10, .data⟩ (by simp) rfl
      have q6 := hF.slot 10 6 rfl p10
      have p8 : L 8 = true := hP ⟨8, .data⟩ (by simp) rfl
      have s8 : Rt w' (vs 8) (X) (Y) := hJ.sp 8 p8
      have q24 := hF.slot 8 24 rfl p8
      obtain ⟨bk, e1, e2, e3, e4, e4', e5, e6⟩ := hJ.bx p10
      obtain ⟨e7, e7'⟩ := e5 hL
      obtain ⟨aa, nn, cc, a2, n2, c2, e8, _, _⟩ := s8.raw
      exact run_unit (w' := (w'.setCell ⟨bk, 0, none⟩ (.slice aa nn cc)).setCell ⟨bk, 1, none⟩ (.slice a2 n2 c2)) rfl (by simp [execOp, go_sem, q6, q24, e1, e8, e7, e4, e7', e4']) ⟨undef, rfl, hJ.store hL p10 p8 (by decide) rfl e1 e8⟩
    · intro L vs a w' hJ hF hP hL
      have p9 : L 9 = true := hP ⟨9, .data⟩ (by simp) rfl
      have s9 : vs 9 = .bool true := hJ.sp 9 p9
      have q25 := hF.slot 9 25 rfl p9
      exact run_val (v := .bool true) rfl (by simp [execOp, go_sem, q25, s9]) ⟨_, rfl, hJ.step hL rfl (Below.refl _ _) (by exact rfl)⟩
    intro L vs w' hA hJ
    have s8 : Rt w' (vs 8) (X) (Y) := hJ.sp 8 (hA 8 (by simp))
    have s9 : vs 9 = .bool true := hJ.sp 9 (hA 9 (by simp))
    have s12 : vs 12 = .bool true := hJ.sp 12 (hA 12 (by simp))
    obtain ⟨bk10, eb10, ge10, lt10, fz10, fz10', _, e6⟩ := hJ.bx (hA 10 (by simp))
    obtain ⟨_, u10, u10', eu10, ce10, ce10'⟩ := e6 (hA 11 (by simp))
    clear e6
    simp only [putL, Act.put, List.setIfInBounds_toArray, List.set_cons_zero, List.set_cons_succ, Nat.reduceAdd]
    obtain ⟨a9, n9, c9, a10, n10, c10, q1, _, _⟩ := s8.raw
    rw [q1] at s8 eu10
    obtain ⟨rfl, rfl⟩ : u10 = .slice a9 n9 c9 ∧ u10' = .slice a10 n10 c10 := by simpa using eu10.symm
    simp only [eb10, s9, s12]
    have S3 : Hid _ := (((S2.out.go hJ.bel).addF s8).addC ce10').addC ce10
    obtain ⟨w3, ew⟩ : ∃ w3, w3 = w' := ⟨_, rfl⟩
    obtain ⟨b9, e1⟩ : ∃ b9, b9 = bk10 := ⟨_, rfl⟩
    rw [← ew, ← e1] at S3
    rw [← ew, ← e1]
    clear ew e1 q1 s8 s9 s12 eu10 eb10 ge10 lt10 fz10 fz10' hJ hA S2 AD ce10 ce10'
    go_wp2_with fail
    rcases Nat.eq_zero_or_pos R with hR | hR
    · have AD : Hid (∀ v u w, Rt w v X Y → Rt w u R D → Tab w → Calls Tryz.prog 73 #[v, u] w (MakesRB w 0 1 false)) := fun v u w e1 e2 hT => ratDiv_no v u X Y R D w e1 e2 (FS.out.rs1 (by omega)) (FS.out.rs2 (by omega)) (FH.out.2.2.rs1 (by omega)) (FH.out.2.2.rs2 (by omega)) hR hT
      have HV : Hid (val = 0 ∧ ok = false) := by
        rcases HT2.out with h | h | h
        · exact h.2
        · exact absurd h.1 (by omega)
        · exact absurd h.1 (by omega)
      clear HT2 hR
      refine wp_region_inv (JC w3 [sEq (.agg #[.slice a9 n9 c9, .slice a10 n10 c10]), sEq (.pointer (some ⟨b, 0, none⟩)), sEq (.pointer (some ⟨b, 0, none⟩)), sEq (.pointer (some ⟨b, 5, none⟩)), sEq (.agg #[.slice a5 n5 c5, .slice a6 n6 c6]), sRtB (0) (1) false, sRtB (0) (1) false, sRt (0) (1), sEq (.bool false), sAny, sAny, sEq (.bool false)] (9, 10, 7)) 42 (by kernel_rfl) rfl (by kernel_rfl) (JC.start _ _ _) (fun HG HN => ⟨?_, ?_, ?_, ?_, ?_, ?_, ?_, ?_, ?_, ?_, ?_, ?_, trivial⟩) ?_
      · intro L vs a w' hJ hF hP hL
        have q6 : (a.tmps[6]?).getD undef = .pointer (some ⟨b9, 0, none⟩) := hF.old 6 rfl
        have cb0 := cell_later hJ.bel (S3.out.cel (b9) 0 (.slice a9 n9 c9))
        have cb1 := cell_later hJ.bel (S3.out.cel (b9) 1 (.slice a10 n10 c10))
        exact run_val (v := .agg #[.slice a9 n9 c9, .slice a10 n10 c10]) rfl (by simp [execOp, go_sem, q6, cb0, cb1]) ⟨_, rfl, hJ.step hL rfl (Below.refl _ _) (by exact rfl)⟩
      · intro L vs a w' hJ hF hP hL
        have q0 : (a.tmps[0]?).getD undef = .pointer (some ⟨b, 0, none⟩) := hF.old 0 rfl
        exact run_val (v := .pointer (some ⟨b, 0, none⟩)) rfl (by simp [execOp, go_sem, q0]) ⟨_, rfl, hJ.step hL rfl (Below.refl _ _) (by exact rfl)⟩
      · intro L vs a w' hJ hF hP hL
        have p1 : L 1 = true := hP ⟨1, .data⟩ (by simp) rfl
        have s1 : vs 1 = .pointer (some ⟨b, 0, none⟩) := hJ.sp 1 p1
        have q28 := hF.slot 1 28 rfl p1
        exact run_val (v := .pointer (some ⟨b, 0, none⟩)) rfl (by simp [execOp, go_sem, q28, s1]) ⟨_, rfl, hJ.step hL rfl (Below.refl _ _) (by exact rfl)⟩
      · intro L vs a w' hJ hF hP hL
        have p2 : L 2 = true := hP ⟨2, .data⟩ (by simp) rfl
        have s2 : vs 2 = .pointer (some ⟨b, 0, none⟩) := hJ.sp 2 p2
        have q29 := hF.slot 2 29 rfl p2
        exact run_val (v := .pointer (some ⟨b, 5, none⟩)) rfl (by simp [execOp, go_sem, q29, s2]) ⟨_, rfl, hJ.step hL rfl (Below.refl _ _) (by exact rfl)⟩
      · intro L vs a w' hJ hF hP hL
        have p3 : L 3 = true := hP ⟨3, .data⟩ (by simp) rfl
        have s3 : vs 3 = .pointer (some ⟨b, 5, none⟩) := hJ.sp 3 p3
        have q30 := hF.slot 3 30 rfl p3
        have cb0 := cell_later hJ.bel (S3.out.cel (b) 5 (.slice a5 n5 c5))
        have cb1 := cell_later hJ.bel (S3.out.cel (b) 6 (.slice a6 n6 c6))
        exact run_val (v := .agg #[.slice a5 n5 c5, .slice a6 n6 c6]) rfl (by simp [execOp, go_sem, q30, s3, cb0, cb1]) ⟨_, rfl, hJ.step hL rfl (Below.refl _ _) (by exact rfl)⟩
      · intro L vs a w' hJ hF hP hL
        have p0 : L 0 = true := hP ⟨0, .data⟩ (by simp) rfl
        have s0 : vs 0 = .agg #[.slice a9 n9 c9, .slice a10 n10 c10] := hJ.sp 0 p0
        have q27 := hF.slot 0 27 rfl p0
        have p4 : L 4 = true := hP ⟨4, .data⟩ (by simp) rfl
        have s4 : vs 4 = .agg #[.slice a5 n5 c5, .slice a6 n6 c6] := hJ.sp 4 p4
        have q31 := hF.slot 4 31 rfl p4
        refine run_call (f := 73) (args := #[.agg #[.slice a9 n9 c9, .slice a10 n10 c10], .agg #[.slice a5 n5 c5, .slice a6 n6 c6]]) rfl (by simp [go_sem, q27, s0, q31, s4]) (AD.out _ _ _ ((S3.out.fr (.agg #[.slice a9 n9 c9, .slice a10 n10 c10]) X Y).mono hJ.bel) ((S3.out.fr (.agg #[.slice a5 n5 c5, .slice a6 n6 c6]) R D).mono hJ.bel) (HB.out.2.1.go (bel_go S3.out.bel hJ.bel))) ?_
        rintro e w2 ⟨v1, rfl, h1, hb⟩
        exact ⟨_, rfl, _, rfl, hJ.step hL rfl hb (by exact ⟨v1, rfl, h1⟩)⟩
      · intro L vs a w' hJ hF hP hL
        have p5 : L 5 = true := hP ⟨5, .data⟩ (by simp) rfl
        have s5 : ∃ p, vs 5 = .tuple #[p, .bool false] ∧ Rt w' p (0) (1) := hJ.sp 5 p5
        have q32 := hF.slot 5 32 rfl p5
        exact run_val (v := vs 5) rfl (by simp [execOp, go_sem, q32]) ⟨_, rfl, hJ.step hL rfl (Below.refl _ _) (by exact s5)⟩
      · intro L vs a w' hJ hF hP hL
        have p6 : L 6 = true := hP ⟨6, .data⟩ (by simp) rfl
        have s6 : ∃ p, vs 6 = .tuple #[p, .bool false] ∧ Rt w' p (0) (1) := hJ.sp 6 p6
        have q26 := hF.slot 6 26 rfl p6
        obtain ⟨vp, e1, e2⟩ := s6
        exact run_val (v := vp) rfl (by simp [execOp, go_sem, q26, e1]) ⟨_, rfl, hJ.step hL rfl (Below.refl _ _) (by exact e2)⟩
      · intro L vs a w' hJ hF hP hL
        have p6 : L 6 = true := hP ⟨6, .data⟩ (by simp) rfl
        have s6 : ∃ p, vs 6 = .tuple #[p, .bool false] ∧ Rt w' p (0) (1) := hJ.sp 6 p6
        have q26 := hF.slot 6 26 rfl p6
        obtain ⟨vp, e1, e2⟩ := s6
        exact run_val (v := .bool false) rfl (by simp [execOp, go_sem, q26, e1]) ⟨_, rfl, hJ.step hL rfl (Below.refl _ _) (by exact rfl)⟩
      · intro L vs a w' hJ hF hP hL
        exact run_val (v := .pointer (some ⟨w'.heap.size, 0, none⟩)) (w' := w'.alloc (.cells #[.slice none 0 0, .slice none 0 0] 46)) rfl (by simp [execOp, go_sem]) ⟨_, rfl, hJ.alloc hL rfl (by decide) rfl _⟩
      · intro L vs a w' hJ hF hP hL
        have p9 : L 9 = true := hP ⟨9, .data⟩ (by simp) rfl
        have q8 := hF.slot 9 8 rfl p9
        have p7 : L 7 = true := hP ⟨7, .data⟩ (by simp) rfl
        have s7 : Rt w' (vs 7) (0) (1) := hJ.sp 7 p7
        have q33 := hF.slot 7 33 rfl p7
        obtain ⟨bk, e1, e2, e3, e4, e4', e5, e6⟩ := hJ.bx p9
        obtain ⟨e7, e7'⟩ := e5 hL
        obtain ⟨aa, nn, cc, a2, n2, c2, e8, _, _⟩ := s7.raw
        exact run_unit (w' := (w'.setCell ⟨bk, 0, none⟩ (.slice aa nn cc)).setCell ⟨bk, 1, none⟩ (.slice a2 n2 c2)) rfl (by simp [execOp, go_sem, q8, q33, e1, e8, e7, e4, e7', e4']) ⟨undef, rfl, hJ.store hL p9 p7 (by decide) rfl e1 e8⟩
      · intro L vs a w' hJ hF hP hL
        have p8 : L 8 = true := hP ⟨8, .data⟩ (by simp) rfl
        have s8 : vs 8 = .bool false := hJ.sp 8 p8
        have q34 := hF.slot 8 34 rfl p8
        exact run_val (v := .bool false) rfl (by simp [execOp, go_sem, q34, s8]) ⟨_, rfl, hJ.step hL rfl (Below.refl _ _) (by exact rfl)⟩
      intro L vs w' hA hJ
      have s7 : Rt w' (vs 7) (0) (1) := hJ.sp 7 (hA 7 (by simp))
      have s8 : vs 8 = .bool false := hJ.sp 8 (hA 8 (by simp))
      have s11 : vs 11 = .bool false := hJ.sp 11 (hA 11 (by simp))
      obtain ⟨bk9, eb9, ge9, lt9, fz9, fz9', _, e6⟩ := hJ.bx (hA 9 (by simp))
      obtain ⟨_, u9, u9', eu9, ce9, ce9'⟩ := e6 (hA 10 (by simp))
      clear e6
      simp only [putL, Act.put, List.setIfInBounds_toArray, List.set_cons_zero, List.set_cons_succ, Nat.reduceAdd]
      simp only [eb9, s8, s11]
      have B9 : Hid (Below w.heap.size w w') := bel_go S3.out.bel hJ.bel
      clear s7 s8 s11 eu9 eb9 ge9 lt9 fz9 fz9' hJ hA S3 ce9 ce9'
      go_wp2_with fail
      exact bodyPost_ret (v := .tuple #[.int .u64 0, .bool false]) (by simp [results, Tryz.results42, go_sem]) rfl ⟨by rw [HV.out.1, HV.out.2]; rfl, B9.out⟩
    · obtain ⟨X2, Y2, fd, ad⟩ := FS.out.div FH.out.2.2 (by omega) (by omega) hR
      have FD : Hid (Fc X2 Y2 (k * D - N) R 39) := fd.scale rfl (Nat.mul_comm _ _) HB.out.1.cD.1
      have AD : Hid (∀ v u w, Rt w v X Y → Rt w u R D → Tab w → Calls Tryz.prog 73 #[v, u] w (MakesRB w X2 Y2 true)) := ad
      obtain ⟨cc, hcc⟩ : ∃ cc, cc = ceilN (k * D - N) R := ⟨_, rfl⟩
      have hu : (cc < 18446744073709551616 ∧ val = cc ∧ ok = true) ∨ (¬ cc < 18446744073709551616 ∧ val = 0 ∧ ok = false) := by
        rw [hcc]
        rcases HT2.out with h | h | h
        · exact absurd h.1 (by omega)
        · exact .inl h.2
        · exact .inr h.2
      have hfit : Fits cc := by
        rw [hcc, ← FD.out.ceil]
        have h1 : X2 < P 39 := FD.out.s1
        have h2 : ceilN X2 Y2 ≤ X2 + 1 := by
          unfold ceilN
          have := Nat.div_le_self X2 Y2
          split <;> omega
        have h3 : 1 < P 39 := Nat.one_lt_pow (by omega) (by omega)
        exact fits_P (n := 40) (Nat.lt_of_le_of_lt h2 (P_twice h1 h3)) (by omega)
      have UI : Hid (∀ v w, IsNat w v cc → Calls Tryz.prog 75 #[v] w fun e w' => e = .returned (.tuple #[.int .u64 (val : Int), .bool ok]) ∧ Below w.heap.size w w') := by
        intro v w hv
        rcases hu with ⟨h1, rfl, rfl⟩ | ⟨h1, rfl, rfl⟩
        · exact uint_yes v val w hv h1
        · exact uint_no v cc w hv hfit h1
      have HC : Hid (ceilN X2 Y2 = cc) := by show _ = _; rw [hcc, FD.out.ceil]
      clear fd ad hcc hu hfit HT2 hR
      refine wp_region_inv (JC w3 [sEq (.agg #[.slice a9 n9 c9, .slice a10 n10 c10]), sEq (.pointer (some ⟨b, 0, none⟩)), sEq (.pointer (some ⟨b, 0, none⟩)), sEq (.pointer (some ⟨b, 5, none⟩)), sEq (.agg #[.slice a5 n5 c5, .slice a6 n6 c6]), sRtB (X2) (Y2) true, sRtB (X2) (Y2) true, sRt (X2) (Y2), sEq (.bool true), sAny, sAny, sEq (.bool true)] (9, 10, 7)) 42 (by kernel_rfl) rfl (by kernel_rfl) (JC.start _ _ _) (fun HG HN => ⟨?_, ?_, ?_, ?_, ?_, ?_, ?_, ?_, ?_, ?_, ?_, ?_, trivial⟩) ?_
      · intro L vs a w' hJ hF hP hL
        have q6 : (a.tmps[6]?).getD undef = .pointer (some ⟨b9, 0, none⟩) := hF.old 6 rfl
        have cb0 := cell_later hJ.bel (S3.out.cel (b9) 0 (.slice a9 n9 c9))
        have cb1 := cell_later hJ.bel (S3.out.cel (b9) 1 (.slice a10 n10 c10))
        exact run_val (v := .agg #[.slice a9 n9 c9, .slice a10 n10 c10]) rfl (by simp [execOp, go_sem, q6, cb0, cb1]) ⟨_, rfl, hJ.step hL rfl (Below.refl _ _) (by exact rfl)⟩
      · intro L vs a w' hJ hF hP hL
        have q0 : (a.tmps[0]?).getD undef = .pointer (some ⟨b, 0, none⟩) := hF.old 0 rfl
        exact run_val (v := .pointer (some ⟨b, 0, none⟩)) rfl (by simp [execOp, go_sem, q0]) ⟨_, rfl, hJ.step hL rfl (Below.refl _ _) (by exact rfl)⟩
      · intro L vs a w' hJ hF hP hL
        have p1 : L 1 = true := hP ⟨1, .data⟩ (by simp) rfl
        have s1 : vs 1 = .pointer (some ⟨b, 0, none⟩) := hJ.sp 1 p1
        have q28 := hF.slot 1 28 rfl p1
        exact run_val (v := .pointer (some ⟨b, 0, none⟩)) rfl (by simp [execOp, go_sem, q28, s1]) ⟨_, rfl, hJ.step hL rfl (Below.refl _ _) (by exact rfl)⟩
      · intro L vs a w' hJ hF hP hL
        have p2 : L 2 = true := hP ⟨2, .data⟩ (by simp) rfl
        have s2 : vs 2 = .pointer (some ⟨b, 0, none⟩) := hJ.sp 2 p2
        have q29 := hF.slot 2 29 rfl p2
        exact run_val (v := .pointer (some ⟨b, 5, none⟩)) rfl (by simp [execOp, go_sem, q29, s2]) ⟨_, rfl, hJ.step hL rfl (Below.refl _ _) (by exact rfl)⟩
      · intro L vs a w' hJ hF hP hL
        have p3 : L 3 = true := hP ⟨3, .data⟩ (by simp) rfl
        have s3 : vs 3 = .pointer (some ⟨b, 5, none⟩) := hJ.sp 3 p3
        have q30 := hF.slot 3 30 rfl p3
        have cb0 := cell_later hJ.bel (S3.out.cel (b) 5 (.slice a5 n5 c5))
        have cb1 := cell_later hJ.bel (S3.out.cel (b) 6 (.slice a6 n6 c6))
        exact run_val (v := .agg #[.slice a5 n5 c5, .slice a6 n6 c6]) rfl (by simp [execOp, go_sem, q30, s3, cb0, cb1]) ⟨_, rfl, hJ.step hL rfl (Below.refl _ _) (by exact rfl)⟩
      · intro L vs a w' hJ hF hP hL
        have p0 : L 0 = true := hP ⟨0, .data⟩ (by simp) rfl
        have s0 : vs 0 = .agg #[.slice a9 n9 c9, .slice a10 n10 c10] := hJ.sp 0 p0
        have q27 := hF.slot 0 27 rfl p0
        have p4 : L 4 = true := hP ⟨4, .data⟩ (by simp) rfl
        have s4 : vs 4 = .agg #[.slice a5 n5 c5, .slice a6 n6 c6] := hJ.sp 4 p4
        have q31 := hF.slot 4 31 rfl p4
        refine run_call (f := 73) (args := #[.agg #[.slice a9 n9 c9, .slice a10 n10 c10], .agg #[.slice a5 n5 c5, .slice a6 n6 c6]]) rfl (by simp [go_sem, q27, s0, q31, s4]) (AD.out _ _ _ ((S3.out.fr (.agg #[.slice a9 n9 c9, .slice a10 n10 c10]) X Y).mono hJ.bel) ((S3.out.fr (.agg #[.slice a5 n5 c5, .slice a6 n6 c6]) R D).mono hJ.bel) (HB.out.2.1.go (bel_go S3.out.bel hJ.bel))) ?_
        rintro e w2 ⟨v1, rfl, h1, hb⟩
        exact ⟨_, rfl, _, rfl, hJ.step hL rfl hb (by exact ⟨v1, rfl, h1⟩)⟩
      · intro L vs a w' hJ hF hP hL
        have p5 : L 5 = true := hP ⟨5, .data⟩ (by simp) rfl
        have s5 : ∃ p, vs 5 = .tuple #[p, .bool true] ∧ Rt w' p (X2) (Y2) := hJ.sp 5 p5
        have q32 := hF.slot 5 32 rfl p5
        exact run_val (v := vs 5) rfl (by simp [execOp, go_sem, q32]) ⟨_, rfl, hJ.step hL rfl (Below.refl _ _) (by exact s5)⟩
      · intro L vs a w' hJ hF hP hL
        have p6 : L 6 = true := hP ⟨6, .data⟩ (by simp) rfl
        have s6 : ∃ p, vs 6 = .tuple #[p, .bool true] ∧ Rt w' p (X2) (Y2) := hJ.sp 6 p6
        have q26 := hF.slot 6 26 rfl p6
        obtain ⟨vp, e1, e2⟩ := s6
        exact run_val (v := vp) rfl (by simp [execOp, go_sem, q26, e1]) ⟨_, rfl, hJ.step hL rfl (Below.refl _ _) (by exact e2)⟩
      · intro L vs a w' hJ hF hP hL
        have p6 : L 6 = true := hP ⟨6, .data⟩ (by simp) rfl
        have s6 : ∃ p, vs 6 = .tuple #[p, .bool true] ∧ Rt w' p (X2) (Y2) := hJ.sp 6 p6
        have q26 := hF.slot 6 26 rfl p6
        obtain ⟨vp, e1, e2⟩ := s6
        exact run_val (v := .bool true) rfl (by simp [execOp, go_sem, q26, e1]) ⟨_, rfl, hJ.step hL rfl (Below.refl _ _) (by exact rfl)⟩
      · intro L vs a w' hJ hF hP hL
        exact run_val (v := .pointer (some ⟨w'.heap.size, 0, none⟩)) (w' := w'.alloc (.cells #[.slice none 0 0, .slice none 0 0] 46)) rfl (by simp [execOp, go_sem]) ⟨_, rfl, hJ.alloc hL rfl (by decide) rfl _⟩
      · intro L vs a w' hJ hF hP hL
        have p9 : L 9 = true := hP ⟨9, .data⟩ (by simp) rfl
        have q8 := hF.slot 9 8 rfl p9
        have p7 : L 7 = true := hP ⟨7, .data⟩ (by simp) rfl
        have s7 : Rt w' (vs 7) (X2) (Y2) := hJ.sp 7 p7
        have q33 := hF.slot 7 33 rfl p7
        obtain ⟨bk, e1, e2, e3, e4, e4', e5, e6⟩ := hJ.bx p9
        obtain ⟨e7, e7'⟩ := e5 hL
        obtain ⟨aa, nn, cc, a2, n2, c2, e8, _, _⟩ := s7.raw
        exact run_unit (w' := (w'.setCell ⟨bk, 0, none⟩ (.slice aa nn cc)).setCell ⟨bk, 1, none⟩ (.slice a2 n2 c2)) rfl (by simp [execOp, go_sem, q8, q33, e1, e8, e7, e4, e7', e4']) ⟨undef, rfl, hJ.store hL p9 p7 (by decide) rfl e1 e8⟩
      · intro L vs a w' hJ hF hP hL
        have p8 : L 8 = true := hP ⟨8, .data⟩ (by simp) rfl
        have s8 : vs 8 = .bool true := hJ.sp 8 p8
        have q34 := hF.slot 8 34 rfl p8
        exact run_val (v := .bool true) rfl (by simp [execOp, go_sem, q34, s8]) ⟨_, rfl, hJ.step hL rfl (Below.refl _ _) (by exact rfl)⟩
      intro L vs w' hA hJ
      have s7 : Rt w' (vs 7) (X2) (Y2) := hJ.sp 7 (hA 7 (by simp))
      have s8 : vs 8 = .bool true := hJ.sp 8 (hA 8 (by simp))
      have s11 : vs 11 = .bool true := hJ.sp 11 (hA 11 (by simp))
      obtain ⟨bk9, eb9, ge9, lt9, fz9, fz9', _, e6⟩ := hJ.bx (hA 9 (by simp))
      obtain ⟨_, u9, u9', eu9, ce9, ce9'⟩ := e6 (hA 10 (by simp))
      clear e6
      simp only [putL, Act.put, List.setIfInBounds_toArray, List.set_cons_zero, List.set_cons_succ, Nat.reduceAdd]
      obtain ⟨a11, n11, c11, a12, n12, c12, q1, _, _⟩ := s7.raw
      rw [q1] at s7 eu9
      obtain ⟨rfl, rfl⟩ : u9 = .slice a11 n11 c11 ∧ u9' = .slice a12 n12 c12 := by simpa using eu9.symm
      simp only [eb9, s8, s11]
      have S4 : Hid _ := (((S3.out.go hJ.bel).addF s7).addC ce9').addC ce9
      obtain ⟨w4, ew⟩ : ∃ w4, w4 = w' := ⟨_, rfl⟩
      obtain ⟨b10, e1⟩ : ∃ b10, b10 = bk9 := ⟨_, rfl⟩
      rw [← ew, ← e1] at S4
      rw [← ew, ← e1]
      clear ew e1 q1 s7 s8 s11 eu9 eb9 ge9 lt9 fz9 fz9' hJ hA S3 AD ce9 ce9'
      have z1 := S4.out.cel b10 0 (.slice a11 n11 c11)
      have z2 := S4.out.cel b10 1 (.slice a12 n12 c12)
      go_wp2_with fail
      have CE := ceil_any _ X2 Y2 w4 (S4.out.fr (.agg #[.slice a11 n11 c11, .slice a12 n12 c12]) X2 Y2) (FD.out.rs1 (by omega)) (FD.out.rs2 (by omega))
      rw [HC.out] at CE
      refine CE.mono ?_
      clear CE z1 z2
      rintro e w5 ⟨v5, rfl, hv5, hb5⟩
      have B5 : Hid (IsNat w5 v5 cc ∧ Below w.heap.size w w5) := ⟨hv5, bel_go S4.out.bel hb5⟩
      clear hv5 hb5 S4
      go_wp2_with fail
      refine (UI.out v5 w5 B5.out.1).mono ?_
      rintro e w6 ⟨rfl, hb6⟩
      have B6 : Hid (Below w.heap.size w w6) := bel_go B5.out.2 hb6
      clear hb6 B5
      go_wp2_with fail
      exact bodyPost_ret (v := .tuple #[.int .u64 (val : Int), .bool ok]) (by simp [results, Tryz.results42, go_sem]) rfl ⟨rfl, B6.out⟩
  · have HV : Hid (val = 0 ∧ ok = true) := by
      have hl : k * D ≤ N := of_decide_eq_true HBN.out
      rcases HT.out with h | h | h | h
      · exact h.2
      · exact absurd hl h.1
      · exact absurd hl h.1
      · exact absurd hl h.1
    have B2 : Hid (Below w.heap.size w w1) := S2.out.bel
    clear S2
    go_wp2_with fail
    exact bodyPost_ret (v := .tuple #[.int .u64 0, .bool true]) (by simp [results, Tryz.results42, go_sem]) rfl ⟨by rw [HV.out.1, HV.out.2]; rfl, B2.out⟩
end Go.Proofs.YtdmkneojhnhomaaGreatDoor
namespace Go.Proofs.YtdmkneojhnhomaaGreatDoor
open Go.RowKit
set_option maxRecDepth 100000
set_option linter.unusedVariables false
theorem tick_ex (N R D k : Nat) : ∃ val ok, TickIs N R D k val ok := by
  unfold TickIs
  by_cases h1 : k * D ≤ N
  · exact ⟨0, true, .inl ⟨h1, rfl, rfl⟩⟩
  · rcases Nat.eq_zero_or_pos R with h2 | h2
    · exact ⟨0, false, .inr (.inl ⟨h1, h2, rfl, rfl⟩)⟩
    · by_cases h3 : ceilN (k * D - N) R < 18446744073709551616
      · exact ⟨_, true, .inr (.inr (.inl ⟨h1, h2, h3, rfl, rfl⟩))⟩
      · exact ⟨0, false, .inr (.inr (.inr ⟨h1, h2, h3, rfl, rfl⟩))⟩
theorem wait_yes {T N R D B k val : Nat} (h : TickIs N R D k val true) (h1 : 1 ≤ k) (h2 : k ≤ B) (h3 : T + val ≤ 4611686018427387904) : waitE T N R D B (k : Int) = 0 ∧ waitV T N R D B (k : Int) = T + val := by
  have a1 : ¬ (k : Int) < 1 := by omega
  have a2 : ¬ (B : Int) < (k : Int) := by omega
  unfold waitE waitV lackN
  rw [Int.toNat_natCast, if_neg a1, if_neg a1, if_neg a2, if_neg a2]
  rcases h with h | h | h | h
  · rw [if_pos h.1, if_pos h.1, h.2.1]
    exact ⟨rfl, rfl⟩
  · cases h.2.2.2
  · have r0 : ¬ R = 0 := by have := h.2.1; omega
    have hv := h.2.2.2.1
    rw [if_neg h.1, if_neg h.1, if_neg r0, if_neg r0, ← hv, if_pos h3, if_pos h3]
    exact ⟨rfl, rfl⟩
  · cases h.2.2.2.2
theorem wait_no {T N R D B k val : Nat} {ok : Bool} (h : TickIs N R D k val ok) (h1 : 1 ≤ k) (h2 : k ≤ B) (hT : T ≤ 4611686018427387904) (h3 : ok = true → ¬ T + val ≤ 4611686018427387904) : waitE T N R D B (k : Int) = 80 ∧ waitV T N R D B (k : Int) = 0 := by
  have a1 : ¬ (k : Int) < 1 := by omega
  have a2 : ¬ (B : Int) < (k : Int) := by omega
  unfold waitE waitV lackN
  rw [Int.toNat_natCast, if_neg a1, if_neg a1, if_neg a2, if_neg a2]
  rcases h with h | h | h | h
  · have := h3 h.2.2
    rw [h.2.1] at this
    omega
  · rw [if_neg h.1, if_neg h.1, if_pos h.2.1, if_pos h.2.1]
    exact ⟨rfl, rfl⟩
  · have r0 : ¬ R = 0 := by have := h.2.1; omega
    have hv := h.2.2.2.1
    have h4 := h3 h.2.2.2.2
    rw [if_neg h.1, if_neg h.1, if_neg r0, if_neg r0, ← hv, if_neg h4, if_neg h4]
    exact ⟨rfl, rfl⟩
  · have r0 : ¬ R = 0 := by have := h.2.1; omega
    have h4 : ¬ T + ceilN (k * D - N) R ≤ 4611686018427387904 := by have := h.2.2.1; omega
    rw [if_neg h.1, if_neg h.1, if_neg r0, if_neg r0, if_neg h4, if_neg h4]
    exact ⟨rfl, rfl⟩
theorem cmpI_pos {x y : Nat} : decide (0 < cmpI x y) = decide (y < x) := by
  unfold cmpI
  by_cases h1 : x < y
  · rw [if_pos h1, decide_eq_false (by omega), decide_eq_false (by omega)]
  · by_cases h2 : x = y
    · rw [if_neg h1, if_pos h2, decide_eq_false (by omega), decide_eq_false (by omega)]
    · rw [if_neg h1, if_neg h2, decide_eq_true (by omega), decide_eq_true (by omega)]
set_option maxHeartbeats 8000000 in
theorem bwait_any (b T N R D B : Nat) (n : Int) (w : World) (h : Bu w b T N R D B) (hT : Tab w) (hn : n ≤ 9223372036854775807) :
    Calls Tryz.prog 18 #[.pointer (some ⟨b, 0, none⟩), .int .i64 n] w fun e w' => e = .returned (.tuple #[.int .i64 ((waitV T N R D B n : Nat) : Int), .int .i64 (waitE T N R D B n)]) ∧ Below w.heap.size w w' := by
  have HB : Hid (Bu w b T N R D B ∧ Tab w) := ⟨h, hT⟩
  clear h hT
  by_cases h1 : n < 1
  · have d1 : decide (n < 1) = true := decide_eq_true h1
    have HE : Hid (waitE T N R D B n = 1 ∧ waitV T N R D B n = 0) := by
      unfold waitE waitV
      rw [if_pos h1, if_pos h1]
      exact ⟨rfl, rfl⟩
    clear h1
    go_enter Tryz.func18, Tryz.ntmps18
    go_wp2_with fail
    exact bodyPost_ret (v := .tuple #[.int .i64 0, .int .i64 1]) (by simp [results, Tryz.results18, go_sem]) rfl ⟨by rw [HE.out.1, HE.out.2]; rfl, bel_refl w⟩
  · obtain ⟨k, rfl⟩ : ∃ k : Nat, n = (k : Int) := ⟨n.toNat, by omega⟩
    have d1 : decide ((k : Int) < 1) = false := decide_eq_false h1
    have HK : Hid (1 ≤ k ∧ k ≤ 9223372036854775807) := ⟨by omega, by omega⟩
    clear h1 hn
    go_enter Tryz.func18, Tryz.ntmps18
    go_wp2_with fail
    refine (whole_any k _ HK.out.2 HB.out.2).mono ?_
    rintro e w1 ⟨v1, rfl, hv, hb⟩
    obtain ⟨a7, n7, c7, a8, n8, c8, ev, _, _⟩ := hv.raw
    subst ev
    have ba := bel_al (o := .cells #[.slice a7 n7 c7, .slice a8 n8 c8] 46) (bel_refl w1)
    have Z1 : Hid (Bu (w1.alloc (.cells #[.slice a7 n7 c7, .slice a8 n8 c8] 46)) b T N R D B ∧ Tab (w1.alloc (.cells #[.slice a7 n7 c7, .slice a8 n8 c8] 46)) ∧ Below w.heap.size w (w1.alloc (.cells #[.slice a7 n7 c7, .slice a8 n8 c8] 46))) := ⟨HB.out.1.go (bel_go hb ba), HB.out.2.go (bel_go hb ba), bel_go hb ba⟩
    obtain ⟨p, q, a1, n1, c1, a2, n2, c2, a3, n3, c3, a4, n4, c4, a5, n5, c5, a6, n6, c6, f1, S1', fz⟩ := Z1.out.1.toBv.open
    have S1 : Hid _ := ((S1'.addF (hv.mono ba)).addC (b := w1.heap.size) (i := 1) (v := .slice a8 n8 c8) (by simp [go_sem])).addC (b := w1.heap.size) (i := 0) (v := .slice a7 n7 c7) (by simp [go_sem])
    have FK : Fc k 1 k 1 1 := ⟨Nat.gcd_one_right _, by omega, by omega, rfl, by rw [P_one]; have := HK.out; omega, by rw [P_one]; omega⟩
    have FB : Fc B 1 B 1 1 := ⟨Nat.gcd_one_right _, by omega, by omega, rfl, by rw [P_one]; have := HB.out.1.cB; omega, by rw [P_one]; omega⟩
    obtain ⟨z, hz⟩ : ∃ z, cmpI (k * 1) (B * 1) = z := ⟨_, rfl⟩
    obtain ⟨bb, hbb⟩ : ∃ bb, decide (0 < z) = bb := ⟨_, rfl⟩
    have HBN : Hid (decide (B < k) = bb) := by
      show _ = _
      rw [← hbb, ← hz, cmpI_pos, Nat.mul_one, Nat.mul_one]
    have CM : Hid (∀ v u w, Rt w v k 1 → Rt w u B 1 → Calls Tryz.prog 27 #[v, u] w fun e w' => e = .returned (.int .i64 z) ∧ Below w.heap.size w w') := FK.cmp FB (by omega) (by omega) hz
    clear hz FK FB f1 S1' fz hv hb ba
    go_wp2_with fail
    obtain ⟨w2, hw⟩ : ∃ w2, w2 = w1.alloc (.cells #[.slice a7 n7 c7, .slice a8 n8 c8] 46) := ⟨_, rfl⟩
    obtain ⟨g, hg⟩ : ∃ g, g = w1.heap.size := ⟨_, rfl⟩
    rw [← hw, ← hg] at S1
    rw [← hw] at Z1
    rw [← hw, ← hg]
    clear hw hg
    refine wp_region_inv (JB w2 [sEq (.agg #[.slice a7 n7 c7, .slice a8 n8 c8]), sEq (.pointer (some ⟨b, 0, none⟩)), sEq (.pointer (some ⟨b, 0, none⟩)), sEq (.pointer (some ⟨b, 3, none⟩)), sEq (.agg #[.slice a3 n3 c3, .slice a4 n4 c4]), sEq (.int .i64 z), sEq (.bool bb)] []) 47 (by kernel_rfl) rfl (by kernel_rfl) (JB.start _ _ _) (fun HG HN => ⟨?_, ?_, ?_, ?_, ?_, ?_, ?_, trivial⟩) ?_
    · intro L vs a w' hJ hF hP hL
      have q6 : (a.tmps[6]?).getD undef = .pointer (some ⟨g, 0, none⟩) := hF.old 6 rfl
      have cb0 := cell_later hJ.bel (S1.out.cel (g) 0 (.slice a7 n7 c7))
      have cb1 := cell_later hJ.bel (S1.out.cel (g) 1 (.slice a8 n8 c8))
      exact run_val (v := .agg #[.slice a7 n7 c7, .slice a8 n8 c8]) rfl (by simp [execOp, go_sem, q6, cb0, cb1]) ⟨_, rfl, hJ.step hL rfl (Below.refl _ _) (by exact rfl)⟩
    · intro L vs a w' hJ hF hP hL
      have q0 : (a.tmps[0]?).getD undef = .pointer (some ⟨b, 0, none⟩) := hF.old 0 rfl
      exact run_val (v := .pointer (some ⟨b, 0, none⟩)) rfl (by simp [execOp, go_sem, q0]) ⟨_, rfl, hJ.step hL rfl (Below.refl _ _) (by exact rfl)⟩
    · intro L vs a w' hJ hF hP hL
      have p1 : L 1 = true := hP ⟨1, .data⟩ (by simp) rfl
      have s1 : vs 1 = .pointer (some ⟨b, 0, none⟩) := hJ.sp 1 p1
      have q14 := hF.slot 1 14 rfl p1
      exact run_val (v := .pointer (some ⟨b, 0, none⟩)) rfl (by simp [execOp, go_sem, q14, s1]) ⟨_, rfl, hJ.step hL rfl (Below.refl _ _) (by exact rfl)⟩
    · intro L vs a w' hJ hF hP hL
      have p2 : L 2 = true := hP ⟨2, .data⟩ (by simp) rfl
      have s2 : vs 2 = .pointer (some ⟨b, 0, none⟩) := hJ.sp 2 p2
      have q15 := hF.slot 2 15 rfl p2
      exact run_val (v := .pointer (some ⟨b, 3, none⟩)) rfl (by simp [execOp, go_sem, q15, s2]) ⟨_, rfl, hJ.step hL rfl (Below.refl _ _) (by exact rfl)⟩
    · intro L vs a w' hJ hF hP hL
      have p3 : L 3 = true := hP ⟨3, .data⟩ (by simp) rfl
      have s3 : vs 3 = .pointer (some ⟨b, 3, none⟩) := hJ.sp 3 p3
      have q16 := hF.slot 3 16 rfl p3
      have cb0 := cell_later hJ.bel (S1.out.cel (b) 3 (.slice a3 n3 c3))
      have cb1 := cell_later hJ.bel (S1.out.cel (b) 4 (.slice a4 n4 c4))
      exact run_val (v := .agg #[.slice a3 n3 c3, .slice a4 n4 c4]) rfl (by simp [execOp, go_sem, q16, s3, cb0, cb1]) ⟨_, rfl, hJ.step hL rfl (Below.refl _ _) (by exact rfl)⟩
    · intro L vs a w' hJ hF hP hL
      have p0 : L 0 = true := hP ⟨0, .data⟩ (by simp) rfl
      have s0 : vs 0 = .agg #[.slice a7 n7 c7, .slice a8 n8 c8] := hJ.sp 0 p0
      have q13 := hF.slot 0 13 rfl p0
      have p4 : L 4 = true := hP ⟨4, .data⟩ (by simp) rfl
      have s4 : vs 4 = .agg #[.slice a3 n3 c3, .slice a4 n4 c4] := hJ.sp 4 p4
      have q17 := hF.slot 4 17 rfl p4
      refine run_call (f := 27) (args := #[.agg #[.slice a7 n7 c7, .slice a8 n8 c8], .agg #[.slice a3 n3 c3, .slice a4 n4 c4]]) rfl (by simp [go_sem, q13, s0, q17, s4]) (CM.out _ _ _ ((S1.out.fr (.agg #[.slice a7 n7 c7, .slice a8 n8 c8]) k 1).mono hJ.bel) ((S1.out.fr (.agg #[.slice a3 n3 c3, .slice a4 n4 c4]) B 1).mono hJ.bel)) ?_
      rintro e w2 ⟨rfl, hb⟩
      exact ⟨_, rfl, _, rfl, hJ.step hL rfl hb (by exact rfl)⟩
    · intro L vs a w' hJ hF hP hL
      have p5 : L 5 = true := hP ⟨5, .data⟩ (by simp) rfl
      have s5 : vs 5 = .int .i64 z := hJ.sp 5 p5
      have q18 := hF.slot 5 18 rfl p5
      exact run_val (v := .bool bb) rfl (by simp [execOp, go_sem, q18, s5, hbb]) ⟨_, rfl, hJ.step hL rfl (Below.refl _ _) (by exact rfl)⟩
    intro L vs w' hA hJ
    have s6 : vs 6 = .bool bb := hJ.sp 6 (hA 6 (by simp))
    simp only [putL, Act.put, List.setIfInBounds_toArray, List.set_cons_zero, List.set_cons_succ, Nat.reduceAdd]
    have S2 : Hid _ := S1.out.go hJ.bel
    have Z2 : Hid (Bu w' b T N R D B ∧ Tab w' ∧ Below w.heap.size w w') := ⟨Z1.out.1.go hJ.bel, Z1.out.2.1.go hJ.bel, bel_go Z1.out.2.2 hJ.bel⟩
    simp only [s6]
    obtain ⟨w3, ew⟩ : ∃ w3, w3 = w' := ⟨_, rfl⟩
    rw [← ew] at S2 Z2
    rw [← ew]
    clear hJ hA s6 S1 Z1 ew hbb CM
    cases bb
    · have hkB : k ≤ B := by have := of_decide_eq_false HBN.out; omega
      obtain ⟨val, ok, ht⟩ := tick_ex N R D k
      have z7 := S2.out.cel g 0 (.slice a7 n7 c7)
      have z8 := S2.out.cel g 1 (.slice a8 n8 c8)
      have HT : Hid (TickIs N R D k val ok ∧ k ≤ B) := ⟨ht, hkB⟩
      have hval : val < 18446744073709551616 := by
        rcases ht with h | h | h | h
        · omega
        · omega
        · omega
        · omega
      clear ht hkB
      go_wp2_with fail
      clear z7 z8
      refine (ticks_any b T N R D B k val ok a7 n7 c7 a8 n8 c8 w3 Z2.out.1 Z2.out.2.1 (S2.out.fr (.agg #[.slice a7 n7 c7, .slice a8 n8 c8]) k 1) HK.out.2 HT.out.1).mono ?_
      rintro e w4 ⟨rfl, hb4⟩
      have B4 : Hid (Below w.heap.size w w4) := bel_go Z2.out.2.2 hb4
      have z0 := cell_later hb4 (S2.out.cel b 0 (.int .i64 (T : Int)))
      have hT4 : T ≤ 4611686018427387904 := Z2.out.1.cT
      obtain ⟨M, eM⟩ : ∃ M : Nat, M = 4611686018427387904 - T := ⟨_, rfl⟩
      have m1 : IntKind.i64.wrap (4611686018427387904 - (T : Int)) = (M : Int) := by rw [IntKind.wrap_i64]; omega
      have m2 : IntKind.u64.wrap (M : Int) = (M : Int) := by rw [IntKind.wrap_u64]; omega
      have HMM : Hid (M = 4611686018427387904 - T ∧ T ≤ 4611686018427387904) := ⟨eM, hT4⟩
      clear hb4 S2 eM
      cases ok
      · have WN : Hid _ := wait_no HT.out.1 HK.out.1 HT.out.2 hT4 (by intro e; cases e)
        clear hT4 m1 m2
        go_wp2_with fail
        exact bodyPost_ret (v := .tuple #[.int .i64 0, .int .i64 80]) (by simp [results, Tryz.results18, go_sem]) rfl ⟨by rw [WN.out.1, WN.out.2]; rfl, B4.out⟩
      · by_cases h5 : M < val
        · have d5 : decide (M < val) = true := decide_eq_true h5
          have WN : Hid _ := wait_no HT.out.1 HK.out.1 HT.out.2 hT4 (by intro e; have := HMM.out; omega)
          clear hT4
          go_wp2_with fail
          exact bodyPost_ret (v := .tuple #[.int .i64 0, .int .i64 80]) (by simp [results, Tryz.results18, go_sem]) rfl ⟨by rw [WN.out.1, WN.out.2]; rfl, B4.out⟩
        · have d5 : decide (M < val) = false := decide_eq_false h5
          have WN : Hid _ := wait_yes HT.out.1 HK.out.1 HT.out.2 (T := T) (by have := HMM.out; omega)
          have m3 : IntKind.i64.wrap (val : Int) = (val : Int) := by rw [IntKind.wrap_i64]; have := HMM.out; omega
          have m4 : IntKind.i64.wrap ((T : Int) + (val : Int)) = ((T + val : Nat) : Int) := by rw [IntKind.wrap_i64]; have := HMM.out; omega
          obtain ⟨TV, eTV⟩ : ∃ TV, TV = T + val := ⟨_, rfl⟩
          rw [← eTV] at m4
          have HTV : Hid (TV = T + val) := eTV
          clear hT4 eTV hval
          go_wp2_with fail
          exact bodyPost_ret (v := .tuple #[.int .i64 (TV : Int), .int .i64 0]) (by simp [results, Tryz.results18, go_sem]) rfl ⟨by rw [WN.out.1, WN.out.2, HTV.out], B4.out⟩
    · have hkB : B < k := of_decide_eq_true HBN.out
      have WN : Hid (waitE T N R D B (k : Int) = 80 ∧ waitV T N R D B (k : Int) = 0) := by
        have a1 : ¬ (k : Int) < 1 := by have := HK.out; omega
        have a2 : (B : Int) < (k : Int) := by omega
        unfold waitE waitV
        rw [if_neg a1, if_neg a1, if_pos a2, if_pos a2]
        exact ⟨rfl, rfl⟩
      clear hkB
      go_wp2_with fail
      exact bodyPost_ret (v := .tuple #[.int .i64 0, .int .i64 80]) (by simp [results, Tryz.results18, go_sem]) rfl ⟨by rw [WN.out.1, WN.out.2]; rfl, Z2.out.2.2⟩
end Go.Proofs.YtdmkneojhnhomaaGreatDoor
namespace Go.Proofs.YtdmkneojhnhomaaGreatDoor
open Go.RowKit
set_option maxRecDepth 100000
set_option linter.unusedVariables false
set_option maxHeartbeats 4000000 in
theorem inUnits_neg (v u : Value) (p q t : Nat) (s : Int) (w : World) (h : IsNat w v p) (k : IsNat w u q) (hp : Fits p) (hs : s = -(t : Int)) (ht0 : 0 < t) (ht : t ≤ 16777216) :
    Calls Tryz.prog 90 #[v, u, .int .i64 s] w (Makes2N w (p * 2 ^ t) q) := by
  obtain ⟨a, n, c, rfl⟩ := h.isAgg
  obtain ⟨a', n', c', rfl⟩ := k.isAgg
  have S1 : Hid _ := (((((((sx_start w).addN h).addN k).box1 (.slice a n c) 44 _ rfl).box1 (.slice a' n' c') 44 _ rfl).box1 (.slice none 0 0) 44 _ rfl).box1 (.slice none 0 0) 44 _ rfl)
  simp only [World.size_alloc] at S1
  obtain ⟨w0, hw0⟩ : ∃ w0, w0 = (((w.alloc (.cells #[.slice a n c] 44)).alloc (.cells #[.slice a' n' c'] 44)).alloc (.cells #[.slice none 0 0] 44)).alloc (.cells #[.slice none 0 0] 44) := ⟨_, rfl⟩
  have f0 : w0.frozen? ⟨w.heap.size, 0, none⟩ = false := by rw [hw0]; simp [go_sem]
  have f1 : w0.frozen? ⟨w.heap.size + 1 + 1, 0, none⟩ = false := by rw [hw0]; simp [go_sem]
  have f2 : w0.frozen? ⟨w.heap.size + 1 + 1 + 1, 0, none⟩ = false := by rw [hw0]; simp [go_sem]
  have HH : Hid (Fits p ∧ t ≤ 16777216) := ⟨hp, ht⟩
  have d1 : decide (s < 0) = true := decide_eq_true (by omega)
  have m1 : IntKind.i64.wrap (-s) = (t : Int) := by rw [IntKind.wrap_i64]; omega
  clear h k hp hs ht0 ht
  go_enter Tryz.func90, Tryz.ntmps90
  go_wp2_with fail
  rw [← hw0] at S1
  rw [← hw0]
  obtain ⟨b2, hb2⟩ : ∃ b2, b2 = w.heap.size := ⟨_, rfl⟩
  have HB : Hid (w.heap.size ≤ b2) := by show _ ≤ _; omega
  rw [← hb2] at S1 f0 f1 f2
  rw [← hb2]
  clear hw0 hb2
  refine (left_yes _ p t _ (S1.out.at (.agg #[.slice a n c]) p) HH.out.1 HH.out.2).mono ?_
  rintro e w1 ⟨v1, rfl, hv1, hb1⟩
  obtain ⟨a1, n1, k1, rfl⟩ := hv1.isAgg
  have z0 := cell_later hb1 (S1.out.cel b2 0 (.slice a n c))
  have z1 := cell_later hb1 (S1.out.cel (b2 + 1) 0 (.slice a' n' c'))
  have z2 := cell_later hb1 (S1.out.cel (b2 + 1 + 1) 0 (.slice none 0 0))
  have z3 := cell_later hb1 (S1.out.cel (b2 + 1 + 1 + 1) 0 (.slice none 0 0))
  have g0 := (hb1.frozen (World.block_lt_of_cell? _ _ (S1.out.cel b2 0 (.slice a n c)))).trans f0
  have g1 := (hb1.frozen (World.block_lt_of_cell? _ _ (S1.out.cel (b2 + 1 + 1) 0 (.slice none 0 0)))).trans f1
  have g2 := (hb1.frozen (World.block_lt_of_cell? _ _ (S1.out.cel (b2 + 1 + 1 + 1) 0 (.slice none 0 0)))).trans f2
  have I1 : Hid (IsNat w1 (.agg #[.slice a1 n1 k1]) (p * 2 ^ t) ∧ IsNat w1 (.agg #[.slice a' n' c']) q ∧ Below w.heap.size w w1) := ⟨hv1, (S1.out.at (.agg #[.slice a' n' c']) q).mono hb1, bel_go S1.out.bel hb1⟩
  clear hv1 hb1 S1 f0 f1 f2
  go_wp2_with fail
  obtain ⟨W, hW⟩ : ∃ W, W = w1.setCell ⟨b2, 0, none⟩ (.slice a1 n1 k1) := ⟨_, rfl⟩
  have y0 : W.cell? ⟨b2, 0, none⟩ = some (.slice a1 n1 k1) := by rw [hW]; simp [go_sem, z0]
  have y1 : W.cell? ⟨b2 + 1, 0, none⟩ = some (.slice a' n' c') := by rw [hW]; simp [go_sem, z1]
  have y2 : W.cell? ⟨b2 + 1 + 1, 0, none⟩ = some (.slice none 0 0) := by rw [hW]; simp [go_sem, z2]
  have y3 : W.cell? ⟨b2 + 1 + 1 + 1, 0, none⟩ = some (.slice none 0 0) := by rw [hW]; simp [go_sem, z3]
  have h1 : W.frozen? ⟨b2 + 1 + 1, 0, none⟩ = false := by rw [hW]; simp [World.frozen?_setCell, g1]
  have h2 : W.frozen? ⟨b2 + 1 + 1 + 1, 0, none⟩ = false := by rw [hW]; simp [World.frozen?_setCell, g2]
  have I2 : Hid (IsNat W (.agg #[.slice a1 n1 k1]) (p * 2 ^ t) ∧ IsNat W (.agg #[.slice a' n' c']) q ∧ Below w.heap.size w W) := by
    rw [hW]
    exact ⟨I1.out.1.setCell (no_int_slice z0) _, I1.out.2.1.setCell (no_int_slice z0) _, I1.out.2.2.setCell HB.out _⟩
  rw [← hW]
  clear hW I1 z0 z1 z2 z3 g0 g1 g2
  have Z : Hid _ := nat_put2 (r := b2 + 1 + 1) (x := .slice a1 n1 k1) (y := .slice a' n' c') y2 y3 I2.out.1 I2.out.2.1 I2.out.2.2 (by have := HB.out; omega)
  go_region
  go_wp2_with fail
  refine bodyPost_ret (v := .tuple #[.agg #[.slice a1 n1 k1], .agg #[.slice a' n' c']]) (by simp [results, Tryz.results90, go_sem, y2, y3]) rfl ⟨_, _, rfl, Z.out.1.mono (bel_dr (bel_refl _)), Z.out.2.1.mono (bel_dr (bel_refl _)), bel_dr Z.out.2.2⟩
set_option maxHeartbeats 4000000 in
theorem inUnits_pos (v u : Value) (p q t : Nat) (s : Int) (w : World) (h : IsNat w v p) (k : IsNat w u q) (hp : Fits q) (hs : s = (t : Int)) (ht : t ≤ 16777216) :
    Calls Tryz.prog 90 #[v, u, .int .i64 s] w (Makes2N w p (q * 2 ^ t)) := by
  obtain ⟨a, n, c, rfl⟩ := h.isAgg
  obtain ⟨a', n', c', rfl⟩ := k.isAgg
  have S1 : Hid _ := (((((((sx_start w).addN h).addN k).box1 (.slice a n c) 44 _ rfl).box1 (.slice a' n' c') 44 _ rfl).box1 (.slice none 0 0) 44 _ rfl).box1 (.slice none 0 0) 44 _ rfl)
  simp only [World.size_alloc] at S1
  obtain ⟨w0, hw0⟩ : ∃ w0, w0 = (((w.alloc (.cells #[.slice a n c] 44)).alloc (.cells #[.slice a' n' c'] 44)).alloc (.cells #[.slice none 0 0] 44)).alloc (.cells #[.slice none 0 0] 44) := ⟨_, rfl⟩
  have f0 : w0.frozen? ⟨w.heap.size + 1, 0, none⟩ = false := by rw [hw0]; simp [go_sem]
  have f1 : w0.frozen? ⟨w.heap.size + 1 + 1, 0, none⟩ = false := by rw [hw0]; simp [go_sem]
  have f2 : w0.frozen? ⟨w.heap.size + 1 + 1 + 1, 0, none⟩ = false := by rw [hw0]; simp [go_sem]
  have HH : Hid (Fits q ∧ t ≤ 16777216) := ⟨hp, ht⟩
  have d1 : decide ((t : Int) < 0) = false := decide_eq_false (by omega)
  subst hs
  clear h k hp ht
  go_enter Tryz.func90, Tryz.ntmps90
  go_wp2_with fail
  rw [← hw0] at S1
  rw [← hw0]
  obtain ⟨b2, hb2⟩ : ∃ b2, b2 = w.heap.size := ⟨_, rfl⟩
  have HB : Hid (w.heap.size ≤ b2) := by show _ ≤ _; omega
  rw [← hb2] at S1 f0 f1 f2
  rw [← hb2]
  clear hw0 hb2
  refine (left_yes _ q t _ (S1.out.at (.agg #[.slice a' n' c']) q) HH.out.1 HH.out.2).mono ?_
  rintro e w1 ⟨v1, rfl, hv1, hb1⟩
  obtain ⟨a1, n1, k1, rfl⟩ := hv1.isAgg
  have z0 := cell_later hb1 (S1.out.cel b2 0 (.slice a n c))
  have z1 := cell_later hb1 (S1.out.cel (b2 + 1) 0 (.slice a' n' c'))
  have z2 := cell_later hb1 (S1.out.cel (b2 + 1 + 1) 0 (.slice none 0 0))
  have z3 := cell_later hb1 (S1.out.cel (b2 + 1 + 1 + 1) 0 (.slice none 0 0))
  have g0 := (hb1.frozen (World.block_lt_of_cell? _ _ (S1.out.cel (b2 + 1) 0 (.slice a' n' c')))).trans f0
  have g1 := (hb1.frozen (World.block_lt_of_cell? _ _ (S1.out.cel (b2 + 1 + 1) 0 (.slice none 0 0)))).trans f1
  have g2 := (hb1.frozen (World.block_lt_of_cell? _ _ (S1.out.cel (b2 + 1 + 1 + 1) 0 (.slice none 0 0)))).trans f2
  have I1 : Hid (IsNat w1 (.agg #[.slice a n c]) p ∧ IsNat w1 (.agg #[.slice a1 n1 k1]) (q * 2 ^ t) ∧ Below w.heap.size w w1) := ⟨(S1.out.at (.agg #[.slice a n c]) p).mono hb1, hv1, bel_go S1.out.bel hb1⟩
  clear hv1 hb1 S1 f0 f1 f2
  go_wp2_with fail
  obtain ⟨W, hW⟩ : ∃ W, W = w1.setCell ⟨b2 + 1, 0, none⟩ (.slice a1 n1 k1) := ⟨_, rfl⟩
  have y0 : W.cell? ⟨b2, 0, none⟩ = some (.slice a n c) := by rw [hW]; simp [go_sem, z0]
  have y1 : W.cell? ⟨b2 + 1, 0, none⟩ = some (.slice a1 n1 k1) := by rw [hW]; simp [go_sem, z1]
  have y2 : W.cell? ⟨b2 + 1 + 1, 0, none⟩ = some (.slice none 0 0) := by rw [hW]; simp [go_sem, z2]
  have y3 : W.cell? ⟨b2 + 1 + 1 + 1, 0, none⟩ = some (.slice none 0 0) := by rw [hW]; simp [go_sem, z3]
  have h1 : W.frozen? ⟨b2 + 1 + 1, 0, none⟩ = false := by rw [hW]; simp [World.frozen?_setCell, g1]
  have h2 : W.frozen? ⟨b2 + 1 + 1 + 1, 0, none⟩ = false := by rw [hW]; simp [World.frozen?_setCell, g2]
  have I2 : Hid (IsNat W (.agg #[.slice a n c]) p ∧ IsNat W (.agg #[.slice a1 n1 k1]) (q * 2 ^ t) ∧ Below w.heap.size w W) := by
    rw [hW]
    exact ⟨I1.out.1.setCell (no_int_slice z1) _, I1.out.2.1.setCell (no_int_slice z1) _, I1.out.2.2.setCell (by have := HB.out; show _ ≤ b2 + 1; omega) _⟩
  rw [← hW]
  clear hW I1 z0 z1 z2 z3 g0 g1 g2
  have Z : Hid _ := nat_put2 (r := b2 + 1 + 1) (x := .slice a n c) (y := .slice a1 n1 k1) y2 y3 I2.out.1 I2.out.2.1 I2.out.2.2 (by have := HB.out; omega)
  go_region
  go_wp2_with fail
  refine bodyPost_ret (v := .tuple #[.agg #[.slice a n c], .agg #[.slice a1 n1 k1]]) (by simp [results, Tryz.results90, go_sem, y2, y3]) rfl ⟨_, _, rfl, Z.out.1.mono (bel_dr (bel_refl _)), Z.out.2.1.mono (bel_dr (bel_refl _)), bel_dr Z.out.2.2⟩
end Go.Proofs.YtdmkneojhnhomaaGreatDoor
