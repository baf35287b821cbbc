/- Contracts of the program's functions, part 22: own work, joined in build order. -/
import Derived.Test.YtfjmnhmdipjenaaGreatDoorJ21
import Derived.OpenShut
import Derived.LaidMore
import Derived.WalkKit
import Derived.ChangeOld
import Derived.Deep.Slices
import Derived.Test.YtfjmnhmdipjenaaGreatDoorRows
import Derived.Lib.LaidTab
import Derived.Lib.LaidU8
import Derived.Stop.LaidErr
namespace Go.Proofs.YtfjmnhmdipjenaaGreatDoor
open Go.RowKit
set_option maxRecDepth 100000
set_option linter.unusedVariables false
theorem ord_swap (a b : Ieee.Datum) : a.order b = (b.order a).map Ordering.swap := by
  cases a with
  | nan s p => cases b <;> simp [Ieee.Datum.order]
  | infinity s =>
    cases b with
    | nan => simp [Ieee.Datum.order]
    | infinity t => simp [Ieee.Datum.order]; exact Std.OrientedCmp.eq_swap
    | number t n j => cases s <;> simp [Ieee.Datum.order]
  | number s m i =>
    cases b with
    | nan => simp [Ieee.Datum.order]
    | infinity t => cases t <;> simp [Ieee.Datum.order]
    | number t n j =>
      simp only [Ieee.Datum.order, Option.map_some, Int.min_comm i j]
      congr 1
      exact Std.OrientedCmp.eq_swap
theorem fle_geq {x : Nat} (h : fle 0 x = true) : FloatKind.f64.format.order x 0 = some .gt ∨ FloatKind.f64.format.order x 0 = some .eq := by
  have e : FloatKind.f64.format.order x 0 = (FloatKind.f64.format.order 0 x).map Ordering.swap := ord_swap _ _
  unfold fle at h
  rw [Bool.or_eq_true] at h
  rcases h with h | h
  · have q := beq_iff_eq.1 h
    rw [e, q]
    exact .inl rfl
  · have q := beq_iff_eq.1 h
    rw [e, q]
    exact .inr rfl
theorem flowE_zero {K R M C Fl A : Int} {G : Nat → Nat → Int} {n : Nat} {pw pq pc ps pb : Int} {pr : Nat} {pp pn : Int} (h : flowE K R M C Fl A G n pw pq pc ps pb pr pp pn = 0) : checkE K R M C Fl A G n = 0 ∧ okAt K G n pn = true ∧ (1 ≤ pw ∧ pw ≤ C) ∧ (fQ0 (kAt K G n pn) ≤ pq ∧ pq ≤ fQ1 (kAt K G n pn)) ∧ (0 ≤ pc ∧ pc ≤ fC1 (kAt K G n pn)) ∧ (0 ≤ ps ∧ ps ≤ fS1 (kAt K G n pn)) ∧ (1 ≤ pb ∧ pb ≤ 1099511627776) ∧ hldF 0 4697254411347427328 pr = true ∧ (1 ≤ pp ∧ pp ≤ 1073741824) := by
  unfold flowE at h
  split at h
  · exact absurd h (by assumption)
  rename_i hc
  have hc : checkE K R M C Fl A G n = 0 := by simpa using hc
  unfold flowE1 at h
  split at h
  · omega
  split at h
  · omega
  split at h
  · omega
  split at h
  · omega
  split at h
  · omega
  split at h
  · omega
  split at h
  · omega
  split at h
  · omega
  rename_i h1 h2 h3 h4 h5 h6 h7 h8
  exact ⟨hc, by simpa using h1, hld_yes (by simpa using h2), hld_yes (by simpa using h3), hld_yes (by simpa using h4), hld_yes (by simpa using h5), hld_yes (by simpa using h6), by simpa using h7, hld_yes (by simpa using h8)⟩
/-- The step of the classes that a flow has. -/
def ageI (K A : Int) (G : Nat → Nat → Int) (pn : Int) : Int := if K = 6 then G pn.toNat 3 else A
theorem age_in {K R M C Fl A : Int} {G : Nat → Nat → Int} {n : Nat} {pn : Int} (hc : checkE K R M C Fl A G n = 0) (ho : okAt K G n pn = true) : (0 ≤ ageI K A G pn ∧ ageI K A G pn ≤ 1099511627776) ∧ (K = 6 → 0 ≤ pn ∧ pn < (n : Int)) := by
  obtain ⟨b1, b2, b3, b4, b5, b6, b7, b8⟩ := checkE_zero hc
  have q := fA1_le K
  unfold ageI
  by_cases e : K = 6
  · rw [if_pos e]
    have b9 := b7 e
    unfold okAt at ho
    rw [if_pos e] at ho
    have ho2 : kO G n pn ≠ 0 ∧ kO G n pn ≠ 6 := by simpa using ho
    have hin := kO_in ho2.1
    refine ⟨?_, fun _ => hin⟩
    unfold nodesE at b9
    split at b9
    · omega
    split at b9
    · omega
    rename_i h1 h2
    have h2 : firstE G n = 0 := by simpa using h2
    have hn := firstE_none h2 pn.toNat (by omega)
    by_cases e0 : pn.toNat = 0
    · rw [e0] at hn ⊢
      have := nodeE_root hn
      omega
    · have h3 := nodeE_other e0 hn
      have h4 := fA1_le (G pn.toNat 0)
      omega
  · rw [if_neg e]
    exact ⟨⟨b6.1, by omega⟩, fun h => absurd h e⟩
set_option maxHeartbeats 1000000 in
theorem age_any (K R M C Fl A : Int) (a : Option Addr) (n cap : Nat) (G : Nat → Nat → Int) (pw pq pc ps pb : Int) (pr : Nat) (pp pn : Int) (w : World) (h : NSl w a n cap G) (hp : K = 6 → 0 ≤ pn ∧ pn < (n : Int)) :
    Calls Tryz.prog 9 #[.agg #[.int .i64 K, .int .i64 R, .int .i64 M, .int .i64 C, .int .i64 Fl, .int .i64 A, .slice a n cap], .agg #[.int .i64 pw, .int .i64 pq, .int .i64 pc, .int .i64 ps, .int .i64 pb, .float .f64 pr, .int .i64 pp, .int .i64 pn]] w fun e w' => e = .returned (.int .i64 (ageI K A G pn)) ∧ Below w.heap.size w w' := by
  have HN : Hid _ := h
  have hl0 : n ≤ 9223372036854775807 := Nat.le_trans h.le h.lim
  by_cases e : K = 6
  · subst e
    obtain ⟨h1, h2⟩ := hp rfl
    obtain ⟨k, rfl⟩ : ∃ k : Nat, pn = (k : Int) := ⟨pn.toNat, by omega⟩
    have lk : k < n := by omega
    obtain ⟨b, o, rfl, hc⟩ := h.at (by omega)
    have HC : Hid _ := hc
    have x0 := hc k 3 lk (by omega)
    have lb := World.block_lt_of_cell? _ _ x0
    have HR : Hid (ageI 6 A G (k : Int) = G k 3) := by show _ = _; unfold ageI; rw [if_pos rfl]; rfl
    rw [HR.out]
    clear h hc hp HC HN
    go_enter Tryz.func9, Tryz.ntmps9
    go_wp2_with fail
    go_ret
    exact ⟨rfl, bc_al (bc_al (bel_refl w))⟩
  · have HR : Hid (ageI K A G pn = A) := by show _ = _; unfold ageI; rw [if_neg e]
    have d : (K == 6) = false := by simpa using e
    rw [HR.out]
    clear h hp HN
    go_enter Tryz.func9, Tryz.ntmps9
    go_wp2_with fail
    go_ret
    exact ⟨rfl, bc_al (bc_al (bel_refl w))⟩
set_option maxHeartbeats 2000000 in
theorem bounds_any (K R M C Fl A : Int) (a : Option Addr) (n cap : Nat) (G : Nat → Nat → Int) (pw pq pc ps pb : Int) (pr : Nat) (pp pn : Int) (tt : Int) (w : World) (h : NSl w a n cap G) (hV : Vs9 w) (ht : -9223372036854775808 ≤ tt ∧ tt ≤ 9223372036854775807) :
    Calls Tryz.prog 4 #[.agg #[.int .i64 K, .int .i64 R, .int .i64 M, .int .i64 C, .int .i64 Fl, .int .i64 A, .slice a n cap], .agg #[.int .i64 pw, .int .i64 pq, .int .i64 pc, .int .i64 ps, .int .i64 pb, .float .f64 pr, .int .i64 pp, .int .i64 pn], .int .i64 tt] w fun e w' => e = .returned (.bool true) ∧ Below w.heap.size w w' := by
  have HN : Hid _ := h
  have HV : Hid _ := hV
  have hl0 : n ≤ 9223372036854775807 := Nat.le_trans h.le h.lim
  clear h hV
  go_enter Tryz.func4, Tryz.ntmps4
  go_wp2_with fail
  have S0 : Hid _ := ((ce_start w).box7 (.int .i64 K) (.int .i64 R) (.int .i64 M) (.int .i64 C) (.int .i64 Fl) (.int .i64 A) (.slice a n cap) 24 _ rfl).box8 (.int .i64 pw) (.int .i64 pq) (.int .i64 pc) (.int .i64 ps) (.int .i64 pb) (.float .f64 pr) (.int .i64 pp) (.int .i64 pn) 27 (w.heap.size + 1) (by rw [World.size_alloc])
  refine (started9_any _ (HV.out.go S0.out.bel)).mono ?_
  rintro e w1 ⟨rfl, hb1⟩
  obtain ⟨gp, egp⟩ : ∃ g, g = w.heap.size + 1 := ⟨_, rfl⟩
  obtain ⟨gc, egc⟩ : ∃ g, g = w.heap.size := ⟨_, rfl⟩
  have S1 : Hid _ := S0.out.go hb1
  rw [← egp, ← egc] at S1
  rw [← egp, ← egc]
  clear hb1 S0 egp egc
  have x0 := S1.out.cel gc 0 (.int .i64 K)
  have x1 := S1.out.cel gc 1 (.int .i64 R)
  have x2 := S1.out.cel gc 2 (.int .i64 M)
  have x3 := S1.out.cel gc 3 (.int .i64 C)
  have x4 := S1.out.cel gc 4 (.int .i64 Fl)
  have x5 := S1.out.cel gc 5 (.int .i64 A)
  have x6 := S1.out.cel gc 6 (.slice a n cap)
  have y0 := S1.out.cel gp 0 (.int .i64 pw)
  have y1 := S1.out.cel gp 1 (.int .i64 pq)
  have y2 := S1.out.cel gp 2 (.int .i64 pc)
  have y3 := S1.out.cel gp 3 (.int .i64 ps)
  have y4 := S1.out.cel gp 4 (.int .i64 pb)
  have y5 := S1.out.cel gp 5 (.float .f64 pr)
  have y6 := S1.out.cel gp 6 (.int .i64 pp)
  have y7 := S1.out.cel gp 7 (.int .i64 pn)
  go_wp2_with fail
  refine (checkFlow_any K R M C Fl A a n cap G pw pq pc ps pb pr pp pn _ (HN.out.go S1.out.bel)).mono ?_
  rintro e w2 ⟨rfl, hb2⟩
  have S2 : Hid _ := S1.out.go hb2
  obtain ⟨fe, hfe⟩ : ∃ fe, flowE K R M C Fl A G n pw pq pc ps pb pr pp pn = fe := ⟨_, rfl⟩
  rw [hfe]
  clear x0
  clear x1
  clear x2
  clear x3
  clear x4
  clear x5
  clear x6
  clear y0
  clear y1
  clear y2
  clear y3
  clear y4
  clear y5
  clear y6
  clear y7
  clear hb2 S1
  go_wp2_with fail
  refine (num9_any fe _).mono ?_
  rintro e w3 ⟨rfl, rfl⟩
  by_cases c0 : fe = 0
  · subst c0
    obtain ⟨z1, z2, z3, z4, z5, z6, z7, z8, z9⟩ := flowE_zero hfe
    obtain ⟨g1, g2⟩ := age_in z1 z2
    have HO : Hid _ := g2
    obtain ⟨st, hst⟩ : ∃ st, ageI K A G pn = st := ⟨_, rfl⟩
    rw [hst] at g1
    have HAG : Hid _ := hst
    have HST : Hid _ := g1
    have HPC : Hid (0 ≤ pc ∧ pc ≤ 15) := ⟨z5.1, by have := z5.2; unfold fC1 at this; split at this <;> omega⟩
    have HPS : Hid (0 ≤ ps ∧ ps ≤ 1099511627776) := ⟨z6.1, by have := z6.2; unfold fS1 at this; split at this <;> omega⟩
    have HPW : Hid _ := z3
    have HPP : Hid _ := z9
    obtain ⟨b1, b2, b3, b4, b5, b6, b7, b8⟩ := checkE_zero z1
    have HMR : Hid (M ≤ R ∧ 1 ≤ M) := ⟨b3.1, b2.1⟩
    have HRT : Hid (fle 0 pr = true) := by
      show _ = _
      unfold hldF at z8
      exact (Bool.and_eq_true _ _ ▸ z8).1
    clear z1 z2 z3 z4 z5 z6 z7 z8 z9 g1 g2 hst b1 b2 b3 b4 b5 b6 b7 b8 hfe
    have x0 := S2.out.cel gc 0 (.int .i64 K)
    have x1 := S2.out.cel gc 1 (.int .i64 R)
    have x2 := S2.out.cel gc 2 (.int .i64 M)
    have x3 := S2.out.cel gc 3 (.int .i64 C)
    have x4 := S2.out.cel gc 4 (.int .i64 Fl)
    have x5 := S2.out.cel gc 5 (.int .i64 A)
    have x6 := S2.out.cel gc 6 (.slice a n cap)
    have y0 := S2.out.cel gp 0 (.int .i64 pw)
    have y1 := S2.out.cel gp 1 (.int .i64 pq)
    have y2 := S2.out.cel gp 2 (.int .i64 pc)
    have y3 := S2.out.cel gp 3 (.int .i64 ps)
    have y4 := S2.out.cel gp 4 (.int .i64 pb)
    have y5 := S2.out.cel gp 5 (.float .f64 pr)
    have y6 := S2.out.cel gp 6 (.int .i64 pp)
    have y7 := S2.out.cel gp 7 (.int .i64 pn)
    by_cases t1 : tt < 0
    · have b0 : decide (tt < 0) = true := decide_eq_true t1
      go_wp2_with fail
      refine (age_any K R M C Fl A a n cap G pw pq pc ps pb pr pp pn _ (HN.out.go S2.out.bel) HO.out).mono ?_
      rintro e w5 ⟨rfl, hb5⟩
      have S5 : Hid _ := S2.out.go hb5
      rw [HAG.out]
      clear x0
      clear x1
      clear x2
      clear x3
      clear x4
      clear x5
      clear x6
      clear y0
      clear y1
      clear y2
      clear y3
      clear y4
      clear y5
      clear y6
      clear y7
      clear hb5
      have x0 := S5.out.cel gc 0 (.int .i64 K)
      have x1 := S5.out.cel gc 1 (.int .i64 R)
      have x2 := S5.out.cel gc 2 (.int .i64 M)
      have x3 := S5.out.cel gc 3 (.int .i64 C)
      have x4 := S5.out.cel gc 4 (.int .i64 Fl)
      have x5 := S5.out.cel gc 5 (.int .i64 A)
      have x6 := S5.out.cel gc 6 (.slice a n cap)
      have y0 := S5.out.cel gp 0 (.int .i64 pw)
      have y1 := S5.out.cel gp 1 (.int .i64 pq)
      have y2 := S5.out.cel gp 2 (.int .i64 pc)
      have y3 := S5.out.cel gp 3 (.int .i64 ps)
      have y4 := S5.out.cel gp 4 (.int .i64 pb)
      have y5 := S5.out.cel gp 5 (.float .f64 pr)
      have y6 := S5.out.cel gp 6 (.int .i64 pp)
      have y7 := S5.out.cel gp 7 (.int .i64 pn)
      have T0 : Hid (0 ≤ 4611686018427387904 ∧ 4611686018427387904 ≤ 4611686018427387904) := ⟨by omega, by omega⟩
      have hm1 : 0 ≤ pc * st := Int.mul_nonneg (by have := HPC.out; omega) (by have := HST.out; omega)
      have hm2 : pc * st ≤ 15 * 1099511627776 := Int.mul_le_mul (by have := HPC.out; omega) (by have := HST.out; omega) (by have := HST.out; omega) (by omega)
      have q1 : IntKind.i64.wrap (4611686018427387904 + ps) = 4611686018427387904 + ps := by rw [IntKind.wrap_i64]; have := T0.out; have := HPS.out; omega
      have q2 : IntKind.i64.wrap (pc * st) = pc * st := by rw [IntKind.wrap_i64]; omega
      have q3 : IntKind.i64.wrap (4611686018427387904 + pc * st) = 4611686018427387904 + pc * st := by rw [IntKind.wrap_i64]; have := T0.out; omega
      have r1 : ¬ (4611686018427387904 + ps < 4611686018427387904) := by have := HPS.out; omega
      have r3 : ¬ (4611686018427387904 + pc * st < 4611686018427387904) := by omega
      have b1 : decide (4611686018427387904 + ps < 4611686018427387904) = false := decide_eq_false r1
      have b3 : decide (4611686018427387904 + pc * st < 4611686018427387904) = false := decide_eq_false r3
      obtain ⟨m, hm⟩ : ∃ m, pc * st = m := ⟨_, rfl⟩
      rw [hm] at q2 q3 b3 r3
      have HM : Hid _ := hm
      have q4 : 0 < pc → m.tdiv pc = st := fun h => by rw [← hm]; exact Int.mul_tdiv_cancel_left st (by omega)
      have e1 : (1 : Int) ≤ pw := HPW.out.1
      have e2 : pw ≤ C := HPW.out.2
      have e3 : M ≤ R := HMR.out.1
      have e4 : 1 ≤ M := HMR.out.2
      have e5 : (1 : Int) ≤ pp := HPP.out.1
      have hr := fle_geq HRT.out
      have hrb : (FloatKind.f64.format.order pr 0 == some .gt || FloatKind.f64.format.order pr 0 == some .eq) = true := by rcases hr with h | h <;> rw [h] <;> rfl
      have w2 : wrap64 (pc * st) = m := by rw [hm]; exact IntWalk.wrap64_in m (by omega)
      have w3 : wrap64 (4611686018427387904 + m) = 4611686018427387904 + m := IntWalk.wrap64_in _ (by have := T0.out; omega)
      have w4 : 0 < pc → wrap64 (m.tdiv pc) = st := fun h => by rw [q4 h]; exact IntWalk.wrap64_in _ (by have := HST.out; omega)
      have w1 : wrap64 (4611686018427387904 + ps) = 4611686018427387904 + ps := IntWalk.wrap64_in _ (by have := T0.out; have := HPS.out; omega)
      clear hm hm1 hm2 r1 r3 q1 q2 q3
      by_cases p0 : 0 < pc
      · have q5 := w4 p0
        have q6 : pc ≠ 0 := by omega
        clear q4 w4
        go_wp2_with fail
        refine (started9_any _ (HV.out.go S5.out.bel)).mono ?_
        rintro e w9 ⟨rfl, hb9⟩
        go_wp2_with fail
        go_ret
        exact ⟨rfl, bc_go S5.out.bel hb9⟩
      · have q5 : ¬ 0 < pc := p0
        have q7 : decide (0 < pc) = false := decide_eq_false p0
        clear q4 w4
        go_wp2_with fail
        refine (started9_any _ (HV.out.go S5.out.bel)).mono ?_
        rintro e w9 ⟨rfl, hb9⟩
        go_wp2_with fail
        go_ret
        exact ⟨rfl, bc_go S5.out.bel hb9⟩
    · by_cases t2 : 4611686018427387904 < tt
      · go_wp2_with fail
        refine (age_any K R M C Fl A a n cap G pw pq pc ps pb pr pp pn _ (HN.out.go S2.out.bel) HO.out).mono ?_
        rintro e w5 ⟨rfl, hb5⟩
        have S5 : Hid _ := S2.out.go hb5
        rw [HAG.out]
        clear x0
        clear x1
        clear x2
        clear x3
        clear x4
        clear x5
        clear x6
        clear y0
        clear y1
        clear y2
        clear y3
        clear y4
        clear y5
        clear y6
        clear y7
        clear hb5
        have x0 := S5.out.cel gc 0 (.int .i64 K)
        have x1 := S5.out.cel gc 1 (.int .i64 R)
        have x2 := S5.out.cel gc 2 (.int .i64 M)
        have x3 := S5.out.cel gc 3 (.int .i64 C)
        have x4 := S5.out.cel gc 4 (.int .i64 Fl)
        have x5 := S5.out.cel gc 5 (.int .i64 A)
        have x6 := S5.out.cel gc 6 (.slice a n cap)
        have y0 := S5.out.cel gp 0 (.int .i64 pw)
        have y1 := S5.out.cel gp 1 (.int .i64 pq)
        have y2 := S5.out.cel gp 2 (.int .i64 pc)
        have y3 := S5.out.cel gp 3 (.int .i64 ps)
        have y4 := S5.out.cel gp 4 (.int .i64 pb)
        have y5 := S5.out.cel gp 5 (.float .f64 pr)
        have y6 := S5.out.cel gp 6 (.int .i64 pp)
        have y7 := S5.out.cel gp 7 (.int .i64 pn)
        have T0 : Hid (0 ≤ 4611686018427387904 ∧ 4611686018427387904 ≤ 4611686018427387904) := ⟨by omega, by omega⟩
        have hm1 : 0 ≤ pc * st := Int.mul_nonneg (by have := HPC.out; omega) (by have := HST.out; omega)
        have hm2 : pc * st ≤ 15 * 1099511627776 := Int.mul_le_mul (by have := HPC.out; omega) (by have := HST.out; omega) (by have := HST.out; omega) (by omega)
        have q1 : IntKind.i64.wrap (4611686018427387904 + ps) = 4611686018427387904 + ps := by rw [IntKind.wrap_i64]; have := T0.out; have := HPS.out; omega
        have q2 : IntKind.i64.wrap (pc * st) = pc * st := by rw [IntKind.wrap_i64]; omega
        have q3 : IntKind.i64.wrap (4611686018427387904 + pc * st) = 4611686018427387904 + pc * st := by rw [IntKind.wrap_i64]; have := T0.out; omega
        have r1 : ¬ (4611686018427387904 + ps < 4611686018427387904) := by have := HPS.out; omega
        have r3 : ¬ (4611686018427387904 + pc * st < 4611686018427387904) := by omega
        have b1 : decide (4611686018427387904 + ps < 4611686018427387904) = false := decide_eq_false r1
        have b3 : decide (4611686018427387904 + pc * st < 4611686018427387904) = false := decide_eq_false r3
        obtain ⟨m, hm⟩ : ∃ m, pc * st = m := ⟨_, rfl⟩
        rw [hm] at q2 q3 b3 r3
        have HM : Hid _ := hm
        have q4 : 0 < pc → m.tdiv pc = st := fun h => by rw [← hm]; exact Int.mul_tdiv_cancel_left st (by omega)
        have e1 : (1 : Int) ≤ pw := HPW.out.1
        have e2 : pw ≤ C := HPW.out.2
        have e3 : M ≤ R := HMR.out.1
        have e4 : 1 ≤ M := HMR.out.2
        have e5 : (1 : Int) ≤ pp := HPP.out.1
        have hr := fle_geq HRT.out
        have hrb : (FloatKind.f64.format.order pr 0 == some .gt || FloatKind.f64.format.order pr 0 == some .eq) = true := by rcases hr with h | h <;> rw [h] <;> rfl
        have w2 : wrap64 (pc * st) = m := by rw [hm]; exact IntWalk.wrap64_in m (by omega)
        have w3 : wrap64 (4611686018427387904 + m) = 4611686018427387904 + m := IntWalk.wrap64_in _ (by have := T0.out; omega)
        have w4 : 0 < pc → wrap64 (m.tdiv pc) = st := fun h => by rw [q4 h]; exact IntWalk.wrap64_in _ (by have := HST.out; omega)
        have w1 : wrap64 (4611686018427387904 + ps) = 4611686018427387904 + ps := IntWalk.wrap64_in _ (by have := T0.out; have := HPS.out; omega)
        clear hm hm1 hm2 r1 r3 q1 q2 q3
        by_cases p0 : 0 < pc
        · have q5 := w4 p0
          have q6 : pc ≠ 0 := by omega
          clear q4 w4
          go_wp2_with fail
          refine (started9_any _ (HV.out.go S5.out.bel)).mono ?_
          rintro e w9 ⟨rfl, hb9⟩
          go_wp2_with fail
          go_ret
          exact ⟨rfl, bc_go S5.out.bel hb9⟩
        · have q5 : ¬ 0 < pc := p0
          have q7 : decide (0 < pc) = false := decide_eq_false p0
          clear q4 w4
          go_wp2_with fail
          refine (started9_any _ (HV.out.go S5.out.bel)).mono ?_
          rintro e w9 ⟨rfl, hb9⟩
          go_wp2_with fail
          go_ret
          exact ⟨rfl, bc_go S5.out.bel hb9⟩
      · go_wp2_with fail
        refine (age_any K R M C Fl A a n cap G pw pq pc ps pb pr pp pn _ (HN.out.go S2.out.bel) HO.out).mono ?_
        rintro e w5 ⟨rfl, hb5⟩
        have S5 : Hid _ := S2.out.go hb5
        rw [HAG.out]
        clear x0
        clear x1
        clear x2
        clear x3
        clear x4
        clear x5
        clear x6
        clear y0
        clear y1
        clear y2
        clear y3
        clear y4
        clear y5
        clear y6
        clear y7
        clear hb5
        have x0 := S5.out.cel gc 0 (.int .i64 K)
        have x1 := S5.out.cel gc 1 (.int .i64 R)
        have x2 := S5.out.cel gc 2 (.int .i64 M)
        have x3 := S5.out.cel gc 3 (.int .i64 C)
        have x4 := S5.out.cel gc 4 (.int .i64 Fl)
        have x5 := S5.out.cel gc 5 (.int .i64 A)
        have x6 := S5.out.cel gc 6 (.slice a n cap)
        have y0 := S5.out.cel gp 0 (.int .i64 pw)
        have y1 := S5.out.cel gp 1 (.int .i64 pq)
        have y2 := S5.out.cel gp 2 (.int .i64 pc)
        have y3 := S5.out.cel gp 3 (.int .i64 ps)
        have y4 := S5.out.cel gp 4 (.int .i64 pb)
        have y5 := S5.out.cel gp 5 (.float .f64 pr)
        have y6 := S5.out.cel gp 6 (.int .i64 pp)
        have y7 := S5.out.cel gp 7 (.int .i64 pn)
        have T0 : Hid (0 ≤ tt ∧ tt ≤ 4611686018427387904) := ⟨by omega, by omega⟩
        have hm1 : 0 ≤ pc * st := Int.mul_nonneg (by have := HPC.out; omega) (by have := HST.out; omega)
        have hm2 : pc * st ≤ 15 * 1099511627776 := Int.mul_le_mul (by have := HPC.out; omega) (by have := HST.out; omega) (by have := HST.out; omega) (by omega)
        have q1 : IntKind.i64.wrap (tt + ps) = tt + ps := by rw [IntKind.wrap_i64]; have := T0.out; have := HPS.out; omega
        have q2 : IntKind.i64.wrap (pc * st) = pc * st := by rw [IntKind.wrap_i64]; omega
        have q3 : IntKind.i64.wrap (tt + pc * st) = tt + pc * st := by rw [IntKind.wrap_i64]; have := T0.out; omega
        have r1 : ¬ (tt + ps < tt) := by have := HPS.out; omega
        have r3 : ¬ (tt + pc * st < tt) := by omega
        have b1 : decide (tt + ps < tt) = false := decide_eq_false r1
        have b3 : decide (tt + pc * st < tt) = false := decide_eq_false r3
        obtain ⟨m, hm⟩ : ∃ m, pc * st = m := ⟨_, rfl⟩
        rw [hm] at q2 q3 b3 r3
        have HM : Hid _ := hm
        have q4 : 0 < pc → m.tdiv pc = st := fun h => by rw [← hm]; exact Int.mul_tdiv_cancel_left st (by omega)
        have e1 : (1 : Int) ≤ pw := HPW.out.1
        have e2 : pw ≤ C := HPW.out.2
        have e3 : M ≤ R := HMR.out.1
        have e4 : 1 ≤ M := HMR.out.2
        have e5 : (1 : Int) ≤ pp := HPP.out.1
        have hr := fle_geq HRT.out
        have hrb : (FloatKind.f64.format.order pr 0 == some .gt || FloatKind.f64.format.order pr 0 == some .eq) = true := by rcases hr with h | h <;> rw [h] <;> rfl
        have w2 : wrap64 (pc * st) = m := by rw [hm]; exact IntWalk.wrap64_in m (by omega)
        have w3 : wrap64 (tt + m) = tt + m := IntWalk.wrap64_in _ (by have := T0.out; omega)
        have w4 : 0 < pc → wrap64 (m.tdiv pc) = st := fun h => by rw [q4 h]; exact IntWalk.wrap64_in _ (by have := HST.out; omega)
        have w1 : wrap64 (tt + ps) = tt + ps := IntWalk.wrap64_in _ (by have := T0.out; have := HPS.out; omega)
        clear hm hm1 hm2 r1 r3 q1 q2 q3
        by_cases p0 : 0 < pc
        · have q5 := w4 p0
          have q6 : pc ≠ 0 := by omega
          clear q4 w4
          go_wp2_with fail
          refine (started9_any _ (HV.out.go S5.out.bel)).mono ?_
          rintro e w9 ⟨rfl, hb9⟩
          go_wp2_with fail
          go_ret
          exact ⟨rfl, bc_go S5.out.bel hb9⟩
        · have q5 : ¬ 0 < pc := p0
          have q7 : decide (0 < pc) = false := decide_eq_false p0
          clear q4 w4
          go_wp2_with fail
          refine (started9_any _ (HV.out.go S5.out.bel)).mono ?_
          rintro e w9 ⟨rfl, hb9⟩
          go_wp2_with fail
          go_ret
          exact ⟨rfl, bc_go S5.out.bel hb9⟩
  · have d : (fe != 0) = true := by simpa using c0
    clear c0 hfe
    go_wp2_with fail
    refine (started9_any _ (HV.out.go S2.out.bel)).mono ?_
    rintro e w4 ⟨rfl, hb4⟩
    go_wp2_with fail
    go_ret
    exact ⟨rfl, bc_go S2.out.bel hb4⟩
end Go.Proofs.YtfjmnhmdipjenaaGreatDoor

namespace Go.Proofs.YtfjmnhmdipjenaaGreatDoor
open Go.RowKit Go.ChangeShapes Go.WideShapes Go.ChangeAt
set_option linter.unusedVariables false
set_option maxRecDepth 100000
theorem ownD : ownKnob Tryz.prog.godebug = none := by kernel_rfl
theorem laidOutD : laidOutB Tryz.prog = true := by kernel_rfl
theorem wf9 {x : Int} (h : (Lit.int .i64 x).wf = true) : -9223372036854775808 ≤ x ∧ x ≤ 9223372036854775807 := bounds_i64 h
theorem addr_plus (b off i : Nat) : (⟨b, off, none⟩ : Addr).add i = ⟨b, off + i, none⟩ := by
  unfold Addr.add
  rcases Nat.eq_zero_or_pos i with e | e
  · subst e; simp
  · rw [if_neg (by omega)]
theorem plus_more (a : Addr) (m j : Nat) : (a.add m).add j = a.add (m + j) := by
  unfold Addr.add
  rcases Nat.eq_zero_or_pos m with e | e
  · subst e; simp
  · rcases Nat.eq_zero_or_pos j with e2 | e2
    · subst e2; simp
    · rw [if_neg (by omega), if_neg (by omega), if_neg (by omega)]
      simp [Nat.add_assoc]
theorem stepsK_of {K : Nat} {H : Type} {enc : TypeId × Value → H} {P : Program} {w : World} {base : Nat} {spare : Nat → Bool} {held : Bool} {t e : TypeId} {fuel : Nat} {cs : List Value} {x : DataW H × List MemPlace} {fs : Array Field}
    (ht : P.underlying t = some (.slice e)) (he : P.underlying e = some (.struct fs)) (ce : P.cellsOf e = K) (hsz : fs.size = K)
    (hf : ∀ j, j < K → ∃ f, fs[j]? = some f ∧ f.offset = j ∧ P.cellsOf f.type = 1 ∧ P.underlying f.type = some (.int .i64)) (h : DataW.trod enc P w base spare held fuel t cs = some x) :
    cs = [.slice none 0 0] ∨ ∃ (a : Addr) (len cap : Nat), cs = [.slice (some a) len cap] ∧ len ≤ cap ∧ cap ≤ maxLen ∧ ∀ i j, i < len → j < K → ∃ v, w.cell? (a.add (i * K + j)) = some (.int .i64 v) ∧ (Lit.int .i64 v).wf = true := by
  rcases Deep.open_slice ht h with ⟨h0, _⟩ | ⟨a, len, cap, m, n, D, Pl, rfl, hb, hl, hm, hmm, _, hx⟩
  · exact .inl h0
  · refine .inr ⟨a, len, cap, rfl, hl, hm, fun i j hi hj => ?_⟩
    have hlm : len ≤ m := by rw [hmm]; split <;> omega
    obtain ⟨cs', h1, h2⟩ := hx i (by omega)
    rw [ce] at h1
    obtain ⟨_, hlen, hcell⟩ := World.cells?_some h1
    obtain ⟨xs, k, _, _, _, hxl, hff⟩ := DataW.trod_struct he h2
    obtain ⟨f, f1, f2, f3, f4⟩ := hf j hj
    have g := hff j f f1
    rw [f2, f3] at g
    have hxj : ∃ y, xs[j]? = some y := ⟨_, List.getElem?_eq_getElem (by omega)⟩
    obtain ⟨y, hy⟩ := hxj
    rw [hy] at g
    obtain ⟨v, hv, _, hw⟩ := DataW.trod_int f4 g
    refine ⟨v, ?_, hw⟩
    have e1 := hcell j hj
    rw [plus_more] at e1
    rw [e1]
    have e2 := congrArg (fun l => l[0]?) hv
    simpa using e2
theorem nsl_of {w : World} {a : Addr} {len cap : Nat} (hl : len ≤ cap) (hm : cap ≤ maxLen) (h : ∀ i j, i < len → j < 4 → ∃ v, w.cell? (a.add (i * 4 + j)) = some (.int .i64 v) ∧ (Lit.int .i64 v).wf = true) :
    ∃ F, NSl w (some a) len cap F := by
  refine ⟨fun i j => intOf ((w.cell? (a.add (i * 4 + j))).getD undef), hl, by simp only [maxLen] at hm; omega, fun i j hi hj => ?_, ?_⟩
  · obtain ⟨v, hv, hw⟩ := h i j hi hj
    show -9223372036854775808 ≤ intOf ((w.cell? (a.add (i * 4 + j))).getD undef) ∧ _
    rw [hv]
    exact wf9 hw
  · rcases Nat.eq_zero_or_pos len with e | e
    · exact .inl e
    · obtain ⟨b, off, spot⟩ := a
      obtain ⟨v, hc, _⟩ := h 0 0 e (by omega)
      have hspot : spot = none := by simpa [Addr.add] using World.cell?_spot hc
      subst hspot
      refine .inr ⟨b, off, rfl, fun i j hi hj => ?_⟩
      obtain ⟨v, hv, _⟩ := h i j hi hj
      rw [addr_plus] at hv
      have e3 : off + i * 4 + j = off + (i * 4 + j) := by omega
      rw [e3, hv, addr_plus, hv]
      rfl
theorem nodes_of {H : Type} {enc : TypeId × Value → H} {w : World} {base : Nat} {held : Bool} {fuel : Nat} {cs : List Value} {x : DataW H × List MemPlace} (h : DataW.trod enc Tryz.prog w base (fun _ => true) held fuel 22 cs = some x) : ∃ a n c F, cs = [.slice a n c] ∧ NSl w a n c F := by
  rcases stepsK_of (K := 4) Tryz.underlying22 Tryz.underlying33 (by kernel_rfl) rfl (fun j hj => match j, hj with
    | 0, _ => ⟨_, rfl, rfl, by kernel_rfl, by kernel_rfl⟩
    | 1, _ => ⟨_, rfl, rfl, by kernel_rfl, by kernel_rfl⟩
    | 2, _ => ⟨_, rfl, rfl, by kernel_rfl, by kernel_rfl⟩
    | 3, _ => ⟨_, rfl, rfl, by kernel_rfl, by kernel_rfl⟩) h with hcs | ⟨y, l, c, hcs, hl, hm, hcell⟩
  · exact ⟨none, 0, 0, fun _ _ => 0, hcs, nsl_nil w⟩
  · obtain ⟨F, hF⟩ := nsl_of hl hm hcell
    exact ⟨_, _, _, F, hcs, hF⟩
theorem trod_flt {H : Type} {enc : TypeId × Value → H} {P : Program} {w : World} {base : Nat} {spare : Nat → Bool} {held : Bool} {t : TypeId} {fuel : Nat} {cs : List Value} {x : DataW H × List MemPlace} {k : FloatKind} (ht : P.underlying t = some (.float k)) (h : DataW.trod enc P w base spare held fuel t cs = some x) : ∃ n, cs = [.float k n] := by
  cases fuel with
  | zero => simp [DataW.trod] at h
  | succ n =>
    unfold DataW.trod at h
    rw [ht] at h
    split at h <;> simp_all
theorem cell_of {cs : List Value} {i : Nat} {v : Value} (h : (cs.drop i).take 1 = [v]) : cs[i]? = some v := by
  have e := congrArg (fun l => l[0]?) h
  simpa using e
theorem open_conf {H : Type} {enc : TypeId × Value → H} {w : World} {base0 base : Nat} {held : Bool} {v : Value} {d : DataW H} {ps : List MemPlace} (hv : Value.okWide Tryz.prog w .any base0 24 v) (h : DataW.Trod enc Tryz.prog w base (fun _ => true) held 24 v d ps) : ∃ K R M C Fl A a n c F, v = .agg #[.int .i64 K, .int .i64 R, .int .i64 M, .int .i64 C, .int .i64 Fl, .int .i64 A, .slice a n c] ∧ NSl w a n c F := by
  obtain ⟨cs, rfl, hsz⟩ := okWide_struct Tryz.underlying24 hv
  obtain ⟨fuel, hf⟩ := h
  obtain ⟨xs, k, _, _, hlen, hxl, hff⟩ := DataW.trod_struct Tryz.underlying24 hf
  have hl : cs.toList.length = 7 := by
    have e : Tryz.prog.cellsOf 24 = 7 := by kernel_rfl
    rw [e] at hlen
    exact hlen
  have hl2 : cs.size = 7 := by simpa using hl
  have hcl : (Value.agg cs).cells.toList = cs.toList := rfl
  rw [hcl] at hff
  have g0 : DataW.trod enc Tryz.prog w base (fun _ => true) held k 3 ((cs.toList.drop 0).take (Tryz.prog.cellsOf 3)) = xs[0]? := hff 0 _ rfl
  rw [show Tryz.prog.cellsOf 3 = 1 by kernel_rfl] at g0
  obtain ⟨y0, hy0⟩ : ∃ y, xs[0]? = some y := ⟨_, List.getElem?_eq_getElem (by rw [hxl]; decide)⟩
  rw [hy0] at g0
  obtain ⟨a0, e0, _, w0⟩ := DataW.trod_int Tryz.underlying3 g0
  have z0 := cell_of e0
  have g1 : DataW.trod enc Tryz.prog w base (fun _ => true) held k 3 ((cs.toList.drop 1).take (Tryz.prog.cellsOf 3)) = xs[1]? := hff 1 _ rfl
  rw [show Tryz.prog.cellsOf 3 = 1 by kernel_rfl] at g1
  obtain ⟨y1, hy1⟩ : ∃ y, xs[1]? = some y := ⟨_, List.getElem?_eq_getElem (by rw [hxl]; decide)⟩
  rw [hy1] at g1
  obtain ⟨a1, e1, _, w1⟩ := DataW.trod_int Tryz.underlying3 g1
  have z1 := cell_of e1
  have g2 : DataW.trod enc Tryz.prog w base (fun _ => true) held k 3 ((cs.toList.drop 2).take (Tryz.prog.cellsOf 3)) = xs[2]? := hff 2 _ rfl
  rw [show Tryz.prog.cellsOf 3 = 1 by kernel_rfl] at g2
  obtain ⟨y2, hy2⟩ : ∃ y, xs[2]? = some y := ⟨_, List.getElem?_eq_getElem (by rw [hxl]; decide)⟩
  rw [hy2] at g2
  obtain ⟨a2, e2, _, w2⟩ := DataW.trod_int Tryz.underlying3 g2
  have z2 := cell_of e2
  have g3 : DataW.trod enc Tryz.prog w base (fun _ => true) held k 3 ((cs.toList.drop 3).take (Tryz.prog.cellsOf 3)) = xs[3]? := hff 3 _ rfl
  rw [show Tryz.prog.cellsOf 3 = 1 by kernel_rfl] at g3
  obtain ⟨y3, hy3⟩ : ∃ y, xs[3]? = some y := ⟨_, List.getElem?_eq_getElem (by rw [hxl]; decide)⟩
  rw [hy3] at g3
  obtain ⟨a3, e3, _, w3⟩ := DataW.trod_int Tryz.underlying3 g3
  have z3 := cell_of e3
  have g4 : DataW.trod enc Tryz.prog w base (fun _ => true) held k 3 ((cs.toList.drop 4).take (Tryz.prog.cellsOf 3)) = xs[4]? := hff 4 _ rfl
  rw [show Tryz.prog.cellsOf 3 = 1 by kernel_rfl] at g4
  obtain ⟨y4, hy4⟩ : ∃ y, xs[4]? = some y := ⟨_, List.getElem?_eq_getElem (by rw [hxl]; decide)⟩
  rw [hy4] at g4
  obtain ⟨a4, e4, _, w4⟩ := DataW.trod_int Tryz.underlying3 g4
  have z4 := cell_of e4
  have g5 : DataW.trod enc Tryz.prog w base (fun _ => true) held k 3 ((cs.toList.drop 5).take (Tryz.prog.cellsOf 3)) = xs[5]? := hff 5 _ rfl
  rw [show Tryz.prog.cellsOf 3 = 1 by kernel_rfl] at g5
  obtain ⟨y5, hy5⟩ : ∃ y, xs[5]? = some y := ⟨_, List.getElem?_eq_getElem (by rw [hxl]; decide)⟩
  rw [hy5] at g5
  obtain ⟨a5, e5, _, w5⟩ := DataW.trod_int Tryz.underlying3 g5
  have z5 := cell_of e5
  have g6 : DataW.trod enc Tryz.prog w base (fun _ => true) held k 22 ((cs.toList.drop 6).take (Tryz.prog.cellsOf 22)) = xs[6]? := hff 6 _ rfl
  rw [show Tryz.prog.cellsOf 22 = 1 by kernel_rfl] at g6
  obtain ⟨y6, hy6⟩ : ∃ y, xs[6]? = some y := ⟨_, List.getElem?_eq_getElem (by rw [hxl]; decide)⟩
  rw [hy6] at g6
  obtain ⟨a6, m6, c6, F6, e6, w6⟩ := nodes_of g6
  have z6 := cell_of e6
  have hcs : cs = #[.int .i64 a0, .int .i64 a1, .int .i64 a2, .int .i64 a3, .int .i64 a4, .int .i64 a5, .slice a6 m6 c6] := by
    apply Array.ext_getElem?
    intro i
    rw [← Array.getElem?_toList]
    by_cases hi : i < 7
    · match i, hi with
      | 0, _ => rw [z0]; rfl
      | 1, _ => rw [z1]; rfl
      | 2, _ => rw [z2]; rfl
      | 3, _ => rw [z3]; rfl
      | 4, _ => rw [z4]; rfl
      | 5, _ => rw [z5]; rfl
      | 6, _ => rw [z6]; rfl
    · rw [List.getElem?_eq_none (by omega), Array.getElem?_eq_none (by simp; omega)]
  subst hcs
  exact ⟨a0, a1, a2, a3, a4, a5, a6, m6, c6, F6, rfl, w6⟩
theorem open_params {H : Type} {enc : TypeId × Value → H} {w : World} {base0 base : Nat} {held : Bool} {v : Value} {d : DataW H} {ps : List MemPlace} (hv : Value.okWide Tryz.prog w .any base0 27 v) (h : DataW.Trod enc Tryz.prog w base (fun _ => true) held 27 v d ps) : ∃ (pw pq pc ps pb : Int) (pr : Nat) (pp pn : Int), v = .agg #[.int .i64 pw, .int .i64 pq, .int .i64 pc, .int .i64 ps, .int .i64 pb, .float .f64 pr, .int .i64 pp, .int .i64 pn] ∧ (-9223372036854775808 ≤ pn ∧ pn ≤ 9223372036854775807) := by
  obtain ⟨cs, rfl, hsz⟩ := okWide_struct Tryz.underlying27 hv
  obtain ⟨fuel, hf⟩ := h
  obtain ⟨xs, k, _, _, hlen, hxl, hff⟩ := DataW.trod_struct Tryz.underlying27 hf
  have hl : cs.toList.length = 8 := by
    have e : Tryz.prog.cellsOf 27 = 8 := by kernel_rfl
    rw [e] at hlen
    exact hlen
  have hl2 : cs.size = 8 := by simpa using hl
  have hcl : (Value.agg cs).cells.toList = cs.toList := rfl
  rw [hcl] at hff
  have g0 : DataW.trod enc Tryz.prog w base (fun _ => true) held k 3 ((cs.toList.drop 0).take (Tryz.prog.cellsOf 3)) = xs[0]? := hff 0 _ rfl
  rw [show Tryz.prog.cellsOf 3 = 1 by kernel_rfl] at g0
  obtain ⟨y0, hy0⟩ : ∃ y, xs[0]? = some y := ⟨_, List.getElem?_eq_getElem (by rw [hxl]; decide)⟩
  rw [hy0] at g0
  obtain ⟨a0, e0, _, w0⟩ := DataW.trod_int Tryz.underlying3 g0
  have z0 := cell_of e0
  have g1 : DataW.trod enc Tryz.prog w base (fun _ => true) held k 3 ((cs.toList.drop 1).take (Tryz.prog.cellsOf 3)) = xs[1]? := hff 1 _ rfl
  rw [show Tryz.prog.cellsOf 3 = 1 by kernel_rfl] at g1
  obtain ⟨y1, hy1⟩ : ∃ y, xs[1]? = some y := ⟨_, List.getElem?_eq_getElem (by rw [hxl]; decide)⟩
  rw [hy1] at g1
  obtain ⟨a1, e1, _, w1⟩ := DataW.trod_int Tryz.underlying3 g1
  have z1 := cell_of e1
  have g2 : DataW.trod enc Tryz.prog w base (fun _ => true) held k 3 ((cs.toList.drop 2).take (Tryz.prog.cellsOf 3)) = xs[2]? := hff 2 _ rfl
  rw [show Tryz.prog.cellsOf 3 = 1 by kernel_rfl] at g2
  obtain ⟨y2, hy2⟩ : ∃ y, xs[2]? = some y := ⟨_, List.getElem?_eq_getElem (by rw [hxl]; decide)⟩
  rw [hy2] at g2
  obtain ⟨a2, e2, _, w2⟩ := DataW.trod_int Tryz.underlying3 g2
  have z2 := cell_of e2
  have g3 : DataW.trod enc Tryz.prog w base (fun _ => true) held k 3 ((cs.toList.drop 3).take (Tryz.prog.cellsOf 3)) = xs[3]? := hff 3 _ rfl
  rw [show Tryz.prog.cellsOf 3 = 1 by kernel_rfl] at g3
  obtain ⟨y3, hy3⟩ : ∃ y, xs[3]? = some y := ⟨_, List.getElem?_eq_getElem (by rw [hxl]; decide)⟩
  rw [hy3] at g3
  obtain ⟨a3, e3, _, w3⟩ := DataW.trod_int Tryz.underlying3 g3
  have z3 := cell_of e3
  have g4 : DataW.trod enc Tryz.prog w base (fun _ => true) held k 3 ((cs.toList.drop 4).take (Tryz.prog.cellsOf 3)) = xs[4]? := hff 4 _ rfl
  rw [show Tryz.prog.cellsOf 3 = 1 by kernel_rfl] at g4
  obtain ⟨y4, hy4⟩ : ∃ y, xs[4]? = some y := ⟨_, List.getElem?_eq_getElem (by rw [hxl]; decide)⟩
  rw [hy4] at g4
  obtain ⟨a4, e4, _, w4⟩ := DataW.trod_int Tryz.underlying3 g4
  have z4 := cell_of e4
  have g5 : DataW.trod enc Tryz.prog w base (fun _ => true) held k 25 ((cs.toList.drop 5).take (Tryz.prog.cellsOf 25)) = xs[5]? := hff 5 _ rfl
  rw [show Tryz.prog.cellsOf 25 = 1 by kernel_rfl] at g5
  obtain ⟨y5, hy5⟩ : ∃ y, xs[5]? = some y := ⟨_, List.getElem?_eq_getElem (by rw [hxl]; decide)⟩
  rw [hy5] at g5
  obtain ⟨a5, e5⟩ := trod_flt Tryz.underlying25 g5
  have z5 := cell_of e5
  have g6 : DataW.trod enc Tryz.prog w base (fun _ => true) held k 3 ((cs.toList.drop 6).take (Tryz.prog.cellsOf 3)) = xs[6]? := hff 6 _ rfl
  rw [show Tryz.prog.cellsOf 3 = 1 by kernel_rfl] at g6
  obtain ⟨y6, hy6⟩ : ∃ y, xs[6]? = some y := ⟨_, List.getElem?_eq_getElem (by rw [hxl]; decide)⟩
  rw [hy6] at g6
  obtain ⟨a6, e6, _, w6⟩ := DataW.trod_int Tryz.underlying3 g6
  have z6 := cell_of e6
  have g7 : DataW.trod enc Tryz.prog w base (fun _ => true) held k 3 ((cs.toList.drop 7).take (Tryz.prog.cellsOf 3)) = xs[7]? := hff 7 _ rfl
  rw [show Tryz.prog.cellsOf 3 = 1 by kernel_rfl] at g7
  obtain ⟨y7, hy7⟩ : ∃ y, xs[7]? = some y := ⟨_, List.getElem?_eq_getElem (by rw [hxl]; decide)⟩
  rw [hy7] at g7
  obtain ⟨a7, e7, _, w7⟩ := DataW.trod_int Tryz.underlying3 g7
  have z7 := cell_of e7
  have hcs : cs = #[.int .i64 a0, .int .i64 a1, .int .i64 a2, .int .i64 a3, .int .i64 a4, .float .f64 a5, .int .i64 a6, .int .i64 a7] := by
    apply Array.ext_getElem?
    intro i
    rw [← Array.getElem?_toList]
    by_cases hi : i < 8
    · match i, hi with
      | 0, _ => rw [z0]; rfl
      | 1, _ => rw [z1]; rfl
      | 2, _ => rw [z2]; rfl
      | 3, _ => rw [z3]; rfl
      | 4, _ => rw [z4]; rfl
      | 5, _ => rw [z5]; rfl
      | 6, _ => rw [z6]; rfl
      | 7, _ => rw [z7]; rfl
    · rw [List.getElem?_eq_none (by omega), Array.getElem?_eq_none (by simp; omega)]
  subst hcs
  exact ⟨a0, a1, a2, a3, a4, a5, a6, a7, rfl, wf9 w7⟩
end Go.Proofs.YtfjmnhmdipjenaaGreatDoor

namespace Go.Proofs.YtfjmnhmdipjenaaGreatDoor
open Go.RowKit Go.ChangeShapes
set_option maxRecDepth 100000
set_option linter.unusedVariables false
def tabZ9 : List Int := [0, 1, 56, 2, 57, 49, 28, 3, 61, 58, 42, 50, 38, 29, 17, 4, 62, 47, 59, 36, 45, 43, 51, 22, 53, 39, 33, 30, 24, 18, 12, 5, 63, 55, 48, 27, 60, 41, 37, 16, 46, 35, 44, 21, 52, 32, 23, 11, 54, 26, 40, 15, 34, 20, 31, 10, 25, 14, 19, 9, 13, 8, 7, 6]
theorem tabZ9_at : ∀ j, j < 64 → tabZ9.getD j 0 = ((Lib.deBruijn64tab.getD j 0 : Nat) : Int) := by decide +kernel
theorem kind_str (i : Nat) (s : ByteArray) (h : s.data.toList = (kindT i).data.toList) : s = kindT i := by
  cases s
  generalize kindT i = k at h
  cases k
  congr
  exact Array.toList_inj.1 h
theorem trod_ifc {H : Type} {enc : TypeId × Value → H} {P : Program} {w : World} {base : Nat} {spare : Nat → Bool} {held : Bool} {t : TypeId} {fuel : Nat} {cs : List Value} {x : DataW H × List MemPlace} {ms : Array (String × TypeId)} (ht : P.underlying t = some (.interface ms)) (h : DataW.trod enc P w base spare held fuel t cs = some x) : ∃ ev, cs = [ev] ∧ (ev = .nilIface ∨ ∃ te pe, ev = .iface te pe) := by
  cases fuel with
  | zero => simp [DataW.trod] at h
  | succ n =>
    unfold DataW.trod at h
    rw [ht] at h
    split at h <;> simp_all
theorem vs_of {W : World} (h : laidMet Tryz.prog [("math/bits.deBruijn32tab", Rows.laid_math_bits_deBruijn32tab), ("math/bits.deBruijn64tab", Rows.laid_math_bits_deBruijn64tab), ("internal/strconv.uint64pow10", Rows.laid_internal_strconv_uint64pow10), ("strconv.ErrRange", Rows.laid_strconv_ErrRange), ("strconv.ErrSyntax", Rows.laid_strconv_ErrSyntax), ("millrace/conf.kindNames", Rows.laid_millrace_conf_kindNames)] W) : Vs9 W := by
  have h1 := laidMet.tail h
  have h2 := laidMet.tail h1
  have h3 := laidMet.tail h2
  have h4 := laidMet.tail h3
  have h5 := laidMet.tail h4
  have gT : Tryz.prog.globalNamed "math/bits.deBruijn64tab" = some 4 := by kernel_rfl
  have hT := Lib.tabIs_of_head (k := .u8) (zs := tabZ9) gT (by kernel_rfl) Tryz.underlying183 Tryz.underlying5 (by kernel_rfl) (by kernel_rfl) h1
  have hP := Lib.tabIs_of_head (k := .u64) (zs := Lib.pow10Tab) (show Tryz.prog.globalNamed "internal/strconv.uint64pow10" = some 3 by kernel_rfl) (by kernel_rfl) Tryz.underlying179 Tryz.underlying93 (by kernel_rfl) (by kernel_rfl) h2
  have gS : Tryz.prog.globalNamed "strconv.ErrSyntax" = some 5 := by kernel_rfl
  have gR : Tryz.prog.globalNamed "strconv.ErrRange" = some 6 := by kernel_rfl
  have gK : Tryz.prog.globalNamed "millrace/conf.kindNames" = some 0 := by kernel_rfl
  have one : ∀ (n : String) (d : DataW Unit) (r : List (String × DataW Unit)) (g : Nat), laidMet Tryz.prog ((n, d) :: r) W → Tryz.prog.globalNamed n = some g → (Tryz.prog.globals[g]?).map (·.type) = some 89 → ∃ ev, W.cell? ⟨g, 0, none⟩ = some ev ∧ (ev = .nilIface ∨ ∃ te pe, ev = .iface te pe) := by
    intro n d r g hl hg ht
    obtain ⟨ps, ⟨g0, t0, cs, fuel, p, q, hg0, ht0, hv, hd, _, _⟩, _⟩ := hl
    obtain rfl := Option.some.inj (hg.symm.trans hg0)
    obtain rfl := Option.some.inj (ht.symm.trans ht0)
    obtain ⟨ev, he, hk⟩ := trod_ifc Tryz.underlying89 hd
    refine ⟨ev, ?_, hk⟩
    have c := World.var?_cell hg hv 0
    have e : cs[0]? = some ev := by
      rw [← Array.getElem?_toList, he]
      rfl
    exact (c.trans e)
  have tS : (Tryz.prog.globals[5]?).map (·.type) = some 89 := by kernel_rfl
  have tR : (Tryz.prog.globals[6]?).map (·.type) = some 89 := by kernel_rfl
  refine ⟨?_, ⟨one _ _ _ _ h4 gS tS, one _ _ _ _ h3 gR tR⟩, ?_, hP⟩
  · obtain ⟨ps, ⟨g0, t0, cs, fuel, p, q, hg0, ht0, hv, hd, _, _⟩, _⟩ := h5
    obtain rfl := Option.some.inj (gK.symm.trans hg0)
    obtain rfl := Option.some.inj ((show (Tryz.prog.globals[0]?).map (·.type) = some 57 by kernel_rfl).symm.trans ht0)
    intro i hi
    obtain ⟨fuel', d, q', hd1, hd2⟩ := Lib.array_elem Tryz.underlying57 hd i hi
    rw [show Tryz.prog.cellsOf 9 = 1 by kernel_rfl, Nat.mul_one] at hd2
    obtain ⟨s, hs1, hs2, _⟩ := DataW.trod_string Tryz.underlying9 hd2
    have c := World.var?_cell gK hv i
    have e := cell_of hs1
    rw [Array.getElem?_toList] at e
    rw [c.trans e]
    have hd3 : d = .lit (.string s.data.toList) := congrArg Prod.fst hs2
    rw [hd3] at hd1
    congr 2
    refine kind_str i s ?_
    match i, hi, hd1 with
    | 0, _, hd1 => injection hd1 with hd1; injection hd1 with hd1; injection hd1 with hd1; exact hd1.symm
    | 1, _, hd1 => injection hd1 with hd1; injection hd1 with hd1; injection hd1 with hd1; exact hd1.symm
    | 2, _, hd1 => injection hd1 with hd1; injection hd1 with hd1; injection hd1 with hd1; exact hd1.symm
    | 3, _, hd1 => injection hd1 with hd1; injection hd1 with hd1; injection hd1 with hd1; exact hd1.symm
    | 4, _, hd1 => injection hd1 with hd1; injection hd1 with hd1; injection hd1 with hd1; exact hd1.symm
    | 5, _, hd1 => injection hd1 with hd1; injection hd1 with hd1; injection hd1 with hd1; exact hd1.symm
    | 6, _, hd1 => injection hd1 with hd1; injection hd1 with hd1; injection hd1 with hd1; exact hd1.symm
  · intro j hj
    have hj2 : j < 64 := hj
    have hc := hT.cell gT j (show j < tabZ9.length from hj2)
    rw [← tabZ9_at j hj2]
    exact hc
end Go.Proofs.YtfjmnhmdipjenaaGreatDoor

namespace Go.Proofs.YtfjmnhmdipjenaaGreatDoor
open Go.RowKit
set_option maxRecDepth 100000
set_option linter.unusedVariables false
/-- How many leaves there are ahead of a node. -/
def lvs (G : Nat → Nat → Int) : Nat → Nat
  | 0 => 0
  | i + 1 => lvs G i + (if i = 0 then 0 else if G i 0 = 6 then 0 else 1)
theorem lvs_le (G : Nat → Nat → Int) (i : Nat) : lvs G i ≤ i := by
  induction i with
  | zero => simp [lvs]
  | succ i ih => rw [lvs]; split <;> (try split) <;> omega
theorem lvs_leaf {G : Nat → Nat → Int} {i : Nat} (hi : 1 ≤ i) (h : G i 0 ≠ 6) : lvs G (i + 1) = lvs G i + 1 := by rw [lvs, if_neg (by omega), if_neg h]
theorem lvs_tree {G : Nat → Nat → Int} {i : Nat} (hi : 1 ≤ i) (h : G i 0 = 6) : lvs G (i + 1) = lvs G i := by rw [lvs, if_neg (by omega), if_pos h, Nat.add_zero]
/-- What a tree that may be has. -/
structure Tre (G : Nat → Nat → Int) (n : Nat) : Prop where
  lo : 1 ≤ n
  hi : n ≤ 32
  par : ∀ i, 1 ≤ i → i < n → ∃ x : Nat, G i 1 = (x : Int) ∧ x < i ∧ G x 0 = 6
  kind : ∀ i, i < n → 1 ≤ G i 0 ∧ G i 0 ≤ 6
  leaf : 0 < lvs G n
theorem cntP_none {G : Nat → Nat → Int} {j : Nat} : ∀ k, (∀ i, 1 ≤ i → i ≤ k → G i 1 ≠ (j : Int)) → cntP G k j = 0 := by
  intro k
  induction k with
  | zero => intro _; rfl
  | succ k ih =>
    intro h
    rw [cntP, ih fun i h1 h2 => h i h1 (by omega), if_neg (h (k + 1) (by omega) (Nat.le_refl _))]
theorem tre_of {G : Nat → Nat → Int} {n : Nat} (h : nodesE G n = 0) : Tre G n := by
  unfold nodesE at h
  split at h
  · omega
  split at h
  · omega
  split at h
  · omega
  rename_i h1 h2 h3
  have q1 := hld_yes (show hld 1 32 (n : Int) = true by simpa using h1)
  have q2 : firstE G n = 0 := by simpa using h2
  have q3 : kids G n = true := by simpa using h3
  have hz := firstE_none q2
  have par : ∀ i, 1 ≤ i → i < n → ∃ x : Nat, G i 1 = (x : Int) ∧ x < i ∧ G x 0 = 6 := fun i hi hn => by
    have q := (nodeE_other (by omega) (hz i hn)).2.2.1
    have q5 := kO_in (show kO G i (G i 1) ≠ 0 by omega)
    refine ⟨(G i 1).toNat, by omega, by omega, ?_⟩
    unfold kO at q
    rw [if_pos q5] at q
    exact q
  have root := nodeE_root (hz 0 (by omega))
  have kind : ∀ i, i < n → 1 ≤ G i 0 ∧ G i 0 ≤ 6 := fun i hi => by
    by_cases e : i = 0
    · rw [e]; omega
    · have q := nodeE_other e (hz i hi)
      exact ⟨q.1, q.2.1⟩
  refine ⟨by omega, by omega, par, kind, ?_⟩
  obtain ⟨m, rfl⟩ : ∃ m, n = m + 1 := ⟨n - 1, by omega⟩
  unfold kids at q3
  have q4 := of_decide_eq_true q3
  have lf : G m 0 ≠ 6 := fun e => by
    have q5 := q4 m (by omega) e
    rw [Nat.add_sub_cancel, cntP_none m (fun i h1 h2 hx => by
      obtain ⟨x, e1, e2, _⟩ := par i h1 (by omega)
      omega)] at q5
    omega
  have m0 : m ≠ 0 := fun e => by rw [e] at lf; omega
  rw [lvs_leaf (by omega) lf]
  omega
/-- Whether a flow of such parameters may be of a node. -/
theorem tree_flow {R M C Fl A : Int} {G : Nat → Nat → Int} {n x : Nat} {leaf cl qq : Int} (hc : checkE 6 R M C Fl A G n = 0) (hx : x < n) (hl : G x 0 = leaf) (hk : 1 ≤ leaf ∧ leaf ≤ 6) (hq : qq = if leaf = 2 then 1 else 0) (hcl : cl = 0 ∨ cl = 1) :
    flowE 6 R M C Fl A G n 1 qq cl 0 1 4607182418800017408 1 (x : Int) = if leaf = 6 then 1 else if cl = 0 then 0 else if leaf = 4 then 0 else 95 := by
  obtain ⟨b1, b2, b3, b4, b5, b6, b7, b8⟩ := checkE_zero hc
  have hko : kO G n (x : Int) = leaf := by
    unfold kO
    rw [if_pos ⟨by omega, by omega⟩, Int.toNat_natCast, hl]
  have hat : kAt 6 G n (x : Int) = leaf := by unfold kAt; rw [if_pos rfl, hko]
  have hok : okAt 6 G n (x : Int) = decide (leaf ≠ 6) := by
    unfold okAt
    rw [if_pos rfl, hko]
    have : leaf ≠ 0 := by omega
    by_cases e : leaf = 6 <;> simp [e, this]
  unfold flowE
  rw [if_neg (by rw [hc]; simp)]
  unfold flowE1
  rw [hok, hat]
  by_cases e6 : leaf = 6
  · rw [if_pos (by simp [e6]), if_pos e6]
  rw [if_neg (by simp [e6]), if_neg e6]
  have hqq : hld (fQ0 leaf) (fQ1 leaf) qq = true := by
    rw [hq]
    unfold fQ0 fQ1
    by_cases e2 : leaf = 2
    · rw [if_pos e2, if_pos e2]; decide
    · rw [if_neg e2, if_neg e2]; decide
  have h1 : hld 1 C 1 = true := hld_of (by omega) (by omega)
  have hs : hld 0 (fS1 leaf) 0 = true := hld_of (by omega) (by unfold fS1; split <;> omega)
  have hr : hldF 0 4697254411347427328 4607182418800017408 = true := by decide +kernel
  rw [if_neg (by rw [h1]; decide), if_neg (by rw [hqq]; decide)]
  by_cases c0 : cl = 0
  · have hcc : hld 0 (fC1 leaf) cl = true := hld_of (by omega) (by unfold fC1; split <;> omega)
    rw [if_neg (by rw [hcc]; decide), if_neg (by rw [hs]; decide), if_neg (by decide), if_neg (by rw [hr]; decide), if_neg (by decide), if_pos c0]
  · have c1 : cl = 1 := by omega
    rw [if_neg c0]
    by_cases e4 : leaf = 4
    · have hcc : hld 0 (fC1 leaf) cl = true := hld_of (by omega) (by unfold fC1; rw [if_pos e4]; omega)
      rw [if_neg (by rw [hcc]; decide), if_neg (by rw [hs]; decide), if_neg (by decide), if_neg (by rw [hr]; decide), if_neg (by decide), if_pos e4]
    · have hcc : hld 0 (fC1 leaf) cl = false := by
        unfold fC1 hld
        rw [if_neg e4, c1]
        decide
      rw [if_pos hcc, if_neg e4]
end Go.Proofs.YtfjmnhmdipjenaaGreatDoor

