/- Contracts of the program's functions, part 24: own work, joined in build order. -/
import Derived.Test.YtfkkomppfghagaaGreatDoorJ23
namespace Go.Proofs.YtfkkomppfghagaaGreatDoor
open Go.RowKit
set_option maxRecDepth 100000
set_option linter.unusedVariables false
def L35 : List Nat := [3, 5]
theorem dl35 : dlL (fun i => if i = 0 then 3 else 5) 2 = L35 := by decide +kernel
theorem keys35 : KeysG L35 [3, 5] := by
  refine ⟨fun x => ?_, by decide, by decide⟩
  rw [cntL_pos]
  simp [L35]
  omega
theorem qf35a : qfG (cntL L35) [3, 5] (plG L35.length 1 1) = (5, true) := by decide +kernel
theorem qf35b : qfG (cntL L35) [3, 5] (plG L35.length 1 2) = (3, true) := by decide +kernel
theorem tf35 : tfV 5 1 = 4617315517961601024 ∧ tfV 3 1 = 4613937818241073152 := by decide +kernel
theorem tell35 (g mb : Nat) (z : Int) (sh : Value) (F : Nat → Nat → Int) (n : Nat) (w : World) (h : Gau w g mb L35 2) (hT : Tab w) (hz : z ≤ 9223372036854775807) (HJ : ∀ w', Below w.heap.size w w' → Calls Tryz.prog 13 #[sh] w' fun e w9 => ∃ x y ok, JnP (shN F) (shD F) n x y ok ∧ MakesRB w' x y ok e w9) :
    Calls Tryz.prog 19 #[.pointer (some ⟨g, 0, none⟩), .int .i64 z, sh] w fun e w' => ∃ fm f3 f4 f5 : Nat, e = .returned (.agg #[.float .f64 fm, .float .f64 4617315517961601024, .float .f64 4613937818241073152, .float .f64 f3, .float .f64 f4, .float .f64 f5]) ∧ Below w.heap.size w w' := by
  refine (gtell_any (JnP (shN F) (shD F) n) (fun x y ok h => ⟨h.2.1, h.2.2.1⟩) g mb L35 2 z sh w h hT hz HJ).mono ?_
  rintro e w' ⟨ss, k1, k2, k3, x, y, ok, hk, h1, h2, h3, hj, rfl, hb⟩
  obtain rfl := keysG_one hk keys35
  rw [qf35a] at h1
  rw [qf35b] at h2
  have h1 : (5 : Int) = (k1 : Int) := h1
  have h2 : (3 : Int) = (k2 : Int) := h2
  obtain rfl : k1 = 5 := by omega
  obtain rfl : k2 = 3 := by omega
  refine ⟨tfV (mnP L35) (mnQ L35), tfV k3 1, tfV (shP 2 z) (shQ 2 z), tfV (if ok = true then x else 1) (if ok = true then y else 1), ?_, hb⟩
  unfold telV
  rw [tf35.1, tf35.2]
theorem cmp73 (v : Value) (w : World) (h : Rt w v 7 3) : Calls Tryz.prog 21 #[v, v] w fun e w' => e = .returned (.int .i64 0) ∧ Below w.heap.size w w' := by
  have f : Fc 7 3 7 3 1 := ⟨by decide, by omega, by omega, rfl, by rw [P_one]; omega, by rw [P_one]; omega⟩
  exact f.cmp f (by omega) (by omega) (z := 0) (by unfold cmpI; simp) v v w h h
def DV35 (j : Nat) : Int := (dvG (fun _ => true) L35 j : Int)
theorem td35 : tdG (fun _ => true) L35 = 4 := by decide +kernel
theorem dv35 : DV35 0 = 0 ∧ DV35 1 = 0 ∧ DV35 2 = 1 ∧ DV35 3 = 1 := by decide +kernel
theorem del35 (g mb : Nat) (w : World) (h : Gau w g mb L35 L35.length) : Calls Tryz.prog 22 #[.pointer (some ⟨g, 0, none⟩)] w fun e w9 => ∃ b, e = .returned (.slice (some ⟨b, 0, none⟩) 4 64) ∧ w.heap.size ≤ b ∧ w9.rowIs b 3 64 (fun j => .int .i64 (DV35 j)) ∧ Below w.heap.size w w9 := by
  have := delays_any g mb L35 _ w h
  rw [td35] at this
  exact this
theorem same35 (d : Nat) (w : World) (h : w.rowIs d 3 64 (fun j => .int .i64 (DV35 j))) : Calls Tryz.prog 23 #[.slice (some ⟨d, 0, none⟩) 4 64, .slice (some ⟨w.heap.size, 0, none⟩) 4 4] (w.alloc (.cells #[.int .i64 0, .int .i64 0, .int .i64 1, .int .i64 1] 3)) fun e w' => e = .returned (.bool true) ∧ Fb (fun k => k = d) (w.alloc (.cells #[.int .i64 0, .int .i64 0, .int .i64 1, .int .i64 1] 3)) w' := by
  have hl := h.lt
  refine sameInts_true d 4 64 DV35 w.heap.size 0 4 _ (h.alloc _) (by omega) (by omega) (by omega) fun i hi => ?_
  obtain ⟨k0, k1, k2, k3⟩ := dv35
  rcases (show i = 0 ∨ i = 1 ∨ i = 2 ∨ i = 3 by omega) with e | e | e | e <;> subst e <;> simp [go_sem, k0, k1, k2, k3]
theorem of73 (w : World) (hT : Tab w) : Calls Tryz.prog 20 #[.int .i64 7, .int .i64 3] w (MakesRB w 7 3 true) := by
  have h := ratOf_yes 7 3 w (by omega) (by omega) (by omega) hT
  rw [show Nat.gcd 7 3 = 1 by decide] at h
  exact h
set_option maxHeartbeats 16000000 in
theorem groom_any (a0 : Option Addr) (n0 cap0 : Nat) (F : Nat → Nat → Int) (z : Int) (w : World) (h : AbIn w a0 n0 F) (hn0 : n0 ≤ 9223372036854775807) (hz : z ≤ 9223372036854775807) (hT : Tab w) :
    Calls Tryz.prog 5 #[.slice a0 n0 cap0, .int .i64 z] w fun e w' => e = .returned (.bool true) ∧ Below w.heap.size w w' := by
  have HT : Hid (Tab w) := hT
  have CS : Hid (Calls Tryz.prog 8 #[.slice a0 n0 cap0] w fun e w' => ∃ va vb La Lb, e = .returned (.tuple #[va, vb]) ∧ ShS w w' (shX F) (shY F) (min n0 12) (min n0 12) va vb La Lb) := shares_any a0 n0 cap0 F w h hn0 hT
  clear h hT
  obtain ⟨n, hn⟩ : ∃ n, n = min n0 12 := ⟨_, rfl⟩
  rw [← hn] at CS
  have hn12 : n ≤ 12 := by omega
  clear hn
  go_enter Tryz.func5, Tryz.ntmps5
  go_wp2_with fail
  with_reducible refine Calls.mono CS.out ?_
  rintro e w1 ⟨va, vb, La, Lb, rfl, hS⟩
  have S1 : Hid (ShS w w1 (shX F) (shY F) n n va vb La Lb) := hS
  have C7 : Hid (Calls Tryz.prog 20 #[.int .i64 7, .int .i64 3] w1 (MakesRB w1 7 3 true)) := of73 w1 (HT.out.go hS.bel)
  obtain ⟨pa, ca, rfl, hca, hca2, hcel⟩ := hS.ra.row.sl
  clear hS CS
  go_wp2_with fail
  with_reducible refine Calls.mono C7.out ?_
  rintro e w2 ⟨v2, rfl, hv2, hb2⟩
  obtain ⟨oa, om, oc, ob, on, od, rfl⟩ := rt_slices hv2
  have S2 : Hid (ShS w w2 (shX F) (shY F) n n (.slice pa La.length ca) vb La Lb) := S1.out.go hb2
  have B12 : Hid (Below w1.heap.size w1 w2) := hb2
  have R7 : Hid (Rt w2 (.agg #[.slice oa om oc, .slice ob on od]) 7 3) := hv2
  clear hb2 hv2 C7 S1
  go_upto_region 4 with fail
  obtain ⟨w3, hw⟩ : ∃ w3, w3 = w2.alloc (.cells #[.slice oa om oc, .slice ob on od] 47) := ⟨_, rfl⟩
  obtain ⟨b8, hb⟩ : ∃ b8, b8 = w2.heap.size := ⟨_, rfl⟩
  rw [← hw, ← hb]
  have e0 : w3.cell? ⟨b8, 0, none⟩ = some (.slice oa om oc) := by rw [hw, hb]; simp [go_sem]
  have e1 : w3.cell? ⟨b8, 1, none⟩ = some (.slice ob on od) := by rw [hw, hb]; simp [go_sem]
  have B23 : Below w2.heap.size w2 w3 := by rw [hw]; exact bel_al (bel_refl w2)
  have LB8 : Hid (w2.heap.size ≤ b8) := by show _ ≤ _; omega
  have S3 : Hid (ShS w w3 (shX F) (shY F) n n (.slice pa La.length ca) vb La Lb) := S2.out.go B23
  have R73 : Hid (Rt w3 (.agg #[.slice oa om oc, .slice ob on od]) 7 3) := R7.out.mono B23
  have B13 : Hid (Below w1.heap.size w1 w3) := bel_go B12.out B23
  clear hw hb B23 B12 R7
  go_upto_region 5 with (refine (id ?_ : wpList Tryz.prog _ _ (⟨some 40, _, _, _, _, _⟩ :: _) _ _); refine wp_appFs rfl (.tmp 35) (.tmp 39) rfl w.heap.size (.slice pa La.length ca) La rfl (S3.out.go (bel_al (bel_refl w3))).ra w3.heap.size 0 3 3 [(.slice oa om oc, .slice ob on od), (.slice oa om oc, .slice ob on od), (.slice oa om oc, .slice ob on od)] rfl rfl (by omega) (three_cells w3 _ _ _) (three_sl ⟨_, _, _, rfl⟩ ⟨_, _, _, rfl⟩) (by have := S3.out.la; omega) (S3.out.go (bel_al (bel_refl w3))).bel.size ?_; intro v4 w4 HG4)
  obtain ⟨g, cap, f, rfl, hG4⟩ := Gr.make (S3.out.go (bel_al (bel_refl w3))) HG4.out.1 HG4.out.2.1 HG4.out.2.2 (cell_later (bel_al (bel_refl w3)) e0) (cell_later (bel_al (bel_refl w3)) e1) (R73.out.mono (bel_al (bel_refl w3))) (Nat.le_trans S2.out.bel.size LB8.out) (fun e => by
    obtain ⟨_, cs, e5⟩ := S2.out.ra.row.own e
    have := (Array.getElem?_eq_some_iff.1 e5).1
    have := LB8.out
    omega)
  have G4 : Hid (Gr F n 0 w w4 g cap b8 f (.slice oa om oc) (.slice ob on od) vb Lb) := hG4
  have LAn : La.length = n := S3.out.la
  clear hG4 HG4 S3 S2 R73 B13 LB8 e0 e1 hca hca2 hcel
  rw [LAn]
  obtain ⟨w5, hw5⟩ : ∃ w5, w5 = w4.alloc (.cells #[.int .i64 3, .int .i64 5] 3) := ⟨_, rfl⟩
  obtain ⟨b5, hb5⟩ : ∃ b5, b5 = w4.heap.size := ⟨_, rfl⟩
  have G5 : Hid (Gr F n 0 w w5 g cap b8 f (.slice oa om oc) (.slice ob on od) vb Lb) := by rw [hw5]; exact G4.out.go (bel_al (bel_refl w4))
  have CF : Hid (Calls Tryz.prog 17 #[.slice (some ⟨b5, 0, none⟩) 2 2] w5 fun e w' => ∃ g mb, e = .returned (.pointer (some ⟨g, 0, none⟩)) ∧ Fil w5 w' g mb (dlL (fun i => if i = 0 then 3 else 5) 2)) := filled_any _ 2 2 (fun i => if i = 0 then 3 else 5) w5 (.inr ⟨b5, 0, rfl, fun i hi => by
    rcases (show i = 0 ∨ i = 1 by omega) with e | e <;> subst e <;> rw [hw5, hb5] <;> simp [go_sem]⟩) (by omega)
  clear G4
  go_wp2_with (rw [← hw5, ← hb5])
  with_reducible refine Calls.mono CF.out ?_
  rintro e w6 ⟨gg, mb, rfl, hF6⟩
  have G6 : Hid (Gr F n 0 w w6 g cap b8 f (.slice oa om oc) (.slice ob on od) vb Lb) := G5.out.go hF6.bel
  have GA6 : Hid (Gau w6 gg mb L35 2) := by
    have h1 := hF6.ga
    rw [dl35] at h1
    exact h1
  have LG : Hid (w.heap.size ≤ gg ∧ w.heap.size ≤ mb) := ⟨Nat.le_trans G5.out.bel.size hF6.lo.1, Nat.le_trans G5.out.bel.size hF6.lo.2⟩
  have CJ : Hid (∀ w', Below w6.heap.size w6 w' → Calls Tryz.prog 13 #[.slice (some ⟨g, 0, none⟩) n cap] w' fun e w9 => ∃ x y ok, JnP (shN F) (shD F) n x y ok ∧ MakesRB w' x y ok e w9) := fun w' hb => by
    have h := G6.out.go hb
    exact jain_any g n cap (fun i => f (i * 2)) (fun i => f (i * 2 + 1)) (shX F) (shY F) (shN F) (shD F) w' (fq_sh F n (by omega)) (by have := h.cp; omega) h.cp.2 (fun i hi => ⟨h.rw.cell (by have := h.cp; omega), h.rw.cell (by have := h.cp; omega), h.ea i (by omega) hi⟩) h.rw.lt (HT.out.go h.bel)
  have CT : Hid (∀ w', Below w6.heap.size w6 w' → Calls Tryz.prog 19 #[.pointer (some ⟨gg, 0, none⟩), .int .i64 z, .slice (some ⟨g, 0, none⟩) n cap] w' fun e w9 => ∃ fm f3 f4 f5 : Nat, e = .returned (.agg #[.float .f64 fm, .float .f64 4617315517961601024, .float .f64 4613937818241073152, .float .f64 f3, .float .f64 f4, .float .f64 f5]) ∧ Below w'.heap.size w' w9) := fun w' hb => tell35 gg mb z _ F n w' (GA6.out.go hb) (HT.out.go (bel_go G6.out.bel hb)) hz fun w9 hb9 => CJ.out w9 (bel_go hb hb9)
  have LT5 : Hid (g < w5.heap.size ∧ w5.heap.size ≤ gg ∧ w5.heap.size ≤ mb) := ⟨G5.out.rw.lt, hF6.lo.1, hF6.lo.2⟩
  have HCP : Hid (n + 3 ≤ cap ∧ cap ≤ 9223372036854775807) := G6.out.cp
  have q1 : (n : Int) ≤ (cap : Int) := by have := HCP.out; omega
  have q2 : n ≤ cap := by have := HCP.out; omega
  clear hF6 CF G5 hw5 hb5
  go_upto_region 8 with fail
  go_wp2_with fail
  with_reducible refine Calls.mono (CJ.out w6 (bel_refl w6)) ?_
  rintro e w7 ⟨x7, y7, ok7, hJ, v7, rfl, hv7, hb7⟩
  obtain ⟨x1, y1, z1', x2, y2, z2, rfl⟩ := rt_slices hv7
  have HJ7 : Hid (JnP (shN F) (shD F) n x7 y7 ok7) := hJ
  have CT7 := CT.out w7 hb7
  go_upto_region 9 with fail
  obtain ⟨w8, hw8⟩ : ∃ w8, w8 = w7.alloc (.cells #[.slice x1 y1 z1', .slice x2 y2 z2] 47) := ⟨_, rfl⟩
  obtain ⟨b11, hb11⟩ : ∃ b11, b11 = w7.heap.size := ⟨_, rfl⟩
  have B78 : Below w7.heap.size w7 w8 := by rw [hw8]; exact bel_al (bel_refl w7)
  have B68 : Hid (Below w6.heap.size w6 w8) := bel_go hb7 B78
  have X8 : Hid (Rt w8 (.agg #[.slice x1 y1 z1', .slice x2 y2 z2]) x7 y7 ∧ w8.cell? ⟨b11, 0, none⟩ = some (.slice x1 y1 z1') ∧ w8.cell? ⟨b11, 1, none⟩ = some (.slice x2 y2 z2)) := ⟨hv7.mono B78, by rw [hw8, hb11]; simp [go_sem], by rw [hw8, hb11]; simp [go_sem]⟩
  have N11 : Hid (g < b11) := by show _ < _; rw [hb11]; exact (G6.out.go hb7).rw.lt
  have CT8 : Hid (Calls Tryz.prog 19 #[.pointer (some ⟨gg, 0, none⟩), .int .i64 z, .slice (some ⟨g, 0, none⟩) n cap] w8 fun e w9 => ∃ fm f3 f4 f5 : Nat, e = .returned (.agg #[.float .f64 fm, .float .f64 4617315517961601024, .float .f64 4613937818241073152, .float .f64 f3, .float .f64 f4, .float .f64 f5]) ∧ Below w8.heap.size w8 w9) := CT.out w8 B68.out
  rw [← hw8, ← hb11]
  clear hw8 hb11 B78 hb7 hv7 hJ CT7 CJ CT
  go_wp2_with fail
  with_reducible refine Calls.mono CT8.out ?_
  rintro e w9 ⟨fm, f3, f4, f5, rfl, hb9⟩
  have X9 : Hid (Rt w9 (.agg #[.slice x1 y1 z1', .slice x2 y2 z2]) x7 y7 ∧ w9.cell? ⟨b11, 0, none⟩ = some (.slice x1 y1 z1') ∧ w9.cell? ⟨b11, 1, none⟩ = some (.slice x2 y2 z2)) := ⟨X8.out.1.mono hb9, cell_later hb9 X8.out.2.1, cell_later hb9 X8.out.2.2⟩
  have B69 : Hid (Below w6.heap.size w6 w9) := bel_go B68.out hb9
  clear CT8 X8 B68 hb9
  have hsf := @run_store_floatG Tryz.prog
  go_upto_region 10 with fail
  clear hsf
  obtain ⟨wa, hwa⟩ : ∃ wa, wa = w9.alloc (.cells #[.float .f64 fm, .float .f64 4617315517961601024, .float .f64 4613937818241073152, .float .f64 f3, .float .f64 f4, .float .f64 f5] 64) := ⟨_, rfl⟩
  obtain ⟨b13, hb13⟩ : ∃ b13, b13 = w9.heap.size := ⟨_, rfl⟩
  have N13 : Hid (g < b13) := by show _ < _; rw [hb13]; exact (G6.out.go B69.out).rw.lt
  have B9a : Below w9.heap.size w9 wa := by rw [hwa]; exact bel_al (bel_refl w9)
  have XA : Hid (Rt wa (.agg #[.slice x1 y1 z1', .slice x2 y2 z2]) x7 y7 ∧ wa.cell? ⟨b11, 0, none⟩ = some (.slice x1 y1 z1') ∧ wa.cell? ⟨b11, 1, none⟩ = some (.slice x2 y2 z2) ∧ wa.cell? ⟨b13, 1, none⟩ = some (.float .f64 4617315517961601024) ∧ wa.cell? ⟨b13, 2, none⟩ = some (.float .f64 4613937818241073152)) := ⟨X9.out.1.mono B9a, cell_later B9a X9.out.2.1, cell_later B9a X9.out.2.2, by rw [hwa, hb13]; simp [go_sem], by rw [hwa, hb13]; simp [go_sem]⟩
  have GA : Hid (Gr F n 0 w wa g cap b8 f (.slice oa om oc) (.slice ob on od) vb Lb) := G6.out.go (bel_go B69.out B9a)
  have GAa : Hid (Gau wa gg mb L35 2) := GA6.out.go (bel_go B69.out B9a)
  have S0 : Hid (GrS F n 0 w wa g cap b8 f (.slice oa om oc) (.slice ob on od) vb Lb L35 gg mb b11 b13 x7 y7 (.slice x1 y1 z1') (.slice x2 y2 z2)) := ⟨GA.out, GAa.out, XA.out.1, XA.out.2.1, XA.out.2.2.1, XA.out.2.2.2.1, XA.out.2.2.2.2, by have := LT5.out; omega, by have := LT5.out; omega, by have := N11.out; omega, by have := N13.out; omega⟩
  rw [← hwa, ← hb13]
  clear hwa hb13 B9a X9 B69 G6 GA6 XA GAa N11 N13 LT5
  obtain ⟨pb, cb, rfl, hcb, hcb2, hcelb⟩ := GA.out.rb.row.sl
  have LBn : Lb.length = n := GA.out.lb
  clear hcelb
  go_wp2_with fail
  go_loopw [14] (fun t wr => ∃ i : Nat, i ≤ 3 ∧ t = .int .i64 (i : Int) ∧ Below wa.heap.size wa wr) (fun t _ => 3 - (RowKit.intOf t).toNat)
  case atStart => exact ⟨0, by omega, rfl, bel_refl wa⟩
  case round =>
    obtain ⟨i, hi, rfl, hbr⟩ := hrel
    have BR : Hid (Below wa.heap.size wa wr) := hbr
    clear hbr
    by_cases hin : i < 3
    · obtain ⟨k, hk⟩ : ∃ k, k = n + i := ⟨_, rfl⟩
      have hGr := GA.out.go BR.out
      have hbe := GA.out.be k (by omega) (by omega)
      have hcp := GA.out.cp
      have f0 := hGr.rw.cell (i := k * 2) (by omega)
      have f1 := hGr.rw.cell (i := k * 2 + 1) (by omega)
      rw [hbe.1] at f0
      rw [hbe.2] at f1
      have f2 := hGr.c0
      have f3 := hGr.c1
      have HC : Hid (∀ w', Below wr.heap.size wr w' → Calls Tryz.prog 21 #[.agg #[.slice oa om oc, .slice ob on od], .agg #[.slice oa om oc, .slice ob on od]] w' fun e w9 => e = .returned (.int .i64 0) ∧ Below w'.heap.size w' w9) := fun w' hb => cmp73 _ w' (hGr.r7.mono hb)
      have HI2 : Hid ((k : Int) < (n : Int) + 3) := by show _ < _; omega
      have HK : Hid ((n : Int) + (i : Int) = (k : Int)) := by show _ = _; omega
      have HKW : Hid (IntKind.i64.wrap (k : Int) = (k : Int)) := by show _ = _; rw [IntKind.wrap_i64]; omega
      clear hGr hbe hcp hk
      go_upto_region 13 with fail
      refine wp_region_inv (JB wr [sEq (.slice (some ⟨g, 0, none⟩) (n + 3) cap), sEq (.int .i64 (n : Int)), sEq (.int .i64 (i : Int)), sEq (.int .i64 (k : Int)), sEq (.pointer (some ⟨g, k * 2, none⟩)), sEq (.agg #[.slice oa om oc, .slice ob on od]), sEq (.agg #[.slice oa om oc, .slice ob on od]), sEq (.int .i64 0), sEq (.bool false)] []) 171 (by kernel_rfl) rfl (by kernel_rfl) (JB.start _ _ _) (fun HG HN => ⟨?_, ?_, ?_, ?_, ?_, ?_, ?_, ?_, ?_, trivial⟩) ?_
      · intro L vs a w' hJ hF hP hL
        have q5 : (a.tmps[5]?).getD undef = .slice (some ⟨g, 0, none⟩) (n + 3) cap := hF.old 5 rfl
        exact run_val (v := .slice (some ⟨g, 0, none⟩) (n + 3) cap) rfl (by simp [execOp, go_sem, q5]) ⟨_, rfl, hJ.step hL rfl (Below.refl _ _) (by exact rfl)⟩
      · intro L vs a w' hJ hF hP hL
        have q7 : (a.tmps[7]?).getD undef = .int .i64 (n : Int) := hF.old 7 rfl
        exact run_val (v := .int .i64 (n : Int)) rfl (by simp [execOp, go_sem, q7]) ⟨_, rfl, hJ.step hL rfl (Below.refl _ _) (by exact rfl)⟩
      · intro L vs a w' hJ hF hP hL
        have q14 : (a.tmps[14]?).getD undef = .int .i64 (i : Int) := hF.old 14 rfl
        exact run_val (v := .int .i64 (i : Int)) rfl (by simp [execOp, go_sem, q14]) ⟨_, rfl, hJ.step hL rfl (Below.refl _ _) (by exact rfl)⟩
      · intro L vs a w' hJ hF hP hL
        have p1 : L 1 = true := hP ⟨1, .data⟩ (by simp) rfl
        have s1 : vs 1 = .int .i64 (n : Int) := hJ.sp 1 p1
        have q63 := hF.slot 1 63 rfl p1
        have p2 : L 2 = true := hP ⟨2, .data⟩ (by simp) rfl
        have s2 : vs 2 = .int .i64 (i : Int) := hJ.sp 2 p2
        have q64 := hF.slot 2 64 rfl p2
        exact run_val (v := .int .i64 (k : Int)) rfl (by simp [execOp, go_sem, q63, s1, q64, s2, HK.out, HKW.out]) ⟨_, rfl, hJ.step hL rfl (Below.refl _ _) (by exact rfl)⟩
      · intro L vs a w' hJ hF hP hL
        have p0 : L 0 = true := hP ⟨0, .data⟩ (by simp) rfl
        have s0 : vs 0 = .slice (some ⟨g, 0, none⟩) (n + 3) cap := hJ.sp 0 p0
        have q62 := hF.slot 0 62 rfl p0
        have p3 : L 3 = true := hP ⟨3, .data⟩ (by simp) rfl
        have s3 : vs 3 = .int .i64 (k : Int) := hJ.sp 3 p3
        have q65 := hF.slot 3 65 rfl p3
        exact run_val (v := .pointer (some ⟨g, k * 2, none⟩)) rfl (by simp [execOp, go_sem, q62, s0, q65, s3, HI2.out]) ⟨_, rfl, hJ.step hL rfl (Below.refl _ _) (by exact rfl)⟩
      · intro L vs a w' hJ hF hP hL
        have p4 : L 4 = true := hP ⟨4, .data⟩ (by simp) rfl
        have s4 : vs 4 = .pointer (some ⟨g, k * 2, none⟩) := hJ.sp 4 p4
        have q66 := hF.slot 4 66 rfl p4
        have cb := cell_later hJ.bel f0
        have cc := cell_later hJ.bel f1
        exact run_val (v := .agg #[.slice oa om oc, .slice ob on od]) rfl (by simp [execOp, go_sem, q66, s4, cb, cc]) ⟨_, rfl, hJ.step hL rfl (Below.refl _ _) (by exact rfl)⟩
      · intro L vs a w' hJ hF hP hL
        have q8 : (a.tmps[8]?).getD undef = .pointer (some ⟨b8, 0, none⟩) := hF.old 8 rfl
        have cb := cell_later hJ.bel f2
        have cc := cell_later hJ.bel f3
        exact run_val (v := .agg #[.slice oa om oc, .slice ob on od]) rfl (by simp [execOp, go_sem, q8, cb, cc]) ⟨_, rfl, hJ.step hL rfl (Below.refl _ _) (by exact rfl)⟩
      · intro L vs a w' hJ hF hP hL
        have p5 : L 5 = true := hP ⟨5, .data⟩ (by simp) rfl
        have s5 : vs 5 = .agg #[.slice oa om oc, .slice ob on od] := hJ.sp 5 p5
        have q67 := hF.slot 5 67 rfl p5
        have p6 : L 6 = true := hP ⟨6, .data⟩ (by simp) rfl
        have s6 : vs 6 = .agg #[.slice oa om oc, .slice ob on od] := hJ.sp 6 p6
        have q68 := hF.slot 6 68 rfl p6
        refine run_call (f := 21) (args := #[.agg #[.slice oa om oc, .slice ob on od], .agg #[.slice oa om oc, .slice ob on od]]) rfl (by simp [go_sem, q67, s5, q68, s6]) (HC.out _ hJ.bel) ?_
        rintro e w2 ⟨rfl, hb⟩
        exact ⟨_, rfl, _, rfl, hJ.step hL rfl hb (by exact rfl)⟩
      · intro L vs a w' hJ hF hP hL
        have p7 : L 7 = true := hP ⟨7, .data⟩ (by simp) rfl
        have s7 : vs 7 = .int .i64 0 := hJ.sp 7 p7
        have q69 := hF.slot 7 69 rfl p7
        exact run_val (v := .bool false) rfl (by simp [execOp, go_sem, q69, s7]) ⟨_, rfl, hJ.step hL rfl (Below.refl _ _) (by exact rfl)⟩
      intro L vs w' hA hJ
      have s8 : vs 8 = .bool false := hJ.sp 8 (hA 8 (by simp))
      simp only [putL, Act.put, List.setIfInBounds_toArray, List.set_cons_zero, List.set_cons_succ, Nat.reduceAdd]
      simp only [s8]
      have HBL : Hid (Below wr.heap.size wr w') := hJ.bel
      clear s8 hJ hA f0 f1 f2 f3 HC
      go_wp2_with fail
      go_roundw
      case rel => exact ⟨i + 1, by omega, by go_num, bel_go BR.out HBL.out⟩
      case measure => simp [RowKit.intOf]; omega
    obtain rfl : i = 3 := by omega
    have S1 : Hid _ := S0.out.go BR.out
    clear S0 GA BR hin hi
    go_wp2_with fail
    go_loopw [15] (fun t wq => ∃ (i : Nat) (f : Nat → Value), i ≤ n ∧ t = .int .i64 (i : Int) ∧ GrS F n i w wq g cap b8 f (.slice oa om oc) (.slice ob on od) (.slice pb Lb.length cb) Lb L35 gg mb b11 b13 x7 y7 (.slice x1 y1 z1') (.slice x2 y2 z2)) (fun t _ => n - (RowKit.intOf t).toNat)
    case atStart => exact ⟨0, f, by omega, rfl, S1.out⟩
    case round =>
      clear S1
      obtain ⟨i, f, hi, rfl, hS⟩ := hrel
      have S2 : Hid (GrS F n i w wr g cap b8 f (.slice oa om oc) (.slice ob on od) (.slice pb Lb.length cb) Lb L35 gg mb b11 b13 x7 y7 (.slice x1 y1 z1') (.slice x2 y2 z2)) := hS
      clear hS
      by_cases hin : i < n
      · have hg := S2.out.gr
        have hcp := hg.cp
        have hea := hg.ea i (by omega) hin
        obtain ⟨aA, nA, cA, eA⟩ := hg.sl (i * 2) (by omega)
        obtain ⟨aB, nB, cB, eB⟩ := hg.sl (i * 2 + 1) (by omega)
        rw [eA, eB] at hea
        have f0 := hg.rw.cell (i := i * 2) (by omega)
        have f1 := hg.rw.cell (i := i * 2 + 1) (by omega)
        rw [eA] at f0
        rw [eB] at f1
        obtain ⟨pb', cb', e9, _, _, hcb9⟩ := hg.rb.row.sl
        obtain ⟨gb, egb, _, _, hcell⟩ := hcb9 (by omega)
        have e9 : pb = some ⟨gb, 0, none⟩ := by rw [← egb]; injection e9
        subst e9
        clear egb hcb9
        have hLb : i < Lb.length := by omega
        obtain ⟨f2, f3⟩ := hcell i hLb
        have heb := hg.eb i hLb
        have heb' := heb
        obtain ⟨aC, nC, cC, aD, nD, cD, eCD, _, _⟩ := heb'
        obtain ⟨eC, eD⟩ : Lb[i].1 = .slice aC nC cC ∧ Lb[i].2 = .slice aD nD cD := by simpa using eCD
        rw [eC] at f2
        rw [eD] at f3
        rw [eC, eD] at heb
        have g2 := hg.c0
        have g3 := hg.c1
        have HC : Hid (∀ w', Below wr.heap.size wr w' → Calls Tryz.prog 15 #[.agg #[.slice aA nA cA, .slice aB nB cB], .agg #[.slice aC nC cC, .slice aD nD cD]] w' fun e w9 => e = .returned (.bool true) ∧ Below w'.heap.size w' w9) := fun w' hb => same3_true _ _ _ _ w' (hea.mono hb) (heb.mono hb) ((sh_fc F i).rs1 (by omega)) ((sh_fc F i).rs2 (by omega))
        have HI2 : Hid ((i : Int) < (n : Int) + 3) := by show _ < _; omega
        have HI3 : Hid (i < Lb.length) := hLb
        have HI4 : Hid ((i : Int) < (Lb.length : Int)) := by show _ < _; omega
        clear hg hcp hea heb eA eB eC eD eCD hcell hLb
        go_upto_region 18 with fail
        refine wp_region_inv (JB wr [sEq (.slice (some ⟨g, 0, none⟩) (n + 3) cap), sEq (.int .i64 (i : Int)), sEq (.pointer (some ⟨g, i * 2, none⟩)), sEq (.agg #[.slice aA nA cA, .slice aB nB cB]), sEq (.slice (some ⟨gb, 0, none⟩) Lb.length cb), sEq (.int .i64 (i : Int)), sEq (.pointer (some ⟨gb, i * 2, none⟩)), sEq (.agg #[.slice aC nC cC, .slice aD nD cD]), sEq (.bool true), sEq (.bool false)] []) 171 (by kernel_rfl) rfl (by kernel_rfl) (JB.start _ _ _) (fun HG HN => ⟨?_, ?_, ?_, ?_, ?_, ?_, ?_, ?_, ?_, ?_, trivial⟩) ?_
        · intro L vs a w' hJ hF hP hL
          have q5 : (a.tmps[5]?).getD undef = .slice (some ⟨g, 0, none⟩) (n + 3) cap := hF.old 5 rfl
          exact run_val (v := .slice (some ⟨g, 0, none⟩) (n + 3) cap) rfl (by simp [execOp, go_sem, q5]) ⟨_, rfl, hJ.step hL rfl (Below.refl _ _) (by exact rfl)⟩
        · intro L vs a w' hJ hF hP hL
          have q15 : (a.tmps[15]?).getD undef = .int .i64 (i : Int) := hF.old 15 rfl
          exact run_val (v := .int .i64 (i : Int)) rfl (by simp [execOp, go_sem, q15]) ⟨_, rfl, hJ.step hL rfl (Below.refl _ _) (by exact rfl)⟩
        · intro L vs a w' hJ hF hP hL
          have p0 : L 0 = true := hP ⟨0, .data⟩ (by simp) rfl
          have s0 : vs 0 = .slice (some ⟨g, 0, none⟩) (n + 3) cap := hJ.sp 0 p0
          have q76 := hF.slot 0 76 rfl p0
          have p1 : L 1 = true := hP ⟨1, .data⟩ (by simp) rfl
          have s1 : vs 1 = .int .i64 (i : Int) := hJ.sp 1 p1
          have q77 := hF.slot 1 77 rfl p1
          exact run_val (v := .pointer (some ⟨g, i * 2, none⟩)) rfl (by simp [execOp, go_sem, q76, s0, q77, s1, HI2.out]) ⟨_, rfl, hJ.step hL rfl (Below.refl _ _) (by exact rfl)⟩
        · intro L vs a w' hJ hF hP hL
          have p2 : L 2 = true := hP ⟨2, .data⟩ (by simp) rfl
          have s2 : vs 2 = .pointer (some ⟨g, i * 2, none⟩) := hJ.sp 2 p2
          have q78 := hF.slot 2 78 rfl p2
          have cb := cell_later hJ.bel f0
          have cc := cell_later hJ.bel f1
          exact run_val (v := .agg #[.slice aA nA cA, .slice aB nB cB]) rfl (by simp [execOp, go_sem, q78, s2, cb, cc]) ⟨_, rfl, hJ.step hL rfl (Below.refl _ _) (by exact rfl)⟩
        · intro L vs a w' hJ hF hP hL
          have q6 : (a.tmps[6]?).getD undef = .slice (some ⟨gb, 0, none⟩) Lb.length cb := hF.old 6 rfl
          exact run_val (v := .slice (some ⟨gb, 0, none⟩) Lb.length cb) rfl (by simp [execOp, go_sem, q6]) ⟨_, rfl, hJ.step hL rfl (Below.refl _ _) (by exact rfl)⟩
        · intro L vs a w' hJ hF hP hL
          have q15 : (a.tmps[15]?).getD undef = .int .i64 (i : Int) := hF.old 15 rfl
          exact run_val (v := .int .i64 (i : Int)) rfl (by simp [execOp, go_sem, q15]) ⟨_, rfl, hJ.step hL rfl (Below.refl _ _) (by exact rfl)⟩
        · intro L vs a w' hJ hF hP hL
          have p4 : L 4 = true := hP ⟨4, .data⟩ (by simp) rfl
          have s4 : vs 4 = .slice (some ⟨gb, 0, none⟩) Lb.length cb := hJ.sp 4 p4
          have q80 := hF.slot 4 80 rfl p4
          have p5 : L 5 = true := hP ⟨5, .data⟩ (by simp) rfl
          have s5 : vs 5 = .int .i64 (i : Int) := hJ.sp 5 p5
          have q81 := hF.slot 5 81 rfl p5
          exact run_val (v := .pointer (some ⟨gb, i * 2, none⟩)) rfl (by simp [execOp, go_sem, q80, s4, q81, s5, HI4.out]) ⟨_, rfl, hJ.step hL rfl (Below.refl _ _) (by exact rfl)⟩
        · intro L vs a w' hJ hF hP hL
          have p6 : L 6 = true := hP ⟨6, .data⟩ (by simp) rfl
          have s6 : vs 6 = .pointer (some ⟨gb, i * 2, none⟩) := hJ.sp 6 p6
          have q82 := hF.slot 6 82 rfl p6
          have cb := cell_later hJ.bel f2
          have cc := cell_later hJ.bel f3
          exact run_val (v := .agg #[.slice aC nC cC, .slice aD nD cD]) rfl (by simp [execOp, go_sem, q82, s6, cb, cc]) ⟨_, rfl, hJ.step hL rfl (Below.refl _ _) (by exact rfl)⟩
        · intro L vs a w' hJ hF hP hL
          have p3 : L 3 = true := hP ⟨3, .data⟩ (by simp) rfl
          have s3 : vs 3 = .agg #[.slice aA nA cA, .slice aB nB cB] := hJ.sp 3 p3
          have q79 := hF.slot 3 79 rfl p3
          have p7 : L 7 = true := hP ⟨7, .data⟩ (by simp) rfl
          have s7 : vs 7 = .agg #[.slice aC nC cC, .slice aD nD cD] := hJ.sp 7 p7
          have q83 := hF.slot 7 83 rfl p7
          refine run_call (f := 15) (args := #[.agg #[.slice aA nA cA, .slice aB nB cB], .agg #[.slice aC nC cC, .slice aD nD cD]]) rfl (by simp [go_sem, q79, s3, q83, s7]) (HC.out _ hJ.bel) ?_
          rintro e w2 ⟨rfl, hb⟩
          exact ⟨_, rfl, _, rfl, hJ.step hL rfl hb (by exact rfl)⟩
        · intro L vs a w' hJ hF hP hL
          have p8 : L 8 = true := hP ⟨8, .data⟩ (by simp) rfl
          have s8 : vs 8 = .bool true := hJ.sp 8 p8
          have q84 := hF.slot 8 84 rfl p8
          exact run_val (v := .bool false) rfl (by simp [execOp, go_sem, q84, s8]) ⟨_, rfl, hJ.step hL rfl (Below.refl _ _) (by exact rfl)⟩
        intro L vs w' hA hJ
        have s9 : vs 9 = .bool false := hJ.sp 9 (hA 9 (by simp))
        simp only [putL, Act.put, List.setIfInBounds_toArray, List.set_cons_zero, List.set_cons_succ, Nat.reduceAdd]
        simp only [s9]
        have S3 := S2.out.go hJ.bel
        obtain ⟨f', hf'⟩ := S3.put hin ⟨_, _, _, rfl⟩ ⟨_, _, _, rfl⟩
        have HF' : Hid _ := hf'
        have z0 := S3.gr.rw.frozen (i * 2)
        have z1 := S3.gr.rw.frozen (i * 2 + 1)
        have y0 := cell_later hJ.bel f0
        have y1 := cell_later hJ.bel f1
        have y2 := S3.gr.c0
        have y3 := S3.gr.c1
        clear s9 hJ hA f0 f1 f2 f3 HC S2 S3 hf'
        go_wp2_with fail
        go_roundw
        case rel => exact ⟨i + 1, f', by omega, by go_num, HF'.out⟩
        case measure => simp [RowKit.intOf]; omega
      obtain rfl : i = n := by omega
      have hg := S2.out.gr
      have hcp := hg.cp
      have CJ : Hid (Calls Tryz.prog 13 #[.slice (some ⟨g, 0, none⟩) i cap] wr fun e w9 => ∃ x y ok, JnP (fun _ => 7) (fun _ => 3) i x y ok ∧ MakesRB wr x y ok e w9) := jain_any g i cap (fun _ => .slice oa om oc) (fun _ => .slice ob on od) (fun _ => 7) (fun _ => 3) (fun _ => 7) (fun _ => 3) wr (fq7 i (by omega)) (by omega) hcp.2 (fun j hj => ⟨by rw [hg.rw.cell (i := j * 2) (by omega), (hg.dn j hj).1], by rw [hg.rw.cell (i := j * 2 + 1) (by omega), (hg.dn j hj).2], hg.r7⟩) hg.rw.lt (HT.out.go hg.bel)
      clear hg hcp
      go_upto_region 21 with fail
      go_wp2_with fail
      with_reducible refine Calls.mono CJ.out ?_
      rintro e wb ⟨xb, yb, okb, hJb, vb2, rfl, hvb, hbb⟩
      obtain ⟨ia, im, ic, ib, io, id', rfl⟩ := rt_slices hvb
      have HJB : Hid (JnP (fun _ => 7) (fun _ => 3) i xb yb okb) := hJb
      have SB : Hid (GrS F i i w wb g cap b8 f (.slice oa om oc) (.slice ob on od) (.slice pb Lb.length cb) Lb L35 gg mb b11 b13 x7 y7 (.slice x1 y1 z1') (.slice x2 y2 z2)) := S2.out.go hbb
      have RB' : Hid (Rt wb (.agg #[.slice ia im ic, .slice ib io id']) xb yb) := hvb
      clear S2 CJ hJb hvb hbb
      have CR : Hid (∀ w', Below wb.heap.size wb w' → Calls Tryz.prog 14 #[.slice pb Lb.length cb] w' fun e w9 => ∃ x y ok, JnP (shN F) (shD F) i x y ok ∧ MakesRRB w' x y ok e w9) := fun w' hb => (SB.out.gr.go hb).rjain (by omega)
      rw [LBn] at CR SB
      go_upto_region 22 with fail
      obtain ⟨wc, hwc⟩ : ∃ wc, wc = wb.alloc (.cells #[.slice ia im ic, .slice ib io id'] 47) := ⟨_, rfl⟩
      obtain ⟨b16, hb16⟩ : ∃ b16, b16 = wb.heap.size := ⟨_, rfl⟩
      have Bbc : Below wb.heap.size wb wc := by rw [hwc]; exact bel_al (bel_refl wb)
      have YC : Hid (Rt wc (.agg #[.slice ia im ic, .slice ib io id']) xb yb ∧ wc.cell? ⟨b16, 0, none⟩ = some (.slice ia im ic) ∧ wc.cell? ⟨b16, 1, none⟩ = some (.slice ib io id')) := ⟨RB'.out.mono Bbc, by rw [hwc, hb16]; simp [go_sem], by rw [hwc, hb16]; simp [go_sem]⟩
      have SC : Hid (GrS F i i w wc g cap b8 f (.slice oa om oc) (.slice ob on od) (.slice pb i cb) Lb L35 gg mb b11 b13 x7 y7 (.slice x1 y1 z1') (.slice x2 y2 z2)) := SB.out.go Bbc
      have CR2 : Hid (Calls Tryz.prog 14 #[.slice pb i cb] wc fun e w9 => ∃ x y ok, JnP (shN F) (shD F) i x y ok ∧ MakesRRB wc x y ok e w9) := CR.out wc Bbc
      rw [← hwc, ← hb16]
      clear hwc hb16 Bbc SB RB' CR
      go_wp2_with fail
      with_reducible refine Calls.mono CR2.out ?_
      rintro e wd ⟨xd, yd, okd, hJd, vd, rfl, hvd, hbd⟩
      obtain ⟨ja, jm, jc, jb, jo, jd, rfl⟩ : ∃ ja jm jc jb jo jd, vd = .agg #[.slice ja jm jc, .slice jb jo jd] := by
        obtain ⟨a, n, c, a', n', c', e, _, _⟩ := hvd
        exact ⟨_, _, _, _, _, _, e⟩
      obtain ⟨rfl, rfl, rfl⟩ := jnP_one HJ7.out hJd
      have YD : Hid (Rt wd (.agg #[.slice ia im ic, .slice ib io id']) xb yb ∧ wd.cell? ⟨b16, 0, none⟩ = some (.slice ia im ic) ∧ wd.cell? ⟨b16, 1, none⟩ = some (.slice ib io id')) := ⟨YC.out.1.mono hbd, cell_later hbd YC.out.2.1, cell_later hbd YC.out.2.2⟩
      have SD : Hid (GrS F i i w wd g cap b8 f (.slice oa om oc) (.slice ob on od) (.slice pb i cb) Lb L35 gg mb b11 b13 x7 y7 (.slice x1 y1 z1') (.slice x2 y2 z2)) := SC.out.go hbd
      have RD : Hid (RRt wd (.agg #[.slice ja jm jc, .slice jb jo jd]) x7 y7) := hvd
      clear YC SC CR2 hbd hvd hJd
      go_upto_region 23 with fail
      obtain ⟨we, hwe⟩ : ∃ we, we = wd.alloc (.cells #[.slice ja jm jc, .slice jb jo jd] 53) := ⟨_, rfl⟩
      obtain ⟨b18, hb18⟩ : ∃ b18, b18 = wd.heap.size := ⟨_, rfl⟩
      have Bde : Below wd.heap.size wd we := by rw [hwe]; exact bel_al (bel_refl wd)
      have SE := SD.out.go Bde
      have z0 : we.cell? ⟨b18, 0, none⟩ = some (.slice ja jm jc) := by rw [hwe, hb18]; simp [go_sem]
      have z1 : we.cell? ⟨b18, 1, none⟩ = some (.slice jb jo jd) := by rw [hwe, hb18]; simp [go_sem]
      have GE : Hid (GrE we.heap.size w we L35 gg mb b8 b11 b13 b16 b18 x7 y7 xb yb (.slice oa om oc) (.slice ob on od) (.slice x1 y1 z1') (.slice x2 y2 z2) (.slice ia im ic) (.slice ib io id') (.slice ja jm jc) (.slice jb jo jd)) :=
        ⟨SE.ga, SE.gr.r7, SE.rx, YD.out.1.mono Bde, RD.out.mono Bde, SE.gr.c0, SE.gr.c1, SE.k0, SE.k1, cell_later Bde YD.out.2.1, cell_later Bde YD.out.2.2, z0, z1, SE.t1, SE.t2, ⟨SE.ga.lt.1, SE.ga.lt.2, World.block_lt_of_cell? we _ SE.gr.c0, World.block_lt_of_cell? we _ SE.k0, World.block_lt_of_cell? we _ SE.t1, World.block_lt_of_cell? we _ (cell_later Bde YD.out.2.1), World.block_lt_of_cell? we _ z0, SE.gr.bel.size⟩, SE.gr.bel⟩
      rw [← hwe, ← hb18]
      clear hwe hb18 Bde SE z0 z1 SD RD YD
      have CD : Hid (∀ w', Below we.heap.size we w' → Calls Tryz.prog 22 #[.pointer (some ⟨gg, 0, none⟩)] w' fun e w9 => ∃ b, e = .returned (.slice (some ⟨b, 0, none⟩) 4 64) ∧ w'.heap.size ≤ b ∧ w9.rowIs b 3 64 (fun j => .int .i64 (DV35 j)) ∧ Below w'.heap.size w' w9) := fun w' hb => del35 gg mb w' (GE.out.ga.go hb)
      go_wp2_with fail
      with_reducible refine Calls.mono (CD.out we (bel_refl we)) ?_
      rintro e wf ⟨d1, rfl, hd1, hr1, hb1⟩
      have LD1 : Hid (we.heap.size ≤ d1) := hd1
      have R1 : Hid (wf.rowIs d1 3 64 (fun j => .int .i64 (DV35 j))) := hr1
      have B1 : Hid (Below we.heap.size we wf) := hb1
      clear hd1 hr1 hb1
      go_wp2_with fail
      with_reducible refine Calls.mono (CD.out wf B1.out) ?_
      rintro e wg ⟨d2, rfl, hd2, hr2, hb2⟩
      have HD : Hid (we.heap.size ≤ d1 ∧ d1 < d2 ∧ we.heap.size ≤ wg.heap.size) := ⟨LD1.out, Nat.lt_of_lt_of_le R1.out.lt hd2, Nat.le_trans B1.out.size hb2.size⟩
      have R2 : Hid (wg.rowIs d2 3 64 (fun j => .int .i64 (DV35 j))) := hr2
      have R3 : Hid (wg.rowIs d1 3 64 (fun j => .int .i64 (DV35 j))) := R1.out.of_block (hb2.block d1 R1.out.lt)
      have GG : Hid (GrE we.heap.size w wg L35 gg mb b8 b11 b13 b16 b18 x7 y7 xb yb (.slice oa om oc) (.slice ob on od) (.slice x1 y1 z1') (.slice x2 y2 z2) (.slice ia im ic) (.slice ib io id') (.slice ja jm jc) (.slice jb jo jd)) := GE.out.go (bel_go B1.out hb2)
      clear GE LD1 R1 B1 hd2 hr2 hb2 CD
      go_upto_region 25 with fail
      go_loopw [22] (fun t wq => ∃ (j : Nat) (f' : Nat → Int), j ≤ 4 ∧ t = .int .i64 (j : Int) ∧ Hid (wq.rowIs d1 3 64 (fun m => .int .i64 (f' m)) ∧ Fb (fun k => k = d1) wg wq)) (fun t _ => 4 - (RowKit.intOf t).toNat)
      case atStart => exact ⟨0, DV35, by omega, rfl, R3.out, Fb.refl _ _⟩
      case round =>
        obtain ⟨j, f', hj, rfl, hw⟩ := hrel
        have HW : Hid (wr.rowIs d1 3 64 (fun m => .int .i64 (f' m)) ∧ Fb (fun k => k = d1) wg wr) := hw
        clear hw
        by_cases hjn : j < 4
        · have k0 := HW.out.1.cell (i := j) (by omega)
          have f0 := HW.out.1.frozen j
          have HN : Hid ((wr.setCell ⟨d1, j, none⟩ (.int .i64 (-1))).rowIs d1 3 64 (fun m => .int .i64 ((fun m => if m = j then -1 else f' m) m)) ∧ Fb (fun k => k = d1) wg (wr.setCell ⟨d1, j, none⟩ (.int .i64 (-1)))) := ⟨(HW.out.1.set j (.int .i64 (-1))).congr fun m hm => by by_cases e : m = j <;> simp [e], HW.out.2.set (x := ⟨d1, j, none⟩) rfl (.int .i64 (-1))⟩
          have HI5 : (j : Int) < 4 := by omega
          clear HW
          go_wp2_with fail
          go_roundw
          case rel => exact ⟨j + 1, _, by omega, by go_num, HN.out⟩
          case measure => simp [RowKit.intOf]; omega
        obtain rfl : j = 4 := by omega
        go_upto_region 28 with fail
        have RA : Hid ((wr.alloc (.cells #[.int .i64 (-1), .int .i64 (-1), .int .i64 (-1)] 3)).rowIs d1 3 64 (fun m => .int .i64 (f' m))) := HW.out.1.alloc _
        have FA : Hid (Fb (fun k => k = d1) wg (wr.alloc (.cells #[.int .i64 (-1), .int .i64 (-1), .int .i64 (-1)] 3))) := HW.out.2.go (bel_al (bel_refl wr))
        clear HW
        go_upto_region 29 with (refine (id ?_ : wpList Tryz.prog _ _ (⟨some 117, _, _, _, _, _⟩ :: _) _ _); refine wp_appI rfl (.tmp 115) (.tmp 116) rfl d1 (.slice (some ⟨d1, 0, none⟩) 4 64) ((List.range 4).map f') rfl (rowI_ownsR RA.out (by omega) (by omega)) wr.heap.size 0 3 3 [-1, -1, -1] rfl rfl (fun m hm => by
          match m, hm with
          | 0, _ => simp [go_sem]
          | 1, _ => simp [go_sem]
          | 2, _ => simp [go_sem]) (by simp) (Nat.le_of_lt RA.out.lt) ?_; intro v7 w7' HV)
        obtain ⟨a7, cap7, e7, h71, h72, _⟩ := rowI_sl HV.out.1
        have hl7 : ((List.range 4).map f' ++ [-1, -1, -1]).length = 7 := by simp
        rw [hl7] at e7 h71
        subst e7
        have F7 : Hid (Fb (fun k => k = d1) wg w7') := FA.out.trans ⟨HV.out.2.os, HV.out.2.tape, HV.out.2.output, HV.out.2.size, fun i hi hn => HV.out.2.block i hi (fun e => hn (by injection e))⟩
        have G7 : Hid (GrE we.heap.size w w7' L35 gg mb b8 b11 b13 b16 b18 x7 y7 xb yb (.slice oa om oc) (.slice ob on od) (.slice x1 y1 z1') (.slice x2 y2 z2) (.slice ia im ic) (.slice ib io id') (.slice ja jm jc) (.slice jb jo jd)) := GG.out.fb HD.out.1 F7.out (rowI_odd R3.out)
        have Q7 : Hid (w7'.rowIs d2 3 64 (fun j => .int .i64 (DV35 j))) := R2.out.of_block (F7.out.block d2 R2.out.lt (by show ¬ d2 = d1; have := HD.out.2.1; omega))
        have Z7 : Hid (we.heap.size ≤ w7'.heap.size) := Nat.le_trans HD.out.2.2 F7.out.size
        clear HV RA FA GG R2 R3 F7
        have SM1 : Hid (Calls Tryz.prog 23 #[.slice (some ⟨d2, 0, none⟩) 4 64, .slice (some ⟨w7'.heap.size, 0, none⟩) 4 4] (w7'.alloc (.cells #[.int .i64 0, .int .i64 0, .int .i64 1, .int .i64 1] 3)) fun e w' => e = .returned (.bool true) ∧ Fb (fun k => k = d2) (w7'.alloc (.cells #[.int .i64 0, .int .i64 0, .int .i64 1, .int .i64 1] 3)) w') := same35 d2 w7' Q7.out
        go_wp2_with fail
        with_reducible refine Calls.mono SM1.out ?_
        rintro e w8' ⟨rfl, hf8⟩
        have G8 : Hid (GrE we.heap.size w w8' L35 gg mb b8 b11 b13 b16 b18 x7 y7 xb yb (.slice oa om oc) (.slice ob on od) (.slice x1 y1 z1') (.slice x2 y2 z2) (.slice ia im ic) (.slice ib io id') (.slice ja jm jc) (.slice jb jo jd)) := (G7.out.go (bel_al (bel_refl w7'))).fb (Nat.le_of_lt (Nat.lt_of_le_of_lt HD.out.1 HD.out.2.1)) hf8 (rowI_odd (Q7.out.alloc _))
        have Z8 : Hid (we.heap.size ≤ w8'.heap.size) := Nat.le_trans (Nat.le_trans Z7.out (bel_al (bel_refl w7') : Below w7'.heap.size w7' (w7'.alloc (.cells #[.int .i64 0, .int .i64 0, .int .i64 1, .int .i64 1] 3))).size) hf8.size
        clear G7 Q7 SM1 hf8
        have CD8 : Hid (Calls Tryz.prog 22 #[.pointer (some ⟨gg, 0, none⟩)] w8' fun e w9 => ∃ b, e = .returned (.slice (some ⟨b, 0, none⟩) 4 64) ∧ w8'.heap.size ≤ b ∧ w9.rowIs b 3 64 (fun j => .int .i64 (DV35 j)) ∧ Below w8'.heap.size w8' w9) := del35 gg mb w8' G8.out.ga
        go_wp2_with fail
        with_reducible refine Calls.mono CD8.out ?_
        rintro e wh ⟨d3, rfl, hd3, hr3, hb3⟩
        have Q9 : Hid (wh.rowIs d3 3 64 (fun j => .int .i64 (DV35 j))) := hr3
        have SM2 : Hid (Calls Tryz.prog 23 #[.slice (some ⟨d3, 0, none⟩) 4 64, .slice (some ⟨wh.heap.size, 0, none⟩) 4 4] (wh.alloc (.cells #[.int .i64 0, .int .i64 0, .int .i64 1, .int .i64 1] 3)) fun e w' => e = .returned (.bool true) ∧ Fb (fun k => k = d3) (wh.alloc (.cells #[.int .i64 0, .int .i64 0, .int .i64 1, .int .i64 1] 3)) w') := same35 d3 wh Q9.out
        have G9 : Hid (GrE we.heap.size w wh L35 gg mb b8 b11 b13 b16 b18 x7 y7 xb yb (.slice oa om oc) (.slice ob on od) (.slice x1 y1 z1') (.slice x2 y2 z2) (.slice ia im ic) (.slice ib io id') (.slice ja jm jc) (.slice jb jo jd)) := G8.out.go hb3
        have LD3 : Hid (we.heap.size ≤ d3) := Nat.le_trans Z8.out hd3
        clear CD8 G8 hd3 hr3 hb3
        go_wp2_with fail
        with_reducible refine Calls.mono SM2.out ?_
        rintro e wk ⟨rfl, hfk⟩
        have GK : Hid (GrE we.heap.size w wk L35 gg mb b8 b11 b13 b16 b18 x7 y7 xb yb (.slice oa om oc) (.slice ob on od) (.slice x1 y1 z1') (.slice x2 y2 z2) (.slice ia im ic) (.slice ib io id') (.slice ja jm jc) (.slice jb jo jd)) := (G9.out.go (bel_al (bel_refl wh))).fb LD3.out hfk (rowI_odd (Q9.out.alloc _))
        clear G9 Q9 SM2 hfk LD3
        have kx0 := GK.out.k0
        have kx1 := GK.out.k1
        have kz0 := GK.out.z0
        have kz1 := GK.out.z1
        have CQ : Hid (∀ w', Below wk.heap.size wk w' → Calls Tryz.prog 15 #[.agg #[.slice x1 y1 z1', .slice x2 y2 z2], .agg #[.slice ja jm jc, .slice jb jo jd]] w' fun e w9 => e = .returned (.bool true) ∧ Below w'.heap.size w' w9) := fun w' hb => same3_true _ _ _ _ w' (GK.out.rx.mono hb) (GK.out.rz.mono hb) HJ7.out.2.1 HJ7.out.2.2.1
        have CY : Hid (0 < i → ∀ w', Below wk.heap.size wk w' → Calls Tryz.prog 21 #[.agg #[.slice ia im ic, .slice ib io id'], .agg #[.slice oa om oc, .slice ob on od]] w' fun e w9 => e = .returned (.int .i64 (-1)) ∧ Below w'.heap.size w' w9) := fun h0 w' hb => cmp7 h0 (HJB.out.2.2.2.2 (nu7_pos h0)) _ _ w' (GK.out.ry.mono hb) (GK.out.r7.mono hb)
        have CG : Hid (∀ w', Below wk.heap.size wk w' → Calls Tryz.prog 16 #[] w' fun e w9 => e = .returned (.bool true) ∧ Below w'.heap.size w' w9) := fun w' hb => started18 w' (HT.out.go (bel_go GK.out.bel hb))
        have o1 : FloatKind.f64.format.order 4613937818241073152 4613937818241073152 = some Ordering.eq := by decide +kernel
        have o2 : FloatKind.f64.format.order 4617315517961601024 4617315517961601024 = some Ordering.eq := by decide +kernel
        rcases Nat.eq_zero_or_pos i with hi0 | hi0
        · have hob : okb = false := by rw [HJB.out.1, hi0]; rfl
          subst hob
          subst hi0
          go_wp2_with fail
          with_reducible refine Calls.mono (CQ.out wk (bel_refl wk)) ?_
          rintro e wl ⟨rfl, hbl⟩
          have BL : Hid (Below wk.heap.size wk wl) := hbl
          have m1 := cell_later hbl GK.out.t1
          have m2 := cell_later hbl GK.out.t2
          clear hbl
          go_wp2_with fail
          with_reducible refine Calls.mono (CG.out wl BL.out) ?_
          rintro e wm ⟨rfl, hbm⟩
          have BM : Hid (Below w.heap.size w wm) := bel_go GK.out.bel (bel_go BL.out hbm)
          clear hbm
          go_wp2_with fail
          go_ret
          exact ⟨rfl, BM.out⟩
        have hob : okb = true := by rw [HJB.out.1]; exact decide_eq_true (nu7_pos hi0)
        subst hob
        have hi1 : ¬ (i : Int) = 0 := by omega
        have hi2 : (0 : Int) < (i : Int) := by omega
        have ky0 := GK.out.y0
        have ky1 := GK.out.y1
        go_wp2_with fail
        with_reducible refine Calls.mono (CQ.out wk (bel_refl wk)) ?_
        rintro e wl ⟨rfl, hbl⟩
        have BL : Hid (Below wk.heap.size wk wl) := hbl
        have n0' := cell_later hbl GK.out.y0
        have n1' := cell_later hbl GK.out.y1
        have n2' := cell_later hbl GK.out.c0
        have n3' := cell_later hbl GK.out.c1
        clear hbl
        go_wp2_with fail
        with_reducible refine Calls.mono (CY.out hi0 wl BL.out) ?_
        rintro e wn ⟨rfl, hbn⟩
        have BN : Hid (Below wk.heap.size wk wn) := bel_go BL.out hbn
        have m1 := cell_later BN.out GK.out.t1
        have m2 := cell_later BN.out GK.out.t2
        clear hbn
        go_wp2_with fail
        with_reducible refine Calls.mono (CG.out wn BN.out) ?_
        rintro e wm ⟨rfl, hbm⟩
        have BM : Hid (Below w.heap.size w wm) := bel_go GK.out.bel (bel_go BN.out hbm)
        clear hbm
        go_wp2_with fail
        go_ret
        exact ⟨rfl, BM.out⟩
theorem wf_i64G {n : Int} (h : (Lit.int .i64 n).wf = true) : -9223372036854775808 ≤ n ∧ n ≤ 9223372036854775807 := by
  have hmin : IntKind.i64.min = -9223372036854775808 := rfl
  have hmax : IntKind.i64.max = 9223372036854775807 := rfl
  have h2 : IntKind.i64.min ≤ n ∧ n ≤ IntKind.i64.max := by simpa [Lit.wf] using h
  rw [hmin, hmax] at h2
  exact h2
end Go.Proofs.YtfkkomppfghagaaGreatDoor
namespace Go.Proofs.YtfkkomppfghagaaGreatDoor
open Go.RowKit Go.ChangeShapes
set_option maxRecDepth 100000
set_option linter.unusedVariables false
theorem ownD : ownKnob Tryz.prog.godebug = none := by kernel_rfl
theorem laidOutD : laidOutB Tryz.prog = true := by kernel_rfl
def AbC (w : World) (a : Option Addr) (len cap : Nat) (F : Nat → Nat → Int) : Prop := AbIn w a len F ∧ len ≤ 9223372036854775807
theorem pairs_c {H : Type} {enc : TypeId × Value → H} {w : World} {base : Nat} {spare : Nat → Bool} {held : Bool} {fuel : Nat} {a : Option Addr} {len cap : Nat} {x : DataW H × List MemPlace} (h : DataW.trod enc Tryz.prog w base spare held fuel 23 (Value.slice a len cap).cells.toList = some x) : ∃ F, AbC w a len cap F := by
  obtain ⟨⟨F, hF⟩, h1, h2⟩ := pairs_of h
  simp only [maxLen] at h2
  exact ⟨F, hF, by omega⟩
end Go.Proofs.YtfkkomppfghagaaGreatDoor
