/- Contracts of the program's functions, part 24: own work, joined in build order. -/
import Derived.Test.YtmiiaomdenpceaaGreatDoorJ23
import Derived.WalkKit
import Derived.ProofKit
import Derived.OpenShut
import Derived.ShutString
import Derived.ChangeOld
import Derived.Below
import Derived.LaidMore
import Derived.Lib.LaidTab
namespace Go.Proofs.YtmiiaomdenpceaaGreatDoor
open Go.RowKit
set_option maxRecDepth 100000
set_option linter.unusedVariables false
set_option maxHeartbeats 1000000 in
theorem cut3_any (a : Option Addr) (len cap : Nat) (D : Nat → Nat) (w : World) (h : BSl w a len cap D) :
    Calls Tryz.prog 40 #[.slice a len cap] w fun e w' => e = .returned (.slice a (min len 300) cap) ∧ w' = w := by
  have hl2 : (len : Int) ≤ 9223372036854775807 := by have := h.1; have := h.2.1; omega
  by_cases hl : 300 < len
  · obtain ⟨b, o, rfl, hw⟩ : ∃ b o, a = some ⟨b, o, none⟩ ∧ ∀ i, i < len → w.cell? ⟨b, o + i, none⟩ = some (.int .u8 (D i : Nat)) := h.2.2.2.resolve_left (by omega)
    have sl : ∀ w, (Instr.slice 22 (.slice (some ⟨b, o, none⟩) len cap) none (some (.int .i64 300)) none).run Tryz.prog w = .ok (.slice (some ⟨b, o, none⟩) 300 cap) w := slice_bh b o len cap 300 (by have := h.1; omega)
    have hcz : ¬ cap = 0 := by have := h.1; omega
    have hcz2 : (300 : Int) ≤ cap := by have := h.1; omega
    have haz : (⟨b, o, none⟩ : Addr).add 0 = ⟨b, o, none⟩ := by simp [Addr.add]
    have hd : decide (300 < (len : Int)) = true := decide_eq_true (by omega)
    have HH : Hid (min len 300 = 300) := by show _ = _; omega
    clear h hw
    go_enter Tryz.func40, Tryz.ntmps40
    go_wp2_with fail
    go_ret
    rw [HH.out]
    exact ⟨rfl, rfl⟩
  · have hd : decide (300 < (len : Int)) = false := decide_eq_false (by omega)
    have HH : Hid (min len 300 = len) := by show _ = _; omega
    clear h
    go_enter Tryz.func40, Tryz.ntmps40
    go_wp2_with fail
    go_ret
    rw [HH.out]
    exact ⟨rfl, rfl⟩
/-- Bytes that are handed in: what comes of them. -/
structure Fed3 (w : World) (a : Option Addr) (len cap m x : Nat) : Prop where
  cut : ∀ w', Below w.heap.size w w' → Calls Tryz.prog 40 #[.slice a len cap] w' fun e w2 => e = .returned (.slice a m cap) ∧ w2 = w'
  nat : ∀ w', Below w.heap.size w w' → Calls Tryz.prog 22 #[.slice a m cap] w' (Makes w' x)
  ref : ∀ w', Below w.heap.size w w' → Calls Tryz.prog 41 #[.slice a m cap] w' (RMakes w' x)
  rs : x < P 38
theorem fed3_of {w : World} {a : Option Addr} {len cap : Nat} {D : Nat → Nat} (h : BSl w a len cap D) : ∃ m x, Fed3 w a len cap m x := by
  refine ⟨Min.min len 300, BV D (Min.min len 300), fun w' hb => ?_, fun w' hb => ?_, fun w' hb => ?_, ?_⟩
  · exact cut3_any a len cap D w' (h.mono hb)
  · exact fromBytes_any _ _ _ _ _ ((h.min 300).mono hb) (by omega)
  · exact rfromBytes_any _ _ _ _ _ ((h.min 300).mono hb) (by omega)
  · exact BV_P' (h.min 300).2.2.1 (by omega)
theorem Fed3.go {w w' : World} {a : Option Addr} {len cap m x : Nat} (h : Fed3 w a len cap m x) (hb : Below w.heap.size w w') : Fed3 w' a len cap m x :=
  ⟨fun w2 h2 => h.cut w2 (bel_go hb h2), fun w2 h2 => h.nat w2 (bel_go hb h2), fun w2 h2 => h.ref w2 (bel_go hb h2), h.rs⟩
theorem rs38 {x : Nat} (h : x < P 38) : RS x := ⟨P_up h (by omega)⟩
theorem orOne_38 {y : Nat} (h : y < P 38) : orOne y < P 38 := by
  unfold orOne
  split
  · exact Nat.lt_of_lt_of_le (by rw [P_one]; omega) (P_le (show 1 ≤ 38 by omega))
  · exact h
set_option maxHeartbeats 4000000 in
theorem made3_true (a0 : Option Addr) (l0 k0 : Nat) (a5 : Option Addr) (l5 k5 : Nat) (m0 m5 x y : Nat) (w : World) (h0 : Fed3 w a0 l0 k0 m0 x) (h5 : Fed3 w a5 l5 k5 m5 y) (hT : Tab w) :
    Calls Tryz.prog 8 #[.slice a0 l0 k0, .slice a5 l5 k5] w (MakesM w (x / Nat.gcd x (orOne y)) (orOne y / Nat.gcd x (orOne y))) := by
  by_cases hy : y = 0
  · have EY : Hid (orOne y = 1) := by show orOne y = 1; unfold orOne; rw [if_pos hy]
    have FN : Hid (∀ v u w, IsNat w v x → IsNat w u y → Tab w → Calls Tryz.prog 21 #[v, u] w (MakesRB w 0 1 false)) := fun v u w p q _ => from_none v u x w p (by rw [hy] at q; exact q)
    have FM : Hid (∀ v u w, RNat w v x → RNat w u y → Calls Tryz.prog 16 #[v, u] w (MakesRRB w 0 1 false)) := fun v u w p q => rfrom2_none v u x y w p q (rs38 h0.rs).rsome (rs38 h5.rs).rsome hy
    clear hy
    have FF : Hid (Fed3 w a0 l0 k0 m0 x ∧ Fed3 w a5 l5 k5 m5 y ∧ Tab w) := ⟨h0, h5, hT⟩
    have S0 : Hid _ := ((sy_start w).box (.slice none 0 0) (.slice none 0 0) 28 _ rfl).box (.slice none 0 0) (.slice none 0 0) 32 _ rfl
    simp only [World.size_alloc] at S0
    clear h0 h5 hT
    go_enter Tryz.func8, Tryz.ntmps8
    go_wp2_with fail
    obtain ⟨r, hr⟩ : ∃ r, r = w.heap.size := ⟨_, rfl⟩
    obtain ⟨w0, hw0⟩ : ∃ w0, w0 = (w.alloc (.cells #[.slice none 0 0, .slice none 0 0] 28)).alloc (.cells #[.slice none 0 0, .slice none 0 0] 32) := ⟨_, rfl⟩
    rw [← hw0, ← hr] at S0
    rw [← hw0, ← hr]
    clear hw0 hr
    refine (FF.out.1.cut _ S0.out.bel).mono ?_
    rintro e wx ⟨rfl, hwx⟩
    rw [hwx]
    clear hwx wx
    go_wp2_with fail
    refine (FF.out.2.1.cut _ S0.out.bel).mono ?_
    rintro e wx ⟨rfl, hwx⟩
    rw [hwx]
    clear hwx wx
    go_wp2_with fail
    refine (FF.out.1.nat _ S0.out.bel).mono ?_
    rintro e w1 ⟨v1, rfl, hv1, hb1⟩
    have S1 : Hid _ := (S0.out.go hb1).addN hv1
    clear hv1 hb1 S0
    go_wp2_with fail
    refine (FF.out.2.1.nat _ S1.out.bel).mono ?_
    rintro e w2 ⟨v2, rfl, hv2, hb2⟩
    have S2 : Hid _ := (S1.out.go hb2).addN hv2
    clear hv2 hb2 S1
    go_wp2_with fail
    have FR : Hid (Calls Tryz.prog 21 #[v1, v2] w2 (MakesRB w2 0 1 false)) := FN.out v1 v2 _ (S2.out.at v1 x) (S2.out.at v2 y) (FF.out.2.2.go S2.out.bel)
    refine FR.out.mono ?_
    rintro e w3 ⟨v3, rfl, hv3, hb3⟩
    have hv3' := hv3
    obtain ⟨a3, n3, c3, d3, m3, g3, ev3, _, _⟩ := hv3'.raw
    subst ev3
    have HL : Hid (r + 1 < w3.heap.size) := (S2.out.go hb3).lt (r + 1)
    have S3 : Hid _ := ((S2.out.go hb3).addF hv3).box (.slice a3 n3 c3) (.slice d3 m3 g3) 28 _ rfl
    clear hv3 hv3' hb3 S2 FR
    go_wp2_with fail
    obtain ⟨g, hg⟩ : ∃ g, g = w3.heap.size := ⟨_, rfl⟩
    obtain ⟨w4, hw4⟩ : ∃ w4, w4 = w3.alloc (.cells #[.slice a3 n3 c3, .slice d3 m3 g3] 28) := ⟨_, rfl⟩
    rw [← hw4, ← hg] at S3
    rw [← hw4, ← hg]
    have HG : Hid (r + 1 < g) := by rw [hg]; exact HL
    clear hw4 hg HL
    refine (FF.out.1.ref _ S3.out.bel).mono ?_
    rintro e w5 ⟨v5, rfl, hv5, hb5⟩
    have S5 : Hid _ := (S3.out.go hb5).addM hv5
    clear hv5 hb5 S3
    go_wp2_with fail
    refine (FF.out.2.1.ref _ S5.out.bel).mono ?_
    rintro e w6 ⟨v6, rfl, hv6, hb6⟩
    have S6 : Hid _ := (S5.out.go hb6).addM hv6
    clear hv6 hb6 S5
    go_wp2_with fail
    have FR : Hid (Calls Tryz.prog 16 #[v5, v6] w6 (MakesRRB w6 0 1 false)) := FM.out v5 v6 _ (S6.out.rat v5 x) (S6.out.rat v6 y)
    refine FR.out.mono ?_
    rintro e w7 ⟨v7, rfl, hv7, hb7⟩
    have hv7' := hv7
    obtain ⟨a7, n7, c7, d7, m7, g7, ev7, _, _⟩ := hv7'
    subst ev7
    have HL : Hid (g < w7.heap.size) := (S6.out.go hb7).lt g
    have S7 : Hid _ := ((S6.out.go hb7).addG hv7).box (.slice a7 n7 c7) (.slice d7 m7 g7) 32 _ rfl
    clear hv7 hb7 S6 FR
    have q0 := S7.out.cel g 0 (.slice a3 n3 c3)
    have q1 := S7.out.cel g 1 (.slice d3 m3 g3)
    go_wp2_with fail
    obtain ⟨h, hh⟩ : ∃ h, h = w7.heap.size := ⟨_, rfl⟩
    obtain ⟨w8, hw8⟩ : ∃ w8, w8 = w7.alloc (.cells #[.slice a7 n7 c7, .slice d7 m7 g7] 32) := ⟨_, rfl⟩
    rw [← hw8, ← hh] at S7
    rw [← hw8, ← hh]
    have HH : Hid (g < h) := by rw [hh]; exact HL
    clear hw8 hh HL q0 q1
    refine (FF.out.1.nat _ S7.out.bel).mono ?_
    rintro e w10 ⟨v10, rfl, hv10, hb10⟩
    have S10 : Hid _ := (S7.out.go hb10).addN hv10
    clear hv10 hb10 S7
    go_wp2_with fail
    refine (of_any 1 _ (by omega)).mono ?_
    rintro e w11 ⟨v11, rfl, hv11, hb11⟩
    have S11 : Hid _ := (S10.out.go hb11).addN hv11
    clear hv11 hb11 S10
    go_wp2_with fail
    refine (from_any v10 v11 x 1 _ (S11.out.at v10 x) (S11.out.at v11 1) (rs38 FF.out.1.rs) (rs_word (by omega)) (by omega) (FF.out.2.2.go S11.out.bel)).mono ?_
    rintro e w12 ⟨v12, rfl, hv12, hb12⟩
    have hv12' := hv12
    obtain ⟨a12, n12, c12, d12, m12, g12, ev12, _, _⟩ := hv12'.raw
    subst ev12
    have S12 : Hid _ := (S11.out.go hb12).addF hv12
    clear hv12 hv12' hb12 S11
    have q0 := S12.out.cel g 0 (.slice a3 n3 c3)
    have q1 := S12.out.cel g 1 (.slice d3 m3 g3)
    have f0 := S12.out.fz g 0
    have f1 := S12.out.fz g 1
    have S13 : Hid _ := (((S12.out.set (b := g) (i := 0) q0 (S12.out.lo g) [(h, 0, .slice a7 n7 c7), (h, 1, .slice d7 m7 g7), (r, 0, .slice none 0 0), (r, 1, .slice none 0 0), (r + 1, 0, .slice none 0 0), (r + 1, 1, .slice none 0 0)] (by have := HG.out; have := HH.out; simp; omega) (.slice a12 n12 c12)).addC (b := g) (i := 1) (v := .slice d3 m3 g3) (by simp [go_sem, q1])).set (b := g) (i := 1) (show (w12.setCell ⟨g, 0, none⟩ (.slice a12 n12 c12)).cell? ⟨g, 1, none⟩ = some (.slice d3 m3 g3) by simp [go_sem, q1]) (S12.out.lo g) [(h, 0, .slice a7 n7 c7), (h, 1, .slice d7 m7 g7), (r, 0, .slice none 0 0), (r, 1, .slice none 0 0), (r + 1, 0, .slice none 0 0), (r + 1, 1, .slice none 0 0)] (by have := HG.out; have := HH.out; simp; omega) (.slice d12 m12 g12))
    have e0 : ((w12.setCell ⟨g, 0, none⟩ (.slice a12 n12 c12)).setCell ⟨g, 1, none⟩ (.slice d12 m12 g12)).cell? ⟨g, 0, none⟩ = some (.slice a12 n12 c12) := by simp [go_sem, q0]
    have e1 : ((w12.setCell ⟨g, 0, none⟩ (.slice a12 n12 c12)).setCell ⟨g, 1, none⟩ (.slice d12 m12 g12)).cell? ⟨g, 1, none⟩ = some (.slice d12 m12 g12) := by simp [go_sem, q1]
    have S14 : Hid _ := (S13.out.addC e0).addC e1
    clear S13 e0 e1
    go_wp2_with fail
    obtain ⟨w14, hw14⟩ : ∃ w14, w14 = (w12.setCell ⟨g, 0, none⟩ (.slice a12 n12 c12)).setCell ⟨g, 1, none⟩ (.slice d12 m12 g12) := ⟨_, rfl⟩
    rw [← hw14] at S14
    rw [← hw14]
    clear hw14 q0 q1 f0 f1 S12
    refine (FF.out.1.ref _ S14.out.bel).mono ?_
    rintro e w15 ⟨v15, rfl, hv15, hb15⟩
    have S15 : Hid _ := (S14.out.go hb15).addM hv15
    clear hv15 hb15 S14
    go_wp2_with fail
    refine (rof_any 1 _ (by omega)).mono ?_
    rintro e w16 ⟨v16, rfl, hv16, hb16⟩
    have S16 : Hid _ := (S15.out.go hb16).addM hv16
    clear hv16 hb16 S15
    go_wp2_with fail
    refine (rfrom2_yes v15 v16 x 1 _ (S16.out.rat v15 x) (S16.out.rat v16 1) (rs38 FF.out.1.rs).rsome (rsome_word (by omega)) (by omega)).mono ?_
    rintro e w17 ⟨v17, rfl, hv17, hb17⟩
    have hv17' := hv17
    obtain ⟨a17, n17, c17, d17, m17, g17, ev17, _, _⟩ := hv17'
    subst ev17
    have S17 : Hid _ := (S16.out.go hb17).addG hv17
    clear hv17 hb17 S16
    have q0 := S17.out.cel h 0 (.slice a7 n7 c7)
    have q1 := S17.out.cel h 1 (.slice d7 m7 g7)
    have f0 := S17.out.fz h 0
    have f1 := S17.out.fz h 1
    have S18 : Hid _ := (((S17.out.set (b := h) (i := 0) q0 (S17.out.lo h) [(g, 0, .slice a12 n12 c12), (g, 1, .slice d12 m12 g12), (r, 0, .slice none 0 0), (r, 1, .slice none 0 0), (r + 1, 0, .slice none 0 0), (r + 1, 1, .slice none 0 0)] (by have := HG.out; have := HH.out; simp; omega) (.slice a17 n17 c17)).addC (b := h) (i := 1) (v := .slice d7 m7 g7) (by simp [go_sem, q1])).set (b := h) (i := 1) (show (w17.setCell ⟨h, 0, none⟩ (.slice a17 n17 c17)).cell? ⟨h, 1, none⟩ = some (.slice d7 m7 g7) by simp [go_sem, q1]) (S17.out.lo h) [(g, 0, .slice a12 n12 c12), (g, 1, .slice d12 m12 g12), (r, 0, .slice none 0 0), (r, 1, .slice none 0 0), (r + 1, 0, .slice none 0 0), (r + 1, 1, .slice none 0 0)] (by have := HG.out; have := HH.out; simp; omega) (.slice d17 m17 g17))
    have e0 : ((w17.setCell ⟨h, 0, none⟩ (.slice a17 n17 c17)).setCell ⟨h, 1, none⟩ (.slice d17 m17 g17)).cell? ⟨h, 0, none⟩ = some (.slice a17 n17 c17) := by simp [go_sem, q0]
    have e1 : ((w17.setCell ⟨h, 0, none⟩ (.slice a17 n17 c17)).setCell ⟨h, 1, none⟩ (.slice d17 m17 g17)).cell? ⟨h, 1, none⟩ = some (.slice d17 m17 g17) := by simp [go_sem, q1]
    have S19 : Hid _ := (S18.out.addC e0).addC e1
    clear S18 e0 e1
    go_wp2_with fail
    obtain ⟨w19, hw19⟩ : ∃ w19, w19 = (w17.setCell ⟨h, 0, none⟩ (.slice a17 n17 c17)).setCell ⟨h, 1, none⟩ (.slice d17 m17 g17) := ⟨_, rfl⟩
    rw [← hw19] at S19
    rw [← hw19]
    clear hw19 q0 q1 f0 f1 S17
    have z0 := S19.out.cel r 0 (.slice none 0 0)
    have z1 := S19.out.cel r 1 (.slice none 0 0)
    have z2 := S19.out.cel (r + 1) 0 (.slice none 0 0)
    have z3 := S19.out.cel (r + 1) 1 (.slice none 0 0)
    have y0 := S19.out.fz r 0
    have y1 := S19.out.fz r 1
    have y2 := S19.out.fz (r + 1) 0
    have y3 := S19.out.fz (r + 1) 1
    have p0 := S19.out.cel g 0 (.slice a12 n12 c12)
    have p1 := S19.out.cel g 1 (.slice d12 m12 g12)
    have p2 := S19.out.cel h 0 (.slice a17 n17 c17)
    have p3 := S19.out.cel h 1 (.slice d17 m17 g17)
    have nb1 : ¬ r = g := by have := HG.out; omega
    have nb2 : ¬ r + 1 = g := by have := HG.out; omega
    have nb3 : ¬ r = h := by have := HG.out; have := HH.out; omega
    have nb4 : ¬ r + 1 = h := by have := HG.out; have := HH.out; omega
    have nb5 : ¬ g = r := fun e => nb1 e.symm
    have nb6 : ¬ g = r + 1 := fun e => nb2 e.symm
    have nb7 : ¬ h = r := fun e => nb3 e.symm
    have nb8 : ¬ h = r + 1 := fun e => nb4 e.symm
    have Z : Hid _ := made_put (w0 := w) (s1 := .slice a12 n12 c12) (s2 := .slice d12 m12 g12) (t1 := .slice a17 n17 c17) (t2 := .slice d17 m17 g17) (fun i hi => by obtain rfl | rfl : i = 0 ∨ i = 1 := (by omega); exact ⟨z0, y0⟩; exact ⟨z1, y1⟩) (fun i hi => by obtain rfl | rfl : i = 0 ∨ i = 1 := (by omega); exact ⟨z2, y2⟩; exact ⟨z3, y3⟩) (S19.out.fr (.agg #[.slice a12 n12 c12, .slice d12 m12 g12]) (x / Nat.gcd x 1) (1 / Nat.gcd x 1)) (S19.out.rfr (.agg #[.slice a17 n17 c17, .slice d17 m17 g17]) (x / Nat.gcd x 1) (1 / Nat.gcd x 1)) S19.out.bel (S19.out.lo r)
    go_region
    go_wp2_with fail
    refine bodyPost_ret (v := .tuple #[.agg #[.slice a12 n12 c12, .slice d12 m12 g12], .agg #[.slice a17 n17 c17, .slice d17 m17 g17]]) (by simp [results, Tryz.results8, go_sem, z0, z1, z2, z3]) rfl ?_
    rw [EY.out]
    exact ⟨_, _, rfl, Z.out.1.mono (bel_dr (bel_refl _)), Z.out.2.1.mono (bel_dr (bel_refl _)), bel_dr Z.out.2.2⟩
  · have EY : Hid (orOne y = y) := by show orOne y = y; unfold orOne; rw [if_neg hy]
    have FN : Hid (∀ v u w, IsNat w v x → IsNat w u y → Tab w → Calls Tryz.prog 21 #[v, u] w (MakesRB w (x / Nat.gcd x y) (y / Nat.gcd x y) true)) := fun v u w p q t => from_any v u x y w p q (rs38 h0.rs) (rs38 h5.rs) (by omega) t
    have FM : Hid (∀ v u w, RNat w v x → RNat w u y → Calls Tryz.prog 16 #[v, u] w (MakesRRB w (x / Nat.gcd x y) (y / Nat.gcd x y) true)) := fun v u w p q => rfrom2_yes v u x y w p q (rs38 h0.rs).rsome (rs38 h5.rs).rsome (by omega)
    clear hy
    have FF : Hid (Fed3 w a0 l0 k0 m0 x ∧ Fed3 w a5 l5 k5 m5 y ∧ Tab w) := ⟨h0, h5, hT⟩
    have S0 : Hid _ := ((sy_start w).box (.slice none 0 0) (.slice none 0 0) 28 _ rfl).box (.slice none 0 0) (.slice none 0 0) 32 _ rfl
    simp only [World.size_alloc] at S0
    clear h0 h5 hT
    go_enter Tryz.func8, Tryz.ntmps8
    go_wp2_with fail
    obtain ⟨r, hr⟩ : ∃ r, r = w.heap.size := ⟨_, rfl⟩
    obtain ⟨w0, hw0⟩ : ∃ w0, w0 = (w.alloc (.cells #[.slice none 0 0, .slice none 0 0] 28)).alloc (.cells #[.slice none 0 0, .slice none 0 0] 32) := ⟨_, rfl⟩
    rw [← hw0, ← hr] at S0
    rw [← hw0, ← hr]
    clear hw0 hr
    refine (FF.out.1.cut _ S0.out.bel).mono ?_
    rintro e wx ⟨rfl, hwx⟩
    rw [hwx]
    clear hwx wx
    go_wp2_with fail
    refine (FF.out.2.1.cut _ S0.out.bel).mono ?_
    rintro e wx ⟨rfl, hwx⟩
    rw [hwx]
    clear hwx wx
    go_wp2_with fail
    refine (FF.out.1.nat _ S0.out.bel).mono ?_
    rintro e w1 ⟨v1, rfl, hv1, hb1⟩
    have S1 : Hid _ := (S0.out.go hb1).addN hv1
    clear hv1 hb1 S0
    go_wp2_with fail
    refine (FF.out.2.1.nat _ S1.out.bel).mono ?_
    rintro e w2 ⟨v2, rfl, hv2, hb2⟩
    have S2 : Hid _ := (S1.out.go hb2).addN hv2
    clear hv2 hb2 S1
    go_wp2_with fail
    have FR : Hid (Calls Tryz.prog 21 #[v1, v2] w2 (MakesRB w2 (x / Nat.gcd x y) (y / Nat.gcd x y) true)) := FN.out v1 v2 _ (S2.out.at v1 x) (S2.out.at v2 y) (FF.out.2.2.go S2.out.bel)
    refine FR.out.mono ?_
    rintro e w3 ⟨v3, rfl, hv3, hb3⟩
    have hv3' := hv3
    obtain ⟨a3, n3, c3, d3, m3, g3, ev3, _, _⟩ := hv3'.raw
    subst ev3
    have HL : Hid (r + 1 < w3.heap.size) := (S2.out.go hb3).lt (r + 1)
    have S3 : Hid _ := ((S2.out.go hb3).addF hv3).box (.slice a3 n3 c3) (.slice d3 m3 g3) 28 _ rfl
    clear hv3 hv3' hb3 S2 FR
    go_wp2_with fail
    obtain ⟨g, hg⟩ : ∃ g, g = w3.heap.size := ⟨_, rfl⟩
    obtain ⟨w4, hw4⟩ : ∃ w4, w4 = w3.alloc (.cells #[.slice a3 n3 c3, .slice d3 m3 g3] 28) := ⟨_, rfl⟩
    rw [← hw4, ← hg] at S3
    rw [← hw4, ← hg]
    have HG : Hid (r + 1 < g) := by rw [hg]; exact HL
    clear hw4 hg HL
    refine (FF.out.1.ref _ S3.out.bel).mono ?_
    rintro e w5 ⟨v5, rfl, hv5, hb5⟩
    have S5 : Hid _ := (S3.out.go hb5).addM hv5
    clear hv5 hb5 S3
    go_wp2_with fail
    refine (FF.out.2.1.ref _ S5.out.bel).mono ?_
    rintro e w6 ⟨v6, rfl, hv6, hb6⟩
    have S6 : Hid _ := (S5.out.go hb6).addM hv6
    clear hv6 hb6 S5
    go_wp2_with fail
    have FR : Hid (Calls Tryz.prog 16 #[v5, v6] w6 (MakesRRB w6 (x / Nat.gcd x y) (y / Nat.gcd x y) true)) := FM.out v5 v6 _ (S6.out.rat v5 x) (S6.out.rat v6 y)
    refine FR.out.mono ?_
    rintro e w7 ⟨v7, rfl, hv7, hb7⟩
    have hv7' := hv7
    obtain ⟨a7, n7, c7, d7, m7, g7, ev7, _, _⟩ := hv7'
    subst ev7
    have HL : Hid (g < w7.heap.size) := (S6.out.go hb7).lt g
    have S7 : Hid _ := ((S6.out.go hb7).addG hv7).box (.slice a7 n7 c7) (.slice d7 m7 g7) 32 _ rfl
    clear hv7 hb7 S6 FR
    have q0 := S7.out.cel g 0 (.slice a3 n3 c3)
    have q1 := S7.out.cel g 1 (.slice d3 m3 g3)
    go_wp2_with fail
    obtain ⟨h, hh⟩ : ∃ h, h = w7.heap.size := ⟨_, rfl⟩
    obtain ⟨w8, hw8⟩ : ∃ w8, w8 = w7.alloc (.cells #[.slice a7 n7 c7, .slice d7 m7 g7] 32) := ⟨_, rfl⟩
    rw [← hw8, ← hh] at S7
    rw [← hw8, ← hh]
    have HH : Hid (g < h) := by rw [hh]; exact HL
    clear hw8 hh HL q0 q1
    have z0 := S7.out.cel r 0 (.slice none 0 0)
    have z1 := S7.out.cel r 1 (.slice none 0 0)
    have z2 := S7.out.cel (r + 1) 0 (.slice none 0 0)
    have z3 := S7.out.cel (r + 1) 1 (.slice none 0 0)
    have y0 := S7.out.fz r 0
    have y1 := S7.out.fz r 1
    have y2 := S7.out.fz (r + 1) 0
    have y3 := S7.out.fz (r + 1) 1
    have p0 := S7.out.cel g 0 (.slice a3 n3 c3)
    have p1 := S7.out.cel g 1 (.slice d3 m3 g3)
    have p2 := S7.out.cel h 0 (.slice a7 n7 c7)
    have p3 := S7.out.cel h 1 (.slice d7 m7 g7)
    have nb1 : ¬ r = g := by have := HG.out; omega
    have nb2 : ¬ r + 1 = g := by have := HG.out; omega
    have nb3 : ¬ r = h := by have := HG.out; have := HH.out; omega
    have nb4 : ¬ r + 1 = h := by have := HG.out; have := HH.out; omega
    have nb5 : ¬ g = r := fun e => nb1 e.symm
    have nb6 : ¬ g = r + 1 := fun e => nb2 e.symm
    have nb7 : ¬ h = r := fun e => nb3 e.symm
    have nb8 : ¬ h = r + 1 := fun e => nb4 e.symm
    have Z : Hid _ := made_put (w0 := w) (s1 := .slice a3 n3 c3) (s2 := .slice d3 m3 g3) (t1 := .slice a7 n7 c7) (t2 := .slice d7 m7 g7) (fun i hi => by obtain rfl | rfl : i = 0 ∨ i = 1 := (by omega); exact ⟨z0, y0⟩; exact ⟨z1, y1⟩) (fun i hi => by obtain rfl | rfl : i = 0 ∨ i = 1 := (by omega); exact ⟨z2, y2⟩; exact ⟨z3, y3⟩) (S7.out.fr (.agg #[.slice a3 n3 c3, .slice d3 m3 g3]) (x / Nat.gcd x y) (y / Nat.gcd x y)) (S7.out.rfr (.agg #[.slice a7 n7 c7, .slice d7 m7 g7]) (x / Nat.gcd x y) (y / Nat.gcd x y)) S7.out.bel (S7.out.lo r)
    go_region
    go_wp2_with fail
    refine bodyPost_ret (v := .tuple #[.agg #[.slice a3 n3 c3, .slice d3 m3 g3], .agg #[.slice a7 n7 c7, .slice d7 m7 g7]]) (by simp [results, Tryz.results8, go_sem, z0, z1, z2, z3]) rfl ?_
    rw [EY.out]
    exact ⟨_, _, rfl, Z.out.1.mono (bel_dr (bel_refl _)), Z.out.2.1.mono (bel_dr (bel_refl _)), bel_dr Z.out.2.2⟩
end Go.Proofs.YtmiiaomdenpceaaGreatDoor

namespace Go.Proofs.YtmiiaomdenpceaaGreatDoor
open Go.RowKit
set_option maxRecDepth 100000
set_option linter.unusedVariables false
theorem zrs_one : zrs 1 = ⟨#[48]⟩ := by rfl
set_option maxHeartbeats 400000 in
theorem rep_one : RepIs 1 := fun w => by
  rw [zrs_one]
  show Calls Tryz.prog 72 #[.string ⟨#[48]⟩, .int .i64 1] w _
  go_enter Tryz.func72, Tryz.ntmps72
  go_wp2_with fail
  go_ret
  exact ⟨rfl, bel_refl w⟩
theorem st_x (w : World) (hT : Tab w) : Calls Tryz.prog 33 #[.float .f64 4604930618986332160] w (MakesRB w 3 4 true) := by
  have h := fromFloat_all 4604930618986332160 w (by omega) hT
  rw [show ffP 4604930618986332160 = 3 by decide +kernel, show ffQ 4604930618986332160 = 4 by decide +kernel, show isFb 4604930618986332160 = true by decide +kernel] at h
  exact h
def s75 : ByteArray := ⟨#[55, 53, 101, 45, 50]⟩
def s10 : ByteArray := ⟨#[49, 47, 48]⟩
theorem np_75 : npP s75 = 3 ∧ npQ s75 = 4 ∧ npE s75 = 0 := by decide +kernel
theorem np_10 : npP s10 = 0 ∧ npQ s10 = 1 ∧ npE s10 = 30 := by decide +kernel
theorem st_y (w : World) (hT : Tab w) : Calls Tryz.prog 35 #[.string ⟨#[55, 53, 101, 45, 50]⟩] w fun e w' => ∃ v, e = .returned (.tuple #[v, .int .i64 0]) ∧ Rt w' v 3 4 ∧ Below w.heap.size w w' := by
  have h := nparse_any s75 w (by decide +kernel) hT
  unfold MakesP at h
  rw [np_75.1, np_75.2.1, np_75.2.2] at h
  exact h
theorem st_f (w : World) (hT : Tab w) : Calls Tryz.prog 35 #[.string ⟨#[49, 47, 48]⟩] w fun e w' => ∃ v, e = .returned (.tuple #[v, .int .i64 30]) ∧ Rt w' v 0 1 ∧ Below w.heap.size w w' := by
  have h := nparse_any s10 w (by decide +kernel) hT
  unfold MakesP at h
  rw [np_10.1, np_10.2.1, np_10.2.2] at h
  exact h
theorem st_a (v : Value) (w : World) (h : Rt w v 1 3) : Calls Tryz.prog 9 #[v] w fun e w' => e = .returned (.tuple #[.float .f64 4599676419421066581, .bool true]) ∧ Below w.heap.size w w' := by
  have k := toFloat_any v 1 3 w h (rs_few (by omega)) (rs_few (by omega)) (by omega)
  rw [show tfV 1 3 = 4599676419421066581 by decide +kernel, show tfOk 1 3 = true by decide +kernel] at k
  exact k
theorem few_P {x : Nat} (h : x < 100) : x < P 80 := Nat.lt_of_lt_of_le (by rw [P_one]; omega) (P_le (show 1 ≤ 80 by omega))
theorem st_s (v : Value) (w : World) (h : Rt w v 3 4) : Calls Tryz.prog 26 #[v, .int .i64 1] w fun e w' => e = .returned (.tuple #[.string ⟨#[48, 46, 56]⟩, .bool true]) ∧ Below w.heap.size w w' := by
  have k := decimal_any v 3 4 1 1 w h (few_P (by omega)) (few_P (by omega)) (by omega) (by omega) ⟨by omega, by decide +kernel, .inl rfl⟩ rep_one
  rw [show decimalT 3 4 1 1 = ⟨#[48, 46, 56]⟩ by decide +kernel] at k
  exact k
theorem st_t (v : Value) (w : World) (h : Rt w v 3 4) : Calls Tryz.prog 24 #[v] w fun e w' => e = .returned (.string ⟨#[51, 47, 52]⟩) ∧ Below w.heap.size w w' := by
  have k := format_any v 3 4 1 1 w h (rs_few (by omega)) (rs_few (by omega)) ⟨by omega, by omega, .inl rfl⟩ ⟨by omega, by omega, .inl rfl⟩
  rw [show fmtT 3 4 1 1 = ⟨#[51, 47, 52]⟩ by decide +kernel] at k
  exact k
theorem st_c (v u : Value) (w : World) (h : Rt w v 3 4) (k : Rt w u 3 4) : Calls Tryz.prog 30 #[v, u] w fun e w' => e = .returned (.int .i64 0) ∧ Below w.heap.size w w' := by
  have c := ratCmp_any v u 3 4 3 4 w h k (rs_few (by omega)) (rs_few (by omega)) (rs_few (by omega)) (rs_few (by omega))
  rw [show cmpI (3 * 4) (3 * 4) = 0 by decide] at c
  exact c
set_option maxHeartbeats 400000 in
theorem errno3_any (z : Int) (w : World) : Calls Tryz.prog 36 #[.int .i64 z] w fun e w' => e = .returned (.int .i64 z) ∧ w' = w := by
  go_enter Tryz.func36, Tryz.ntmps36
  go_wp2_with fail
  go_ret
  exact ⟨rfl, rfl⟩
set_option maxHeartbeats 1000000 in
theorem started3 (w : World) (hT : Tab w) : Calls Tryz.prog 13 #[] w fun e w' => e = .returned (.bool true) ∧ Below w.heap.size w w' := by
  have HT : Hid (Tab w) := hT
  clear hT
  go_enter Tryz.func13, Tryz.ntmps13
  go_wp2_with fail
  refine (st_x _ HT.out).mono ?_
  rintro e w1 ⟨v1, rfl, hv1, hb1⟩
  have hv1' := hv1
  obtain ⟨a1, n1, c1, d1, m1, g1, ev1, _, _⟩ := hv1'.raw
  subst ev1
  have S1 : Hid _ := (((sy_start w).go hb1).addF hv1).box (.slice a1 n1 c1) (.slice d1 m1 g1) 28 _ rfl
  clear hv1 hv1' hb1
  go_wp2_with fail
  obtain ⟨b1, hb1⟩ : ∃ b1, b1 = w1.heap.size := ⟨_, rfl⟩
  obtain ⟨W1, hW1⟩ : ∃ W1, W1 = w1.alloc (.cells #[.slice a1 n1 c1, .slice d1 m1 g1] 28) := ⟨_, rfl⟩
  rw [← hW1, ← hb1] at S1
  rw [← hW1, ← hb1]
  clear hW1 hb1
  refine (st_y _ (HT.out.go S1.out.bel)).mono ?_
  rintro e w2 ⟨v2, rfl, hv2, hb2⟩
  have hv2' := hv2
  obtain ⟨a2, n2, c2, d2, m2, g2, ev2, _, _⟩ := hv2'.raw
  subst ev2
  have S2 : Hid _ := ((S1.out.go hb2).addF hv2).box (.slice a2 n2 c2) (.slice d2 m2 g2) 28 _ rfl
  clear hv2 hv2' hb2 S1
  go_wp2_with fail
  obtain ⟨b2, hb2⟩ : ∃ b2, b2 = w2.heap.size := ⟨_, rfl⟩
  obtain ⟨W2, hW2⟩ : ∃ W2, W2 = w2.alloc (.cells #[.slice a2 n2 c2, .slice d2 m2 g2] 28) := ⟨_, rfl⟩
  rw [← hW2, ← hb2] at S2
  rw [← hW2, ← hb2]
  clear hW2 hb2
  refine (told_b _ (HT.out.go S2.out.bel)).mono ?_
  rintro e w3 ⟨v3, rfl, hv3, hb3⟩
  have hv3' := hv3
  obtain ⟨a3, n3, c3, d3, m3, g3, ev3, _, _⟩ := hv3'.raw
  subst ev3
  have S3 : Hid _ := ((S2.out.go hb3).addF hv3).box (.slice a3 n3 c3) (.slice d3 m3 g3) 28 _ rfl
  clear hv3 hv3' hb3 S2
  go_wp2_with fail
  obtain ⟨b3, hb3⟩ : ∃ b3, b3 = w3.heap.size := ⟨_, rfl⟩
  obtain ⟨W3, hW3⟩ : ∃ W3, W3 = w3.alloc (.cells #[.slice a3 n3 c3, .slice d3 m3 g3] 28) := ⟨_, rfl⟩
  rw [← hW3, ← hb3] at S3
  rw [← hW3, ← hb3]
  clear hW3 hb3
  refine (st_a _ _ (S3.out.fr (.agg #[.slice a3 n3 c3, .slice d3 m3 g3]) 1 3)).mono ?_
  rintro e w4 ⟨rfl, hb4⟩
  have S4 : Hid _ := S3.out.go hb4
  clear hb4 S3
  have k0 := S4.out.cel b1 0 (.slice a1 n1 c1)
  have k1 := S4.out.cel b1 1 (.slice d1 m1 g1)
  go_wp2_with fail
  refine (st_s _ _ (S4.out.fr (.agg #[.slice a1 n1 c1, .slice d1 m1 g1]) 3 4)).mono ?_
  rintro e w5 ⟨rfl, hb5⟩
  have S5 : Hid _ := S4.out.go hb5
  clear hb5 S4 k0 k1
  go_wp2_with fail
  refine (st_f _ (HT.out.go S5.out.bel)).mono ?_
  rintro e w6 ⟨v6, rfl, hv6, hb6⟩
  have hv6' := hv6
  obtain ⟨a6, n6, c6, d6, m6, g6, ev6, _, _⟩ := hv6'.raw
  subst ev6
  have S6 : Hid _ := (S5.out.go hb6).box (.slice a6 n6 c6) (.slice d6 m6 g6) 28 _ rfl
  clear hv6 hv6' hb6 S5
  go_wp2_with fail
  obtain ⟨W6, hW6⟩ : ∃ W6, W6 = w6.alloc (.cells #[.slice a6 n6 c6, .slice d6 m6 g6] 28) := ⟨_, rfl⟩
  rw [← hW6] at S6
  rw [← hW6]
  clear hW6
  refine (errno3_any 0 _).mono ?_
  rintro e wx ⟨rfl, hwx⟩
  rw [hwx]
  clear hwx wx
  have k0 := S6.out.cel b1 0 (.slice a1 n1 c1)
  have k1 := S6.out.cel b1 1 (.slice d1 m1 g1)
  have k2 := S6.out.cel b2 0 (.slice a2 n2 c2)
  have k3 := S6.out.cel b2 1 (.slice d2 m2 g2)
  go_wp2_with fail
  refine (st_c _ _ _ (S6.out.fr (.agg #[.slice a1 n1 c1, .slice d1 m1 g1]) 3 4) (S6.out.fr (.agg #[.slice a2 n2 c2, .slice d2 m2 g2]) 3 4)).mono ?_
  rintro e w7 ⟨rfl, hb7⟩
  have S7 : Hid _ := S6.out.go hb7
  clear hb7 S6 k0 k1 k2 k3
  go_wp2_with fail
  refine (bits_any 4599676419421066581 _).mono ?_
  rintro e wx ⟨rfl, hwx⟩
  rw [hwx]
  clear hwx wx
  have k0 := S7.out.cel b1 0 (.slice a1 n1 c1)
  have k1 := S7.out.cel b1 1 (.slice d1 m1 g1)
  go_wp2_with fail
  refine (st_t _ _ (S7.out.fr (.agg #[.slice a1 n1 c1, .slice d1 m1 g1]) 3 4)).mono ?_
  rintro e w8 ⟨rfl, hb8⟩
  have S8 : Hid _ := S7.out.go hb8
  clear hb8 S7 k0 k1
  go_wp2_with fail
  refine (errno3_any 30 _).mono ?_
  rintro e wx ⟨rfl, hwx⟩
  rw [hwx]
  clear hwx wx
  go_wp2_with fail
  go_ret
  exact ⟨rfl, S8.out.bel⟩
end Go.Proofs.YtmiiaomdenpceaaGreatDoor

namespace Go.Proofs.YtmiiaomdenpceaaGreatDoor
open Go.ChangeShapes Go.WideShapes Go.ChangeAt Go.RowKit
set_option linter.unusedVariables false
theorem ownD : ownKnob Tryz.prog.godebug = none := by kernel_rfl
theorem laidOutD : laidOutB Tryz.prog = true := by kernel_rfl
def IsRow (k : IntKind) (w : World) (a : Option Addr) (len cap : Nat) (zs : List Int) : Prop :=
  (a = none ∧ len = 0 ∧ cap = 0 ∧ zs = []) ∨
  ∃ x, a = some x ∧ len ≤ cap ∧ cap ≤ maxLen ∧ zs.length = cap ∧ (∀ i, i < zs.length → w.cell? (x.add i) = some (.int k (zs.getD i 0))) ∧ ∀ n ∈ zs, (Lit.int k n).wf = true
theorem row_bsl {w : World} {a : Option Addr} {len cap : Nat} {zs : List Int} (h : IsRow .u8 w a len cap zs) : BSl w a len cap (fun i => (zs.getD i 0).toNat) := by
  rcases h with ⟨rfl, rfl, rfl, rfl⟩ | ⟨x, rfl, hl, hm, hz, hcell, hwz⟩
  · exact ⟨Nat.le_refl _, by omega, fun i hi => absurd hi (by omega), .inl rfl⟩
  · have hw : ∀ i, i < len → 0 ≤ zs.getD i 0 ∧ zs.getD i 0 < 256 := by
      intro i hi
      have hi2 : i < zs.length := by omega
      have := hwz (zs.getD i 0) (by rw [List.getD_eq_getElem?_getD, List.getElem?_eq_getElem hi2]; exact List.getElem_mem hi2)
      have hmin : IntKind.u8.min = 0 := rfl
      have hmax : IntKind.u8.max = 255 := rfl
      have h2 : IntKind.u8.min ≤ zs.getD i 0 ∧ zs.getD i 0 ≤ IntKind.u8.max := by simpa [Lit.wf] using this
      rw [hmin, hmax] at h2
      omega
    refine ⟨hl, by simp only [maxLen] at hm; omega, fun i hi => ?_, ?_⟩
    · have := hw i hi
      show (zs.getD i 0).toNat < 256
      omega
    · rcases Nat.eq_zero_or_pos len with e | e
      · exact .inl e
      · obtain ⟨b, off, spot⟩ := x
        have hc := hcell 0 (by omega)
        have hspot : spot = none := by simpa [Addr.add] using World.cell?_spot hc
        subst hspot
        refine .inr ⟨b, off, rfl, fun i hi => ?_⟩
        have h1 := hcell i (by omega)
        have h2 := hw i hi
        have h3 : (⟨b, off, none⟩ : Addr).add i = ⟨b, off + i, none⟩ := by unfold Addr.add; split <;> simp_all
        rw [h3] at h1
        rw [h1]
        show some (Value.int .u8 (zs.getD i 0)) = some (Value.int .u8 (((zs.getD i 0).toNat : Nat) : Int))
        rw [Int.toNat_of_nonneg h2.1]
theorem openB {W : World} {H : Type} {enc : TypeId × Value → H} {fuel : Nat} {a : Option Addr} {len cap : Nat} {y : DataW H × List MemPlace} (hf : DataW.trod enc Tryz.prog W 0 (fun _ => true) true fuel 22 (Value.slice a len cap).cells.toList = some y) : ∃ D, BSl W a len cap D := by
  rcases open_ints Tryz.underlying22 Tryz.underlying5 (by kernel_rfl) hf with ⟨hcs, _⟩ | ⟨x, l, c, zs, hcs, _, hl, hm, hz, _, hcell, hwz⟩
  · simp [Value.cells] at hcs
    obtain ⟨rfl, rfl, rfl⟩ := hcs
    exact ⟨_, row_bsl (zs := []) (.inl ⟨rfl, rfl, rfl, rfl⟩)⟩
  · simp [Value.cells] at hcs
    obtain ⟨rfl, rfl, rfl⟩ := hcs
    exact ⟨_, row_bsl (zs := zs) (.inr ⟨_, rfl, hl, hm, by simpa using hz, hcell, hwz⟩)⟩
end Go.Proofs.YtmiiaomdenpceaaGreatDoor

namespace Go.Proofs.YtmiiaomdenpceaaGreatDoor
open Go.RowKit
set_option maxRecDepth 100000
set_option linter.unusedVariables false
end Go.Proofs.YtmiiaomdenpceaaGreatDoor

namespace Go.Proofs.YtmiiaomdenpceaaGreatDoor
open Go.RowKit
theorem made_fc {x y : Nat} (hx : x < P 38) (hy : y < P 38) : Fc (x / Nat.gcd x (orOne y)) (orOne y / Nat.gcd x (orOne y)) (x / Nat.gcd x (orOne y)) (orOne y / Nat.gcd x (orOne y)) 38 := by
  obtain ⟨e1, e2, e3⟩ := gcd_low (p := x) (orOne_pos y)
  exact Fc.own (n := 38) e2 e3 (Nat.lt_of_le_of_lt (Nat.div_le_self _ _) hx) (Nat.lt_of_le_of_lt (Nat.div_le_self _ _) (orOne_38 hy))
end Go.Proofs.YtmiiaomdenpceaaGreatDoor

