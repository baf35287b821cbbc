/- Contracts of the program's functions, part 20: own work, joined in build order. -/
import Derived.Test.YtmiiaomdenpceaaGreatDoorJ19
import Derived.Test.YtmiiaomdenpceaaGreatDoorRows
import Derived.WalkKit
import Derived.WalkMore
import Derived.ScopeJumps
namespace Go.Proofs.YtmiiaomdenpceaaGreatDoor
open Go.RowKit
set_option maxRecDepth 100000
set_option linter.unusedVariables false
set_option maxHeartbeats 1000000 in
theorem cut3_any (a : Option Addr) (len cap : Nat) (D : Nat → Nat) (w : World) (h : BSl w a len cap D) :
    Calls Tryz.prog 40 #[.slice a len cap] w fun e w' => e = .returned (.slice a (min len 300) cap) ∧ w' = w := by
  have hl2 : (len : Int) ≤ 9223372036854775807 := by have := h.1; have := h.2.1; omega
  by_cases hl : 300 < len
  · obtain ⟨b, o, rfl, hw⟩ : ∃ b o, a = some ⟨b, o, none⟩ ∧ ∀ i, i < len → w.cell? ⟨b, o + i, none⟩ = some (.int .u8 (D i : Nat)) := h.2.2.2.resolve_left (by omega)
    have sl : ∀ w, (Instr.slice 22 (.slice (some ⟨b, o, none⟩) len cap) none (some (.int .i64 300)) none).run Tryz.prog w = .ok (.slice (some ⟨b, o, none⟩) 300 cap) w := slice_bh b o len cap 300 (by have := h.1; omega)
    have hcz : ¬ cap = 0 := by have := h.1; omega
    have hcz2 : (300 : Int) ≤ cap := by have := h.1; omega
    have haz : (⟨b, o, none⟩ : Addr).add 0 = ⟨b, o, none⟩ := by simp [Addr.add]
    have hd : decide (300 < (len : Int)) = true := decide_eq_true (by omega)
    have HH : Hid (min len 300 = 300) := by show _ = _; omega
    clear h hw
    go_enter Tryz.func40, Tryz.ntmps40
    go_wp2_with fail
    go_ret
    rw [HH.out]
    exact ⟨rfl, rfl⟩
  · have hd : decide (300 < (len : Int)) = false := decide_eq_false (by omega)
    have HH : Hid (min len 300 = len) := by show _ = _; omega
    clear h
    go_enter Tryz.func40, Tryz.ntmps40
    go_wp2_with fail
    go_ret
    rw [HH.out]
    exact ⟨rfl, rfl⟩
/-- Bytes that are handed in: what comes of them. -/
structure Fed3 (w : World) (a : Option Addr) (len cap m x : Nat) : Prop where
  cut : ∀ w', Below w.heap.size w w' → Calls Tryz.prog 40 #[.slice a len cap] w' fun e w2 => e = .returned (.slice a m cap) ∧ w2 = w'
  nat : ∀ w', Below w.heap.size w w' → Calls Tryz.prog 22 #[.slice a m cap] w' (Makes w' x)
  ref : ∀ w', Below w.heap.size w w' → Calls Tryz.prog 41 #[.slice a m cap] w' (RMakes w' x)
  rs : x < P 38
theorem fed3_of {w : World} {a : Option Addr} {len cap : Nat} {D : Nat → Nat} (h : BSl w a len cap D) : ∃ m x, Fed3 w a len cap m x := by
  refine ⟨Min.min len 300, BV D (Min.min len 300), fun w' hb => ?_, fun w' hb => ?_, fun w' hb => ?_, ?_⟩
  · exact cut3_any a len cap D w' (h.mono hb)
  · exact fromBytes_any _ _ _ _ _ ((h.min 300).mono hb) (by omega)
  · exact rfromBytes_any _ _ _ _ _ ((h.min 300).mono hb) (by omega)
  · exact BV_P' (h.min 300).2.2.1 (by omega)
theorem Fed3.go {w w' : World} {a : Option Addr} {len cap m x : Nat} (h : Fed3 w a len cap m x) (hb : Below w.heap.size w w') : Fed3 w' a len cap m x :=
  ⟨fun w2 h2 => h.cut w2 (bel_go hb h2), fun w2 h2 => h.nat w2 (bel_go hb h2), fun w2 h2 => h.ref w2 (bel_go hb h2), h.rs⟩
theorem rs38 {x : Nat} (h : x < P 38) : RS x := ⟨P_up h (by omega)⟩
set_option maxHeartbeats 4000000 in
theorem made3_true (a0 : Option Addr) (l0 k0 : Nat) (a5 : Option Addr) (l5 k5 : Nat) (m0 m5 x y : Nat) (w : World) (h0 : Fed3 w a0 l0 k0 m0 x) (h5 : Fed3 w a5 l5 k5 m5 y) (hT : Tab w) :
    Calls Tryz.prog 8 #[.slice a0 l0 k0, .slice a5 l5 k5] w (MakesM w (x / Nat.gcd x (orOne y)) (orOne y / Nat.gcd x (orOne y))) := by
  by_cases hy : y = 0
  · have EY : Hid (orOne y = 1) := by show orOne y = 1; unfold orOne; rw [if_pos hy]
    have FN : Hid (∀ v u w, IsNat w v x → IsNat w u y → Tab w → Calls Tryz.prog 21 #[v, u] w (MakesRB w 0 1 false)) := fun v u w p q _ => from_none v u x w p (by rw [hy] at q; exact q)
    have FM : Hid (∀ v u w, RNat w v x → RNat w u y → Calls Tryz.prog 16 #[v, u] w (MakesRRB w 0 1 false)) := fun v u w p q => rfrom2_none v u x y w p q (rs38 h0.rs).rsome (rs38 h5.rs).rsome hy
    clear hy
    have FF : Hid (Fed3 w a0 l0 k0 m0 x ∧ Fed3 w a5 l5 k5 m5 y ∧ Tab w) := ⟨h0, h5, hT⟩
    have S0 : Hid _ := ((sy_start w).box (.slice none 0 0) (.slice none 0 0) 28 _ rfl).box (.slice none 0 0) (.slice none 0 0) 32 _ rfl
    simp only [World.size_alloc] at S0
    clear h0 h5 hT
    go_enter Tryz.func8, Tryz.ntmps8
    go_wp2_with fail
    obtain ⟨r, hr⟩ : ∃ r, r = w.heap.size := ⟨_, rfl⟩
    obtain ⟨w0, hw0⟩ : ∃ w0, w0 = (w.alloc (.cells #[.slice none 0 0, .slice none 0 0] 28)).alloc (.cells #[.slice none 0 0, .slice none 0 0] 32) := ⟨_, rfl⟩
    rw [← hw0, ← hr] at S0
    rw [← hw0, ← hr]
    clear hw0 hr
    refine (FF.out.1.cut _ S0.out.bel).mono ?_
    rintro e wx ⟨rfl, hwx⟩
    rw [hwx]
    clear hwx wx
    go_wp2_with fail
    refine (FF.out.2.1.cut _ S0.out.bel).mono ?_
    rintro e wx ⟨rfl, hwx⟩
    rw [hwx]
    clear hwx wx
    go_wp2_with fail
    refine (FF.out.1.nat _ S0.out.bel).mono ?_
    rintro e w1 ⟨v1, rfl, hv1, hb1⟩
    have S1 : Hid _ := (S0.out.go hb1).addN hv1
    clear hv1 hb1 S0
    go_wp2_with fail
    refine (FF.out.2.1.nat _ S1.out.bel).mono ?_
    rintro e w2 ⟨v2, rfl, hv2, hb2⟩
    have S2 : Hid _ := (S1.out.go hb2).addN hv2
    clear hv2 hb2 S1
    go_wp2_with fail
    have FR : Hid (Calls Tryz.prog 21 #[v1, v2] w2 (MakesRB w2 0 1 false)) := FN.out v1 v2 _ (S2.out.at v1 x) (S2.out.at v2 y) (FF.out.2.2.go S2.out.bel)
    refine FR.out.mono ?_
    rintro e w3 ⟨v3, rfl, hv3, hb3⟩
    have hv3' := hv3
    obtain ⟨a3, n3, c3, d3, m3, g3, ev3, _, _⟩ := hv3'.raw
    subst ev3
    have HL : Hid (r + 1 < w3.heap.size) := (S2.out.go hb3).lt (r + 1)
    have S3 : Hid _ := ((S2.out.go hb3).addF hv3).box (.slice a3 n3 c3) (.slice d3 m3 g3) 28 _ rfl
    clear hv3 hv3' hb3 S2 FR
    go_wp2_with fail
    obtain ⟨g, hg⟩ : ∃ g, g = w3.heap.size := ⟨_, rfl⟩
    obtain ⟨w4, hw4⟩ : ∃ w4, w4 = w3.alloc (.cells #[.slice a3 n3 c3, .slice d3 m3 g3] 28) := ⟨_, rfl⟩
    rw [← hw4, ← hg] at S3
    rw [← hw4, ← hg]
    have HG : Hid (r + 1 < g) := by rw [hg]; exact HL
    clear hw4 hg HL
    refine (FF.out.1.ref _ S3.out.bel).mono ?_
    rintro e w5 ⟨v5, rfl, hv5, hb5⟩
    have S5 : Hid _ := (S3.out.go hb5).addM hv5
    clear hv5 hb5 S3
    go_wp2_with fail
    refine (FF.out.2.1.ref _ S5.out.bel).mono ?_
    rintro e w6 ⟨v6, rfl, hv6, hb6⟩
    have S6 : Hid _ := (S5.out.go hb6).addM hv6
    clear hv6 hb6 S5
    go_wp2_with fail
    have FR : Hid (Calls Tryz.prog 16 #[v5, v6] w6 (MakesRRB w6 0 1 false)) := FM.out v5 v6 _ (S6.out.rat v5 x) (S6.out.rat v6 y)
    refine FR.out.mono ?_
    rintro e w7 ⟨v7, rfl, hv7, hb7⟩
    have hv7' := hv7
    obtain ⟨a7, n7, c7, d7, m7, g7, ev7, _, _⟩ := hv7'
    subst ev7
    have HL : Hid (g < w7.heap.size) := (S6.out.go hb7).lt g
    have S7 : Hid _ := ((S6.out.go hb7).addG hv7).box (.slice a7 n7 c7) (.slice d7 m7 g7) 32 _ rfl
    clear hv7 hb7 S6 FR
    have q0 := S7.out.cel g 0 (.slice a3 n3 c3)
    have q1 := S7.out.cel g 1 (.slice d3 m3 g3)
    go_wp2_with fail
    obtain ⟨h, hh⟩ : ∃ h, h = w7.heap.size := ⟨_, rfl⟩
    obtain ⟨w8, hw8⟩ : ∃ w8, w8 = w7.alloc (.cells #[.slice a7 n7 c7, .slice d7 m7 g7] 32) := ⟨_, rfl⟩
    rw [← hw8, ← hh] at S7
    rw [← hw8, ← hh]
    have HH : Hid (g < h) := by rw [hh]; exact HL
    clear hw8 hh HL q0 q1
    refine (FF.out.1.nat _ S7.out.bel).mono ?_
    rintro e w10 ⟨v10, rfl, hv10, hb10⟩
    have S10 : Hid _ := (S7.out.go hb10).addN hv10
    clear hv10 hb10 S7
    go_wp2_with fail
    refine (of_any 1 _ (by omega)).mono ?_
    rintro e w11 ⟨v11, rfl, hv11, hb11⟩
    have S11 : Hid _ := (S10.out.go hb11).addN hv11
    clear hv11 hb11 S10
    go_wp2_with fail
    refine (from_any v10 v11 x 1 _ (S11.out.at v10 x) (S11.out.at v11 1) (rs38 FF.out.1.rs) (rs_word (by omega)) (by omega) (FF.out.2.2.go S11.out.bel)).mono ?_
    rintro e w12 ⟨v12, rfl, hv12, hb12⟩
    have hv12' := hv12
    obtain ⟨a12, n12, c12, d12, m12, g12, ev12, _, _⟩ := hv12'.raw
    subst ev12
    have S12 : Hid _ := (S11.out.go hb12).addF hv12
    clear hv12 hv12' hb12 S11
    have q0 := S12.out.cel g 0 (.slice a3 n3 c3)
    have q1 := S12.out.cel g 1 (.slice d3 m3 g3)
    have f0 := S12.out.fz g 0
    have f1 := S12.out.fz g 1
    have S13 : Hid _ := (((S12.out.set (b := g) (i := 0) q0 (S12.out.lo g) [(h, 0, .slice a7 n7 c7), (h, 1, .slice d7 m7 g7), (r, 0, .slice none 0 0), (r, 1, .slice none 0 0), (r + 1, 0, .slice none 0 0), (r + 1, 1, .slice none 0 0)] (by have := HG.out; have := HH.out; simp; omega) (.slice a12 n12 c12)).addC (b := g) (i := 1) (v := .slice d3 m3 g3) (by simp [go_sem, q1])).set (b := g) (i := 1) (show (w12.setCell ⟨g, 0, none⟩ (.slice a12 n12 c12)).cell? ⟨g, 1, none⟩ = some (.slice d3 m3 g3) by simp [go_sem, q1]) (S12.out.lo g) [(h, 0, .slice a7 n7 c7), (h, 1, .slice d7 m7 g7), (r, 0, .slice none 0 0), (r, 1, .slice none 0 0), (r + 1, 0, .slice none 0 0), (r + 1, 1, .slice none 0 0)] (by have := HG.out; have := HH.out; simp; omega) (.slice d12 m12 g12))
    have e0 : ((w12.setCell ⟨g, 0, none⟩ (.slice a12 n12 c12)).setCell ⟨g, 1, none⟩ (.slice d12 m12 g12)).cell? ⟨g, 0, none⟩ = some (.slice a12 n12 c12) := by simp [go_sem, q0]
    have e1 : ((w12.setCell ⟨g, 0, none⟩ (.slice a12 n12 c12)).setCell ⟨g, 1, none⟩ (.slice d12 m12 g12)).cell? ⟨g, 1, none⟩ = some (.slice d12 m12 g12) := by simp [go_sem, q1]
    have S14 : Hid _ := (S13.out.addC e0).addC e1
    clear S13 e0 e1
    go_wp2_with fail
    obtain ⟨w14, hw14⟩ : ∃ w14, w14 = (w12.setCell ⟨g, 0, none⟩ (.slice a12 n12 c12)).setCell ⟨g, 1, none⟩ (.slice d12 m12 g12) := ⟨_, rfl⟩
    rw [← hw14] at S14
    rw [← hw14]
    clear hw14 q0 q1 f0 f1 S12
    refine (FF.out.1.ref _ S14.out.bel).mono ?_
    rintro e w15 ⟨v15, rfl, hv15, hb15⟩
    have S15 : Hid _ := (S14.out.go hb15).addM hv15
    clear hv15 hb15 S14
    go_wp2_with fail
    refine (rof_any 1 _ (by omega)).mono ?_
    rintro e w16 ⟨v16, rfl, hv16, hb16⟩
    have S16 : Hid _ := (S15.out.go hb16).addM hv16
    clear hv16 hb16 S15
    go_wp2_with fail
    refine (rfrom2_yes v15 v16 x 1 _ (S16.out.rat v15 x) (S16.out.rat v16 1) (rs38 FF.out.1.rs).rsome (rsome_word (by omega)) (by omega)).mono ?_
    rintro e w17 ⟨v17, rfl, hv17, hb17⟩
    have hv17' := hv17
    obtain ⟨a17, n17, c17, d17, m17, g17, ev17, _, _⟩ := hv17'
    subst ev17
    have S17 : Hid _ := (S16.out.go hb17).addG hv17
    clear hv17 hb17 S16
    have q0 := S17.out.cel h 0 (.slice a7 n7 c7)
    have q1 := S17.out.cel h 1 (.slice d7 m7 g7)
    have f0 := S17.out.fz h 0
    have f1 := S17.out.fz h 1
    have S18 : Hid _ := (((S17.out.set (b := h) (i := 0) q0 (S17.out.lo h) [(g, 0, .slice a12 n12 c12), (g, 1, .slice d12 m12 g12), (r, 0, .slice none 0 0), (r, 1, .slice none 0 0), (r + 1, 0, .slice none 0 0), (r + 1, 1, .slice none 0 0)] (by have := HG.out; have := HH.out; simp; omega) (.slice a17 n17 c17)).addC (b := h) (i := 1) (v := .slice d7 m7 g7) (by simp [go_sem, q1])).set (b := h) (i := 1) (show (w17.setCell ⟨h, 0, none⟩ (.slice a17 n17 c17)).cell? ⟨h, 1, none⟩ = some (.slice d7 m7 g7) by simp [go_sem, q1]) (S17.out.lo h) [(g, 0, .slice a12 n12 c12), (g, 1, .slice d12 m12 g12), (r, 0, .slice none 0 0), (r, 1, .slice none 0 0), (r + 1, 0, .slice none 0 0), (r + 1, 1, .slice none 0 0)] (by have := HG.out; have := HH.out; simp; omega) (.slice d17 m17 g17))
    have e0 : ((w17.setCell ⟨h, 0, none⟩ (.slice a17 n17 c17)).setCell ⟨h, 1, none⟩ (.slice d17 m17 g17)).cell? ⟨h, 0, none⟩ = some (.slice a17 n17 c17) := by simp [go_sem, q0]
    have e1 : ((w17.setCell ⟨h, 0, none⟩ (.slice a17 n17 c17)).setCell ⟨h, 1, none⟩ (.slice d17 m17 g17)).cell? ⟨h, 1, none⟩ = some (.slice d17 m17 g17) := by simp [go_sem, q1]
    have S19 : Hid _ := (S18.out.addC e0).addC e1
    clear S18 e0 e1
    go_wp2_with fail
    obtain ⟨w19, hw19⟩ : ∃ w19, w19 = (w17.setCell ⟨h, 0, none⟩ (.slice a17 n17 c17)).setCell ⟨h, 1, none⟩ (.slice d17 m17 g17) := ⟨_, rfl⟩
    rw [← hw19] at S19
    rw [← hw19]
    clear hw19 q0 q1 f0 f1 S17
    have z0 := S19.out.cel r 0 (.slice none 0 0)
    have z1 := S19.out.cel r 1 (.slice none 0 0)
    have z2 := S19.out.cel (r + 1) 0 (.slice none 0 0)
    have z3 := S19.out.cel (r + 1) 1 (.slice none 0 0)
    have y0 := S19.out.fz r 0
    have y1 := S19.out.fz r 1
    have y2 := S19.out.fz (r + 1) 0
    have y3 := S19.out.fz (r + 1) 1
    have p0 := S19.out.cel g 0 (.slice a12 n12 c12)
    have p1 := S19.out.cel g 1 (.slice d12 m12 g12)
    have p2 := S19.out.cel h 0 (.slice a17 n17 c17)
    have p3 := S19.out.cel h 1 (.slice d17 m17 g17)
    have nb1 : ¬ r = g := by have := HG.out; omega
    have nb2 : ¬ r + 1 = g := by have := HG.out; omega
    have nb3 : ¬ r = h := by have := HG.out; have := HH.out; omega
    have nb4 : ¬ r + 1 = h := by have := HG.out; have := HH.out; omega
    have nb5 : ¬ g = r := fun e => nb1 e.symm
    have nb6 : ¬ g = r + 1 := fun e => nb2 e.symm
    have nb7 : ¬ h = r := fun e => nb3 e.symm
    have nb8 : ¬ h = r + 1 := fun e => nb4 e.symm
    have Z : Hid _ := made_put (w0 := w) (s1 := .slice a12 n12 c12) (s2 := .slice d12 m12 g12) (t1 := .slice a17 n17 c17) (t2 := .slice d17 m17 g17) (fun i hi => by obtain rfl | rfl : i = 0 ∨ i = 1 := (by omega); exact ⟨z0, y0⟩; exact ⟨z1, y1⟩) (fun i hi => by obtain rfl | rfl : i = 0 ∨ i = 1 := (by omega); exact ⟨z2, y2⟩; exact ⟨z3, y3⟩) (S19.out.fr (.agg #[.slice a12 n12 c12, .slice d12 m12 g12]) (x / Nat.gcd x 1) (1 / Nat.gcd x 1)) (S19.out.rfr (.agg #[.slice a17 n17 c17, .slice d17 m17 g17]) (x / Nat.gcd x 1) (1 / Nat.gcd x 1)) S19.out.bel (S19.out.lo r)
    go_region
    go_wp2_with fail
    refine bodyPost_ret (v := .tuple #[.agg #[.slice a12 n12 c12, .slice d12 m12 g12], .agg #[.slice a17 n17 c17, .slice d17 m17 g17]]) (by simp [results, Tryz.results8, go_sem, z0, z1, z2, z3]) rfl ?_
    rw [EY.out]
    exact ⟨_, _, rfl, Z.out.1.mono (bel_dr (bel_refl _)), Z.out.2.1.mono (bel_dr (bel_refl _)), bel_dr Z.out.2.2⟩
  · have EY : Hid (orOne y = y) := by show orOne y = y; unfold orOne; rw [if_neg hy]
    have FN : Hid (∀ v u w, IsNat w v x → IsNat w u y → Tab w → Calls Tryz.prog 21 #[v, u] w (MakesRB w (x / Nat.gcd x y) (y / Nat.gcd x y) true)) := fun v u w p q t => from_any v u x y w p q (rs38 h0.rs) (rs38 h5.rs) (by omega) t
    have FM : Hid (∀ v u w, RNat w v x → RNat w u y → Calls Tryz.prog 16 #[v, u] w (MakesRRB w (x / Nat.gcd x y) (y / Nat.gcd x y) true)) := fun v u w p q => rfrom2_yes v u x y w p q (rs38 h0.rs).rsome (rs38 h5.rs).rsome (by omega)
    clear hy
    have FF : Hid (Fed3 w a0 l0 k0 m0 x ∧ Fed3 w a5 l5 k5 m5 y ∧ Tab w) := ⟨h0, h5, hT⟩
    have S0 : Hid _ := ((sy_start w).box (.slice none 0 0) (.slice none 0 0) 28 _ rfl).box (.slice none 0 0) (.slice none 0 0) 32 _ rfl
    simp only [World.size_alloc] at S0
    clear h0 h5 hT
    go_enter Tryz.func8, Tryz.ntmps8
    go_wp2_with fail
    obtain ⟨r, hr⟩ : ∃ r, r = w.heap.size := ⟨_, rfl⟩
    obtain ⟨w0, hw0⟩ : ∃ w0, w0 = (w.alloc (.cells #[.slice none 0 0, .slice none 0 0] 28)).alloc (.cells #[.slice none 0 0, .slice none 0 0] 32) := ⟨_, rfl⟩
    rw [← hw0, ← hr] at S0
    rw [← hw0, ← hr]
    clear hw0 hr
    refine (FF.out.1.cut _ S0.out.bel).mono ?_
    rintro e wx ⟨rfl, hwx⟩
    rw [hwx]
    clear hwx wx
    go_wp2_with fail
    refine (FF.out.2.1.cut _ S0.out.bel).mono ?_
    rintro e wx ⟨rfl, hwx⟩
    rw [hwx]
    clear hwx wx
    go_wp2_with fail
    refine (FF.out.1.nat _ S0.out.bel).mono ?_
    rintro e w1 ⟨v1, rfl, hv1, hb1⟩
    have S1 : Hid _ := (S0.out.go hb1).addN hv1
    clear hv1 hb1 S0
    go_wp2_with fail
    refine (FF.out.2.1.nat _ S1.out.bel).mono ?_
    rintro e w2 ⟨v2, rfl, hv2, hb2⟩
    have S2 : Hid _ := (S1.out.go hb2).addN hv2
    clear hv2 hb2 S1
    go_wp2_with fail
    have FR : Hid (Calls Tryz.prog 21 #[v1, v2] w2 (MakesRB w2 (x / Nat.gcd x y) (y / Nat.gcd x y) true)) := FN.out v1 v2 _ (S2.out.at v1 x) (S2.out.at v2 y) (FF.out.2.2.go S2.out.bel)
    refine FR.out.mono ?_
    rintro e w3 ⟨v3, rfl, hv3, hb3⟩
    have hv3' := hv3
    obtain ⟨a3, n3, c3, d3, m3, g3, ev3, _, _⟩ := hv3'.raw
    subst ev3
    have HL : Hid (r + 1 < w3.heap.size) := (S2.out.go hb3).lt (r + 1)
    have S3 : Hid _ := ((S2.out.go hb3).addF hv3).box (.slice a3 n3 c3) (.slice d3 m3 g3) 28 _ rfl
    clear hv3 hv3' hb3 S2 FR
    go_wp2_with fail
    obtain ⟨g, hg⟩ : ∃ g, g = w3.heap.size := ⟨_, rfl⟩
    obtain ⟨w4, hw4⟩ : ∃ w4, w4 = w3.alloc (.cells #[.slice a3 n3 c3, .slice d3 m3 g3] 28) := ⟨_, rfl⟩
    rw [← hw4, ← hg] at S3
    rw [← hw4, ← hg]
    have HG : Hid (r + 1 < g) := by rw [hg]; exact HL
    clear hw4 hg HL
    refine (FF.out.1.ref _ S3.out.bel).mono ?_
    rintro e w5 ⟨v5, rfl, hv5, hb5⟩
    have S5 : Hid _ := (S3.out.go hb5).addM hv5
    clear hv5 hb5 S3
    go_wp2_with fail
    refine (FF.out.2.1.ref _ S5.out.bel).mono ?_
    rintro e w6 ⟨v6, rfl, hv6, hb6⟩
    have S6 : Hid _ := (S5.out.go hb6).addM hv6
    clear hv6 hb6 S5
    go_wp2_with fail
    have FR : Hid (Calls Tryz.prog 16 #[v5, v6] w6 (MakesRRB w6 (x / Nat.gcd x y) (y / Nat.gcd x y) true)) := FM.out v5 v6 _ (S6.out.rat v5 x) (S6.out.rat v6 y)
    refine FR.out.mono ?_
    rintro e w7 ⟨v7, rfl, hv7, hb7⟩
    have hv7' := hv7
    obtain ⟨a7, n7, c7, d7, m7, g7, ev7, _, _⟩ := hv7'
    subst ev7
    have HL : Hid (g < w7.heap.size) := (S6.out.go hb7).lt g
    have S7 : Hid _ := ((S6.out.go hb7).addG hv7).box (.slice a7 n7 c7) (.slice d7 m7 g7) 32 _ rfl
    clear hv7 hb7 S6 FR
    have q0 := S7.out.cel g 0 (.slice a3 n3 c3)
    have q1 := S7.out.cel g 1 (.slice d3 m3 g3)
    go_wp2_with fail
    obtain ⟨h, hh⟩ : ∃ h, h = w7.heap.size := ⟨_, rfl⟩
    obtain ⟨w8, hw8⟩ : ∃ w8, w8 = w7.alloc (.cells #[.slice a7 n7 c7, .slice d7 m7 g7] 32) := ⟨_, rfl⟩
    rw [← hw8, ← hh] at S7
    rw [← hw8, ← hh]
    have HH : Hid (g < h) := by rw [hh]; exact HL
    clear hw8 hh HL q0 q1
    have z0 := S7.out.cel r 0 (.slice none 0 0)
    have z1 := S7.out.cel r 1 (.slice none 0 0)
    have z2 := S7.out.cel (r + 1) 0 (.slice none 0 0)
    have z3 := S7.out.cel (r + 1) 1 (.slice none 0 0)
    have y0 := S7.out.fz r 0
    have y1 := S7.out.fz r 1
    have y2 := S7.out.fz (r + 1) 0
    have y3 := S7.out.fz (r + 1) 1
    have p0 := S7.out.cel g 0 (.slice a3 n3 c3)
    have p1 := S7.out.cel g 1 (.slice d3 m3 g3)
    have p2 := S7.out.cel h 0 (.slice a7 n7 c7)
    have p3 := S7.out.cel h 1 (.slice d7 m7 g7)
    have nb1 : ¬ r = g := by have := HG.out; omega
    have nb2 : ¬ r + 1 = g := by have := HG.out; omega
    have nb3 : ¬ r = h := by have := HG.out; have := HH.out; omega
    have nb4 : ¬ r + 1 = h := by have := HG.out; have := HH.out; omega
    have nb5 : ¬ g = r := fun e => nb1 e.symm
    have nb6 : ¬ g = r + 1 := fun e => nb2 e.symm
    have nb7 : ¬ h = r := fun e => nb3 e.symm
    have nb8 : ¬ h = r + 1 := fun e => nb4 e.symm
    have Z : Hid _ := made_put (w0 := w) (s1 := .slice a3 n3 c3) (s2 := .slice d3 m3 g3) (t1 := .slice a7 n7 c7) (t2 := .slice d7 m7 g7) (fun i hi => by obtain rfl | rfl : i = 0 ∨ i = 1 := (by omega); exact ⟨z0, y0⟩; exact ⟨z1, y1⟩) (fun i hi => by obtain rfl | rfl : i = 0 ∨ i = 1 := (by omega); exact ⟨z2, y2⟩; exact ⟨z3, y3⟩) (S7.out.fr (.agg #[.slice a3 n3 c3, .slice d3 m3 g3]) (x / Nat.gcd x y) (y / Nat.gcd x y)) (S7.out.rfr (.agg #[.slice a7 n7 c7, .slice d7 m7 g7]) (x / Nat.gcd x y) (y / Nat.gcd x y)) S7.out.bel (S7.out.lo r)
    go_region
    go_wp2_with fail
    refine bodyPost_ret (v := .tuple #[.agg #[.slice a3 n3 c3, .slice d3 m3 g3], .agg #[.slice a7 n7 c7, .slice d7 m7 g7]]) (by simp [results, Tryz.results8, go_sem, z0, z1, z2, z3]) rfl ?_
    rw [EY.out]
    exact ⟨_, _, rfl, Z.out.1.mono (bel_dr (bel_refl _)), Z.out.2.1.mono (bel_dr (bel_refl _)), bel_dr Z.out.2.2⟩
end Go.Proofs.YtmiiaomdenpceaaGreatDoor

namespace Go.Proofs.YtmiiaomdenpceaaGreatDoor
open Go.RowKit
/-- As Q; by a goto to label l: J l. -/
def jumpsL (J : Nat → Act → World → Prop) (Q : Exit → Act → World → Prop) : Exit → Act → World → Prop
  | .goto l, a, w => J l a w
  | e, a, w => Q e a w
theorem jumpsL_ret {J : Nat → Act → World → Prop} {Q : Exit → Act → World → Prop} {a : Act} {w : World} : jumpsL J Q .ret a w = Q .ret a w := rfl
theorem wp_scope_labels {P : Program} {c : Code} {a : Act} {w : World} {Q : Exit → Act → World → Prop} (J : Nat → Act → World → Prop) (m : Nat → Act → World → Nat)
    (first : c.wp P (jumpsL J Q) a w)
    (pass : ∀ l a w, J l a w → ∃ rest, findLabel c l = some rest ∧ rest.wp P (jumpsL (fun l' a' w' => J l' a' w' ∧ m l' a' w' < m l a w) Q) a w) : (Code.scope c).wp P Q a w := by
  intro b k cs
  have key : ∀ n l a w, m l a w = n → J l a w → ∃ k0, gotoIn l (.inScope c :: k) = some k0 ∧ ∃ e a' w', Q e a' w' ∧ Arrives P (lone (b.at a k0) cs w) b k cs e a' w' := by
    intro n
    induction n using Nat.strongRecOn with
    | _ n ih =>
      intro l a w hn hJ
      obtain ⟨rest, hf, hp⟩ := pass l a w hJ
      have hg : gotoIn l (.inScope c :: k) = some (.code rest :: .inScope c :: k) := by simp [gotoIn, hf]
      refine ⟨_, hg, ?_⟩
      obtain ⟨e, a₁, w₁, hq, harr⟩ := hp b (.inScope c :: k) cs
      cases e with
      | normal => exact ⟨.normal, a₁, w₁, hq, Steps.trans harr (.one step_inScope)⟩
      | exit id => exact ⟨.exit id, a₁, w₁, hq, fun k' hk => harr k' (by simp [exitTo, hk])⟩
      | goto l' =>
        obtain ⟨hJ', hlt⟩ := hq
        obtain ⟨k0, hg0, e₂, a₂, w₂, hq₂, harr₂⟩ := ih _ (by omega) l' a₁ w₁ rfl hJ'
        exact ⟨e₂, a₂, w₂, hq₂, .of_steps (harr _ hg0) harr₂⟩
      | ret => exact ⟨_, a₁, w₁, hq, harr⟩
      | panic ch => exact ⟨_, a₁, w₁, hq, harr⟩
      | outgrown => exact ⟨_, a₁, w₁, hq, harr⟩
  obtain ⟨e, a₁, w₁, hq, harr⟩ := first b (.inScope c :: k) cs
  cases e with
  | normal => exact ⟨.normal, a₁, w₁, hq, .head step_scope (Steps.trans harr (.one step_inScope))⟩
  | exit id => exact ⟨.exit id, a₁, w₁, hq, fun k' hk => .head step_scope (harr k' (by simp [exitTo, hk]))⟩
  | goto l' =>
    obtain ⟨k0, hg0, e₂, a₂, w₂, hq₂, harr₂⟩ := key _ l' a₁ w₁ rfl hq
    exact ⟨e₂, a₂, w₂, hq₂, .of_steps (.head step_scope (harr _ hg0)) harr₂⟩
  | ret => exact ⟨_, a₁, w₁, hq, .of_steps (.one step_scope) harr⟩
  | panic ch => exact ⟨_, a₁, w₁, hq, .of_steps (.one step_scope) harr⟩
  | outgrown => exact ⟨_, a₁, w₁, hq, .of_steps (.one step_scope) harr⟩
/-- The scope begins with code ahead of its first label. -/
theorem wp_scope_first {P : Program} {pre body : Code} {a : Act} {w : World} {Q : Exit → Act → World → Prop} (l0 : Nat) (J : Nat → Act → World → Prop) (m : Nat → Act → World → Nat)
    (h0 : findLabel (pre.seq ((Code.label l0).seq body)) l0 = some (Code.skip.seq body))
    (first : pre.wp P (fun e a w => e = .normal ∧ J l0 a w) a w)
    (pass0 : ∀ a w, J l0 a w → body.wp P (jumpsL (fun l' a' w' => J l' a' w' ∧ m l' a' w' < m l0 a w) Q) a w)
    (pass : ∀ l a w, l ≠ l0 → J l a w → ∃ rest, findLabel (pre.seq ((Code.label l0).seq body)) l = some rest ∧ rest.wp P (jumpsL (fun l' a' w' => J l' a' w' ∧ m l' a' w' < m l a w) Q) a w) : (Code.scope (pre.seq ((Code.label l0).seq body))).wp P Q a w := by
  refine wp_scope_labels J m (wp_seq (wp_mono first fun e a w he => ?_)) fun l a w hj => ?_
  · obtain ⟨rfl, hj⟩ := he
    refine wp_seq (wp_label ?_)
    refine wp_mono (pass0 a w hj) fun e a w he => ?_
    cases e <;> first | exact he | exact he.1
  · by_cases e : l = l0
    · subst e
      exact ⟨_, h0, wp_seq (wp_skip (pass0 a w hj))⟩
    · exact pass l a w e hj
end Go.Proofs.YtmiiaomdenpceaaGreatDoor

namespace Go.Proofs.YtmiiaomdenpceaaGreatDoor
open Go.RowKit
set_option maxRecDepth 100000
set_option linter.unusedVariables false
theorem decVal_lt {s : ByteArray} : ∀ {i : Nat}, Digits s i → decVal s i < 10 ^ i
  | 0, _ => by simp [decVal]
  | i + 1, h => by
    have h1 := decVal_lt (i := i) fun j hj => h j (by omega)
    have h2 := h i (by omega)
    rw [decVal, Nat.pow_succ]
    omega
/-- Where Parse stands: its two boxes, the number so far. -/
structure PS (w wr : World) (ax : Option Addr) (nx cx X : Nat) : Prop where
  c1 : wr.cell? ⟨w.heap.size, 0, none⟩ = some (.slice none 0 0)
  f1 : wr.frozen? ⟨w.heap.size, 0, none⟩ = false
  c2 : wr.cell? ⟨w.heap.size + 1, 0, none⟩ = some (.slice ax nx cx)
  f2 : wr.frozen? ⟨w.heap.size + 1, 0, none⟩ = false
  num : RNat wr (.agg #[.slice ax nx cx]) X
  bel : Below w.heap.size w wr
theorem PS.mono {w wr w' : World} {ax : Option Addr} {nx cx X : Nat} (h : PS w wr ax nx cx X) (hb : Below wr.heap.size wr w') : PS w w' ax nx cx X :=
  ⟨cell_later hb h.c1, (hb.frozen (World.block_lt_of_cell? _ _ h.c1)).trans h.f1, cell_later hb h.c2, (hb.frozen (World.block_lt_of_cell? _ _ h.c2)).trans h.f2, h.num.mono hb, bel_go h.bel hb⟩
theorem PS.set {w wr : World} {ax a4 : Option Addr} {nx cx X n4 c4 Y : Nat} (h : PS w wr ax nx cx X) (hv : RNat wr (.agg #[.slice a4 n4 c4]) Y) : PS w (wr.setCell ⟨w.heap.size + 1, 0, none⟩ (.slice a4 n4 c4)) a4 n4 c4 Y := by
  have h1 := h.c1
  have h2 := h.c2
  have h3 := h.f1
  have h4 := h.f2
  refine ⟨?_, ?_, ?_, ?_, hv.setCell (no_int_slice h2) _, h.bel.setCell (by show _ ≤ _ + 1; omega) _⟩
  all_goals simp [go_sem, *]
end Go.Proofs.YtmiiaomdenpceaaGreatDoor

namespace Go.Proofs.YtmiiaomdenpceaaGreatDoor
open Go.RowKit
set_option linter.unusedVariables false
/-- Is there a digit? -/
def isD (s : ByteArray) (i : Nat) : Bool := decide (i < s.size) && (decide (48 ≤ sb s i) && decide (sb s i ≤ 57))
def runF (s : ByteArray) : Nat → Nat → Nat
  | 0, i => i
  | k + 1, i => if isD s i then runF s k (i + 1) else i
/-- Where the digits end that begin at i. -/
def runE (s : ByteArray) (i : Nat) : Nat := runF s (s.size - i) i
theorem isD_lt {s : ByteArray} {i : Nat} (h : isD s i = true) : i < s.size := by
  unfold isD at h
  simp at h
  exact h.1
theorem isD_dig {s : ByteArray} {i : Nat} (h : isD s i = true) : 48 ≤ sb s i ∧ sb s i ≤ 57 := by
  unfold isD at h
  simp at h
  exact h.2
theorem runE_yes {s : ByteArray} {i : Nat} (h : isD s i = true) : runE s i = runE s (i + 1) := by
  have := isD_lt h
  unfold runE
  rw [show s.size - i = s.size - (i + 1) + 1 by omega, runF, if_pos h]
theorem runE_no {s : ByteArray} {i : Nat} (h : isD s i = false) : runE s i = i := by
  unfold runE
  cases s.size - i with
  | zero => rfl
  | succ k => rw [runF, if_neg (by simp [h])]
theorem runF_ge (s : ByteArray) : ∀ k i, i ≤ runF s k i
  | 0, i => Nat.le_refl _
  | k + 1, i => by
    rw [runF]
    split
    · have := runF_ge s k (i + 1); omega
    · omega
theorem runE_ge (s : ByteArray) (i : Nat) : i ≤ runE s i := runF_ge s _ i
theorem runF_le (s : ByteArray) : ∀ k i, i ≤ s.size → runF s k i ≤ s.size
  | 0, i, h => h
  | k + 1, i, h => by
    rw [runF]
    split
    · rename_i hd
      have := isD_lt hd
      exact runF_le s k (i + 1) (by omega)
    · exact h
theorem runE_le {s : ByteArray} {i : Nat} (h : i ≤ s.size) : runE s i ≤ s.size := runF_le s _ i h
theorem runF_dig (s : ByteArray) : ∀ k i j, i ≤ j → j < runF s k i → isD s j = true
  | 0, i, j, h1, h2 => by rw [runF] at h2; omega
  | k + 1, i, j, h1, h2 => by
    rw [runF] at h2
    split at h2
    · rename_i hd
      rcases Nat.eq_or_lt_of_le h1 with e | e
      · rw [← e]; exact hd
      · exact runF_dig s k (i + 1) j e h2
    · omega
theorem runE_dig {s : ByteArray} {i j : Nat} (h1 : i ≤ j) (h2 : j < runE s i) : isD s j = true := runF_dig s _ i j h1 h2
/-- A piece of a text. -/
theorem sb_extract {s : ByteArray} {a b i : Nat} (hb : b ≤ s.size) (hi : a + i < b) : sb (s.extract a b) i = sb s (a + i) := by
  have h1 : i < (s.extract a b).size := by rw [ByteArray.size_extract]; omega
  have h2 : a + i < s.size := by omega
  unfold sb
  rw [dif_pos h1, dif_pos h2]
  rw [ByteArray.getElem_extract h1]
theorem size_ext {s : ByteArray} {a b : Nat} (hb : b ≤ s.size) : (s.extract a b).size = b - a := by rw [ByteArray.size_extract]; omega
theorem sb_app {s t : ByteArray} {i : Nat} : sb (s ++ t) i = if i < s.size then sb s i else sb t (i - s.size) := by
  have e := ByteArray.size_append (a := s) (b := t)
  unfold sb
  by_cases h1 : i < s.size
  · rw [if_pos h1, dif_pos h1, dif_pos (by omega), ByteArray.getElem_append_left h1]
  · rw [if_neg h1]
    by_cases h2 : i - s.size < t.size
    · rw [dif_pos h2, dif_pos (by omega), ByteArray.getElem_append_right (by omega)]
    · rw [dif_neg h2, dif_neg (by omega)]
theorem dig_ext {s : ByteArray} {i : Nat} (h : i ≤ s.size) : Digits (s.extract i (runE s i)) (s.extract i (runE s i)).size := by
  intro j hj
  have h1 := runE_le h
  rw [size_ext h1] at hj
  rw [sb_extract h1 (by omega)]
  exact isD_dig (runE_dig (i := i) (by omega) (by omega))
theorem dig_app {s t : ByteArray} (h : Digits s s.size) (k : Digits t t.size) : Digits (s ++ t) (s ++ t).size := by
  intro j hj
  rw [ByteArray.size_append] at hj
  rw [sb_app]
  split
  · exact h j (by assumption)
  · exact k _ (by omega)
end Go.Proofs.YtmiiaomdenpceaaGreatDoor

