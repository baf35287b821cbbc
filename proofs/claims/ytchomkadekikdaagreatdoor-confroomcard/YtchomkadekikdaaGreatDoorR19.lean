/- Contracts of the program's functions, part 19: own work, joined in build order. -/
import Derived.Test.YtchomkadekikdaaGreatDoorR18
namespace Go.Proofs.YtchomkadekikdaaGreatDoor
open Go.RowKit
set_option maxRecDepth 100000
set_option linter.unusedVariables false
def flowN : ByteArray := ⟨#[119, 101, 105, 103, 104, 116, 32, 113, 117, 97, 110, 116, 117, 109, 32, 99, 108, 97, 115, 115, 32, 115, 112, 97, 110, 32, 98, 117, 114, 115, 116, 32, 114, 97, 116, 101, 32, 112, 101, 114, 32, 110, 111, 100, 101]⟩
theorem flowN_words : wordsL flowN = [⟨#[119, 101, 105, 103, 104, 116]⟩, ⟨#[113, 117, 97, 110, 116, 117, 109]⟩, ⟨#[99, 108, 97, 115, 115]⟩, ⟨#[115, 112, 97, 110]⟩, ⟨#[98, 117, 114, 115, 116]⟩, ⟨#[114, 97, 116, 101]⟩, ⟨#[112, 101, 114]⟩, ⟨#[110, 111, 100, 101]⟩] := by decide +kernel
theorem flowN_len : 0 < (wordsL ⟨#[119, 101, 105, 103, 104, 116, 32, 113, 117, 97, 110, 116, 117, 109, 32, 99, 108, 97, 115, 115, 32, 115, 112, 97, 110, 32, 98, 117, 114, 115, 116, 32, 114, 97, 116, 101, 32, 112, 101, 114, 32, 110, 111, 100, 101]⟩).length ∧ (wordsL ⟨#[119, 101, 105, 103, 104, 116, 32, 113, 117, 97, 110, 116, 117, 109, 32, 99, 108, 97, 115, 115, 32, 115, 112, 97, 110, 32, 98, 117, 114, 115, 116, 32, 114, 97, 116, 101, 32, 112, 101, 114, 32, 110, 111, 100, 101]⟩).length ≤ 100 := by
  have e : wordsL ⟨#[119, 101, 105, 103, 104, 116, 32, 113, 117, 97, 110, 116, 117, 109, 32, 99, 108, 97, 115, 115, 32, 115, 112, 97, 110, 32, 98, 117, 114, 115, 116, 32, 114, 97, 116, 101, 32, 112, 101, 114, 32, 110, 111, 100, 101]⟩ = _ := flowN_words
  rw [e]
  decide
theorem Bx1.row {w0 W : World} {g : Nat} {tg : TypeId} {c : Array Value} (h : Bx1 w0 W g tg c) (cs : Array Value) : Bx1 w0 (W.setRow g cs) g tg cs :=
  ⟨setRow_heap W g c cs tg _ h.hc, fun k hk => (setRow_other W g k cs hk).trans (h.ot k hk), h.os, h.tape, h.output, by rw [size_setRow]; exact h.size⟩
theorem calls_as {f : Nat} {args : Array Value} {w : World} {Q : Ending → World → Prop} (P : World → Prop) (hP : P w) (h : ∀ w', P w' → Calls Tryz.prog f args w' Q) : Calls Tryz.prog f args w Q := h w hP
set_option maxHeartbeats 1000000 in
theorem flow_walk {lm : Nat} (rb : Nat) (p p1 p2 p3 p4 p5 p6 p7 p8 p9 : List ByteArray × Bool) (n0 n1 n2 n3 n4 n5 n6 : Int) (rt : ByteArray) (e1 : arS ⟨#[119, 101, 105, 103, 104, 116, 32, 113, 117, 97, 110, 116, 117, 109, 32, 99, 108, 97, 115, 115, 32, 115, 112, 97, 110, 32, 98, 117, 114, 115, 116, 32, 114, 97, 116, 101, 32, 112, 101, 114, 32, 110, 111, 100, 101]⟩ p = p1) (e2 : nmS p1 = p2) (e3 : nmS p2 = p3) (e4 : nmS p3 = p4) (e5 : nmS p4 = p5) (e6 : nmS p5 = p6) (e7 : woS p6 = p7) (e8 : nmS p7 = p8) (e9 : nmS p8 = p9) (k0 : nmI p1 = n0) (k1 : nmI p2 = n1) (k2 : nmI p3 = n2) (k3 : nmI p4 = n3) (k4 : nmI p5 = n4) (k5 : nmI p7 = n5) (k6 : nmI p8 = n6) (kr : hdT p6.1 = rt) (w : World) (h : Rp lm w rb p) (hl : p.1.length ≤ 50000) :
    Calls Tryz.prog 56 #[.pointer (some ⟨rb, 0, none⟩)] w fun e w' => e = .returned (.tuple #[.agg #[.int .i64 n0, .int .i64 n1, .int .i64 n2, .int .i64 n3, .int .i64 n4, .float .f64 0, .int .i64 n5, .int .i64 n6], .string rt]) ∧ (∃ lm', Rp lm' w' rb p9) ∧ Ob rb w w' := by
  have lrb := h.rd.lt
  have HR : Hid _ := h
  clear h
  have HL : Hid _ := hl
  have E1 : Hid _ := e1
  have E2 : Hid _ := e2
  have E3 : Hid _ := e3
  have E4 : Hid _ := e4
  have E5 : Hid _ := e5
  have E6 : Hid _ := e6
  have E7 : Hid _ := e7
  have E8 : Hid _ := e8
  have E9 : Hid _ := e9
  have K0 : Hid _ := k0
  have K1 : Hid _ := k1
  have K2 : Hid _ := k2
  have K3 : Hid _ := k3
  have K4 : Hid _ := k4
  have K5 : Hid _ := k5
  have K6 : Hid _ := k6
  have KR : Hid _ := kr
  clear e1 e2 e3 e4 e5 e6 e7 e8 e9 k0 k1 k2 k3 k4 k5 k6 kr
  go_enter Tryz.func56, Tryz.ntmps56
  go_wp2_with fail
  refine ((HR.out.go (bc_al (bel_refl _))).arrange ⟨#[119, 101, 105, 103, 104, 116, 32, 113, 117, 97, 110, 116, 117, 109, 32, 99, 108, 97, 115, 115, 32, 115, 112, 97, 110, 32, 98, 117, 114, 115, 116, 32, 114, 97, 116, 101, 32, 112, 101, 114, 32, 110, 111, 100, 101]⟩ (by decide) flowN_len.1 flowN_len.2 HL.out).mono ?_
  rintro e w1 ⟨rfl, ⟨lm1, hr1⟩, ho1⟩
  rw [E1.out] at hr1
  have R1 : Hid _ := hr1
  have O1 : Hid (Ob rb (w.alloc (.cells #[.int .i64 0, .int .i64 0, .int .i64 0, .int .i64 0, .int .i64 0, .float .f64 0, .int .i64 0, .int .i64 0] 27)) w1) := ho1
  clear hr1 ho1
  go_wp2_with fail
  refine (R1.out.number).mono ?_
  rintro e w2 ⟨rfl, hr2, ho2⟩
  rw [E2.out] at hr2
  have R2 : Hid _ := hr2
  have O2 : Hid (Ob rb (w.alloc (.cells #[.int .i64 0, .int .i64 0, .int .i64 0, .int .i64 0, .int .i64 0, .float .f64 0, .int .i64 0, .int .i64 0] 27)) w2) := O1.out.trans ho2
  clear hr2 ho2 R1 O1
  rw [K0.out]
  go_wp2_with fail
  refine (R2.out.number).mono ?_
  rintro e w3 ⟨rfl, hr3, ho3⟩
  rw [E3.out] at hr3
  have R3 : Hid _ := hr3
  have O3 : Hid (Ob rb (w.alloc (.cells #[.int .i64 0, .int .i64 0, .int .i64 0, .int .i64 0, .int .i64 0, .float .f64 0, .int .i64 0, .int .i64 0] 27)) w3) := O2.out.trans ho3
  clear hr3 ho3 R2 O2
  rw [K1.out]
  go_wp2_with fail
  refine (R3.out.number).mono ?_
  rintro e w4 ⟨rfl, hr4, ho4⟩
  rw [E4.out] at hr4
  have R4 : Hid _ := hr4
  have O4 : Hid (Ob rb (w.alloc (.cells #[.int .i64 0, .int .i64 0, .int .i64 0, .int .i64 0, .int .i64 0, .float .f64 0, .int .i64 0, .int .i64 0] 27)) w4) := O3.out.trans ho4
  clear hr4 ho4 R3 O3
  rw [K2.out]
  go_wp2_with fail
  refine (R4.out.number).mono ?_
  rintro e w5 ⟨rfl, hr5, ho5⟩
  rw [E5.out] at hr5
  have R5 : Hid _ := hr5
  have O5 : Hid (Ob rb (w.alloc (.cells #[.int .i64 0, .int .i64 0, .int .i64 0, .int .i64 0, .int .i64 0, .float .f64 0, .int .i64 0, .int .i64 0] 27)) w5) := O4.out.trans ho5
  clear hr5 ho5 R4 O4
  rw [K3.out]
  go_wp2_with fail
  refine (R5.out.number).mono ?_
  rintro e w6 ⟨rfl, hr6, ho6⟩
  rw [E6.out] at hr6
  have R6 : Hid _ := hr6
  have O6 : Hid (Ob rb (w.alloc (.cells #[.int .i64 0, .int .i64 0, .int .i64 0, .int .i64 0, .int .i64 0, .float .f64 0, .int .i64 0, .int .i64 0] 27)) w6) := O5.out.trans ho6
  clear hr6 ho6 R5 O5
  rw [K4.out]
  obtain ⟨gR, eR⟩ : ∃ g, g = w.heap.size := ⟨_, rfl⟩
  have hR : w6.heap[gR]? = some (.cells #[.int .i64 0, .int .i64 0, .int .i64 0, .int .i64 0, .int .i64 0, .float .f64 0, .int .i64 0, .int .i64 0] 27) := (O6.out.block gR (by rw [World.size_alloc]; omega) (by omega)).trans (by rw [eR]; exact al_at _ _)
  have H6 : Hid _ := hR
  have y0 : w6.cell? ⟨gR, 0, none⟩ = some (.int .i64 0) := by simp [World.cell?, hR]
  have y1 : w6.cell? ⟨gR, 1, none⟩ = some (.int .i64 0) := by simp [World.cell?, hR]
  have y2 : w6.cell? ⟨gR, 2, none⟩ = some (.int .i64 0) := by simp [World.cell?, hR]
  have y3 : w6.cell? ⟨gR, 3, none⟩ = some (.int .i64 0) := by simp [World.cell?, hR]
  have y4 : w6.cell? ⟨gR, 4, none⟩ = some (.int .i64 0) := by simp [World.cell?, hR]
  have y5 : w6.cell? ⟨gR, 5, none⟩ = some (.float .f64 0) := by simp [World.cell?, hR]
  have y6 : w6.cell? ⟨gR, 6, none⟩ = some (.int .i64 0) := by simp [World.cell?, hR]
  have y7 : w6.cell? ⟨gR, 7, none⟩ = some (.int .i64 0) := by simp [World.cell?, hR]
  have fr0 : w6.frozen? ⟨gR, 0, none⟩ = false := by simp [World.frozen?, hR]
  have fr1 : w6.frozen? ⟨gR, 1, none⟩ = false := by simp [World.frozen?, hR]
  have fr2 : w6.frozen? ⟨gR, 2, none⟩ = false := by simp [World.frozen?, hR]
  have fr3 : w6.frozen? ⟨gR, 3, none⟩ = false := by simp [World.frozen?, hR]
  have fr4 : w6.frozen? ⟨gR, 4, none⟩ = false := by simp [World.frozen?, hR]
  have fr5 : w6.frozen? ⟨gR, 5, none⟩ = false := by simp [World.frozen?, hR]
  have fr6 : w6.frozen? ⟨gR, 6, none⟩ = false := by simp [World.frozen?, hR]
  have fr7 : w6.frozen? ⟨gR, 7, none⟩ = false := by simp [World.frozen?, hR]
  have nrb : Hid (gR ≠ rb) := by show gR ≠ rb; omega
  have OW : Hid (Ob rb w w6) := (Ob.of (bc_al (bel_refl w))).trans O6.out
  have B6 : Hid (Bx1 w6 w6 gR 27 #[.int .i64 0, .int .i64 0, .int .i64 0, .int .i64 0, .int .i64 0, .float .f64 0, .int .i64 0, .int .i64 0]) := ⟨hR, fun _ _ => rfl, rfl, rfl, rfl, rfl⟩
  clear hR O6
  rw [← eR]
  have HER : Hid _ := eR
  clear eR
  go_wp2_with fail
  refine calls_as (fun W => Bx1 w6 W gR 27 #[.int .i64 n0, .int .i64 n1, .int .i64 n2, .int .i64 n3, .int .i64 n4, .float .f64 0, .int .i64 0, .int .i64 0]) (((((B6.out.set 0 (.int .i64 n0)).set 1 (.int .i64 n1)).set 2 (.int .i64 n2)).set 3 (.int .i64 n3)).set 4 (.int .i64 n4)) ?_
  intro v6 B7
  have Q6 : Hid (Rp lm1 v6 rb p6) := R6.out.one B7 H6.out rfl nrb.out
  have A6 : Hid _ := B7
  have G6 : Hid _ := B7.hc
  clear B7
  clear y0 fr0
  clear y1 fr1
  clear y2 fr2
  clear y3 fr3
  clear y4 fr4
  clear y5 fr5
  clear y6 fr6
  clear y7 fr7
  refine (Q6.out.word).mono ?_
  rintro e w7 ⟨rfl, hr7, ho7⟩
  rw [E7.out] at hr7
  have R7 : Hid _ := hr7
  have O7 : Hid (Ob rb v6 w7) := ho7
  clear hr7 ho7
  rw [KR.out]
  go_wp2_with fail
  refine (R7.out.number).mono ?_
  rintro e w8 ⟨rfl, hr8, ho8⟩
  rw [E8.out] at hr8
  have R8 : Hid _ := hr8
  have O8 : Hid (Ob rb v6 w8) := O7.out.trans ho8
  clear hr8 ho8 R7 O7
  rw [K5.out]
  go_wp2_with fail
  refine (R8.out.number).mono ?_
  rintro e w9 ⟨rfl, hr9, ho9⟩
  rw [E9.out] at hr9
  have R9 : Hid _ := hr9
  have O9 : Hid (Ob rb v6 w9) := O8.out.trans ho9
  clear hr9 ho9 R8 O8
  rw [K6.out]
  have hR : w9.heap[gR]? = some (.cells #[.int .i64 n0, .int .i64 n1, .int .i64 n2, .int .i64 n3, .int .i64 n4, .float .f64 0, .int .i64 0, .int .i64 0] 27) := (O9.out.block gR (Array.getElem?_eq_some_iff.1 G6.out).1 nrb.out).trans G6.out
  have H9 : Hid _ := hR
  have y0 : w9.cell? ⟨gR, 0, none⟩ = some (.int .i64 n0) := by simp [World.cell?, hR]
  have y1 : w9.cell? ⟨gR, 1, none⟩ = some (.int .i64 n1) := by simp [World.cell?, hR]
  have y2 : w9.cell? ⟨gR, 2, none⟩ = some (.int .i64 n2) := by simp [World.cell?, hR]
  have y3 : w9.cell? ⟨gR, 3, none⟩ = some (.int .i64 n3) := by simp [World.cell?, hR]
  have y4 : w9.cell? ⟨gR, 4, none⟩ = some (.int .i64 n4) := by simp [World.cell?, hR]
  have y5 : w9.cell? ⟨gR, 5, none⟩ = some (.float .f64 0) := by simp [World.cell?, hR]
  have y6 : w9.cell? ⟨gR, 6, none⟩ = some (.int .i64 0) := by simp [World.cell?, hR]
  have y7 : w9.cell? ⟨gR, 7, none⟩ = some (.int .i64 0) := by simp [World.cell?, hR]
  have fr0 : w9.frozen? ⟨gR, 0, none⟩ = false := by simp [World.frozen?, hR]
  have fr1 : w9.frozen? ⟨gR, 1, none⟩ = false := by simp [World.frozen?, hR]
  have fr2 : w9.frozen? ⟨gR, 2, none⟩ = false := by simp [World.frozen?, hR]
  have fr3 : w9.frozen? ⟨gR, 3, none⟩ = false := by simp [World.frozen?, hR]
  have fr4 : w9.frozen? ⟨gR, 4, none⟩ = false := by simp [World.frozen?, hR]
  have fr5 : w9.frozen? ⟨gR, 5, none⟩ = false := by simp [World.frozen?, hR]
  have fr6 : w9.frozen? ⟨gR, 6, none⟩ = false := by simp [World.frozen?, hR]
  have fr7 : w9.frozen? ⟨gR, 7, none⟩ = false := by simp [World.frozen?, hR]
  have B9 : Hid (Bx1 w9 w9 gR 27 #[.int .i64 n0, .int .i64 n1, .int .i64 n2, .int .i64 n3, .int .i64 n4, .float .f64 0, .int .i64 0, .int .i64 0]) := ⟨hR, fun _ _ => rfl, rfl, rfl, rfl, rfl⟩
  clear hR
  go_wp2_with (refine (id ?_ : wpList Tryz.prog _ _ (⟨some 29, _, _, _, _, _⟩ :: _) _ _); refine wpList_as (fun W => Bx1 w9 W gR 27 #[.int .i64 n0, .int .i64 n1, .int .i64 n2, .int .i64 n3, .int .i64 n4, .float .f64 0, .int .i64 n5, .int .i64 n6]) ((B9.out.set 6 (.int .i64 n5)).set 7 (.int .i64 n6)) ?_)
  intro v9 B10
  clear y0 fr0
  clear y1 fr1
  clear y2 fr2
  clear y3 fr3
  clear y4 fr4
  clear y5 fr5
  clear y6 fr6
  clear y7 fr7
  have hR := B10.hc
  have y0 : v9.cell? ⟨gR, 0, none⟩ = some (.int .i64 n0) := by simp [World.cell?, hR]
  have y1 : v9.cell? ⟨gR, 1, none⟩ = some (.int .i64 n1) := by simp [World.cell?, hR]
  have y2 : v9.cell? ⟨gR, 2, none⟩ = some (.int .i64 n2) := by simp [World.cell?, hR]
  have y3 : v9.cell? ⟨gR, 3, none⟩ = some (.int .i64 n3) := by simp [World.cell?, hR]
  have y4 : v9.cell? ⟨gR, 4, none⟩ = some (.int .i64 n4) := by simp [World.cell?, hR]
  have y5 : v9.cell? ⟨gR, 5, none⟩ = some (.float .f64 0) := by simp [World.cell?, hR]
  have y6 : v9.cell? ⟨gR, 6, none⟩ = some (.int .i64 n5) := by simp [World.cell?, hR]
  have y7 : v9.cell? ⟨gR, 7, none⟩ = some (.int .i64 n6) := by simp [World.cell?, hR]
  have fr0 : v9.frozen? ⟨gR, 0, none⟩ = false := by simp [World.frozen?, hR]
  have fr1 : v9.frozen? ⟨gR, 1, none⟩ = false := by simp [World.frozen?, hR]
  have fr2 : v9.frozen? ⟨gR, 2, none⟩ = false := by simp [World.frozen?, hR]
  have fr3 : v9.frozen? ⟨gR, 3, none⟩ = false := by simp [World.frozen?, hR]
  have fr4 : v9.frozen? ⟨gR, 4, none⟩ = false := by simp [World.frozen?, hR]
  have fr5 : v9.frozen? ⟨gR, 5, none⟩ = false := by simp [World.frozen?, hR]
  have fr6 : v9.frozen? ⟨gR, 6, none⟩ = false := by simp [World.frozen?, hR]
  have fr7 : v9.frozen? ⟨gR, 7, none⟩ = false := by simp [World.frozen?, hR]
  have A9 : Hid _ := B10
  clear hR B10
  go_wp2_with (refine (id ?_ : wpList Tryz.prog _ _ (⟨none, .store 27 (.tmp 2) (.tmp 29), _, _, _, _⟩ :: _) _ _); refine wpList_store_row rfl 27 (.tmp 2) (.tmp 29) rfl gR #[.int .i64 n0, .int .i64 n1, .int .i64 n2, .int .i64 n3, .int .i64 n4, .float .f64 0, .int .i64 n5, .int .i64 n6] rfl rfl 27 #[.int .i64 n0, .int .i64 n1, .int .i64 n2, .int .i64 n3, .int .i64 n4, .float .f64 0, .int .i64 n5, .int .i64 n6] A9.out.hc (by kernel_rfl) (by kernel_rfl) (by kernel_rfl) ?_; refine wpList_as (fun W => Bx1 w9 W gR 27 #[.int .i64 n0, .int .i64 n1, .int .i64 n2, .int .i64 n3, .int .i64 n4, .float .f64 0, .int .i64 n5, .int .i64 n6]) (A9.out.row _) ?_)
  intro w10 B10
  clear y0 fr0
  clear y1 fr1
  clear y2 fr2
  clear y3 fr3
  clear y4 fr4
  clear y5 fr5
  clear y6 fr6
  clear y7 fr7
  go_wp2_with fail
  have hR := B10.hc
  have y0 : w10.cell? ⟨gR, 0, none⟩ = some (.int .i64 n0) := by simp [World.cell?, hR]
  have y1 : w10.cell? ⟨gR, 1, none⟩ = some (.int .i64 n1) := by simp [World.cell?, hR]
  have y2 : w10.cell? ⟨gR, 2, none⟩ = some (.int .i64 n2) := by simp [World.cell?, hR]
  have y3 : w10.cell? ⟨gR, 3, none⟩ = some (.int .i64 n3) := by simp [World.cell?, hR]
  have y4 : w10.cell? ⟨gR, 4, none⟩ = some (.int .i64 n4) := by simp [World.cell?, hR]
  have y5 : w10.cell? ⟨gR, 5, none⟩ = some (.float .f64 0) := by simp [World.cell?, hR]
  have y6 : w10.cell? ⟨gR, 6, none⟩ = some (.int .i64 n5) := by simp [World.cell?, hR]
  have y7 : w10.cell? ⟨gR, 7, none⟩ = some (.int .i64 n6) := by simp [World.cell?, hR]
  refine bodyPost_ret (v := .tuple #[.agg #[.int .i64 n0, .int .i64 n1, .int .i64 n2, .int .i64 n3, .int .i64 n4, .float .f64 0, .int .i64 n5, .int .i64 n6], .string rt]) (by simp [results, Tryz.results56, go_sem, y0, y1, y2, y3, y4, y5, y6, y7]) rfl ⟨rfl, ⟨lm1, R9.out.one B10 H9.out rfl nrb.out⟩, ?_⟩
  have X := A6.out
  refine ⟨B10.os.trans (O9.out.os.trans (X.os.trans OW.out.os)), B10.tape.trans (O9.out.tape.trans (X.tape.trans OW.out.tape)), B10.output.trans (O9.out.output.trans (X.output.trans OW.out.output)), ?_, fun k hk hne => ?_⟩
  · have q1 := B10.size
    have q2 := O9.out.size
    have q3 := X.size
    have q4 := OW.out.size
    omega
  have q1 := HER.out
  have q3 := X.size
  have q4 := OW.out.size
  exact (B10.ot k (by omega)).trans ((O9.out.block k (by omega) hne).trans ((X.ot k (by omega)).trans (OW.out.block k hk hne)))
set_option maxHeartbeats 1000000 in
theorem setup_tree_walk {lm : Nat} (rb : Nat) (p p1 p2 p3 p4 p5 p6 p7 p8 : List ByteArray × Bool) (n0 n1 n2 n3 n4 : Int) (e1 : naS ⟨#[107, 105, 110, 100]⟩ p = p1) (e2 : kdS p1 = p2) (e3 : arS ⟨#[114, 111, 111, 109, 32, 109, 111, 115, 116, 32, 99, 97, 112, 32, 102, 108, 111, 119, 115, 32, 97, 103, 101]⟩ p2 = p3) (e4 : nmS p3 = p4) (e5 : nmS p4 = p5) (e6 : nmS p5 = p6) (e7 : nmS p6 = p7) (e8 : nmS p7 = p8) (k0 : kdV (hdT p1.1) = 6) (k1 : nmI p3 = n0) (k2 : nmI p4 = n1) (k3 : nmI p5 = n2) (k4 : nmI p6 = n3) (k5 : nmI p7 = n4) (w : World) (h : Rp lm w rb p) (hl : p2.1.length ≤ 50000) :
    Calls Tryz.prog 50 #[.pointer (some ⟨rb, 0, none⟩)] w fun e w' => ∃ v base, e = .returned (.agg #[.int .i64 6, .int .i64 n0, .int .i64 n1, .int .i64 n2, .int .i64 n3, .int .i64 n4, v]) ∧ w.heap.size ≤ base ∧ Nr base w' v ((6, 0, 0, 0) :: (nds p8.1.length p8).1) ∧ (∃ lm', Rp lm' w' rb (nds p8.1.length p8).2) ∧ Ob rb w w' := by
  have lrb := h.rd.lt
  have HR : Hid _ := h
  clear h
  have HL : Hid _ := hl
  have E1 : Hid _ := e1
  have E2 : Hid _ := e2
  have E3 : Hid _ := e3
  have E4 : Hid _ := e4
  have E5 : Hid _ := e5
  have E6 : Hid _ := e6
  have E7 : Hid _ := e7
  have E8 : Hid _ := e8
  have K0 : Hid _ := k0
  have K1 : Hid _ := k1
  have K2 : Hid _ := k2
  have K3 : Hid _ := k3
  have K4 : Hid _ := k4
  have K5 : Hid _ := k5
  clear e1 e2 e3 e4 e5 e6 e7 e8 k0 k1 k2 k3 k4 k5
  go_enter Tryz.func50, Tryz.ntmps50
  go_wp2_with fail
  refine ((HR.out.go (bc_al (bel_refl _))).name ⟨#[107, 105, 110, 100]⟩).mono ?_
  rintro e w1 ⟨rfl, hr1, ho1⟩
  rw [E1.out] at hr1
  have R1 : Hid _ := hr1
  have O1 : Hid _ := ho1
  clear hr1 ho1
  go_wp2_with fail
  refine (R1.out.kind).mono ?_
  rintro e w2 ⟨rfl, hr2, ho2⟩
  rw [E2.out] at hr2
  have R2 : Hid _ := hr2
  have O2 : Hid (Ob rb (w.alloc (.cells #[.int .i64 0, .int .i64 0, .int .i64 0, .int .i64 0, .int .i64 0, .int .i64 0, .slice none 0 0] 24)) w2) := O1.out.trans ho2
  have hsz2 := O2.out.size
  rw [World.size_alloc] at hsz2
  clear hr2 ho2 O1 R1
  rw [K0.out]
  go_wp2_with fail
  refine ((R2.out.go (bc_al (bel_refl _))).arrange ⟨#[114, 111, 111, 109, 32, 109, 111, 115, 116, 32, 99, 97, 112, 32, 102, 108, 111, 119, 115, 32, 97, 103, 101]⟩ (by decide) setupN_len.1 setupN_len.2 HL.out).mono ?_
  rintro e w3 ⟨rfl, ⟨lm3, hr3⟩, ho3⟩
  rw [E3.out] at hr3
  have R3 : Hid _ := hr3
  have O3 : Hid (Ob rb (w2.alloc (.cells #[.int .i64 6, .int .i64 0, .int .i64 0, .int .i64 0, .int .i64 0, .int .i64 0, .slice none 0 0] 24)) w3) := ho3
  clear hr3 ho3 R2
  go_wp2_with fail
  refine (R3.out.number).mono ?_
  rintro e w4 ⟨rfl, hr4, ho4⟩
  rw [E4.out] at hr4
  have R4 : Hid _ := hr4
  have O4 : Hid (Ob rb (w2.alloc (.cells #[.int .i64 6, .int .i64 0, .int .i64 0, .int .i64 0, .int .i64 0, .int .i64 0, .slice none 0 0] 24)) w4) := O3.out.trans ho4
  clear hr4 ho4 R3 O3
  rw [K1.out]
  go_wp2_with fail
  refine (R4.out.number).mono ?_
  rintro e w5 ⟨rfl, hr5, ho5⟩
  rw [E5.out] at hr5
  have R5 : Hid _ := hr5
  have O5 : Hid (Ob rb (w2.alloc (.cells #[.int .i64 6, .int .i64 0, .int .i64 0, .int .i64 0, .int .i64 0, .int .i64 0, .slice none 0 0] 24)) w5) := O4.out.trans ho5
  clear hr5 ho5 R4 O4
  rw [K2.out]
  go_wp2_with fail
  refine (R5.out.number).mono ?_
  rintro e w6 ⟨rfl, hr6, ho6⟩
  rw [E6.out] at hr6
  have R6 : Hid _ := hr6
  have O6 : Hid (Ob rb (w2.alloc (.cells #[.int .i64 6, .int .i64 0, .int .i64 0, .int .i64 0, .int .i64 0, .int .i64 0, .slice none 0 0] 24)) w6) := O5.out.trans ho6
  clear hr6 ho6 R5 O5
  rw [K3.out]
  go_wp2_with fail
  refine (R6.out.number).mono ?_
  rintro e w7 ⟨rfl, hr7, ho7⟩
  rw [E7.out] at hr7
  have R7 : Hid _ := hr7
  have O7 : Hid (Ob rb (w2.alloc (.cells #[.int .i64 6, .int .i64 0, .int .i64 0, .int .i64 0, .int .i64 0, .int .i64 0, .slice none 0 0] 24)) w7) := O6.out.trans ho7
  clear hr7 ho7 R6 O6
  rw [K4.out]
  go_wp2_with fail
  refine (R7.out.number).mono ?_
  rintro e w8 ⟨rfl, hr8, ho8⟩
  rw [E8.out] at hr8
  have R8 : Hid _ := hr8
  have O8 : Hid (Ob rb (w2.alloc (.cells #[.int .i64 6, .int .i64 0, .int .i64 0, .int .i64 0, .int .i64 0, .int .i64 0, .slice none 0 0] 24)) w8) := O7.out.trans ho8
  clear hr8 ho8 R7 O7
  rw [K5.out]
  obtain ⟨gR, eR⟩ : ∃ g, g = w.heap.size := ⟨_, rfl⟩
  obtain ⟨gC, eC⟩ : ∃ g, g = w2.heap.size := ⟨_, rfl⟩
  have hC : w8.heap[gC]? = some (.cells #[.int .i64 6, .int .i64 0, .int .i64 0, .int .i64 0, .int .i64 0, .int .i64 0, .slice none 0 0] 24) := (O8.out.block gC (by rw [World.size_alloc]; omega) (by omega)).trans (by rw [eC]; exact al_at _ _)
  have hR : w8.heap[gR]? = some (.cells #[.int .i64 0, .int .i64 0, .int .i64 0, .int .i64 0, .int .i64 0, .int .i64 0, .slice none 0 0] 24) := (O8.out.block gR (by rw [World.size_alloc]; omega) (by omega)).trans (((bc_al (bel_refl w2)).block gR (by omega)).trans ((O2.out.block gR (by rw [World.size_alloc]; omega) (by omega)).trans (by rw [eR]; exact al_at _ _)))
  have HC : Hid _ := hC
  have HRR : Hid _ := hR
  have x0 : w8.cell? ⟨gC, 0, none⟩ = some (.int .i64 6) := by simp [World.cell?, hC]
  have x1 : w8.cell? ⟨gC, 1, none⟩ = some (.int .i64 0) := by simp [World.cell?, hC]
  have x2 : w8.cell? ⟨gC, 2, none⟩ = some (.int .i64 0) := by simp [World.cell?, hC]
  have x3 : w8.cell? ⟨gC, 3, none⟩ = some (.int .i64 0) := by simp [World.cell?, hC]
  have x4 : w8.cell? ⟨gC, 4, none⟩ = some (.int .i64 0) := by simp [World.cell?, hC]
  have x5 : w8.cell? ⟨gC, 5, none⟩ = some (.int .i64 0) := by simp [World.cell?, hC]
  have x6 : w8.cell? ⟨gC, 6, none⟩ = some (.slice none 0 0) := by simp [World.cell?, hC]
  have y0 : w8.cell? ⟨gR, 0, none⟩ = some (.int .i64 0) := by simp [World.cell?, hR]
  have y1 : w8.cell? ⟨gR, 1, none⟩ = some (.int .i64 0) := by simp [World.cell?, hR]
  have y2 : w8.cell? ⟨gR, 2, none⟩ = some (.int .i64 0) := by simp [World.cell?, hR]
  have y3 : w8.cell? ⟨gR, 3, none⟩ = some (.int .i64 0) := by simp [World.cell?, hR]
  have y4 : w8.cell? ⟨gR, 4, none⟩ = some (.int .i64 0) := by simp [World.cell?, hR]
  have y5 : w8.cell? ⟨gR, 5, none⟩ = some (.int .i64 0) := by simp [World.cell?, hR]
  have y6 : w8.cell? ⟨gR, 6, none⟩ = some (.slice none 0 0) := by simp [World.cell?, hR]
  have fC : ∀ i, w8.frozen? ⟨gC, i, none⟩ = false := fun i => by simp [World.frozen?, hC]
  have fR : ∀ i, w8.frozen? ⟨gR, i, none⟩ = false := fun i => by simp [World.frozen?, hR]
  have fc0 := fC 0
  have fr0 := fR 0
  have fc1 := fC 1
  have fr1 := fR 1
  have fc2 := fC 2
  have fr2 := fR 2
  have fc3 := fC 3
  have fr3 := fR 3
  have fc4 := fC 4
  have fr4 := fR 4
  have fc5 := fC 5
  have fr5 := fR 5
  have fc6 := fC 6
  have fr6 := fR 6
  have neg : gC ≠ gR := by omega
  have lR : gR < w8.heap.size := World.block_lt_of_cell? _ _ y0
  have lC : gC < w8.heap.size := World.block_lt_of_cell? _ _ x0
  clear hC hR fC fR
  rw [← eC, ← eR]
  have HER : Hid _ := eR
  have HEC : Hid _ := eC
  clear eC eR
  have B8 : Hid (Bx2 w8 w8 gC gR 24 24 #[.int .i64 6, .int .i64 0, .int .i64 0, .int .i64 0, .int .i64 0, .int .i64 0, .slice none 0 0] #[.int .i64 0, .int .i64 0, .int .i64 0, .int .i64 0, .int .i64 0, .int .i64 0, .slice none 0 0]) := ⟨HC.out, HRR.out, fun _ _ _ => rfl, rfl, rfl, rfl, rfl⟩
  have negH : Hid (gC ≠ gR) := neg
  go_wp2_with (refine (id ?_ : wpList Tryz.prog _ _ (⟨some 26, _, _, _, _, _⟩ :: _) _ _); refine wpList_as (fun W => Bx2 w8 W gC gR 24 24 #[.int .i64 6, .int .i64 n0, .int .i64 n1, .int .i64 n2, .int .i64 n3, .int .i64 n4, .slice none 0 0] #[.int .i64 0, .int .i64 0, .int .i64 0, .int .i64 0, .int .i64 0, .int .i64 0, .slice none 0 0]) (((((B8.out.setC negH.out 1 (.int .i64 n0)).setC negH.out 2 (.int .i64 n1)).setC negH.out 3 (.int .i64 n2)).setC negH.out 4 (.int .i64 n3)).setC negH.out 5 (.int .i64 n4)) ?_)
  intro w9 B9
  clear x0 y0 fc0 fr0
  clear x1 y1 fc1 fr1
  clear x2 y2 fc2 fr2
  clear x3 y3 fc3 fr3
  clear x4 y4 fc4 fr4
  clear x5 y5 fc5 fr5
  clear x6 y6 fc6 fr6
  have hC := B9.hc
  have hR := B9.hr
  have x0 : w9.cell? ⟨gC, 0, none⟩ = some (.int .i64 6) := by simp [World.cell?, hC]
  have x1 : w9.cell? ⟨gC, 1, none⟩ = some (.int .i64 n0) := by simp [World.cell?, hC]
  have x2 : w9.cell? ⟨gC, 2, none⟩ = some (.int .i64 n1) := by simp [World.cell?, hC]
  have x3 : w9.cell? ⟨gC, 3, none⟩ = some (.int .i64 n2) := by simp [World.cell?, hC]
  have x4 : w9.cell? ⟨gC, 4, none⟩ = some (.int .i64 n3) := by simp [World.cell?, hC]
  have x5 : w9.cell? ⟨gC, 5, none⟩ = some (.int .i64 n4) := by simp [World.cell?, hC]
  have x6 : w9.cell? ⟨gC, 6, none⟩ = some (.slice none 0 0) := by simp [World.cell?, hC]
  have y0 : w9.cell? ⟨gR, 0, none⟩ = some (.int .i64 0) := by simp [World.cell?, hR]
  have y1 : w9.cell? ⟨gR, 1, none⟩ = some (.int .i64 0) := by simp [World.cell?, hR]
  have y2 : w9.cell? ⟨gR, 2, none⟩ = some (.int .i64 0) := by simp [World.cell?, hR]
  have y3 : w9.cell? ⟨gR, 3, none⟩ = some (.int .i64 0) := by simp [World.cell?, hR]
  have y4 : w9.cell? ⟨gR, 4, none⟩ = some (.int .i64 0) := by simp [World.cell?, hR]
  have y5 : w9.cell? ⟨gR, 5, none⟩ = some (.int .i64 0) := by simp [World.cell?, hR]
  have y6 : w9.cell? ⟨gR, 6, none⟩ = some (.slice none 0 0) := by simp [World.cell?, hR]
  have fr0 : w9.frozen? ⟨gR, 0, none⟩ = false := by simp [World.frozen?, hR]
  have fr1 : w9.frozen? ⟨gR, 1, none⟩ = false := by simp [World.frozen?, hR]
  have fr2 : w9.frozen? ⟨gR, 2, none⟩ = false := by simp [World.frozen?, hR]
  have fr3 : w9.frozen? ⟨gR, 3, none⟩ = false := by simp [World.frozen?, hR]
  have fr4 : w9.frozen? ⟨gR, 4, none⟩ = false := by simp [World.frozen?, hR]
  have fr5 : w9.frozen? ⟨gR, 5, none⟩ = false := by simp [World.frozen?, hR]
  have fr6 : w9.frozen? ⟨gR, 6, none⟩ = false := by simp [World.frozen?, hR]
  have K9 : Hid _ := B9
  have R9 : Hid (Rp lm3 w9 rb p8) := R8.out.two B9 HC.out HRR.out rfl rfl (by have := HEC.out; omega) (by have := HER.out; omega)
  have OW : Hid (Ob rb w w8) := ((Ob.of (bc_al (bel_refl w))).trans O2.out).trans ((Ob.of (bc_al (bel_refl w2))).trans O8.out)
  have OW9 : Hid (Ob rb w w9) := ⟨B9.os.trans OW.out.os, B9.tape.trans OW.out.tape, B9.output.trans OW.out.output, by rw [B9.size]; exact OW.out.size, fun k hk hne => (B9.ot k (by have := HEC.out; omega) (by have := HER.out; omega)).trans (OW.out.block k hk hne)⟩
  clear B9 hC hR
  go_wp2_with fail
  refine (nodes_any rb p8 w9 R9.out).mono ?_
  rintro e w10 ⟨v, rfl, hN, hr10, ho10⟩
  have R10 : Hid _ := hr10
  have nrb : Hid (gC ≠ rb ∧ gR ≠ rb) := ⟨by have := HEC.out; omega, by have := HER.out; omega⟩
  have hC : w10.heap[gC]? = some (.cells #[.int .i64 6, .int .i64 n0, .int .i64 n1, .int .i64 n2, .int .i64 n3, .int .i64 n4, .slice none 0 0] 24) := (ho10.block gC (by rw [K9.out.size]; omega) nrb.out.1).trans K9.out.hc
  have hR : w10.heap[gR]? = some (.cells #[.int .i64 0, .int .i64 0, .int .i64 0, .int .i64 0, .int .i64 0, .int .i64 0, .slice none 0 0] 24) := (ho10.block gR (by rw [K9.out.size]; omega) nrb.out.2).trans K9.out.hr
  have O10 : Hid _ := OW9.out.trans ho10
  have hs9 := K9.out.size
  obtain ⟨av, cv, ev, _, _⟩ := hN.sl
  subst ev
  obtain ⟨nv, env⟩ : ∃ nv, ((6, 0, 0, 0) :: (nds p8.1.length p8).1 : List Nd).length = nv := ⟨_, rfl⟩
  have NR : Hid (Nr w9.heap.size w10 (.slice av nv cv) ((6, 0, 0, 0) :: (nds p8.1.length p8).1)) := by rw [← env]; exact hN
  rw [env]
  have B10 : Hid (Bx2 w10 w10 gC gR 24 24 #[.int .i64 6, .int .i64 n0, .int .i64 n1, .int .i64 n2, .int .i64 n3, .int .i64 n4, .slice none 0 0] #[.int .i64 0, .int .i64 0, .int .i64 0, .int .i64 0, .int .i64 0, .int .i64 0, .slice none 0 0]) := ⟨hC, hR, fun _ _ _ => rfl, rfl, rfl, rfl, rfl⟩
  have HC10 : Hid _ := hC
  have HR10 : Hid _ := hR
  clear x0 y0
  clear x1 y1
  clear x2 y2
  clear x3 y3
  clear x4 y4
  clear x5 y5
  clear x6 y6
  clear fr0
  clear fr1
  clear fr2
  clear fr3
  clear fr4
  clear fr5
  clear fr6
  have x0 : w10.cell? ⟨gC, 0, none⟩ = some (.int .i64 6) := by simp [World.cell?, hC]
  have x1 : w10.cell? ⟨gC, 1, none⟩ = some (.int .i64 n0) := by simp [World.cell?, hC]
  have x2 : w10.cell? ⟨gC, 2, none⟩ = some (.int .i64 n1) := by simp [World.cell?, hC]
  have x3 : w10.cell? ⟨gC, 3, none⟩ = some (.int .i64 n2) := by simp [World.cell?, hC]
  have x4 : w10.cell? ⟨gC, 4, none⟩ = some (.int .i64 n3) := by simp [World.cell?, hC]
  have x5 : w10.cell? ⟨gC, 5, none⟩ = some (.int .i64 n4) := by simp [World.cell?, hC]
  have x6 : w10.cell? ⟨gC, 6, none⟩ = some (.slice none 0 0) := by simp [World.cell?, hC]
  have fc6 : w10.frozen? ⟨gC, 6, none⟩ = false := by simp [World.frozen?, hC]
  clear hC hR hN hr10 ho10 env
  go_wp2_with (refine (id ?_ : wpList Tryz.prog _ _ (⟨some 32, _, _, _, _, _⟩ :: _) _ _); refine wpList_as (fun W => Bx2 w10 W gC gR 24 24 #[.int .i64 6, .int .i64 n0, .int .i64 n1, .int .i64 n2, .int .i64 n3, .int .i64 n4, .slice av nv cv] #[.int .i64 0, .int .i64 0, .int .i64 0, .int .i64 0, .int .i64 0, .int .i64 0, .slice none 0 0]) (B10.out.setC negH.out 6 (.slice av nv cv)) ?_)
  intro w11 B11
  clear x0
  clear x1
  clear x2
  clear x3
  clear x4
  clear x5
  clear x6
  clear fc6
  have hC := B11.hc
  have x0 : w11.cell? ⟨gC, 0, none⟩ = some (.int .i64 6) := by simp [World.cell?, hC]
  have x1 : w11.cell? ⟨gC, 1, none⟩ = some (.int .i64 n0) := by simp [World.cell?, hC]
  have x2 : w11.cell? ⟨gC, 2, none⟩ = some (.int .i64 n1) := by simp [World.cell?, hC]
  have x3 : w11.cell? ⟨gC, 3, none⟩ = some (.int .i64 n2) := by simp [World.cell?, hC]
  have x4 : w11.cell? ⟨gC, 4, none⟩ = some (.int .i64 n3) := by simp [World.cell?, hC]
  have x5 : w11.cell? ⟨gC, 5, none⟩ = some (.int .i64 n4) := by simp [World.cell?, hC]
  have x6 : w11.cell? ⟨gC, 6, none⟩ = some (.slice av nv cv) := by simp [World.cell?, hC]
  have K11 : Hid _ := B11
  have GR : Hid _ := B11.hr
  clear B11 hC
  go_wp2_with (refine (id ?_ : wpList Tryz.prog _ _ (⟨none, .store 24 (.tmp 2) (.tmp 32), _, _, _, _⟩ :: _) _ _); refine wpList_store_row rfl 24 (.tmp 2) (.tmp 32) rfl gR #[.int .i64 6, .int .i64 n0, .int .i64 n1, .int .i64 n2, .int .i64 n3, .int .i64 n4, .slice av nv cv] rfl rfl 24 #[.int .i64 0, .int .i64 0, .int .i64 0, .int .i64 0, .int .i64 0, .int .i64 0, .slice none 0 0] GR.out (by kernel_rfl) (by kernel_rfl) (by kernel_rfl) ?_; refine wpList_as (fun W => Bx2 w10 W gC gR 24 24 #[.int .i64 6, .int .i64 n0, .int .i64 n1, .int .i64 n2, .int .i64 n3, .int .i64 n4, .slice av nv cv] #[.int .i64 6, .int .i64 n0, .int .i64 n1, .int .i64 n2, .int .i64 n3, .int .i64 n4, .slice av nv cv]) ⟨(setRow_other _ _ _ _ negH.out).trans K11.out.hc, setRow_heap _ _ _ _ _ _ GR.out, fun k h1 h2 => (setRow_other _ _ _ _ h2).trans (K11.out.ot k h1 h2), K11.out.os, K11.out.tape, K11.out.output, by rw [size_setRow]; exact K11.out.size⟩ ?_)
  intro w12 B12
  clear x0
  clear x1
  clear x2
  clear x3
  clear x4
  clear x5
  clear x6
  have hR := B12.hr
  have y0 : w12.cell? ⟨gR, 0, none⟩ = some (.int .i64 6) := by simp [World.cell?, hR]
  have y1 : w12.cell? ⟨gR, 1, none⟩ = some (.int .i64 n0) := by simp [World.cell?, hR]
  have y2 : w12.cell? ⟨gR, 2, none⟩ = some (.int .i64 n1) := by simp [World.cell?, hR]
  have y3 : w12.cell? ⟨gR, 3, none⟩ = some (.int .i64 n2) := by simp [World.cell?, hR]
  have y4 : w12.cell? ⟨gR, 4, none⟩ = some (.int .i64 n3) := by simp [World.cell?, hR]
  have y5 : w12.cell? ⟨gR, 5, none⟩ = some (.int .i64 n4) := by simp [World.cell?, hR]
  have y6 : w12.cell? ⟨gR, 6, none⟩ = some (.slice av nv cv) := by simp [World.cell?, hR]
  have K12 : Hid _ := B12
  clear B12 hR
  go_wp2_with fail
  refine bodyPost_ret (v := .agg #[.int .i64 6, .int .i64 n0, .int .i64 n1, .int .i64 n2, .int .i64 n3, .int .i64 n4, .slice av nv cv]) (by simp [results, Tryz.results50, go_sem, y0, y1, y2, y3, y4, y5, y6]) rfl ⟨.slice av nv cv, w9.heap.size, rfl, OW9.out.size, ?_, ⟨lm3, R10.out.two K12.out HC10.out HR10.out rfl rfl nrb.out.1 nrb.out.2⟩, ?_⟩
  · refine Nr.kept NR.out fun k hk => ?_
    obtain ⟨hb, _, _⟩ := Nr.own NR.out hk
    exact K12.out.ot k (by omega) (by omega)
  have q := O10.out
  exact ⟨K12.out.os.trans q.os, K12.out.tape.trans q.tape, K12.out.output.trans q.output, by rw [K12.out.size]; exact q.size, fun k hk hne => (K12.out.ot k (by have := HEC.out; omega) (by have := HER.out; omega)).trans (q.block k hk hne)⟩
theorem setup_tree {lm : Nat} (rb : Nat) (p : List ByteArray × Bool) (w : World) (h : Rp lm w rb p) (hl : p.1.length ≤ 40000) (h6 : setV p 0 = 6) :
    Calls Tryz.prog 50 #[.pointer (some ⟨rb, 0, none⟩)] w fun e w' => ∃ v base, e = .returned (.agg #[.int .i64 6, .int .i64 (setV p 1), .int .i64 (setV p 2), .int .i64 (setV p 3), .int .i64 (setV p 4), .int .i64 (setV p 5), v]) ∧ w.heap.size ≤ base ∧ Nr base w' v ((6, 0, 0, 0) :: (nds (setS p).1.length (setS p)).1) ∧ (∃ lm', Rp lm' w' rb (nds (setS p).1.length (setS p)).2) ∧ Ob rb w w' :=
  setup_tree_walk rb p _ _ _ _ _ _ _ _ _ _ _ _ _ rfl rfl rfl rfl rfl rfl rfl rfl h6 rfl rfl rfl rfl rfl w h (by simp only [kdS, naS, List.length_tail]; omega)
theorem ws_sm (s : ByteArray) (i : Nat) (hi : i ≤ s.size) : ∀ x ∈ (ws s i).2, x.size ≤ s.size := by
  induction i with
  | zero => intro x hx; simp [ws] at hx
  | succ i ih =>
    intro x hx
    rw [ws] at hx
    split at hx
    · split at hx
      · rcases List.mem_append.1 hx with q | q
        · exact ih (by omega) x q
        simp only [List.mem_singleton] at q
        rw [q, ByteArray.size_extract]
        omega
      exact ih (by omega) x hx
    exact ih (by omega) x hx
theorem words_sm (s : ByteArray) (x : ByteArray) (hx : x ∈ wordsL s) : x.size ≤ s.size := by
  unfold wordsL at hx
  split at hx
  · rcases List.mem_append.1 hx with q | q
    · exact ws_sm s _ (Nat.le_refl _) x q
    simp only [List.mem_singleton] at q
    rw [q, ByteArray.size_extract]
    omega
  exact ws_sm s _ (Nat.le_refl _) x hx
theorem words_len (s : ByteArray) : (wordsL s).length ≤ s.size + 1 := by
  have h := (ws_le s s.size).2
  unfold wordsL
  split
  · rw [List.length_append]; simp; omega
  omega
theorem rst_or {W : World} {base : Nat} {v : Value} {L : List ByteArray} (h : OR W 9 base v L.length (tx L)) : Rst W.heap.size W v L := by
  rcases h with ⟨rfl, q⟩ | ⟨g, cap, f, rfl, h1, h2, h3, h4, h5⟩
  · have e : L = [] := List.length_eq_zero_iff.1 q
    subst e
    exact ⟨none, 0, rfl, Nat.le_refl _, .inl ⟨rfl, rfl, rfl⟩⟩
  refine ⟨_, cap, rfl, h2, .inr ⟨g, 0, rfl, fun i hi => ?_⟩⟩
  have c := h4.cell (show i < cap by omega)
  rw [h5 i hi] at c
  rw [Nat.zero_add]
  exact ⟨World.block_lt_of_cell? _ _ c, c⟩
theorem rp_start {W W0 : World} {v : Value} {s : ByteArray} {base : Nat} (hs : s.size ≤ 4096) (h : OR W 9 base v (wordsL s).length (tx (wordsL s))) (he : EV W) (hk : KN W) : Rp (W.heap.size + 1) (W.alloc (.cells #[v, .bool false] 102)) W.heap.size (wordsL s, false) := by
  have B := bc_al (o := .cells #[v, .bool false] 102) (bel_refl W)
  refine ⟨⟨⟨v, al_at _ _, ?_⟩⟩, by rw [World.size_alloc]; omega, fun x hx => Nat.le_trans (words_sm s x hx) hs, he.go B, hk.go B, ?_⟩
  · obtain ⟨a, cap, e, h1, h2⟩ := rst_or h
    refine ⟨a, cap, e, h1, h2.imp id ?_⟩
    rintro ⟨g, o, ha, hc⟩
    exact ⟨g, o, ha, fun i hi => ⟨Nat.lt_succ_of_lt (hc i hi).1, bc_cell B (hc i hi).2⟩⟩
  have := words_len s
  show (wordsL s).length ≤ _
  omega
theorem nsl_nil (w : World) : NSl w none 0 0 (fun _ _ => 0) := ⟨Nat.le_refl _, by omega, fun i j hi => by omega, .inl rfl⟩
set_option maxHeartbeats 1000000 in
theorem parse_good (s : ByteArray) (KD n0 n1 n2 n3 n4 : Int) (w : World) (hs : s.size ≤ 4096) (he : EV w) (hk : KN w) (h6 : KD ≠ 6) (k0 : setV (wordsL s, false) 0 = KD) (k1 : setV (wordsL s, false) 1 = n0) (k2 : setV (wordsL s, false) 2 = n1) (k3 : setV (wordsL s, false) 3 = n2) (k4 : setV (wordsL s, false) 4 = n3) (k5 : setV (wordsL s, false) 5 = n4) (hd : setS (wordsL s, false) = ([], false)) (hc : checkE KD n0 n1 n2 n3 n4 (fun _ _ => 0) 0 = 0) :
    Calls Tryz.prog 19 #[.string s] w fun e w' => e = .returned (.tuple #[.agg #[.int .i64 KD, .int .i64 n0, .int .i64 n1, .int .i64 n2, .int .i64 n3, .int .i64 n4, .slice none 0 0], .int .i64 0]) ∧ Below w.heap.size w w' := by
  have HS : Hid _ := hs
  have HE : Hid _ := he
  have HK : Hid (KN w) := hk
  have HD : Hid _ := hd
  have HC : Hid _ := hc
  have HV : Hid (∀ e : Ending, e = Ending.returned (.agg #[.int .i64 (setV (wordsL s, false) 0), .int .i64 (setV (wordsL s, false) 1), .int .i64 (setV (wordsL s, false) 2), .int .i64 (setV (wordsL s, false) 3), .int .i64 (setV (wordsL s, false) 4), .int .i64 (setV (wordsL s, false) 5), .slice none 0 0]) → e = .returned (.agg #[.int .i64 KD, .int .i64 n0, .int .i64 n1, .int .i64 n2, .int .i64 n3, .int .i64 n4, .slice none 0 0])) := by
    intro e q
    rw [q, k0, k1, k2, k3, k4, k5]
  have H6 : Hid (setV (wordsL s, false) 0 ≠ 6) := by show _ ≠ _; rw [k0]; exact h6
  clear he hk hd hc k0 k1 k2 k3 k4 k5 h6
  have d0 : ¬ (4096 : Int) < (s.size : Int) := by omega
  go_enter Tryz.func19, Tryz.ntmps19
  go_wp2_with fail
  refine (words_any s _ (by omega)).mono ?_
  rintro e w1 ⟨v1, rfl, hO, hb1⟩
  have B1 : Hid (Below w.heap.size w w1) := bc_go (bc_al (bel_refl w)) hb1
  have BA : Hid (Below (w.alloc (.cells #[.int .i64 0, .int .i64 0, .int .i64 0, .int .i64 0, .int .i64 0, .int .i64 0, .slice none 0 0] 24)).heap.size (w.alloc (.cells #[.int .i64 0, .int .i64 0, .int .i64 0, .int .i64 0, .int .i64 0, .int .i64 0, .slice none 0 0] 24)) w1) := hb1
  have R1 : Hid _ := rp_start (W0 := w) hs hO (HE.out.go B1.out) (HK.out.go B1.out)
  have hsz1 := hb1.size
  rw [World.size_alloc] at hsz1
  have e1 : ∃ a n c, v1 = .slice a n c := by
    rcases hO with ⟨q, _⟩ | ⟨g, cap, f, q, _⟩
    · exact ⟨_, _, _, q⟩
    exact ⟨_, _, _, q⟩
  obtain ⟨a1, m1, c1, rfl⟩ := e1
  clear hO hb1
  go_wp2_with fail
  refine (setup_flat w1.heap.size (wordsL s, false) _ R1.out (by have := words_len s; show (wordsL s).length ≤ _; omega) H6.out).mono ?_
  rintro e w2 ⟨he2, ⟨lm2, hr2⟩, ho2⟩
  have he3 := HV.out e he2
  subst he3
  rw [HD.out] at hr2
  have R2 : Hid _ := hr2
  have O2 : Hid _ := ho2
  clear he2 hr2 ho2
  go_wp2_with fail
  refine (done_any w1.heap.size [] false _ (R2.out.rd.go (bc_al (bel_refl w2)))).mono ?_
  rintro e w3 ⟨rfl, rfl⟩
  obtain ⟨gC, eC⟩ : ∃ g, g = w2.heap.size := ⟨_, rfl⟩
  obtain ⟨gR, eR⟩ : ∃ g, g = w.heap.size := ⟨_, rfl⟩
  obtain ⟨w4, hw4⟩ : ∃ w4, w4 = w2.alloc (.cells #[.int .i64 KD, .int .i64 n0, .int .i64 n1, .int .i64 n2, .int .i64 n3, .int .i64 n4, .slice none 0 0] 24) := ⟨_, rfl⟩
  have hsz2 := O2.out.size
  rw [World.size_alloc] at hsz2
  have hC : w4.heap[gC]? = some (.cells #[.int .i64 KD, .int .i64 n0, .int .i64 n1, .int .i64 n2, .int .i64 n3, .int .i64 n4, .slice none 0 0] 24) := by rw [hw4, eC]; exact al_at _ _
  have hR : w4.heap[gR]? = some (.cells #[.int .i64 0, .int .i64 0, .int .i64 0, .int .i64 0, .int .i64 0, .int .i64 0, .slice none 0 0] 24) := by
    rw [hw4]
    refine ((bc_al (bel_refl w2)).block gR (by omega)).trans ((O2.out.block gR (by rw [World.size_alloc]; omega) (by omega)).trans (((bc_al (bel_refl w1)).block gR (by omega)).trans ((BA.out.block gR (by rw [World.size_alloc]; omega)).trans ?_)))
    rw [eR]
    exact al_at _ _
  have W4 : Hid (Below w.heap.size w w4) := by
    have q : Below w.heap.size (w1.alloc (.cells #[.slice a1 m1 c1, .bool false] 102)) w2 := O2.out.below (by rw [World.size_alloc]; omega) (by omega)
    rw [hw4]
    exact bc_al ((bc_al B1.out).trans q)
  rw [← hw4, ← eC, ← eR]
  have x0 : w4.cell? ⟨gC, 0, none⟩ = some (.int .i64 KD) := by simp [World.cell?, hC]
  have x1 : w4.cell? ⟨gC, 1, none⟩ = some (.int .i64 n0) := by simp [World.cell?, hC]
  have x2 : w4.cell? ⟨gC, 2, none⟩ = some (.int .i64 n1) := by simp [World.cell?, hC]
  have x3 : w4.cell? ⟨gC, 3, none⟩ = some (.int .i64 n2) := by simp [World.cell?, hC]
  have x4 : w4.cell? ⟨gC, 4, none⟩ = some (.int .i64 n3) := by simp [World.cell?, hC]
  have x5 : w4.cell? ⟨gC, 5, none⟩ = some (.int .i64 n4) := by simp [World.cell?, hC]
  have x6 : w4.cell? ⟨gC, 6, none⟩ = some (.slice none 0 0) := by simp [World.cell?, hC]
  have G4 : Hid _ := hR
  have GC : Hid _ := hC
  have lC : gC < w4.heap.size := World.block_lt_of_cell? _ _ x0
  have neg : Hid (gC ≠ gR) := by show gC ≠ gR; omega
  have HEQ : Hid _ := eR
  clear hC hR hw4 eC eR
  go_wp2_with fail
  refine (check_any KD n0 n1 n2 n3 n4 none 0 0 (fun _ _ => 0) _ (nsl_nil _)).mono ?_
  rintro e w5 ⟨rfl, hb5⟩
  rw [HC.out]
  have z0 := bc_cell hb5 x0
  have z1 := bc_cell hb5 x1
  have z2 := bc_cell hb5 x2
  have z3 := bc_cell hb5 x3
  have z4 := bc_cell hb5 x4
  have z5 := bc_cell hb5 x5
  have z6 := bc_cell hb5 x6
  have G5 : Hid (w5.heap[gR]? = some (.cells #[.int .i64 0, .int .i64 0, .int .i64 0, .int .i64 0, .int .i64 0, .int .i64 0, .slice none 0 0] 24)) := (hb5.block gR (Array.getElem?_eq_some_iff.1 G4.out).1).trans G4.out
  have W5 : Hid _ := bc_go W4.out hb5
  clear x0
  clear x1
  clear x2
  clear x3
  clear x4
  clear x5
  clear x6
  clear hb5
  go_wp2_with (refine (id ?_ : wpList Tryz.prog _ _ (⟨none, .store 24 (.tmp 2) (.tmp 24), _, _, _, _⟩ :: _) _ _); refine wpList_store_row rfl 24 (.tmp 2) (.tmp 24) rfl gR #[.int .i64 KD, .int .i64 n0, .int .i64 n1, .int .i64 n2, .int .i64 n3, .int .i64 n4, .slice none 0 0] rfl rfl 24 #[.int .i64 0, .int .i64 0, .int .i64 0, .int .i64 0, .int .i64 0, .int .i64 0, .slice none 0 0] G5.out (by kernel_rfl) (by kernel_rfl) (by kernel_rfl) ?_; refine wpList_as (fun W => W.heap[gR]? = some (.cells #[.int .i64 KD, .int .i64 n0, .int .i64 n1, .int .i64 n2, .int .i64 n3, .int .i64 n4, .slice none 0 0] 24) ∧ Below w.heap.size w W) ⟨setRow_heap _ _ _ _ _ _ G5.out, ?_⟩ ?_)
  · exact ⟨W5.out.os, W5.out.tape, W5.out.output, by rw [size_setRow]; exact W5.out.size, fun k hk => (setRow_other _ _ _ _ (by have := HEQ.out; omega)).trans (W5.out.block k hk)⟩
  intro w6 hR hB
  have W6 : Hid _ := hB
  have y0 : w6.cell? ⟨gR, 0, none⟩ = some (.int .i64 KD) := by simp [World.cell?, hR]
  have y1 : w6.cell? ⟨gR, 1, none⟩ = some (.int .i64 n0) := by simp [World.cell?, hR]
  have y2 : w6.cell? ⟨gR, 2, none⟩ = some (.int .i64 n1) := by simp [World.cell?, hR]
  have y3 : w6.cell? ⟨gR, 3, none⟩ = some (.int .i64 n2) := by simp [World.cell?, hR]
  have y4 : w6.cell? ⟨gR, 4, none⟩ = some (.int .i64 n3) := by simp [World.cell?, hR]
  have y5 : w6.cell? ⟨gR, 5, none⟩ = some (.int .i64 n4) := by simp [World.cell?, hR]
  have y6 : w6.cell? ⟨gR, 6, none⟩ = some (.slice none 0 0) := by simp [World.cell?, hR]
  clear hB hR
  go_wp2_with fail
  exact bodyPost_ret (v := .tuple #[.agg #[.int .i64 KD, .int .i64 n0, .int .i64 n1, .int .i64 n2, .int .i64 n3, .int .i64 n4, .slice none 0 0], .int .i64 0]) (by simp [results, Tryz.results19, go_sem, y0, y1, y2, y3, y4, y5, y6]) rfl ⟨rfl, W6.out⟩
def suN (p : List ByteArray × Bool) : List Nd := if setV p 0 = 6 then (6, 0, 0, 0) :: (nds (setS p).1.length (setS p)).1 else []
def suS (p : List ByteArray × Bool) : List ByteArray × Bool := if setV p 0 = 6 then (nds (setS p).1.length (setS p)).2 else setS p
theorem setup_any {lm : Nat} (rb : Nat) (p : List ByteArray × Bool) (w : World) (h : Rp lm w rb p) (hl : p.1.length ≤ 40000) :
    Calls Tryz.prog 50 #[.pointer (some ⟨rb, 0, none⟩)] w fun e w' => ∃ v, e = .returned (.agg #[.int .i64 (setV p 0), .int .i64 (setV p 1), .int .i64 (setV p 2), .int .i64 (setV p 3), .int .i64 (setV p 4), .int .i64 (setV p 5), v]) ∧ Nr w.heap.size w' v (suN p) ∧ (∃ lm', Rp lm' w' rb (suS p)) ∧ Ob rb w w' := by
  unfold suN suS
  by_cases e : setV p 0 = 6
  · rw [if_pos e, if_pos e]
    refine (setup_tree rb p w h hl e).mono ?_
    rintro en w' ⟨v, base, rfl, hb, hN, hr, ho⟩
    rw [e]
    exact ⟨v, rfl, Nr.weak hN hb, hr, ho⟩
  rw [if_neg e, if_neg e]
  refine (setup_flat rb p w h hl e).mono ?_
  rintro en w' ⟨rfl, hr, ho⟩
  exact ⟨_, rfl, Nr.nil _ _, hr, ho⟩
theorem nvV_in {x : ByteArray} {v : Int} (h : nvV x = some v) : -9223372036854775808 ≤ v ∧ v ≤ 9223372036854775807 := by
  unfold nvV at h
  split at h
  · rename_i u hu
    split at h
    · cases h
    cases h
    unfold Lib.atoiAll at hu
    split at hu
    · cases hu
    split at hu
    · cases hu
    · cases hu
    dsimp only at hu
    split at hu
    · cases hu
    split at hu
    · cases hu
    rename_i c1 c2
    cases hu
    split <;> omega
  cases h
theorem nmI_in (p : List ByteArray × Bool) : -9223372036854775808 ≤ nmI p ∧ nmI p ≤ 9223372036854775807 := by
  unfold nmI
  cases e : nvV (hdT p.1) with
  | none => simp
  | some v => exact nvV_in e
theorem kdV_in (x : ByteArray) : 0 ≤ kdV x ∧ kdV x ≤ 6 := by
  unfold kdV
  repeat' split
  all_goals omega
def NdIn (x : Nd) : Prop := (-9223372036854775808 ≤ x.1 ∧ x.1 ≤ 9223372036854775807) ∧ (-9223372036854775808 ≤ x.2.1 ∧ x.2.1 ≤ 9223372036854775807) ∧ (-9223372036854775808 ≤ x.2.2.1 ∧ x.2.2.1 ≤ 9223372036854775807) ∧ (-9223372036854775808 ≤ x.2.2.2 ∧ x.2.2.2 ≤ 9223372036854775807)
theorem nds_in : ∀ (k : Nat) (p : List ByteArray × Bool), ∀ x ∈ (nds k p).1, NdIn x
  | 0, p, x, hx => by cases hx
  | k + 1, p, x, hx => by
    unfold nds at hx
    split at hx
    · cases hx
    rcases List.mem_cons.1 hx with rfl | q
    · exact ⟨by have := kdV_in (hdT (naS ⟨#[110, 111, 100, 101]⟩ p).1); show _ ≤ kdV _ ∧ kdV _ ≤ _; omega, nmI_in _, nmI_in _, nmI_in _⟩
    exact nds_in k _ x q
theorem suN_in (p : List ByteArray × Bool) : ∀ x ∈ suN p, NdIn x := by
  intro x hx
  unfold suN at hx
  split at hx
  · rcases List.mem_cons.1 hx with rfl | q
    · exact ⟨by decide, by decide, by decide, by decide⟩
    exact nds_in _ _ x q
  cases hx
def gOf (L : List Nd) (i j : Nat) : Int := match j with
  | 0 => (L.getD i nd0).1
  | 1 => (L.getD i nd0).2.1
  | 2 => (L.getD i nd0).2.2.1
  | _ => (L.getD i nd0).2.2.2
theorem nsl_nr {base : Nat} {W : World} {a : Option Addr} {n cap : Nat} {L : List Nd} (h : Nr base W (.slice a n cap) L) (hi : ∀ x ∈ L, NdIn x) : n = L.length ∧ NSl W a n cap (gOf L) := by
  have hw : ∀ i j, i < L.length → j < 4 → -9223372036854775808 ≤ gOf L i j ∧ gOf L i j ≤ 9223372036854775807 := fun i j h1 h2 => by
    have q := hi (L.getD i nd0) (by rw [List.getD, List.getElem?_eq_getElem h1]; exact List.getElem_mem _)
    unfold gOf
    match j, h2 with
    | 0, _ => exact q.1
    | 1, _ => exact q.2.1
    | 2, _ => exact q.2.2.1
    | 3, _ => exact q.2.2.2
  obtain ⟨a', cap', e, hs, hz⟩ := Nr.sl h
  have e1 : n = L.length := by cases e; rfl
  have lc : n ≤ cap ∧ cap ≤ 9223372036854775807 := by
    rcases h.2 with ⟨q, q0⟩ | ⟨g, c2, cur, q, _, _, q1, q2, _, _⟩
    · cases q; exact ⟨by omega, by omega⟩
    cases q; exact ⟨q1, by simp only [maxLen] at q2; omega⟩
  refine ⟨e1, lc.1, lc.2, fun i j h1 h2 => hw i j (by omega) h2, ?_⟩
  rcases Nat.eq_zero_or_pos n with q | q
  · exact .inl q
  obtain ⟨g, ha, _, _, hc⟩ := hs (by omega)
  cases e
  refine .inr ⟨g, 0, ha, fun i j h1 h2 => ?_⟩
  obtain ⟨c0, c1, c2, c3⟩ := hc i h1
  match j, h2 with
  | 0, _ => rw [Nat.zero_add, Nat.add_zero]; exact c0
  | 1, _ => rw [Nat.zero_add]; exact c1
  | 2, _ => rw [Nat.zero_add]; exact c2
  | 3, _ => rw [Nat.zero_add]; exact c3
def prC (s : ByteArray) : Int := checkE (setV (wordsL s, false) 0) (setV (wordsL s, false) 1) (setV (wordsL s, false) 2) (setV (wordsL s, false) 3) (setV (wordsL s, false) 4) (setV (wordsL s, false) 5) (gOf (suN (wordsL s, false))) (suN (wordsL s, false)).length
def prE (s : ByteArray) : Int := if 4096 < s.size then 2 else if (!(suS (wordsL s, false)).2 && (suS (wordsL s, false)).1.isEmpty) = false then 201 else prC s
def prI (s : ByteArray) (i : Nat) : Int := if prE s = 0 then setV (wordsL s, false) i else 0
def prN (s : ByteArray) : List Nd := if prE s = 0 then suN (wordsL s, false) else []
theorem sb_list (s : ByteArray) (i : Nat) : sb s i = (s.data.toList.getD i 0).toNat := by
  unfold sb
  have e : s.size = s.data.toList.length := by rw [Array.length_toList]; rfl
  split
  · rename_i h
    have h2 : i < s.data.toList.length := by omega
    rw [List.getD, List.getElem?_eq_getElem h2]
    rfl
  rename_i h
  rw [List.getD, List.getElem?_eq_none (by omega)]
  rfl
theorem ext_list (s : ByteArray) (a b : Nat) : (s.extract a b).data.toList = (s.data.toList.drop a).take (b - a) := by
  rw [ByteArray.data_extract, Array.toList_extract]
theorem ba_ext {s t : ByteArray} (h : s.data.toList = t.data.toList) : s = t := by
  cases s; cases t; congr; exact Array.toList_inj.1 h
theorem drop_over : ∀ (a r : List UInt8) (c : UInt8), (a ++ c :: r).drop (a.length + 1) = r
  | [], r, c => rfl
  | _ :: a, r, c => drop_over a r c
def Wd1 (x : ByteArray) : Prop := 0 < x.size ∧ ∀ c ∈ x.data.toList, c ≠ 32
theorem ws_run (s : ByteArray) (p : Nat) (W : List ByteArray) (h : ws s p = (p, W)) (m : Nat) (hm : ∀ j, j < m → sb s (p + j) ≠ 32) : ws s (p + m) = (p, W) := by
  induction m with
  | zero => exact h
  | succ m ih =>
    show ws s (p + m + 1) = _
    rw [ws, if_neg (hm m (by omega)), ih fun j hj => hm j (by omega)]
theorem ws_word (s : ByteArray) (p : Nat) (W : List ByteArray) (h : ws s p = (p, W)) (m : Nat) (h0 : 0 < m) (hm : ∀ j, j < m → sb s (p + j) ≠ 32) (hb : sb s (p + m) = 32) : ws s (p + m + 1) = (p + m + 1, W ++ [s.extract p (p + m)]) := by
  have e := ws_run s p W h m hm
  rw [ws, if_pos hb, e]
  show (p + m + 1, if p < p + m then W ++ [s.extract p (p + m)] else W) = _
  rw [if_pos (by omega)]
theorem words_from (s : ByteArray) : ∀ (L : List ByteArray) (p : Nat) (W : List ByteArray), L ≠ [] → (∀ x ∈ L, Wd1 x) → ws s p = (p, W) → s.data.toList.drop p = Lib.join (L.map (·.data.toList)) [32] → wordsL s = W ++ L
  | [], p, W, hn, _, _, _ => absurd rfl hn
  | [x], p, W, _, hw, h, hd => by
    obtain ⟨h0, hx⟩ := hw x (by simp)
    have hj : s.data.toList.drop p = x.data.toList := by simpa [Lib.join, List.intercalate] using hd
    have lx : x.data.toList.length = x.size := by rw [Array.length_toList]; rfl
    have ls : s.data.toList.length = s.size := by rw [Array.length_toList]; rfl
    have hl : s.size = p + x.size := by
      have := congrArg List.length hj
      rw [List.length_drop, lx, ls] at this
      omega
    have hm : ∀ j, j < x.size → sb s (p + j) ≠ 32 := fun j hj2 e => by
      rw [sb_list] at e
      have q : s.data.toList[p + j]? = x.data.toList[j]? := by rw [← hj, List.getElem?_drop]
      rw [List.getD, q, List.getElem?_eq_getElem (by omega)] at e
      exact hx _ (List.getElem_mem (by omega)) (UInt8.toNat_inj.1 e)
    have e := ws_run s p W h x.size hm
    rw [← hl] at e
    unfold wordsL
    rw [e]
    show (if p < s.size then W ++ [s.extract p s.size] else W) = _
    rw [if_pos (by omega)]
    congr 2
    apply ba_ext
    rw [ext_list, hj, List.take_of_length_le (by omega)]
  | x :: y :: L, p, W, _, hw, h, hd => by
    obtain ⟨h0, hx⟩ := hw x (by simp)
    have hj : s.data.toList.drop p = x.data.toList ++ 32 :: Lib.join ((y :: L).map (·.data.toList)) [32] := by
      rw [hd]
      simp [Lib.join, List.intercalate]
    have lx : x.data.toList.length = x.size := by rw [Array.length_toList]; rfl
    have at' : ∀ j, s.data.toList[p + j]? = (x.data.toList ++ 32 :: Lib.join ((y :: L).map (·.data.toList)) [32])[j]? := fun j => by rw [← hj, List.getElem?_drop]
    have hm : ∀ j, j < x.size → sb s (p + j) ≠ 32 := fun j hj2 e => by
      rw [sb_list, List.getD, at' j, List.getElem?_append_left (by omega), List.getElem?_eq_getElem (by omega)] at e
      exact hx _ (List.getElem_mem (by omega)) (UInt8.toNat_inj.1 e)
    have hb : sb s (p + x.size) = 32 := by
      rw [sb_list, List.getD, at' x.size, List.getElem?_append_right (by omega), lx, Nat.sub_self]
      rfl
    have e := ws_word s p W h x.size h0 hm hb
    have hd2 : s.data.toList.drop (p + x.size + 1) = Lib.join ((y :: L).map (·.data.toList)) [32] := by
      rw [show p + x.size + 1 = p + (x.size + 1) by omega, ← List.drop_drop, hj, ← lx]
      exact drop_over _ _ _
    have ex : s.extract p (p + x.size) = x := by
      apply ba_ext
      rw [ext_list, hj, Nat.add_sub_cancel_left, ← lx, List.take_left]
    rw [ex] at e
    rw [words_from s (y :: L) _ _ (by simp) (fun z hz => hw z (List.mem_cons_of_mem _ hz)) e hd2, List.append_assoc]
    rfl
theorem words_join (L : List ByteArray) (hw : ∀ x ∈ L, Wd1 x) : wordsL ⟨(Lib.join (L.map (·.data.toList)) [32]).toArray⟩ = L := by
  cases L with
  | nil => decide +kernel
  | cons x l => exact words_from _ (x :: l) 0 [] (by simp) hw rfl (by simp)
theorem pu_app : ∀ (l : List UInt8) (acc : Nat) (r : List UInt8) (v : Nat), Lib.parseUint10 acc l = .ok v → Lib.parseUint10 acc (l ++ r) = Lib.parseUint10 v r
  | [], acc, r, v, h => by
    rw [Lib.parseUint10] at h
    injection h with h
    rw [h]
    rfl
  | c :: l, acc, r, v, h => by
    rw [List.cons_append]
    rw [Lib.parseUint10] at h ⊢
    split at h
    · rename_i h1
      rw [if_pos h1]
      split at h
      · cases h
      rename_i h2
      rw [if_neg h2]
      split at h
      · cases h
      rename_i h3
      rw [if_neg h3]
      exact pu_app l _ r v h
    cases h
theorem byte48 (d : Nat) (h : d < 10) : (UInt8.ofNat (48 + d)).toNat = 48 + d := by
  rw [UInt8.toNat_ofNat']
  omega
theorem pu_dec (u : Nat) (h : u < 18446744073709551616) : Lib.parseUint10 0 (Lib.decDigits u) = .ok u := by
  induction u using Nat.strongRecOn with
  | _ u ih =>
    rw [Lib.decDigits]
    split
    · rename_i h1
      rw [Lib.parseUint10, byte48 u h1, if_pos (by omega), if_neg (by omega), if_neg (by omega), Lib.parseUint10]
      congr 1
      omega
    rename_i h1
    rw [pu_app _ _ _ (u / 10) (ih (u / 10) (by omega) (by omega)), Lib.parseUint10, byte48 (u % 10) (by omega), if_pos (by omega), if_neg (by omega), if_neg (by omega), Lib.parseUint10]
    congr 1
    omega
theorem dec_head (u : Nat) : ∃ c r, Lib.decDigits u = c :: r ∧ 48 ≤ c.toNat ∧ c.toNat ≤ 57 ∧ (c.toNat = 48 → r = []) := by
  induction u using Nat.strongRecOn with
  | _ u ih =>
    rw [Lib.decDigits]
    split
    · rename_i h1
      exact ⟨_, [], rfl, by rw [byte48 u h1]; omega, by rw [byte48 u h1]; omega, fun _ => rfl⟩
    rename_i h1
    obtain ⟨c, r, e, h2, h3, h4⟩ := ih (u / 10) (by omega)
    rw [e]
    refine ⟨c, r ++ [UInt8.ofNat (48 + u % 10)], rfl, h2, h3, fun h5 => ?_⟩
    exfalso
    have hr := h4 h5
    rw [hr] at e
    have q := pu_dec (u / 10)
    rw [e] at q
    by_cases hz : u / 10 < 18446744073709551616
    · have q2 := q hz
      rw [Lib.parseUint10, h5, if_pos (by omega), if_neg (by omega), if_neg (by omega), Lib.parseUint10] at q2
      injection q2 with q2
      omega
    have e2 := e
    rw [Lib.decDigits, dif_neg (by omega)] at e2
    have l := congrArg List.length e2
    obtain ⟨c2, r2, e3, _⟩ := ih (u / 10 / 10) (by omega)
    rw [e3] at l
    simp at l
theorem itT_list (n : Int) : (itT n).data.toList = Lib.itoa n := by show (Lib.itoa n).toArray.toList = _; simp
theorem nvV_itT (n : Int) (h0 : -9223372036854775808 ≤ n) (h1 : n ≤ 9223372036854775807) : nvV (itT n) = some n := by
  have hb : bareT (itT n) = ⟨(Lib.decDigits n.natAbs).toArray⟩ := by
    unfold bareT
    rw [itT_list]
    unfold Lib.itoa
    split
    · simp [Lib.trimPrefix, Lib.hasPrefix]
    rename_i hn
    have e : n.toNat = n.natAbs := by omega
    rw [e]
    obtain ⟨c, r, e2, h2, h3, h4⟩ := dec_head n.natAbs
    rw [e2]
    have hc : ¬ (45 : UInt8) = c := fun q => by rw [← q] at h2; revert h2; decide
    simp [Lib.trimPrefix, Lib.hasPrefix, hc]
  obtain ⟨c, r, e2, h2, h3, h4⟩ := dec_head n.natAbs
  have hu : n.natAbs < 18446744073709551616 := by omega
  have hpm : Lib.parseMag (Lib.decDigits n.natAbs) = .ok n.natAbs := by
    unfold Lib.parseMag
    rw [if_neg (by rw [e2]; simp), pu_dec _ hu]
  have hat : Lib.atoiAll (itT n).data.toList = .ok n := by
    rw [itT_list]
    unfold Lib.itoa
    split
    · rename_i hn
      unfold Lib.atoiAll
      dsimp only
      rw [if_pos (.inr (by decide)), hpm]
      dsimp only
      rw [if_neg (by intro q; exact q.1 (by decide)), if_neg (by intro q; have := q.2; omega), if_pos (by decide)]
      congr 1
      omega
    rename_i hn
    have e : n.toNat = n.natAbs := by omega
    rw [e, e2]
    unfold Lib.atoiAll
    dsimp only
    rw [if_neg (by omega), ← e2, hpm]
    dsimp only
    rw [if_neg (by intro q; have := q.2; omega), if_neg (by intro q; have := q.1; omega), if_neg (by omega)]
    congr 1
    omega
  unfold nvV
  rw [hat]
  dsimp only
  rw [if_neg]
  rintro (q | ⟨q, q'⟩)
  · unfold firstB at q
    rw [itT_list] at q
    unfold Lib.itoa at q
    split at q
    · have q : (45 : UInt8).toNat = 43 := q
      exact absurd q (by decide)
    rename_i hn
    have e : n.toNat = n.natAbs := by omega
    rw [e, e2] at q
    have q : c.toNat = 43 := q
    omega
  rw [hb] at q q'
  unfold firstB at q
  rw [e2] at q q'
  have q : c.toNat = 48 := q
  rw [h4 q] at q'
  revert q'
  show ¬ (1 < ([c] : List UInt8).toArray.size)
  simp
end Go.Proofs.YtchomkadekikdaaGreatDoor
