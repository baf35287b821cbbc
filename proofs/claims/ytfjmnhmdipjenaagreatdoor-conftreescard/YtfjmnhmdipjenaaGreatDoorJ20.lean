/- Contracts of the program's functions, part 20: own work, joined in build order. -/
import Derived.Test.YtfjmnhmdipjenaaGreatDoorJ19
namespace Go.Proofs.YtfjmnhmdipjenaaGreatDoor
open Go.RowKit
set_option maxRecDepth 100000
set_option linter.unusedVariables false
def flowN : ByteArray := ⟨#[119, 101, 105, 103, 104, 116, 32, 113, 117, 97, 110, 116, 117, 109, 32, 99, 108, 97, 115, 115, 32, 115, 112, 97, 110, 32, 98, 117, 114, 115, 116, 32, 114, 97, 116, 101, 32, 112, 101, 114, 32, 110, 111, 100, 101]⟩
theorem flowN_words : wordsL flowN = [⟨#[119, 101, 105, 103, 104, 116]⟩, ⟨#[113, 117, 97, 110, 116, 117, 109]⟩, ⟨#[99, 108, 97, 115, 115]⟩, ⟨#[115, 112, 97, 110]⟩, ⟨#[98, 117, 114, 115, 116]⟩, ⟨#[114, 97, 116, 101]⟩, ⟨#[112, 101, 114]⟩, ⟨#[110, 111, 100, 101]⟩] := by decide +kernel
theorem flowN_len : 0 < (wordsL ⟨#[119, 101, 105, 103, 104, 116, 32, 113, 117, 97, 110, 116, 117, 109, 32, 99, 108, 97, 115, 115, 32, 115, 112, 97, 110, 32, 98, 117, 114, 115, 116, 32, 114, 97, 116, 101, 32, 112, 101, 114, 32, 110, 111, 100, 101]⟩).length ∧ (wordsL ⟨#[119, 101, 105, 103, 104, 116, 32, 113, 117, 97, 110, 116, 117, 109, 32, 99, 108, 97, 115, 115, 32, 115, 112, 97, 110, 32, 98, 117, 114, 115, 116, 32, 114, 97, 116, 101, 32, 112, 101, 114, 32, 110, 111, 100, 101]⟩).length ≤ 100 := by
  have e : wordsL ⟨#[119, 101, 105, 103, 104, 116, 32, 113, 117, 97, 110, 116, 117, 109, 32, 99, 108, 97, 115, 115, 32, 115, 112, 97, 110, 32, 98, 117, 114, 115, 116, 32, 114, 97, 116, 101, 32, 112, 101, 114, 32, 110, 111, 100, 101]⟩ = _ := flowN_words
  rw [e]
  decide
theorem Bx1.row {w0 W : World} {g : Nat} {tg : TypeId} {c : Array Value} (h : Bx1 w0 W g tg c) (cs : Array Value) : Bx1 w0 (W.setRow g cs) g tg cs :=
  ⟨setRow_heap W g c cs tg _ h.hc, fun k hk => (setRow_other W g k cs hk).trans (h.ot k hk), h.os, h.tape, h.output, by rw [size_setRow]; exact h.size⟩
theorem calls_as {f : Nat} {args : Array Value} {w : World} {Q : Ending → World → Prop} (P : World → Prop) (hP : P w) (h : ∀ w', P w' → Calls Tryz.prog f args w' Q) : Calls Tryz.prog f args w Q := h w hP
set_option maxHeartbeats 1000000 in
theorem flow_walk {lm : Nat} (rb : Nat) (p p1 p2 p3 p4 p5 p6 p7 p8 p9 : List ByteArray × Bool) (n0 n1 n2 n3 n4 n5 n6 : Int) (rt : ByteArray) (e1 : arS ⟨#[119, 101, 105, 103, 104, 116, 32, 113, 117, 97, 110, 116, 117, 109, 32, 99, 108, 97, 115, 115, 32, 115, 112, 97, 110, 32, 98, 117, 114, 115, 116, 32, 114, 97, 116, 101, 32, 112, 101, 114, 32, 110, 111, 100, 101]⟩ p = p1) (e2 : nmS p1 = p2) (e3 : nmS p2 = p3) (e4 : nmS p3 = p4) (e5 : nmS p4 = p5) (e6 : nmS p5 = p6) (e7 : woS p6 = p7) (e8 : nmS p7 = p8) (e9 : nmS p8 = p9) (k0 : nmI p1 = n0) (k1 : nmI p2 = n1) (k2 : nmI p3 = n2) (k3 : nmI p4 = n3) (k4 : nmI p5 = n4) (k5 : nmI p7 = n5) (k6 : nmI p8 = n6) (kr : hdT p6.1 = rt) (w : World) (h : Rp lm w rb p) (hl : p.1.length ≤ 50000) :
    Calls Tryz.prog 29 #[.pointer (some ⟨rb, 0, none⟩)] w fun e w' => e = .returned (.tuple #[.agg #[.int .i64 n0, .int .i64 n1, .int .i64 n2, .int .i64 n3, .int .i64 n4, .float .f64 0, .int .i64 n5, .int .i64 n6], .string rt]) ∧ (∃ lm', Rp lm' w' rb p9) ∧ Ob rb w w' := by
  have lrb := h.rd.lt
  have HR : Hid _ := h
  clear h
  have HL : Hid _ := hl
  have E1 : Hid _ := e1
  have E2 : Hid _ := e2
  have E3 : Hid _ := e3
  have E4 : Hid _ := e4
  have E5 : Hid _ := e5
  have E6 : Hid _ := e6
  have E7 : Hid _ := e7
  have E8 : Hid _ := e8
  have E9 : Hid _ := e9
  have K0 : Hid _ := k0
  have K1 : Hid _ := k1
  have K2 : Hid _ := k2
  have K3 : Hid _ := k3
  have K4 : Hid _ := k4
  have K5 : Hid _ := k5
  have K6 : Hid _ := k6
  have KR : Hid _ := kr
  clear e1 e2 e3 e4 e5 e6 e7 e8 e9 k0 k1 k2 k3 k4 k5 k6 kr
  go_enter Tryz.func29, Tryz.ntmps29
  go_wp2_with fail
  refine ((HR.out.go (bc_al (bel_refl _))).arrange ⟨#[119, 101, 105, 103, 104, 116, 32, 113, 117, 97, 110, 116, 117, 109, 32, 99, 108, 97, 115, 115, 32, 115, 112, 97, 110, 32, 98, 117, 114, 115, 116, 32, 114, 97, 116, 101, 32, 112, 101, 114, 32, 110, 111, 100, 101]⟩ (by decide) flowN_len.1 flowN_len.2 HL.out).mono ?_
  rintro e w1 ⟨rfl, ⟨lm1, hr1⟩, ho1⟩
  rw [E1.out] at hr1
  have R1 : Hid _ := hr1
  have O1 : Hid (Ob rb (w.alloc (.cells #[.int .i64 0, .int .i64 0, .int .i64 0, .int .i64 0, .int .i64 0, .float .f64 0, .int .i64 0, .int .i64 0] 27)) w1) := ho1
  clear hr1 ho1
  go_wp2_with fail
  refine (R1.out.number).mono ?_
  rintro e w2 ⟨rfl, hr2, ho2⟩
  rw [E2.out] at hr2
  have R2 : Hid _ := hr2
  have O2 : Hid (Ob rb (w.alloc (.cells #[.int .i64 0, .int .i64 0, .int .i64 0, .int .i64 0, .int .i64 0, .float .f64 0, .int .i64 0, .int .i64 0] 27)) w2) := O1.out.trans ho2
  clear hr2 ho2 R1 O1
  rw [K0.out]
  go_wp2_with fail
  refine (R2.out.number).mono ?_
  rintro e w3 ⟨rfl, hr3, ho3⟩
  rw [E3.out] at hr3
  have R3 : Hid _ := hr3
  have O3 : Hid (Ob rb (w.alloc (.cells #[.int .i64 0, .int .i64 0, .int .i64 0, .int .i64 0, .int .i64 0, .float .f64 0, .int .i64 0, .int .i64 0] 27)) w3) := O2.out.trans ho3
  clear hr3 ho3 R2 O2
  rw [K1.out]
  go_wp2_with fail
  refine (R3.out.number).mono ?_
  rintro e w4 ⟨rfl, hr4, ho4⟩
  rw [E4.out] at hr4
  have R4 : Hid _ := hr4
  have O4 : Hid (Ob rb (w.alloc (.cells #[.int .i64 0, .int .i64 0, .int .i64 0, .int .i64 0, .int .i64 0, .float .f64 0, .int .i64 0, .int .i64 0] 27)) w4) := O3.out.trans ho4
  clear hr4 ho4 R3 O3
  rw [K2.out]
  go_wp2_with fail
  refine (R4.out.number).mono ?_
  rintro e w5 ⟨rfl, hr5, ho5⟩
  rw [E5.out] at hr5
  have R5 : Hid _ := hr5
  have O5 : Hid (Ob rb (w.alloc (.cells #[.int .i64 0, .int .i64 0, .int .i64 0, .int .i64 0, .int .i64 0, .float .f64 0, .int .i64 0, .int .i64 0] 27)) w5) := O4.out.trans ho5
  clear hr5 ho5 R4 O4
  rw [K3.out]
  go_wp2_with fail
  refine (R5.out.number).mono ?_
  rintro e w6 ⟨rfl, hr6, ho6⟩
  rw [E6.out] at hr6
  have R6 : Hid _ := hr6
  have O6 : Hid (Ob rb (w.alloc (.cells #[.int .i64 0, .int .i64 0, .int .i64 0, .int .i64 0, .int .i64 0, .float .f64 0, .int .i64 0, .int .i64 0] 27)) w6) := O5.out.trans ho6
  clear hr6 ho6 R5 O5
  rw [K4.out]
  obtain ⟨gR, eR⟩ : ∃ g, g = w.heap.size := ⟨_, rfl⟩
  have hR : w6.heap[gR]? = some (.cells #[.int .i64 0, .int .i64 0, .int .i64 0, .int .i64 0, .int .i64 0, .float .f64 0, .int .i64 0, .int .i64 0] 27) := (O6.out.block gR (by rw [World.size_alloc]; omega) (by omega)).trans (by rw [eR]; exact al_at _ _)
  have H6 : Hid _ := hR
  have y0 : w6.cell? ⟨gR, 0, none⟩ = some (.int .i64 0) := by simp [World.cell?, hR]
  have y1 : w6.cell? ⟨gR, 1, none⟩ = some (.int .i64 0) := by simp [World.cell?, hR]
  have y2 : w6.cell? ⟨gR, 2, none⟩ = some (.int .i64 0) := by simp [World.cell?, hR]
  have y3 : w6.cell? ⟨gR, 3, none⟩ = some (.int .i64 0) := by simp [World.cell?, hR]
  have y4 : w6.cell? ⟨gR, 4, none⟩ = some (.int .i64 0) := by simp [World.cell?, hR]
  have y5 : w6.cell? ⟨gR, 5, none⟩ = some (.float .f64 0) := by simp [World.cell?, hR]
  have y6 : w6.cell? ⟨gR, 6, none⟩ = some (.int .i64 0) := by simp [World.cell?, hR]
  have y7 : w6.cell? ⟨gR, 7, none⟩ = some (.int .i64 0) := by simp [World.cell?, hR]
  have fr0 : w6.frozen? ⟨gR, 0, none⟩ = false := by simp [World.frozen?, hR]
  have fr1 : w6.frozen? ⟨gR, 1, none⟩ = false := by simp [World.frozen?, hR]
  have fr2 : w6.frozen? ⟨gR, 2, none⟩ = false := by simp [World.frozen?, hR]
  have fr3 : w6.frozen? ⟨gR, 3, none⟩ = false := by simp [World.frozen?, hR]
  have fr4 : w6.frozen? ⟨gR, 4, none⟩ = false := by simp [World.frozen?, hR]
  have fr5 : w6.frozen? ⟨gR, 5, none⟩ = false := by simp [World.frozen?, hR]
  have fr6 : w6.frozen? ⟨gR, 6, none⟩ = false := by simp [World.frozen?, hR]
  have fr7 : w6.frozen? ⟨gR, 7, none⟩ = false := by simp [World.frozen?, hR]
  have nrb : Hid (gR ≠ rb) := by show gR ≠ rb; omega
  have OW : Hid (Ob rb w w6) := (Ob.of (bc_al (bel_refl w))).trans O6.out
  have B6 : Hid (Bx1 w6 w6 gR 27 #[.int .i64 0, .int .i64 0, .int .i64 0, .int .i64 0, .int .i64 0, .float .f64 0, .int .i64 0, .int .i64 0]) := ⟨hR, fun _ _ => rfl, rfl, rfl, rfl, rfl⟩
  clear hR O6
  rw [← eR]
  have HER : Hid _ := eR
  clear eR
  go_wp2_with fail
  refine calls_as (fun W => Bx1 w6 W gR 27 #[.int .i64 n0, .int .i64 n1, .int .i64 n2, .int .i64 n3, .int .i64 n4, .float .f64 0, .int .i64 0, .int .i64 0]) (((((B6.out.set 0 (.int .i64 n0)).set 1 (.int .i64 n1)).set 2 (.int .i64 n2)).set 3 (.int .i64 n3)).set 4 (.int .i64 n4)) ?_
  intro v6 B7
  have Q6 : Hid (Rp lm1 v6 rb p6) := R6.out.one B7 H6.out rfl nrb.out
  have A6 : Hid _ := B7
  have G6 : Hid _ := B7.hc
  clear B7
  clear y0 fr0
  clear y1 fr1
  clear y2 fr2
  clear y3 fr3
  clear y4 fr4
  clear y5 fr5
  clear y6 fr6
  clear y7 fr7
  refine (Q6.out.word).mono ?_
  rintro e w7 ⟨rfl, hr7, ho7⟩
  rw [E7.out] at hr7
  have R7 : Hid _ := hr7
  have O7 : Hid (Ob rb v6 w7) := ho7
  clear hr7 ho7
  rw [KR.out]
  go_wp2_with fail
  refine (R7.out.number).mono ?_
  rintro e w8 ⟨rfl, hr8, ho8⟩
  rw [E8.out] at hr8
  have R8 : Hid _ := hr8
  have O8 : Hid (Ob rb v6 w8) := O7.out.trans ho8
  clear hr8 ho8 R7 O7
  rw [K5.out]
  go_wp2_with fail
  refine (R8.out.number).mono ?_
  rintro e w9 ⟨rfl, hr9, ho9⟩
  rw [E9.out] at hr9
  have R9 : Hid _ := hr9
  have O9 : Hid (Ob rb v6 w9) := O8.out.trans ho9
  clear hr9 ho9 R8 O8
  rw [K6.out]
  have hR : w9.heap[gR]? = some (.cells #[.int .i64 n0, .int .i64 n1, .int .i64 n2, .int .i64 n3, .int .i64 n4, .float .f64 0, .int .i64 0, .int .i64 0] 27) := (O9.out.block gR (Array.getElem?_eq_some_iff.1 G6.out).1 nrb.out).trans G6.out
  have H9 : Hid _ := hR
  have y0 : w9.cell? ⟨gR, 0, none⟩ = some (.int .i64 n0) := by simp [World.cell?, hR]
  have y1 : w9.cell? ⟨gR, 1, none⟩ = some (.int .i64 n1) := by simp [World.cell?, hR]
  have y2 : w9.cell? ⟨gR, 2, none⟩ = some (.int .i64 n2) := by simp [World.cell?, hR]
  have y3 : w9.cell? ⟨gR, 3, none⟩ = some (.int .i64 n3) := by simp [World.cell?, hR]
  have y4 : w9.cell? ⟨gR, 4, none⟩ = some (.int .i64 n4) := by simp [World.cell?, hR]
  have y5 : w9.cell? ⟨gR, 5, none⟩ = some (.float .f64 0) := by simp [World.cell?, hR]
  have y6 : w9.cell? ⟨gR, 6, none⟩ = some (.int .i64 0) := by simp [World.cell?, hR]
  have y7 : w9.cell? ⟨gR, 7, none⟩ = some (.int .i64 0) := by simp [World.cell?, hR]
  have fr0 : w9.frozen? ⟨gR, 0, none⟩ = false := by simp [World.frozen?, hR]
  have fr1 : w9.frozen? ⟨gR, 1, none⟩ = false := by simp [World.frozen?, hR]
  have fr2 : w9.frozen? ⟨gR, 2, none⟩ = false := by simp [World.frozen?, hR]
  have fr3 : w9.frozen? ⟨gR, 3, none⟩ = false := by simp [World.frozen?, hR]
  have fr4 : w9.frozen? ⟨gR, 4, none⟩ = false := by simp [World.frozen?, hR]
  have fr5 : w9.frozen? ⟨gR, 5, none⟩ = false := by simp [World.frozen?, hR]
  have fr6 : w9.frozen? ⟨gR, 6, none⟩ = false := by simp [World.frozen?, hR]
  have fr7 : w9.frozen? ⟨gR, 7, none⟩ = false := by simp [World.frozen?, hR]
  have B9 : Hid (Bx1 w9 w9 gR 27 #[.int .i64 n0, .int .i64 n1, .int .i64 n2, .int .i64 n3, .int .i64 n4, .float .f64 0, .int .i64 0, .int .i64 0]) := ⟨hR, fun _ _ => rfl, rfl, rfl, rfl, rfl⟩
  clear hR
  go_wp2_with (refine (id ?_ : wpList Tryz.prog _ _ (⟨some 29, _, _, _, _, _⟩ :: _) _ _); refine wpList_as (fun W => Bx1 w9 W gR 27 #[.int .i64 n0, .int .i64 n1, .int .i64 n2, .int .i64 n3, .int .i64 n4, .float .f64 0, .int .i64 n5, .int .i64 n6]) ((B9.out.set 6 (.int .i64 n5)).set 7 (.int .i64 n6)) ?_)
  intro v9 B10
  clear y0 fr0
  clear y1 fr1
  clear y2 fr2
  clear y3 fr3
  clear y4 fr4
  clear y5 fr5
  clear y6 fr6
  clear y7 fr7
  have hR := B10.hc
  have y0 : v9.cell? ⟨gR, 0, none⟩ = some (.int .i64 n0) := by simp [World.cell?, hR]
  have y1 : v9.cell? ⟨gR, 1, none⟩ = some (.int .i64 n1) := by simp [World.cell?, hR]
  have y2 : v9.cell? ⟨gR, 2, none⟩ = some (.int .i64 n2) := by simp [World.cell?, hR]
  have y3 : v9.cell? ⟨gR, 3, none⟩ = some (.int .i64 n3) := by simp [World.cell?, hR]
  have y4 : v9.cell? ⟨gR, 4, none⟩ = some (.int .i64 n4) := by simp [World.cell?, hR]
  have y5 : v9.cell? ⟨gR, 5, none⟩ = some (.float .f64 0) := by simp [World.cell?, hR]
  have y6 : v9.cell? ⟨gR, 6, none⟩ = some (.int .i64 n5) := by simp [World.cell?, hR]
  have y7 : v9.cell? ⟨gR, 7, none⟩ = some (.int .i64 n6) := by simp [World.cell?, hR]
  have fr0 : v9.frozen? ⟨gR, 0, none⟩ = false := by simp [World.frozen?, hR]
  have fr1 : v9.frozen? ⟨gR, 1, none⟩ = false := by simp [World.frozen?, hR]
  have fr2 : v9.frozen? ⟨gR, 2, none⟩ = false := by simp [World.frozen?, hR]
  have fr3 : v9.frozen? ⟨gR, 3, none⟩ = false := by simp [World.frozen?, hR]
  have fr4 : v9.frozen? ⟨gR, 4, none⟩ = false := by simp [World.frozen?, hR]
  have fr5 : v9.frozen? ⟨gR, 5, none⟩ = false := by simp [World.frozen?, hR]
  have fr6 : v9.frozen? ⟨gR, 6, none⟩ = false := by simp [World.frozen?, hR]
  have fr7 : v9.frozen? ⟨gR, 7, none⟩ = false := by simp [World.frozen?, hR]
  have A9 : Hid _ := B10
  clear hR B10
  go_wp2_with (refine (id ?_ : wpList Tryz.prog _ _ (⟨none, .store 27 (.tmp 2) (.tmp 29), _, _, _, _⟩ :: _) _ _); refine wpList_store_row rfl 27 (.tmp 2) (.tmp 29) rfl gR #[.int .i64 n0, .int .i64 n1, .int .i64 n2, .int .i64 n3, .int .i64 n4, .float .f64 0, .int .i64 n5, .int .i64 n6] rfl rfl 27 #[.int .i64 n0, .int .i64 n1, .int .i64 n2, .int .i64 n3, .int .i64 n4, .float .f64 0, .int .i64 n5, .int .i64 n6] A9.out.hc (by kernel_rfl) (by kernel_rfl) (by kernel_rfl) ?_; refine wpList_as (fun W => Bx1 w9 W gR 27 #[.int .i64 n0, .int .i64 n1, .int .i64 n2, .int .i64 n3, .int .i64 n4, .float .f64 0, .int .i64 n5, .int .i64 n6]) (A9.out.row _) ?_)
  intro w10 B10
  clear y0 fr0
  clear y1 fr1
  clear y2 fr2
  clear y3 fr3
  clear y4 fr4
  clear y5 fr5
  clear y6 fr6
  clear y7 fr7
  go_wp2_with fail
  have hR := B10.hc
  have y0 : w10.cell? ⟨gR, 0, none⟩ = some (.int .i64 n0) := by simp [World.cell?, hR]
  have y1 : w10.cell? ⟨gR, 1, none⟩ = some (.int .i64 n1) := by simp [World.cell?, hR]
  have y2 : w10.cell? ⟨gR, 2, none⟩ = some (.int .i64 n2) := by simp [World.cell?, hR]
  have y3 : w10.cell? ⟨gR, 3, none⟩ = some (.int .i64 n3) := by simp [World.cell?, hR]
  have y4 : w10.cell? ⟨gR, 4, none⟩ = some (.int .i64 n4) := by simp [World.cell?, hR]
  have y5 : w10.cell? ⟨gR, 5, none⟩ = some (.float .f64 0) := by simp [World.cell?, hR]
  have y6 : w10.cell? ⟨gR, 6, none⟩ = some (.int .i64 n5) := by simp [World.cell?, hR]
  have y7 : w10.cell? ⟨gR, 7, none⟩ = some (.int .i64 n6) := by simp [World.cell?, hR]
  refine bodyPost_ret (v := .tuple #[.agg #[.int .i64 n0, .int .i64 n1, .int .i64 n2, .int .i64 n3, .int .i64 n4, .float .f64 0, .int .i64 n5, .int .i64 n6], .string rt]) (by simp [results, Tryz.results29, go_sem, y0, y1, y2, y3, y4, y5, y6, y7]) rfl ⟨rfl, ⟨lm1, R9.out.one B10 H9.out rfl nrb.out⟩, ?_⟩
  have X := A6.out
  refine ⟨B10.os.trans (O9.out.os.trans (X.os.trans OW.out.os)), B10.tape.trans (O9.out.tape.trans (X.tape.trans OW.out.tape)), B10.output.trans (O9.out.output.trans (X.output.trans OW.out.output)), ?_, fun k hk hne => ?_⟩
  · have q1 := B10.size
    have q2 := O9.out.size
    have q3 := X.size
    have q4 := OW.out.size
    omega
  · have q1 := HER.out
    have q3 := X.size
    have q4 := OW.out.size
    exact (B10.ot k (by omega)).trans ((O9.out.block k (by omega) hne).trans ((X.ot k (by omega)).trans (OW.out.block k hk hne)))
end Go.Proofs.YtfjmnhmdipjenaaGreatDoor

namespace Go.Proofs.YtfjmnhmdipjenaaGreatDoor
open Go.RowKit
set_option maxRecDepth 100000
set_option linter.unusedVariables false
set_option maxHeartbeats 1000000 in
theorem exactly_good (s : ByteArray) (p q u : Nat) (w : World) (hs : s.size ≤ 4096) (hT : Tab w) (h1 : npE s = 0) (h2 : npP s = p) (h3 : npQ s = q) (hp : RS p) (hq : RS q) (h4 : tfV p q = u) (h5 : tfOk p q = true) (hu : u < 18446744073709551616) (h6 : ffP u = p) (h7 : ffQ u = q) :
    Calls Tryz.prog 30 #[.string s] w fun e w' => e = .returned (.tuple #[.float .f64 u, .int .i64 0]) ∧ Below w.heap.size w w' := by
  have HT : Hid (Tab w) := hT
  have H1 : Hid (npE s = 0 ∧ npP s = p ∧ npQ s = q) := ⟨h1, h2, h3⟩
  have H2 : Hid (RS p ∧ RS q) := ⟨hp, hq⟩
  have H3 : Hid (tfV p q = u ∧ tfOk p q = true) := ⟨h4, h5⟩
  have H4 : Hid (u < 18446744073709551616 ∧ ffP u = p ∧ ffQ u = q) := ⟨hu, h6, h7⟩
  clear hT h1 h2 h3 hp hq h4 h5 hu h6 h7
  go_enter Tryz.func30, Tryz.ntmps30
  go_wp2_with fail
  refine (nparse_any s w (by omega) HT.out).mono ?_
  rintro e w1 ⟨v1, rfl, hr1, hb1⟩
  rw [H1.out.1]
  rw [H1.out.2.1, H1.out.2.2] at hr1
  obtain ⟨a, n, c, a', n', c', e0, _, _⟩ := hr1.raw
  subst e0
  have S1 : Hid _ := ((sy_start w1).addF hr1).box (.slice a n c) (.slice a' n' c') 66 _ rfl
  have B1 : Hid _ := hb1
  have hq0 := hr1.pos
  clear hr1 hb1
  go_wp2_with fail
  refine (toFloat_any (.agg #[.slice a n c, .slice a' n' c']) p q _ (S1.out.fr _ p q) H2.out.1 H2.out.2 hq0).mono ?_
  rintro e w2 ⟨rfl, hb2⟩
  rw [H3.out.1, H3.out.2]
  have S2 : Hid _ := S1.out.go hb2
  clear hb2 S1
  obtain ⟨g1, eg1⟩ : ∃ g, g = w1.heap.size := ⟨_, rfl⟩
  rw [← eg1] at S2
  rw [← eg1]
  clear eg1
  go_wp2_with fail
  refine (fromFloat_all u _ H4.out.1 (Tab.go HT.out (bc_go B1.out S2.out.bel))).mono ?_
  rintro e w3 ⟨v3, rfl, hr3, hb3⟩
  rw [H4.out.2.1, H4.out.2.2] at hr3
  obtain ⟨b, m, d, b', m', d', e0, _, _⟩ := hr3.raw
  subst e0
  have S3 : Hid _ := ((S2.out.go hb3).addF hr3).box (.slice b m d) (.slice b' m' d') 66 _ rfl
  clear hr3 hb3 S2
  have x0 := S3.out.cel g1 0 (.slice a n c)
  have x1 := S3.out.cel g1 1 (.slice a' n' c')
  go_wp2_with fail
  refine (ratCmp_any (.agg #[.slice b m d, .slice b' m' d']) (.agg #[.slice a n c, .slice a' n' c']) p q p q _ (S3.out.fr _ p q) (S3.out.fr _ p q) H2.out.1 H2.out.2 H2.out.1 H2.out.2).mono ?_
  rintro e w4 ⟨rfl, hb4⟩
  have W4 : Hid (Below w.heap.size w w4) := bc_go B1.out (bc_go S3.out.bel hb4)
  rw [show cmpI (p * q) (p * q) = 0 by simp [cmpI]]
  clear hb4 x0 x1 S3
  go_wp2_with fail
  exact bodyPost_ret (v := .tuple #[.float .f64 u, .int .i64 0]) (by simp [results, Tryz.results30, go_sem]) rfl ⟨rfl, W4.out⟩
end Go.Proofs.YtfjmnhmdipjenaaGreatDoor

namespace Go.Proofs.YtfjmnhmdipjenaaGreatDoor
open Go.RowKit
set_option maxRecDepth 100000
set_option linter.unusedVariables false
def pair2 (x y : Int) (i : Nat) : Int := [x, y].getD i 0
theorem two_at (w : World) (x y : Int) (t : TypeId) (i : Nat) (hi : i < 2) : (w.alloc (.cells #[.int .i64 x, .int .i64 y] t)).cell? ⟨w.heap.size, 0 + i, none⟩ = some (.int .i64 (pair2 x y i)) := by
  match i, hi with
  | 0, _ => simp [pair2]
  | 1, _ => simp [pair2]
/-- The words of a flow. -/
def flowT (pw pq pc ps pb pp pn : Int) (T : ByteArray) : List ByteArray := zipT (wordsL flowN) ([itT pw, itT pq, itT pc, itT ps, itT pb] ++ [T] ++ [itT pp, itT pn]) 8
theorem or_five {w : World} {base : Nat} {v : Value} {pw pq pc ps pb : Int} (h : OR w 9 base v 5 (fun i => .string (itT (setI pw pq pc ps pb i)))) : OR w 9 base v ([itT pw, itT pq, itT pc, itT ps, itT pb] : List ByteArray).length (tx [itT pw, itT pq, itT pc, itT ps, itT pb]) := by
  rcases h with ⟨_, q⟩ | ⟨g, cap, f, e, h1, h2, h3, h4, h5⟩
  · cases q
  · refine .inr ⟨g, cap, f, e, h1, h2, h3, h4, fun i hi => (h5 i hi).trans ?_⟩
    match i, hi with
    | 0, _ => rfl
    | 1, _ => rfl
    | 2, _ => rfl
    | 3, _ => rfl
    | 4, _ => rfl
theorem one_new (w : World) (x : ByteArray) (t : TypeId) (j : Nat) (hj : j < [x].length) : (w.alloc (.cells #[.string x] t)).cell? ((⟨w.heap.size, 0, none⟩ : Addr).add j) = some (tx [x] j) := by
  match j, hj with
  | 0, _ => simp [Addr.add, tx]
theorem zip_le (A Bs : List ByteArray) (hA : ∀ x ∈ A, x.size ≤ 4000) (hB : ∀ x ∈ Bs, x.size ≤ 4000) (k : Nat) : ∀ x ∈ zipT A Bs k, x.size ≤ 4000 := by
  induction k with
  | zero => intro x hx; cases hx
  | succ k ih =>
    intro x hx
    rw [zipT] at hx
    rcases List.mem_append.1 hx with q | q
    · exact ih x q
    · have g : ∀ (l : List ByteArray), (∀ x ∈ l, x.size ≤ 4000) → (l.getD k ⟨#[]⟩).size ≤ 4000 := fun l hl => by
        rw [List.getD]
        cases e : l[k]? with
        | none => show (⟨#[]⟩ : ByteArray).size ≤ 4000; decide
        | some y => exact hl y (List.mem_of_getElem? e)
      simp only [List.mem_cons, List.not_mem_nil, or_false] at q
      rcases q with rfl | rfl
      · exact g _ hA
      · exact g _ hB
theorem lens_le2 (L : List ByteArray) (h : ∀ x ∈ L, x.size ≤ 4000) : Lib.lens (L.map (·.data.toList)) ≤ 4000 * L.length := by
  induction L with
  | nil => simp [Lib.lens]
  | cons x l ih =>
    have h1 := ih fun y hy => h y (List.mem_cons_of_mem _ hy)
    have h2 := h x List.mem_cons_self
    have h3 : x.data.toList.length = x.size := by rw [Array.length_toList]; rfl
    simp only [Lib.lens, List.map_cons, List.sum_cons, List.length_cons] at h1 ⊢
    omega
theorem join_small2 (L : List ByteArray) (hl : L.length ≤ 1000) (h : ∀ x ∈ L, x.size ≤ 4000) : (Lib.join (L.map (·.data.toList)) [32]).length ≤ 140737488355328 := by
  cases L with
  | nil => simp [Lib.join]
  | cons x l =>
    have h1 := lens_le2 (x :: l) h
    rw [List.map_cons] at h1 ⊢
    rw [Lib.join_length]
    simp only [List.length_map, List.length_cons] at *
    simp
    omega
set_option maxHeartbeats 1000000 in
theorem printFlow_good (K R M C Fl A : Int) (a : Option Addr) (n cap : Nat) (G : Nat → Nat → Int) (pw pq pc ps pb : Int) (pr : Nat) (pp pn : Int) (p q k l : Nat) (w : World) (h : NSl w a n cap G) (hz : flowE K R M C Fl A G n pw pq pc ps pb pr pp pn = 0) (hT : Tab w) (ht : Lib.TabIs Tryz.prog w "internal/strconv.uint64pow10" .u64 Lib.pow10Tab) (hu : pr < 18446744073709551616) (h6 : ffP pr = p) (h7 : ffQ pr = q) (hp : RS p) (hq : RS q) (hk : DecLen p k) (hl : DecLen q l) (hsz : (fmtT p q k l).size ≤ 4000)
    (hi5 : ∀ i, i < 5 → -9223372036854775808 ≤ setI pw pq pc ps pb i ∧ setI pw pq pc ps pb i ≤ 9223372036854775807) (hi2 : ∀ i, i < 2 → -9223372036854775808 ≤ pair2 pp pn i ∧ pair2 pp pn i ≤ 9223372036854775807) :
    Calls Tryz.prog 11 #[.agg #[.int .i64 K, .int .i64 R, .int .i64 M, .int .i64 C, .int .i64 Fl, .int .i64 A, .slice a n cap], .agg #[.int .i64 pw, .int .i64 pq, .int .i64 pc, .int .i64 ps, .int .i64 pb, .float .f64 pr, .int .i64 pp, .int .i64 pn]] w fun e w' => e = .returned (.tuple #[.string ⟨(Lib.join ((flowT pw pq pc ps pb pp pn (fmtT p q k l)).map (·.data.toList)) [32]).toArray⟩, .int .i64 0]) ∧ Below w.heap.size w w' := by
  have HN : Hid _ := h
  have HZ : Hid _ := hz
  have HTab : Hid (Tab w) := hT
  have HT : Hid _ := Lib.tabBelow_of_tabIs ht
  have H4 : Hid (pr < 18446744073709551616 ∧ ffP pr = p ∧ ffQ pr = q) := ⟨hu, h6, h7⟩
  have H2 : Hid (RS p ∧ RS q ∧ DecLen p k ∧ DecLen q l) := ⟨hp, hq, hk, hl⟩
  have HI5 : Hid _ := hi5
  have HI2 : Hid _ := hi2
  obtain ⟨T, hTx⟩ : ∃ T, fmtT p q k l = T := ⟨_, rfl⟩
  rw [hTx] at hsz
  rw [hTx]
  have HTX : Hid _ := hTx
  have HSZ : Hid _ := hsz
  have hl0 : n ≤ 9223372036854775807 := Nat.le_trans h.le h.lim
  clear h hz hT ht hu h6 h7 hp hq hk hl hi5 hi2 hTx hsz
  go_enter Tryz.func11, Tryz.ntmps11
  go_wp2_with fail
  have S0 : Hid _ := ((ce_start w).box7 (.int .i64 K) (.int .i64 R) (.int .i64 M) (.int .i64 C) (.int .i64 Fl) (.int .i64 A) (.slice a n cap) 24 _ rfl).box8 (.int .i64 pw) (.int .i64 pq) (.int .i64 pc) (.int .i64 ps) (.int .i64 pb) (.float .f64 pr) (.int .i64 pp) (.int .i64 pn) 27 (w.heap.size + 1) (by rw [World.size_alloc])
  refine (checkFlow_any K R M C Fl A a n cap G pw pq pc ps pb pr pp pn _ (HN.out.go S0.out.bel)).mono ?_
  rintro e w1 ⟨rfl, hb⟩
  rw [HZ.out]
  obtain ⟨g, eg⟩ : ∃ g, g = w.heap.size + 1 := ⟨_, rfl⟩
  rw [← eg] at S0
  rw [← eg]
  clear eg
  have S1 : Hid _ := S0.out.go hb
  clear hb S0
  have x0 := S1.out.cel g 0 (.int .i64 pw)
  have x1 := S1.out.cel g 1 (.int .i64 pq)
  have x2 := S1.out.cel g 2 (.int .i64 pc)
  have x3 := S1.out.cel g 3 (.int .i64 ps)
  have x4 := S1.out.cel g 4 (.int .i64 pb)
  have x5 := S1.out.cel g 5 (.float .f64 pr)
  have x6 := S1.out.cel g 6 (.int .i64 pp)
  have x7 := S1.out.cel g 7 (.int .i64 pn)
  go_wp2_with fail
  refine (fromFloat_all pr _ H4.out.1 (Tab.go HTab.out S1.out.bel)).mono ?_
  rintro e w2 ⟨v2, rfl, hr2, hb2⟩
  rw [H4.out.2.1, H4.out.2.2] at hr2
  obtain ⟨b, m, d, b', m', d', e0, _, _⟩ := hr2.raw
  subst e0
  have HR2 : Hid _ := hr2
  have S2 : Hid _ := (S1.out.go hb2).box2 (.slice b m d) (.slice b' m' d') 66 _ rfl
  obtain ⟨gq, egq⟩ : ∃ g, g = w2.heap.size := ⟨_, rfl⟩
  rw [← egq] at S2
  have HR2' : Hid (Rt (w2.alloc (.cells #[.slice b m d, .slice b' m' d'] 66)) (.agg #[.slice b m d, .slice b' m' d']) p q) := hr2.mono (bc_al (bel_refl _))
  obtain ⟨w3, hw3⟩ : ∃ w3, w3 = w2.alloc (.cells #[.slice b m d, .slice b' m' d'] 66) := ⟨_, rfl⟩
  rw [← hw3] at S2 HR2'
  clear x0
  clear x1
  clear x2
  clear x3
  clear x4
  clear x5
  clear x6
  clear x7
  have S1b : Hid _ := S1.out.go hb2
  clear hr2 hb2 S1
  clear HR2
  have x0 := S1b.out.cel g 0 (.int .i64 pw)
  have x1 := S1b.out.cel g 1 (.int .i64 pq)
  have x2 := S1b.out.cel g 2 (.int .i64 pc)
  have x3 := S1b.out.cel g 3 (.int .i64 ps)
  have x4 := S1b.out.cel g 4 (.int .i64 pb)
  have x5 := S1b.out.cel g 5 (.float .f64 pr)
  have x6 := S1b.out.cel g 6 (.int .i64 pp)
  have x7 := S1b.out.cel g 7 (.int .i64 pn)
  have lg := S1b.out.lt g 0 (.int .i64 pw)
  go_wp2_with fail
  rw [← hw3, ← egq]
  have e3 : w3.heap.size = gq + 1 := by rw [hw3, World.size_alloc, egq]
  clear S1b
  have B3 : Hid (Below w3.heap.size w3 (w3.alloc (.cells #[.int .i64 pw, .int .i64 pq, .int .i64 pc, .int .i64 ps, .int .i64 pb] 3))) := bc_al (bel_refl w3)
  refine (digits_any (gq + 1) 0 5 5 (setI pw pq pc ps pb) _ (by omega) (Nat.le_refl _) (fun i hi => by have := five_new w3 pw pq pc ps pb 3 i hi; rw [e3] at this; exact this) HI5.out (HT.out _ (bc_go S2.out.bel B3.out))).mono ?_
  rintro e w4 ⟨v4, rfl, hO4, hb4⟩
  have S4 : Hid _ := (S2.out.go B3.out).go hb4
  have R4 : Hid _ := HR2'.out.mono (bc_go B3.out hb4)
  obtain ⟨bs, ebs⟩ : ∃ bs, bs = (w3.alloc (.cells #[.int .i64 pw, .int .i64 pq, .int .i64 pc, .int .i64 ps, .int .i64 pb] 3)).heap.size := ⟨_, rfl⟩
  rw [← ebs] at hO4
  have lbs : bs ≤ w4.heap.size := by rw [ebs]; exact hb4.size
  have HBS : Hid (w.heap.size ≤ bs) := by
    show w.heap.size ≤ bs
    have q := S2.out.bel.size
    rw [ebs, World.size_alloc]
    omega
  have lgb : g < bs := by have q := S2.out.lt g 0 (.int .i64 pw); rw [ebs, World.size_alloc]; omega
  have hO4' := or_five hO4
  obtain ⟨LV, hLV⟩ : ∃ LV : List ByteArray, [itT pw, itT pq, itT pc, itT ps, itT pb] = LV := ⟨_, rfl⟩
  rw [hLV] at hO4'
  have HLV : Hid _ := hLV
  have nLV : LV.length = 5 := by rw [← hLV]; rfl
  have O4 : Hid (OR w4 9 bs v4 LV.length (tx LV)) := hO4'
  obtain ⟨g4, c4, e4, _, _⟩ := OR.row hO4' (by omega)
  rw [nLV] at e4
  subst e4
  have O4 : Hid (OR w4 9 bs (.slice (some ⟨g4, 0, none⟩) 5 c4) LV.length (tx LV)) := O4
  clear x0
  clear x1
  clear x2
  clear x3
  clear x4
  clear x5
  clear x6
  clear x7
  clear hO4 hO4' hb4 hLV lg ebs hw3 egq e3
  have x6 := S4.out.cel g 6 (.int .i64 pp)
  have x7 := S4.out.cel g 7 (.int .i64 pn)
  have z0 := S4.out.cel gq 0 (.slice b m d)
  have z1 := S4.out.cel gq 1 (.slice b' m' d')
  have lg := S4.out.lt g 6 (.int .i64 pp)
  go_wp2_with fail
  refine (format_any (.agg #[.slice b m d, .slice b' m' d']) p q k l _ R4.out H2.out.1 H2.out.2.1 H2.out.2.2.1 H2.out.2.2.2).mono ?_
  rintro e w5 ⟨rfl, hb5⟩
  rw [HTX.out]
  have S5 : Hid _ := S4.out.go hb5
  have lbs5 : bs ≤ w5.heap.size := Nat.le_trans lbs hb5.size
  have B5 : Hid (Below w5.heap.size w5 (w5.alloc (.cells #[.string T] 9))) := bc_al (bel_refl w5)
  have O5 : Hid (OR (w5.alloc (.cells #[.string T] 9)) 9 bs (.slice (some ⟨g4, 0, none⟩) 5 c4) LV.length (tx LV)) := OR.below (OR.below O4.out hb5) B5.out
  have l4 : bs ≤ g4 := OR.blk O4.out g4 rfl
  have A1 : Hid (∀ j, j < [T].length → (w5.alloc (.cells #[.string T] 9)).cell? ((⟨w5.heap.size, 0, none⟩ : Addr).add j) = some (tx [T] j)) := one_new w5 T 9
  clear hb5 x6 x7 z0 z1 lg R4 S4 O4
  go_wp2_with (refine (id ?_ : wpList Tryz.prog _ _ (⟨some 38, _, _, _, _, _⟩ :: _) _ _); refine wpList_append_tx rfl (.tmp 34) (.tmp 37) rfl bs _ LV [T] rfl O5.out ⟨w5.heap.size, 0, none⟩ 1 rfl A1.out (by simp) (by rw [nLV]; simp) (by rw [World.size_alloc]; omega) ?_)
  intro g6 cap6 w6 ho hg hor hlt6
  have n6 : (LV ++ [T]).length = 6 := by rw [List.length_append, nLV]; rfl
  obtain ⟨L6, hL6⟩ : ∃ L6, LV ++ [T] = L6 := ⟨_, rfl⟩
  have O6 : Hid (OR w6 9 bs (.slice (some ⟨g6, 0, none⟩) 6 cap6) L6.length (tx L6)) := by
    show OR _ _ _ _ _ _
    rw [← hL6, n6]
    simpa [nLV] using ho
  rw [hL6] at n6
  have HL6 : Hid _ := hL6
  have W6 : Hid (Below w.heap.size w w6) := Below.grown (bc_al S5.out.bel) hg (by rw [World.size_alloc]; have := S5.out.bel.size; omega) (fun j hj => Nat.le_trans HBS.out (OR.blk O5.out j hj))
  have x6 := hg.cell (bc_cell B5.out (S5.out.cel g 6 (.int .i64 pp))) (by simp [Value.ownBlock]; omega)
  have x7 := hg.cell (bc_cell B5.out (S5.out.cel g 7 (.int .i64 pn))) (by simp [Value.ownBlock]; omega)
  have lg : g < w6.heap.size := World.block_lt_of_cell? _ _ x6
  have lbs6 : bs ≤ w6.heap.size := by have := hg.size; rw [World.size_alloc] at this; omega
  clear ho hg hor S5 O5 A1 B5 hL6
  go_wp2_with fail
  have B6 : Hid (Below w6.heap.size w6 (w6.alloc (.cells #[.int .i64 pp, .int .i64 pn] 3))) := bc_al (bel_refl w6)
  refine (digits_any w6.heap.size 0 2 2 (pair2 pp pn) _ (by omega) (Nat.le_refl _) (fun i hi => two_at w6 pp pn 3 i hi) HI2.out (HT.out _ (bc_go W6.out B6.out))).mono ?_
  rintro e w7 ⟨v7, rfl, hO7, hb7⟩
  have W7 : Hid (Below w.heap.size w w7) := bc_go (bc_go W6.out B6.out) hb7
  have O7 : Hid (OR w7 9 bs (.slice (some ⟨g6, 0, none⟩) 6 cap6) L6.length (tx L6)) := OR.below (OR.below O6.out B6.out) hb7
  obtain ⟨g7, c7, rfl, _, h7⟩ := OR.row hO7 (by omega)
  obtain ⟨LW, hLW⟩ : ∃ LW : List ByteArray, [itT pp, itT pn] = LW := ⟨_, rfl⟩
  have nLW : LW.length = 2 := by rw [← hLW]; rfl
  have A7 : Hid (∀ j, j < LW.length → w7.cell? ((⟨g7, 0, none⟩ : Addr).add j) = some (tx LW j)) := fun j hj => by
    rw [nLW] at hj
    rw [show (⟨g7, 0, none⟩ : Addr).add j = ⟨g7, j, none⟩ by simp [Addr.add]; omega, h7 j hj, ← hLW]
    match j, hj with
    | 0, _ => rfl
    | 1, _ => rfl
  have HLW : Hid _ := hLW
  have lbs7 : bs ≤ w7.heap.size := by have := hb7.size; rw [World.size_alloc] at this; omega
  clear hO7 hb7 h7 hLW x6 x7 lg O6 B6
  go_wp2_with (refine (id ?_ : wpList Tryz.prog _ _ (⟨some 46, _, _, _, _, _⟩ :: _) _ _); refine wpList_append_tx rfl (.tmp 39) (.tmp 45) rfl bs _ L6 LW rfl O7.out ⟨g7, 0, none⟩ c7 (by rw [nLW]; rfl) A7.out (by omega) (by omega) lbs7 ?_)
  intro g8 cap8 w8 ho hg hor hlt8
  have n8 : (L6 ++ LW).length = 8 := by rw [List.length_append, n6, nLW]
  obtain ⟨L8, hL8⟩ : ∃ L8, L6 ++ LW = L8 := ⟨_, rfl⟩
  have O8 : OR w8 9 bs (.slice (some ⟨g8, 0, none⟩) 8 cap8) 8 (tx L8) := by
    rw [← hL8]
    simpa [n6, nLW] using ho
  have HL8 : Hid (L8 = [itT pw, itT pq, itT pc, itT ps, itT pb] ++ [T] ++ [itT pp, itT pn]) := by show _ = _; rw [← hL8, ← HL6.out, ← HLV.out, ← HLW.out]
  have HL8b : Hid (L8.length = 8) := by show _ = _; rw [← hL8, n8]
  have W8 : Hid (Below w.heap.size w w8) := Below.grown W7.out hg (by have := W7.out.size; omega) (fun j hj => Nat.le_trans HBS.out (OR.blk O7.out j hj))
  obtain ⟨hc8, hv8⟩ := OR.sliced O8 (by omega)
  have V8 : Hid _ := hv8
  clear ho hg hor O7 A7 hL8 hv8 O8
  go_wp2_with fail
  refine (named_any flowN g8 0 8 cap8 L8 w8 (by decide) hc8 (by rw [flowN_words]; decide) (by rw [flowN_words]; decide) (by omega) (fun i hi => by rw [Nat.zero_add, V8.out i hi]) trivial).mono ?_
  rintro e w9 ⟨v9, rfl, hO9, hb9⟩
  rw [show (wordsL flowN).length = 8 by rw [flowN_words]; rfl] at hO9
  obtain ⟨LZ, hLZ⟩ : ∃ LZ, zipT (wordsL flowN) L8 8 = LZ := ⟨_, rfl⟩
  rw [hLZ] at hO9
  have HLZ : Hid (flowT pw pq pc ps pb pp pn T = LZ) := by
    show _ = _
    rw [flowT, ← HL8.out, hLZ]
  have nLZ : LZ.length = 16 := by rw [← hLZ, zipT_len]
  have ZS : Hid (∀ x ∈ LZ, x.size ≤ 4000) := by
    show ∀ x ∈ LZ, x.size ≤ 4000
    rw [← hLZ]
    refine zip_le _ _ (by rw [flowN_words]; decide) ?_ 8
    intro x hx
    rw [HL8.out] at hx
    have i5 := HI5.out
    have i2 := HI2.out
    simp only [List.mem_append, List.mem_cons, List.not_mem_nil, or_false] at hx
    rcases hx with ((rfl | rfl | rfl | rfl | rfl) | rfl) | (rfl | rfl)
    · exact Nat.le_trans (itT_le _ (i5 0 (by omega)).1 (i5 0 (by omega)).2) (by omega)
    · exact Nat.le_trans (itT_le _ (i5 1 (by omega)).1 (i5 1 (by omega)).2) (by omega)
    · exact Nat.le_trans (itT_le _ (i5 2 (by omega)).1 (i5 2 (by omega)).2) (by omega)
    · exact Nat.le_trans (itT_le _ (i5 3 (by omega)).1 (i5 3 (by omega)).2) (by omega)
    · exact Nat.le_trans (itT_le _ (i5 4 (by omega)).1 (i5 4 (by omega)).2) (by omega)
    · exact HSZ.out
    · exact Nat.le_trans (itT_le _ (i2 0 (by omega)).1 (i2 0 (by omega)).2) (by omega)
    · exact Nat.le_trans (itT_le _ (i2 1 (by omega)).1 (i2 1 (by omega)).2) (by omega)
  obtain ⟨g9, c9, rfl, hc9, hv9⟩ := OR.row hO9 (by omega)
  have V9 : Hid _ := hv9
  have W9 : Hid (Below w.heap.size w w9) := bc_go W8.out hb9
  have lt9 : g9 < w9.heap.size := World.block_lt_of_cell? _ _ (hv9 0 (by omega))
  have NZ : Hid _ := nLZ
  clear hO9 hb9 hv9 hLZ nLZ
  go_wp2_with fail
  refine (Tryz.strings_Join g9 0 c9 LZ ⟨#[32]⟩ w9 (fun j x hj => ?_) lt9 (by have := NZ.out; omega) hc9 (join_small2 _ (by have := NZ.out; omega) ZS.out)).mono ?_
  · have lj : j < LZ.length := by
      rcases Nat.lt_or_ge j LZ.length with q | q
      · exact q
      · rw [List.getElem?_eq_none q] at hj; cases hj
    rw [Nat.zero_add, V9.out j lj]
    show some (Value.string (LZ.getD j ⟨#[]⟩)) = _
    rw [List.getD, hj]
    rfl
  rintro e w10 ⟨rfl, hb10⟩
  have W10 : Hid (Below w.heap.size w w10) := bc_go W9.out hb10
  clear hb10
  go_wp2_with fail
  exact bodyPost_ret (v := .tuple #[.string ⟨(Lib.join (List.map (fun x => x.data.toList) LZ) [32]).toArray⟩, .int .i64 0]) (by simp [results, Tryz.results11, go_sem]) rfl ⟨by rw [HLZ.out], W10.out⟩
end Go.Proofs.YtfjmnhmdipjenaaGreatDoor

namespace Go.Proofs.YtfjmnhmdipjenaaGreatDoor
open Go.RowKit
set_option maxRecDepth 100000
set_option linter.unusedVariables false
theorem ws_sm (s : ByteArray) (i : Nat) (hi : i ≤ s.size) : ∀ x ∈ (ws s i).2, x.size ≤ s.size := by
  induction i with
  | zero => intro x hx; simp [ws] at hx
  | succ i ih =>
    intro x hx
    rw [ws] at hx
    split at hx
    · split at hx
      · rcases List.mem_append.1 hx with q | q
        · exact ih (by omega) x q
        · simp only [List.mem_singleton] at q
          rw [q, ByteArray.size_extract]
          omega
      · exact ih (by omega) x hx
    · exact ih (by omega) x hx
theorem words_sm (s : ByteArray) (x : ByteArray) (hx : x ∈ wordsL s) : x.size ≤ s.size := by
  unfold wordsL at hx
  split at hx
  · rcases List.mem_append.1 hx with q | q
    · exact ws_sm s _ (Nat.le_refl _) x q
    · simp only [List.mem_singleton] at q
      rw [q, ByteArray.size_extract]
      omega
  · exact ws_sm s _ (Nat.le_refl _) x hx
theorem words_len (s : ByteArray) : (wordsL s).length ≤ s.size + 1 := by
  have h := (ws_le s s.size).2
  unfold wordsL
  split
  · rw [List.length_append]; simp; omega
  · omega
theorem rst_or {W : World} {base : Nat} {v : Value} {L : List ByteArray} (h : OR W 9 base v L.length (tx L)) : Rst W.heap.size W v L := by
  rcases h with ⟨rfl, q⟩ | ⟨g, cap, f, rfl, h1, h2, h3, h4, h5⟩
  · have e : L = [] := List.length_eq_zero_iff.1 q
    subst e
    exact ⟨none, 0, rfl, Nat.le_refl _, .inl ⟨rfl, rfl, rfl⟩⟩
  · refine ⟨_, cap, rfl, h2, .inr ⟨g, 0, rfl, fun i hi => ?_⟩⟩
    have c := h4.cell (show i < cap by omega)
    rw [h5 i hi] at c
    rw [Nat.zero_add]
    exact ⟨World.block_lt_of_cell? _ _ c, c⟩
/-- The reader at a line's start. -/
theorem rp_start {W W0 : World} {v : Value} {s : ByteArray} {base : Nat} (hs : s.size ≤ 4096) (h : OR W 9 base v (wordsL s).length (tx (wordsL s))) (he : EV W) (hk : KN W) : Rp (W.heap.size + 1) (W.alloc (.cells #[v, .bool false] 72)) W.heap.size (wordsL s, false) := by
  have B := bc_al (o := .cells #[v, .bool false] 72) (bel_refl W)
  refine ⟨⟨⟨v, al_at _ _, ?_⟩⟩, by rw [World.size_alloc]; omega, fun x hx => Nat.le_trans (words_sm s x hx) hs, he.go B, hk.go B, ?_⟩
  · obtain ⟨a, cap, e, h1, h2⟩ := rst_or h
    refine ⟨a, cap, e, h1, h2.imp id ?_⟩
    rintro ⟨g, o, ha, hc⟩
    exact ⟨g, o, ha, fun i hi => ⟨Nat.lt_succ_of_lt (hc i hi).1, bc_cell B (hc i hi).2⟩⟩
  · have := words_len s
    show (wordsL s).length ≤ _
    omega
theorem nsl_nil (w : World) : NSl w none 0 0 (fun _ _ => 0) := ⟨Nat.le_refl _, by omega, fun i j hi => by omega, .inl rfl⟩
set_option maxHeartbeats 1000000 in
theorem parse_good (s : ByteArray) (KD n0 n1 n2 n3 n4 : Int) (w : World) (hs : s.size ≤ 4096) (he : EV w) (hk : KN w) (h6 : KD ≠ 6) (k0 : setV (wordsL s, false) 0 = KD) (k1 : setV (wordsL s, false) 1 = n0) (k2 : setV (wordsL s, false) 2 = n1) (k3 : setV (wordsL s, false) 3 = n2) (k4 : setV (wordsL s, false) 4 = n3) (k5 : setV (wordsL s, false) 5 = n4) (hd : setS (wordsL s, false) = ([], false)) (hc : checkE KD n0 n1 n2 n3 n4 (fun _ _ => 0) 0 = 0) :
    Calls Tryz.prog 12 #[.string s] w fun e w' => e = .returned (.tuple #[.agg #[.int .i64 KD, .int .i64 n0, .int .i64 n1, .int .i64 n2, .int .i64 n3, .int .i64 n4, .slice none 0 0], .int .i64 0]) ∧ Below w.heap.size w w' := by
  have HS : Hid _ := hs
  have HE : Hid _ := he
  have HK : Hid (KN w) := hk
  have HD : Hid _ := hd
  have HC : Hid _ := hc
  have HV : Hid (∀ e : Ending, e = Ending.returned (.agg #[.int .i64 (setV (wordsL s, false) 0), .int .i64 (setV (wordsL s, false) 1), .int .i64 (setV (wordsL s, false) 2), .int .i64 (setV (wordsL s, false) 3), .int .i64 (setV (wordsL s, false) 4), .int .i64 (setV (wordsL s, false) 5), .slice none 0 0]) → e = .returned (.agg #[.int .i64 KD, .int .i64 n0, .int .i64 n1, .int .i64 n2, .int .i64 n3, .int .i64 n4, .slice none 0 0])) := by
    intro e q
    rw [q, k0, k1, k2, k3, k4, k5]
  have H6 : Hid (setV (wordsL s, false) 0 ≠ 6) := by show _ ≠ _; rw [k0]; exact h6
  clear he hk hd hc k0 k1 k2 k3 k4 k5 h6
  have d0 : ¬ (4096 : Int) < (s.size : Int) := by omega
  go_enter Tryz.func12, Tryz.ntmps12
  go_wp2_with fail
  refine (words_any s _ (by omega)).mono ?_
  rintro e w1 ⟨v1, rfl, hO, hb1⟩
  have B1 : Hid (Below w.heap.size w w1) := bc_go (bc_al (bel_refl w)) hb1
  have BA : Hid (Below (w.alloc (.cells #[.int .i64 0, .int .i64 0, .int .i64 0, .int .i64 0, .int .i64 0, .int .i64 0, .slice none 0 0] 24)).heap.size (w.alloc (.cells #[.int .i64 0, .int .i64 0, .int .i64 0, .int .i64 0, .int .i64 0, .int .i64 0, .slice none 0 0] 24)) w1) := hb1
  have R1 : Hid _ := rp_start (W0 := w) hs hO (HE.out.go B1.out) (HK.out.go B1.out)
  have hsz1 := hb1.size
  rw [World.size_alloc] at hsz1
  have e1 : ∃ a n c, v1 = .slice a n c := by
    rcases hO with ⟨q, _⟩ | ⟨g, cap, f, q, _⟩
    · exact ⟨_, _, _, q⟩
    · exact ⟨_, _, _, q⟩
  obtain ⟨a1, m1, c1, rfl⟩ := e1
  clear hO hb1
  go_wp2_with fail
  refine (setup_flat w1.heap.size (wordsL s, false) _ R1.out (by have := words_len s; show (wordsL s).length ≤ _; omega) H6.out).mono ?_
  rintro e w2 ⟨he2, ⟨lm2, hr2⟩, ho2⟩
  have he3 := HV.out e he2
  subst he3
  rw [HD.out] at hr2
  have R2 : Hid _ := hr2
  have O2 : Hid _ := ho2
  clear he2 hr2 ho2
  go_wp2_with fail
  refine (done_any w1.heap.size [] false _ (R2.out.rd.go (bc_al (bel_refl w2)))).mono ?_
  rintro e w3 ⟨rfl, rfl⟩
  obtain ⟨gC, eC⟩ : ∃ g, g = w2.heap.size := ⟨_, rfl⟩
  obtain ⟨gR, eR⟩ : ∃ g, g = w.heap.size := ⟨_, rfl⟩
  obtain ⟨w4, hw4⟩ : ∃ w4, w4 = w2.alloc (.cells #[.int .i64 KD, .int .i64 n0, .int .i64 n1, .int .i64 n2, .int .i64 n3, .int .i64 n4, .slice none 0 0] 24) := ⟨_, rfl⟩
  have hsz2 := O2.out.size
  rw [World.size_alloc] at hsz2
  have hC : w4.heap[gC]? = some (.cells #[.int .i64 KD, .int .i64 n0, .int .i64 n1, .int .i64 n2, .int .i64 n3, .int .i64 n4, .slice none 0 0] 24) := by rw [hw4, eC]; exact al_at _ _
  have hR : w4.heap[gR]? = some (.cells #[.int .i64 0, .int .i64 0, .int .i64 0, .int .i64 0, .int .i64 0, .int .i64 0, .slice none 0 0] 24) := by
    rw [hw4]
    refine ((bc_al (bel_refl w2)).block gR (by omega)).trans ((O2.out.block gR (by rw [World.size_alloc]; omega) (by omega)).trans (((bc_al (bel_refl w1)).block gR (by omega)).trans ((BA.out.block gR (by rw [World.size_alloc]; omega)).trans ?_)))
    rw [eR]
    exact al_at _ _
  have W4 : Hid (Below w.heap.size w w4) := by
    have q : Below w.heap.size (w1.alloc (.cells #[.slice a1 m1 c1, .bool false] 72)) w2 := O2.out.below (by rw [World.size_alloc]; omega) (by omega)
    rw [hw4]
    exact bc_al ((bc_al B1.out).trans q)
  rw [← hw4, ← eC, ← eR]
  have x0 : w4.cell? ⟨gC, 0, none⟩ = some (.int .i64 KD) := by simp [World.cell?, hC]
  have x1 : w4.cell? ⟨gC, 1, none⟩ = some (.int .i64 n0) := by simp [World.cell?, hC]
  have x2 : w4.cell? ⟨gC, 2, none⟩ = some (.int .i64 n1) := by simp [World.cell?, hC]
  have x3 : w4.cell? ⟨gC, 3, none⟩ = some (.int .i64 n2) := by simp [World.cell?, hC]
  have x4 : w4.cell? ⟨gC, 4, none⟩ = some (.int .i64 n3) := by simp [World.cell?, hC]
  have x5 : w4.cell? ⟨gC, 5, none⟩ = some (.int .i64 n4) := by simp [World.cell?, hC]
  have x6 : w4.cell? ⟨gC, 6, none⟩ = some (.slice none 0 0) := by simp [World.cell?, hC]
  have G4 : Hid _ := hR
  have GC : Hid _ := hC
  have lC : gC < w4.heap.size := World.block_lt_of_cell? _ _ x0
  have neg : Hid (gC ≠ gR) := by show gC ≠ gR; omega
  have HEQ : Hid _ := eR
  clear hC hR hw4 eC eR
  go_wp2_with fail
  refine (check_any KD n0 n1 n2 n3 n4 none 0 0 (fun _ _ => 0) _ (nsl_nil _)).mono ?_
  rintro e w5 ⟨rfl, hb5⟩
  rw [HC.out]
  have z0 := bc_cell hb5 x0
  have z1 := bc_cell hb5 x1
  have z2 := bc_cell hb5 x2
  have z3 := bc_cell hb5 x3
  have z4 := bc_cell hb5 x4
  have z5 := bc_cell hb5 x5
  have z6 := bc_cell hb5 x6
  have G5 : Hid (w5.heap[gR]? = some (.cells #[.int .i64 0, .int .i64 0, .int .i64 0, .int .i64 0, .int .i64 0, .int .i64 0, .slice none 0 0] 24)) := (hb5.block gR (Array.getElem?_eq_some_iff.1 G4.out).1).trans G4.out
  have W5 : Hid _ := bc_go W4.out hb5
  clear x0
  clear x1
  clear x2
  clear x3
  clear x4
  clear x5
  clear x6
  clear hb5
  go_wp2_with (refine (id ?_ : wpList Tryz.prog _ _ (⟨none, .store 24 (.tmp 2) (.tmp 24), _, _, _, _⟩ :: _) _ _); refine wpList_store_row rfl 24 (.tmp 2) (.tmp 24) rfl gR #[.int .i64 KD, .int .i64 n0, .int .i64 n1, .int .i64 n2, .int .i64 n3, .int .i64 n4, .slice none 0 0] rfl rfl 24 #[.int .i64 0, .int .i64 0, .int .i64 0, .int .i64 0, .int .i64 0, .int .i64 0, .slice none 0 0] G5.out (by kernel_rfl) (by kernel_rfl) (by kernel_rfl) ?_; refine wpList_as (fun W => W.heap[gR]? = some (.cells #[.int .i64 KD, .int .i64 n0, .int .i64 n1, .int .i64 n2, .int .i64 n3, .int .i64 n4, .slice none 0 0] 24) ∧ Below w.heap.size w W) ⟨setRow_heap _ _ _ _ _ _ G5.out, ?_⟩ ?_)
  · exact ⟨W5.out.os, W5.out.tape, W5.out.output, by rw [size_setRow]; exact W5.out.size, fun k hk => (setRow_other _ _ _ _ (by have := HEQ.out; omega)).trans (W5.out.block k hk)⟩
  intro w6 hR hB
  have W6 : Hid _ := hB
  have y0 : w6.cell? ⟨gR, 0, none⟩ = some (.int .i64 KD) := by simp [World.cell?, hR]
  have y1 : w6.cell? ⟨gR, 1, none⟩ = some (.int .i64 n0) := by simp [World.cell?, hR]
  have y2 : w6.cell? ⟨gR, 2, none⟩ = some (.int .i64 n1) := by simp [World.cell?, hR]
  have y3 : w6.cell? ⟨gR, 3, none⟩ = some (.int .i64 n2) := by simp [World.cell?, hR]
  have y4 : w6.cell? ⟨gR, 4, none⟩ = some (.int .i64 n3) := by simp [World.cell?, hR]
  have y5 : w6.cell? ⟨gR, 5, none⟩ = some (.int .i64 n4) := by simp [World.cell?, hR]
  have y6 : w6.cell? ⟨gR, 6, none⟩ = some (.slice none 0 0) := by simp [World.cell?, hR]
  clear hB hR
  go_wp2_with fail
  exact bodyPost_ret (v := .tuple #[.agg #[.int .i64 KD, .int .i64 n0, .int .i64 n1, .int .i64 n2, .int .i64 n3, .int .i64 n4, .slice none 0 0], .int .i64 0]) (by simp [results, Tryz.results12, go_sem, y0, y1, y2, y3, y4, y5, y6]) rfl ⟨rfl, W6.out⟩
end Go.Proofs.YtfjmnhmdipjenaaGreatDoor

