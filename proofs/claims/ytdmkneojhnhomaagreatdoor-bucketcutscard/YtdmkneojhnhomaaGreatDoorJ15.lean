/- Contracts of the program's functions, part 15: own work, joined in build order. -/
import Derived.Test.YtdmkneojhnhomaaGreatDoorJ14
import Derived.LaidEqlPtr
namespace Go.Proofs.YtdmkneojhnhomaaGreatDoor
open Go.RowKit
set_option maxRecDepth 100000
set_option linter.unusedVariables false
/-- Two buckets of one rate and one burst. -/
structure Sc (W0 W : World) (a b Ta Na Tb Nb R D B : Nat) : Prop where
  ba : Bu W a Ta Na R D B
  bb : Bu W b Tb Nb R D B
  ne : a ≠ b
  la : W0.heap.size ≤ a
  lb : W0.heap.size ≤ b
  bel : Below W0.heap.size W0 W
  tab : Tab W
/-- A step lies in a box. -/
def Bx (W : World) (g : Nat) (x y z : Int) : Prop := W.heap[g]? = some (.cells #[.int .i64 x, .int .i64 y, .int .i64 z] 42)
section
variable {W0 W W' : World} {a b Ta Na Tb Nb R D B g : Nat} {x y z : Int}
theorem Sc.go (h : Sc W0 W a b Ta Na Tb Nb R D B) (k : Below W.heap.size W W') : Sc W0 W' a b Ta Na Tb Nb R D B :=
  ⟨h.ba.go k, h.bb.go k, h.ne, h.la, h.lb, h.bel.trans (k.mono h.bel.size), h.tab.go k⟩
theorem Sc.stepA {T' N' : Nat} (h : Sc W0 W a b Ta Na Tb Nb R D B) (k : Bu W' a T' N' R D B) (f : Fb (fun x => x = a) W W') : Sc W0 W' a b T' N' Tb Nb R D B :=
  ⟨k, h.bb.fb f (fun x e => e ▸ h.ba.odd) (fun e => h.ne e.symm), h.ne, h.la, h.lb, h.bel.trans (f.below h.bel.size (fun x e => e ▸ h.la)), h.tab.fb f (fun x e => e ▸ h.ba.odd)⟩
theorem Sc.stepB {T' N' : Nat} (h : Sc W0 W a b Ta Na Tb Nb R D B) (k : Bu W' b T' N' R D B) (f : Fb (fun x => x = b) W W') : Sc W0 W' a b Ta Na T' N' R D B :=
  ⟨h.ba.fb f (fun x e => e ▸ h.bb.odd) (fun e => h.ne e), k, h.ne, h.la, h.lb, h.bel.trans (f.below h.bel.size (fun x e => e ▸ h.lb)), h.tab.fb f (fun x e => e ▸ h.bb.odd)⟩
theorem Bx.ne {T N R D B : Nat} (h : Bx W g x y z) (k : Bu W a T N R D B) : g ≠ a := by
  rintro rfl
  obtain ⟨p, q, u1, u2, u3, u4, u5, u6, hb, _⟩ := k.ex
  unfold Bx at h
  unfold BkAt at hb
  rw [h] at hb
  injection hb with hb
  injection hb with hb
  injection hb with hb
  simp at hb
theorem Bx.go (h : Bx W g x y z) (k : Below W.heap.size W W') : Bx W' g x y z := (k.block g (Array.getElem?_eq_some_iff.1 h).1).trans h
theorem Bx.fb {T N R D B : Nat} (h : Bx W g x y z) (k : Bu W a T N R D B) (f : Fb (fun x => x = a) W W') : Bx W' g x y z := f.heap h (h.ne k)
theorem Bx.cells (h : Bx W g x y z) : W.cell? ⟨g, 0, none⟩ = some (.int .i64 x) ∧ W.cell? ⟨g, 1, none⟩ = some (.int .i64 y) ∧ W.cell? ⟨g, 2, none⟩ = some (.int .i64 z) := by
  unfold Bx at h
  exact ⟨by simp [World.cell?, h], by simp [World.cell?, h], by simp [World.cell?, h]⟩
/-- Two buckets and a step. -/
structure Sd (W0 W : World) (a b Ta Na Tb Nb R D B g : Nat) (x y z : Int) : Prop extends Sc W0 W a b Ta Na Tb Nb R D B where
  bx : Bx W g x y z
theorem Sd.go (h : Sd W0 W a b Ta Na Tb Nb R D B g x y z) (k : Below W.heap.size W W') : Sd W0 W' a b Ta Na Tb Nb R D B g x y z := ⟨h.toSc.go k, h.bx.go k⟩
theorem Sd.atA (h : Sd W0 W a b Ta Na Tb Nb R D B g x y z) (t : Int) : Calls Tryz.prog 13 #[.pointer (some ⟨a, 0, none⟩), .int .i64 t] W fun e W' => ∃ v p q, e = .returned v ∧ Rt W' v p q ∧ Fc p q (atN Ta Na R D B t) D 20 ∧ Sd W0 W' a b (atT Ta t) (atN Ta Na R D B t) Tb Nb R D B g x y z := by
  refine (bat_any a Ta Na R D B t W h.ba h.tab).mono ?_
  rintro e W' ⟨v, p, q, rfl, hv, hf, k, f⟩
  exact ⟨v, p, q, rfl, hv, hf, h.toSc.stepA k f, h.bx.fb h.ba f⟩
theorem Sd.atB (h : Sd W0 W a b Ta Na Tb Nb R D B g x y z) (t : Int) : Calls Tryz.prog 13 #[.pointer (some ⟨b, 0, none⟩), .int .i64 t] W fun e W' => ∃ v p q, e = .returned v ∧ Rt W' v p q ∧ Fc p q (atN Tb Nb R D B t) D 20 ∧ Sd W0 W' a b Ta Na (atT Tb t) (atN Tb Nb R D B t) R D B g x y z ∧ ∀ u p' q', Rt W u p' q' → Rt W' u p' q' := by
  refine (bat_any b Tb Nb R D B t W h.bb h.tab).mono ?_
  rintro e W' ⟨v, p, q, rfl, hv, hf, k, f⟩
  exact ⟨v, p, q, rfl, hv, hf, ⟨h.toSc.stepB k f, h.bx.fb h.bb f⟩, fun u p' q' hu => hu.fb f (fun x e => e ▸ h.bb.odd)⟩
theorem Sd.takeA (h : Sd W0 W a b Ta Na Tb Nb R D B g x y z) (t n : Int) (hn : n ≤ 9223372036854775807) : Calls Tryz.prog 16 #[.pointer (some ⟨a, 0, none⟩), .int .i64 t, .int .i64 n] W fun e W' => e = .returned (.int .i64 (takeE (atN Ta Na R D B t) D n)) ∧ Sd W0 W' a b (atT Ta t) (takeN (atN Ta Na R D B t) D n) Tb Nb R D B g x y z := by
  refine (btake_any a Ta Na R D B t n W h.ba h.tab hn).mono ?_
  rintro e W' ⟨rfl, k, f⟩
  exact ⟨rfl, h.toSc.stepA k f, h.bx.fb h.ba f⟩
theorem Sd.takeB (h : Sd W0 W a b Ta Na Tb Nb R D B g x y z) (t n : Int) (hn : n ≤ 9223372036854775807) : Calls Tryz.prog 16 #[.pointer (some ⟨b, 0, none⟩), .int .i64 t, .int .i64 n] W fun e W' => e = .returned (.int .i64 (takeE (atN Tb Nb R D B t) D n)) ∧ Sd W0 W' a b Ta Na (atT Tb t) (takeN (atN Tb Nb R D B t) D n) R D B g x y z := by
  refine (btake_any b Tb Nb R D B t n W h.bb h.tab hn).mono ?_
  rintro e W' ⟨rfl, k, f⟩
  exact ⟨rfl, h.toSc.stepB k f, h.bx.fb h.bb f⟩
end
set_option maxHeartbeats 8000000 in
theorem cuts_any (W0 : World) (i0 : Int) (u : Nat) (i2 : Int) (s3 : Option Addr) (L3 K3 : Nat) (G : Nat → Nat → Int) (s4 : Option Addr) (L4 K4 : Nat) (zs : Nat → Int) (r0 : -9223372036854775808 ≤ i0 ∧ i0 ≤ 9223372036854775807) (hu : u < 18446744073709551616) (r2 : -9223372036854775808 ≤ i2 ∧ i2 ≤ 9223372036854775807) (hs3 : SSl W0 s3 L3 K3 G) (hs4 : ISl W0 s4 L4 K4 zs) (hT : Tab W0) :
    Calls Tryz.prog 5 #[.int .i64 i0, .int .u64 (u : Int), .int .i64 i2, .slice s3 L3 K3, .slice s4 L4 K4] W0 fun e w' => e = .returned (.bool true) ∧ Below W0.heap.size W0 w' := by
  have FE : Hid (∀ (n : Int) (m : Nat) w, -9223372036854775808 ≤ n ∧ n ≤ 9223372036854775807 → m ≤ 9223372036854775806 → Calls Tryz.prog 20 #[.int .i64 n, .int .i64 (m : Int)] w fun e w' => e = .returned (.int .i64 ((fewN n m : Nat) : Int)) ∧ w = w') := fun n m w h hm => (few_any n m w h.1 h.2 hm).mono fun e w' h => ⟨h.1, h.2.symm⟩
  have FL : ∀ (n : Int) (m : Nat) (M : Int) w, (m : Int) = M → -9223372036854775808 ≤ n ∧ n ≤ 9223372036854775807 → m ≤ 9223372036854775806 → Calls Tryz.prog 20 #[.int .i64 n, .int .i64 M] w fun e w' => e = .returned (.int .i64 ((fewN n m : Nat) : Int)) ∧ w = w' := fun n m M w e h hm => by subst e; exact (few_any n m w h.1 h.2 hm).mono fun e w' h => ⟨h.1, h.2.symm⟩
  have FA : Hid (∀ w, Calls Tryz.prog 20 #[.int .i64 i0, .int .i64 1099511627775] w fun e w' => e = .returned (.int .i64 ((fewN i0 1099511627775 : Nat) : Int)) ∧ w = w') := fun w => FL i0 1099511627775 _ w (by omega) r0 (by omega)
  have FB : Hid (∀ w, Calls Tryz.prog 20 #[.int .i64 i2, .int .i64 1073741823] w fun e w' => e = .returned (.int .i64 ((fewN i2 1073741823 : Nat) : Int)) ∧ w = w') := fun w => FL i2 1073741823 _ w (by omega) r2 (by omega)
  have FC : Hid (∀ n w, -9223372036854775808 ≤ n ∧ n ≤ 9223372036854775807 → Calls Tryz.prog 20 #[.int .i64 n, .int .i64 1125899906842624] w fun e w' => e = .returned (.int .i64 ((fewN n 1125899906842624 : Nat) : Int)) ∧ w = w') := fun n w h => FL n 1125899906842624 _ w (by omega) h (by omega)
  have HU : Hid (u < 18446744073709551616 ∧ Tab W0 ∧ SSl W0 s3 L3 K3 G ∧ ISl W0 s4 L4 K4 zs) := ⟨hu, hT, hs3, hs4⟩
  have hl3 : L3 ≤ 9223372036854775807 := Nat.le_trans hs3.le hs3.lim
  have hl4 : L4 ≤ 9223372036854775807 := Nat.le_trans hs4.le hs4.lim
  have hl3' := hs3.le
  have hl4' := hs4.le
  clear r0 r2 hT hu FL hs3 hs4
  go_enter Tryz.func5, Tryz.ntmps5
  go_wp2_with fail
  refine (FA.out _).mono ?_
  rintro e w1 ⟨rfl, rfl⟩
  obtain ⟨f0, hf0⟩ : ∃ f, f = fewN i0 1099511627775 := ⟨_, rfl⟩
  have l0 : f0 ≤ 1099511627775 := by rw [hf0]; exact fewN_le _ _
  rw [← hf0]
  clear hf0
  obtain ⟨B, eB⟩ : ∃ B : Nat, B = f0 + 1 := ⟨_, rfl⟩
  have q0 : wrap64 ((f0 : Int) + 1) = (B : Int) := by rw [IntWalk.wrap64_in _ ⟨by omega, by omega⟩]; omega
  have HB : Hid (1 ≤ B ∧ B ≤ 1099511627776) := ⟨by omega, by omega⟩
  clear eB l0
  go_wp2_with fail
  refine (FB.out _).mono ?_
  rintro e w1 ⟨rfl, rfl⟩
  obtain ⟨f1, hf1⟩ : ∃ f, f = fewN i2 1073741823 := ⟨_, rfl⟩
  have l1 : f1 ≤ 1073741823 := by rw [hf1]; exact fewN_le _ _
  rw [← hf1]
  clear hf1
  obtain ⟨per, eper⟩ : ∃ per : Nat, per = f1 + 1 := ⟨_, rfl⟩
  have q1 : wrap64 ((f1 : Int) + 1) = (per : Int) := by rw [IntWalk.wrap64_in _ ⟨by omega, by omega⟩]; omega
  have HP : Hid (1 ≤ per ∧ per ≤ 1073741824) := ⟨by omega, by omega⟩
  clear eper l1
  have FT : Hid (∀ w, Calls Tryz.prog 10 #[.int .u64 (u : Int)] w fun e w' => e = .returned (.float .f64 u) ∧ w = w') := fun w => (float_any u w).mono fun e w' h => ⟨h.1, h.2.symm⟩
  go_wp2_with fail
  refine (FT.out _).mono ?_
  rintro e w1 ⟨rfl, rfl⟩
  go_wp2_with fail
  obtain ⟨R, eR⟩ : ∃ R, R = rP u per := ⟨_, rfl⟩
  obtain ⟨D, eD⟩ : ∃ D, D = rQ u per := ⟨_, rfl⟩
  have NY : Hid (∀ w, Tab w → rateOk u (per : Int) → Calls Tryz.prog 9 #[.int .i64 (B : Int), .float .f64 u, .int .i64 (per : Int), .int .i64 0] w (NewYes w 0 R D B)) := fun w hT h => by
    have := bnew_yes B u per 0 w HB.out.1 HB.out.2 h (by omega) hT
    rw [← eR, ← eD] at this
    exact this
  have NN : Hid (∀ w, ¬ rateOk u (per : Int) → Calls Tryz.prog 9 #[.int .i64 (B : Int), .float .f64 u, .int .i64 (per : Int), .int .i64 0] w (NewNo w 98)) := fun w h => bnew_rate (B : Int) u (per : Int) 0 w (by have := HB.out; omega) (by have := HB.out; omega) h HU.out.1
  clear eR eD q0 q1 FA FB
  by_cases hr : rateOk u (per : Int)
  · refine (NY.out _ HU.out.2.1 hr).mono ?_
    rintro e w2 ⟨a, rfl, ha, hua, hbl⟩
    have Z0 : Hid (Bu w2 a 0 0 R D B ∧ W0.heap.size ≤ a ∧ Below W0.heap.size W0 w2 ∧ Tab w2) := ⟨hua, ha, hbl, HU.out.2.1.go hbl⟩
    clear ha hua hbl
    go_wp2_with fail
    refine (FT.out _).mono ?_
    rintro e w1 ⟨rfl, rfl⟩
    go_wp2_with fail
    refine (NY.out _ Z0.out.2.2.2 hr).mono ?_
    rintro e w3 ⟨b, rfl, hb, hub, hbl⟩
    have S0 : Hid (Sc W0 w3 a b 0 0 0 0 R D B) := ⟨Z0.out.1.go hbl, hub, by have := Z0.out.1.lt; omega, Z0.out.2.1, Nat.le_trans Z0.out.2.2.1.size hb, Z0.out.2.2.1.trans (hbl.mono Z0.out.2.2.1.size), Z0.out.2.2.2.go hbl⟩
    clear hb hub hbl Z0 hr NY NN
    go_wp2_with fail
    refine (btold_true w3 S0.out.tab).mono ?_
    rintro e w4 ⟨rfl, h4⟩
    have S1 : Hid (Sc W0 w4 a b 0 0 0 0 R D B) := S0.out.go h4
    clear h4 S0
    go_wp2_with fail
    go_loopw [15, 16] (fun tv iv wr => ∃ (k tt N : Nat), k ≤ L3 ∧ tv = .int .i64 (tt : Int) ∧ iv = .int .i64 (k : Int) ∧ Hid (Sc W0 wr a b tt N tt N R D B)) (fun _ i _ => L3 - (intOf i).toNat)
    case atStart => exact ⟨0, 0, 0, by omega, rfl, rfl, S1⟩
    case round =>
      clear S1
      obtain ⟨k, tt, N, hk, rfl, rfl, hI⟩ := hrel
      by_cases hk1 : k < L3
      · have d1 : decide ((k : Int) < (L3 : Int)) = true := decide_eq_true (by omega)
        by_cases hk2 : k < 60
        · have d2 : decide ((k : Int) < 60) = true := decide_eq_true (by omega)
          obtain ⟨sb, so, es, hc⟩ := HU.out.2.2.1.at hI.out.bel (by omega)
          have c0 : wr.cell? ⟨sb, so + k * 3, none⟩ = some (.int .i64 (G k 0)) := by simpa using hc k 0 hk1 (by omega)
          have c1 := hc k 1 hk1 (by omega)
          have c2 := hc k 2 hk1 (by omega)
          have b1 := HU.out.2.2.1.wf k 1 hk1 (by omega)
          have b2 := HU.out.2.2.1.wf k 2 hk1 (by omega)
          subst es
          obtain ⟨x, ex⟩ : ∃ x, x = G k 0 := ⟨_, rfl⟩
          obtain ⟨y, ey⟩ : ∃ y, y = G k 1 := ⟨_, rfl⟩
          obtain ⟨z, ez⟩ : ∃ z, z = G k 2 := ⟨_, rfl⟩
          rw [← ex] at c0
          rw [← ey] at c1 b1
          rw [← ez] at c2 b2
          have HZ : Hid ((-9223372036854775808 ≤ y ∧ y ≤ 9223372036854775807) ∧ (-9223372036854775808 ≤ z ∧ z ≤ 9223372036854775807) ∧ tt ≤ 4611686018427387904) := ⟨b1, b2, hI.out.ba.cT⟩
          have S2 : Hid (Sd W0 (wr.alloc (.cells #[.int .i64 x, .int .i64 y, .int .i64 z] 42)) a b tt N tt N R D B wr.heap.size x y z) := ⟨hI.out.go (bel_al (bel_refl _)), heap_new _ _⟩
          clear ex ey ez b1 b2 hc hI
          go_wp2_with fail
          refine (FC.out y _ HZ.out.1).mono ?_
          rintro e w1 ⟨rfl, rfl⟩
          obtain ⟨f2, hf2⟩ : ∃ f, f = fewN y 1125899906842624 := ⟨_, rfl⟩
          have l2 : f2 ≤ 1125899906842624 := by rw [hf2]; exact fewN_le _ _
          rw [← hf2]
          obtain ⟨s, es⟩ : ∃ s : Int, s = (tt : Int) + (f2 : Int) := ⟨_, rfl⟩
          obtain ⟨M, m1, m2, m3, m4, m5⟩ := min_int s
          obtain ⟨tn, hto⟩ : ∃ tn : Nat, M = (tn : Int) := ⟨M.toNat, by omega⟩
          rw [hto] at m1 m2
          have HO : Hid (tt ≤ tn ∧ tn ≤ 4611686018427387904) := ⟨by have := HZ.out.2.2; omega, by omega⟩
          have q2 : wrap64 ((tt : Int) + (f2 : Int)) = s := by have := HZ.out.2.2; rw [IntWalk.wrap64_in _ ⟨by omega, by omega⟩]; omega
          clear hf2 l2 es m3 m4 m5 hto
          go_wp2_with fail
          obtain ⟨W1, hW1⟩ : ∃ W1, W1 = wr.alloc (.cells #[.int .i64 x, .int .i64 y, .int .i64 z] 42) := ⟨_, rfl⟩
          obtain ⟨g, hg⟩ : ∃ g, g = wr.heap.size := ⟨_, rfl⟩
          rw [← hW1, ← hg] at S2
          rw [← hW1, ← hg]
          clear hW1 hg c0 c1 c2 q2 m1 m2
          obtain ⟨dd, edd⟩ : ∃ dd : Nat, dd = tn - tt := ⟨_, rfl⟩
          have HDD : Hid (dd = tn - tt) := edd
          have qd : wrap64 ((tn : Int) - (tt : Int)) = (dd : Int) := by have := HO.out; rw [IntWalk.wrap64_in _ ⟨by omega, by omega⟩]; omega
          clear edd
          go_loopw [19] (fun kv w4 => ∃ j : Nat, j ≤ 3 ∧ kv = .int .i64 (j : Int) ∧ Hid (∃ Tb Nb, tt ≤ Tb ∧ Tb ≤ tn ∧ Nb = fillN N R D B (Tb - tt) ∧ Sd W0 w4 a b tt N Tb Nb R D B g x y z)) (fun i _ => 3 - (intOf i).toNat)
          case atStart => exact ⟨0, Nat.zero_le _, rfl, tt, N, Nat.le_refl _, HO.out.1, by rw [Nat.sub_self, fillN_zero S2.out.ba.cN], S2.out⟩
          case round =>
            clear S2
            have QD : Hid (wrap64 ((tn : Int) - (tt : Int)) = (dd : Int)) := qd
            clear qd
            obtain ⟨j, hj, rfl, hJ⟩ := hrel
            by_cases hj1 : j < 3 ∧ k < L4
            · obtain ⟨Tb, Nb, g1, g2, g3, g4⟩ := hJ.out
              have HJ : Hid (tt ≤ Tb ∧ Tb ≤ tn ∧ Nb = fillN N R D B (Tb - tt) ∧ Sd W0 wr a b tt N Tb Nb R D B g x y z) := ⟨g1, g2, g3, g4⟩
              obtain ⟨mb, mo, em, hm⟩ := HU.out.2.2.2.at g4.bel (by omega)
              have c3 := hm k hj1.2
              have b3 := HU.out.2.2.2.wf k hj1.2
              obtain ⟨hj0, hkl⟩ := hj1
              subst em
              obtain ⟨zz, ezz⟩ : ∃ zz, zz = zs k := ⟨_, rfl⟩
              rw [← ezz] at c3 b3
              have d4 : decide ((k : Int) < (L4 : Int)) = true := decide_eq_true (by omega)
              clear g1 g2 g3 g4 hm hJ ezz
              obtain e0 | e0 | e0 : j = 0 ∨ j = 1 ∨ j = 2 := by omega
              · subst e0
                have qd := QD.out
                go_wp2_with fail
                clear qd
                refine (FE.out zz dd _ ⟨by omega, by omega⟩ (by have := HDD.out; have := HO.out; omega)).mono ?_
                rintro e w1 ⟨rfl, rfl⟩
                obtain ⟨f3, hf3⟩ : ∃ f, f = fewN zz dd := ⟨_, rfl⟩
                have l3 : f3 ≤ dd := by rw [hf3]; exact fewN_le _ _
                rw [← hf3]
                obtain ⟨t3, e3⟩ : ∃ t3 : Nat, t3 = tt + f3 := ⟨_, rfl⟩
                have H3 : Hid (tt ≤ t3 ∧ t3 ≤ tn) := ⟨by omega, by have := HO.out; have := HDD.out; omega⟩
                have q3 : wrap64 ((tt : Int) + (f3 : Int)) = (t3 : Int) := by have := HO.out; have := H3.out; rw [IntWalk.wrap64_in _ ⟨by omega, by omega⟩]; omega
                clear hf3 l3 e3
                go_wp2_with fail
                refine (HJ.out.2.2.2.atB (t3 : Int)).mono ?_
                rintro e w5 ⟨v5, p5, q5, rfl, _, _, h5, _⟩
                clear q3
                have H5 : Hid (∃ Tb Nb, tt ≤ Tb ∧ Tb ≤ tn ∧ Nb = fillN N R D B (Tb - tt) ∧ Sd W0 w5 a b tt N Tb Nb R D B g x y z) := by
                  obtain ⟨g1, g2, g3, g4⟩ := HJ.out
                  have o1 := HO.out
                  have o2 := H3.out
                  have eT : atT Tb (t3 : Int) = max Tb t3 := by unfold atT; omega
                  refine ⟨atT Tb (t3 : Int), atN Tb Nb R D B (t3 : Int), by omega, by omega, ?_, h5⟩
                  unfold atN
                  rw [g3, fillN_add, eT, show Tb - tt + (max Tb t3 - Tb) = max Tb t3 - tt by omega]
                clear h5 HJ H3 c3 b3 d4
                go_wp2_with fail
                go_roundw
                case rel => exact ⟨1, by omega, rfl, H5⟩
                case measure => simp [intOf]
              · subst e0
                have qd := QD.out
                go_wp2_with fail
                clear qd
                refine (FE.out (zz / 256) dd _ ⟨by omega, by omega⟩ (by have := HDD.out; have := HO.out; omega)).mono ?_
                rintro e w1 ⟨rfl, rfl⟩
                obtain ⟨f3, hf3⟩ : ∃ f, f = fewN (zz / 256) dd := ⟨_, rfl⟩
                have l3 : f3 ≤ dd := by rw [hf3]; exact fewN_le _ _
                rw [← hf3]
                obtain ⟨t3, e3⟩ : ∃ t3 : Nat, t3 = tt + f3 := ⟨_, rfl⟩
                have H3 : Hid (tt ≤ t3 ∧ t3 ≤ tn) := ⟨by omega, by have := HO.out; have := HDD.out; omega⟩
                have q3 : wrap64 ((tt : Int) + (f3 : Int)) = (t3 : Int) := by have := HO.out; have := H3.out; rw [IntWalk.wrap64_in _ ⟨by omega, by omega⟩]; omega
                clear hf3 l3 e3
                go_wp2_with fail
                refine (HJ.out.2.2.2.atB (t3 : Int)).mono ?_
                rintro e w5 ⟨v5, p5, q5, rfl, _, _, h5, _⟩
                clear q3
                have H5 : Hid (∃ Tb Nb, tt ≤ Tb ∧ Tb ≤ tn ∧ Nb = fillN N R D B (Tb - tt) ∧ Sd W0 w5 a b tt N Tb Nb R D B g x y z) := by
                  obtain ⟨g1, g2, g3, g4⟩ := HJ.out
                  have o1 := HO.out
                  have o2 := H3.out
                  have eT : atT Tb (t3 : Int) = max Tb t3 := by unfold atT; omega
                  refine ⟨atT Tb (t3 : Int), atN Tb Nb R D B (t3 : Int), by omega, by omega, ?_, h5⟩
                  unfold atN
                  rw [g3, fillN_add, eT, show Tb - tt + (max Tb t3 - Tb) = max Tb t3 - tt by omega]
                clear h5 HJ H3 c3 b3 d4
                go_wp2_with fail
                go_roundw
                case rel => exact ⟨2, by omega, rfl, H5⟩
                case measure => simp [intOf]
              · subst e0
                have qd := QD.out
                go_wp2_with fail
                clear qd
                refine (FE.out (zz / 65536) dd _ ⟨by omega, by omega⟩ (by have := HDD.out; have := HO.out; omega)).mono ?_
                rintro e w1 ⟨rfl, rfl⟩
                obtain ⟨f3, hf3⟩ : ∃ f, f = fewN (zz / 65536) dd := ⟨_, rfl⟩
                have l3 : f3 ≤ dd := by rw [hf3]; exact fewN_le _ _
                rw [← hf3]
                obtain ⟨t3, e3⟩ : ∃ t3 : Nat, t3 = tt + f3 := ⟨_, rfl⟩
                have H3 : Hid (tt ≤ t3 ∧ t3 ≤ tn) := ⟨by omega, by have := HO.out; have := HDD.out; omega⟩
                have q3 : wrap64 ((tt : Int) + (f3 : Int)) = (t3 : Int) := by have := HO.out; have := H3.out; rw [IntWalk.wrap64_in _ ⟨by omega, by omega⟩]; omega
                clear hf3 l3 e3
                go_wp2_with fail
                refine (HJ.out.2.2.2.atB (t3 : Int)).mono ?_
                rintro e w5 ⟨v5, p5, q5, rfl, _, _, h5, _⟩
                clear q3
                have H5 : Hid (∃ Tb Nb, tt ≤ Tb ∧ Tb ≤ tn ∧ Nb = fillN N R D B (Tb - tt) ∧ Sd W0 w5 a b tt N Tb Nb R D B g x y z) := by
                  obtain ⟨g1, g2, g3, g4⟩ := HJ.out
                  have o1 := HO.out
                  have o2 := H3.out
                  have eT : atT Tb (t3 : Int) = max Tb t3 := by unfold atT; omega
                  refine ⟨atT Tb (t3 : Int), atN Tb Nb R D B (t3 : Int), by omega, by omega, ?_, h5⟩
                  unfold atN
                  rw [g3, fillN_add, eT, show Tb - tt + (max Tb t3 - Tb) = max Tb t3 - tt by omega]
                clear h5 HJ H3 c3 b3 d4
                go_wp2_with fail
                go_roundw
                case rel => exact ⟨3, by omega, rfl, H5⟩
                case measure => simp [intOf]
            · by_cases hj3 : j < 3
              · have d6 : decide ((j : Int) < 3) = true := decide_eq_true (by omega)
                have d7 : decide ((k : Int) < (L4 : Int)) = false := decide_eq_false (by omega)
                obtain ⟨Tb, Nb, g1, g2, g3, g4⟩ := hJ.out
                have HJ : Hid (tt ≤ Tb ∧ Tb ≤ tn ∧ Nb = fillN N R D B (Tb - tt) ∧ Sd W0 wr a b tt N Tb Nb R D B g x y z) := ⟨g1, g2, g3, g4⟩
                obtain ⟨-, -, x2⟩ := g4.bx.cells
                obtain ⟨B2, eB2⟩ : ∃ B2 : Nat, B2 = 2 * B := ⟨_, rfl⟩
                have HB2 : Hid (B2 ≤ 2199023255552) := by have := HB.out; show _ ≤ _; omega
                have q5 : wrap64 (2 * (B : Int)) = (B2 : Int) := by have := HB.out; rw [IntWalk.wrap64_in _ ⟨by omega, by omega⟩]; omega
                clear g1 g2 g3 g4 hJ eB2
                skip
                go_wp2_with fail
                clear q5
                refine (FE.out z B2 _ HZ.out.2.1 (by have := HB2.out; omega)).mono ?_
                rintro e w1 ⟨rfl, rfl⟩
                obtain ⟨n, hn⟩ : ∃ f, f = fewN z B2 := ⟨_, rfl⟩
                have ln : n ≤ B2 := by rw [hn]; exact fewN_le _ _
                rw [← hn]
                have HN : Hid ((n : Int) ≤ 9223372036854775807) := by have := HB2.out; show _ ≤ _; omega
                obtain ⟨M, eM⟩ : ∃ M, M = fillN N R D B (tn - tt) := ⟨_, rfl⟩
                have HM : Hid (atT tt (tn : Int) = tn ∧ atN tt N R D B (tn : Int) = M ∧ atT Tb (tn : Int) = tn ∧ atN Tb Nb R D B (tn : Int) = M) := by
                  obtain ⟨g1, g2, g3, g4⟩ := HJ.out
                  have o1 := HO.out
                  refine ⟨atT_of o1.1 o1.2, by rw [atN_of o1.1 o1.2, eM], atT_of g2 o1.2, ?_⟩
                  rw [atN_of g2 o1.2, g3, fillN_add, eM, show Tb - tt + (tn - Tb) = tn - tt by omega]
                clear hn ln eM x2
                go_wp2_with fail
                refine (HJ.out.2.2.2.takeA (tn : Int) (n : Int) HN.out).mono ?_
                rintro e w5 ⟨rfl, h5⟩
                rw [HM.out.1, HM.out.2.1] at h5
                rw [HM.out.2.1]
                obtain ⟨E1, hE1⟩ : ∃ E1, E1 = takeE M D (n : Int) := ⟨_, rfl⟩
                obtain ⟨N3, hN3⟩ : ∃ N3, N3 = takeN M D (n : Int) := ⟨_, rfl⟩
                have HE : Hid (E1 = takeE M D (n : Int) ∧ N3 = takeN M D (n : Int)) := ⟨hE1, hN3⟩
                rw [← hN3] at h5
                rw [← hE1]
                have S5 : Hid (Sd W0 w5 a b tn N3 Tb Nb R D B g x y z) := h5
                clear h5 hE1 hN3
                go_wp2_with fail
                refine (S5.out.takeB (tn : Int) (n : Int) HN.out).mono ?_
                rintro e w6 ⟨rfl, h6⟩
                rw [HM.out.2.2.1, HM.out.2.2.2, ← HE.out.2] at h6
                rw [HM.out.2.2.2, ← HE.out.1]
                have S6 : Hid (Sd W0 w6 a b tn N3 tn N3 R D B g x y z) := h6
                have HA : Hid (atT tn (tn : Int) = tn ∧ atN tn N3 R D B (tn : Int) = N3) := ⟨atT_of (Nat.le_refl _) HO.out.2, by rw [atN_of (Nat.le_refl _) HO.out.2, Nat.sub_self, fillN_zero h6.ba.cN]⟩
                clear h6 S5
                go_wp2_with fail
                refine (S6.out.atA (tn : Int)).mono ?_
                rintro e w7 ⟨v7, p7, q7, rfl, hv7, hf7, h7⟩
                rw [HA.out.2] at hf7 h7
                rw [HA.out.1] at h7
                have S7 : Hid (Sd W0 w7 a b tn N3 tn N3 R D B g x y z ∧ Rt w7 v7 p7 q7 ∧ Fc p7 q7 N3 D 20) := ⟨h7, hv7, hf7⟩
                clear h7 hv7 hf7 S6
                go_wp2_with fail
                refine (S7.out.1.atB (tn : Int)).mono ?_
                rintro e w8 ⟨v8, p8, q8, rfl, hv8, hf8, h8, hk8⟩
                rw [HA.out.2] at hf8 h8
                rw [HA.out.1] at h8
                have S8 : Hid (Sd W0 w8 a b tn N3 tn N3 R D B g x y z ∧ Rt w8 v7 p7 q7 ∧ Fc p7 q7 N3 D 20 ∧ Rt w8 v8 p8 q8 ∧ Fc p8 q8 N3 D 20) := ⟨h8, hk8 _ _ _ S7.out.2.1, S7.out.2.2, hv8, hf8⟩
                clear h8 hv8 hf8 hk8 S7
                go_wp2_with fail
                refine (S8.out.2.2.1.cmp S8.out.2.2.2.2 (by omega) (by omega) (cmpI_same rfl) v7 v8 w8 S8.out.2.1 S8.out.2.2.2.1).mono ?_
                rintro e w9 ⟨rfl, hb9⟩
                have S9 : Hid (Sd W0 w9 a b tn N3 tn N3 R D B g x y z) := S8.out.1.go hb9
                clear hb9 S8
                go_wp2_with fail
                refine (bwait_any a tn N3 R D B (n : Int) w9 S9.out.ba S9.out.tab HN.out).mono ?_
                rintro e w10 ⟨rfl, hb10⟩
                have S10 : Hid (Sd W0 w10 a b tn N3 tn N3 R D B g x y z) := S9.out.go hb10
                obtain ⟨X1, hX1⟩ : ∃ X1, X1 = waitV tn N3 R D B (n : Int) := ⟨_, rfl⟩
                obtain ⟨X2, hX2⟩ : ∃ X2, X2 = waitE tn N3 R D B (n : Int) := ⟨_, rfl⟩
                have HX : Hid (X1 = waitV tn N3 R D B (n : Int) ∧ X2 = waitE tn N3 R D B (n : Int)) := ⟨hX1, hX2⟩
                rw [← hX1, ← hX2]
                clear hb10 S9 hX1 hX2
                go_wp2_with fail
                refine (bwait_any b tn N3 R D B (n : Int) w10 S10.out.bb S10.out.tab HN.out).mono ?_
                rintro e w11 ⟨rfl, hb11⟩
                have S11 : Hid (Sd W0 w11 a b tn N3 tn N3 R D B g x y z) := S10.out.go hb11
                rw [← HX.out.1, ← HX.out.2]
                clear hb11 S10 HX
                go_wp2_with fail
                go_roundw
                case rel => exact ⟨k + 1, tn, N3, by omega, rfl, by go_num, S11.out.toSc⟩
                case measure => simp [intOf]; omega
              · have d6 : decide ((j : Int) < 3) = false := decide_eq_false (by omega)
                obtain ⟨Tb, Nb, g1, g2, g3, g4⟩ := hJ.out
                have HJ : Hid (tt ≤ Tb ∧ Tb ≤ tn ∧ Nb = fillN N R D B (Tb - tt) ∧ Sd W0 wr a b tt N Tb Nb R D B g x y z) := ⟨g1, g2, g3, g4⟩
                obtain ⟨-, -, x2⟩ := g4.bx.cells
                obtain ⟨B2, eB2⟩ : ∃ B2 : Nat, B2 = 2 * B := ⟨_, rfl⟩
                have HB2 : Hid (B2 ≤ 2199023255552) := by have := HB.out; show _ ≤ _; omega
                have q5 : wrap64 (2 * (B : Int)) = (B2 : Int) := by have := HB.out; rw [IntWalk.wrap64_in _ ⟨by omega, by omega⟩]; omega
                clear g1 g2 g3 g4 hJ eB2
                skip
                go_wp2_with fail
                clear q5
                refine (FE.out z B2 _ HZ.out.2.1 (by have := HB2.out; omega)).mono ?_
                rintro e w1 ⟨rfl, rfl⟩
                obtain ⟨n, hn⟩ : ∃ f, f = fewN z B2 := ⟨_, rfl⟩
                have ln : n ≤ B2 := by rw [hn]; exact fewN_le _ _
                rw [← hn]
                have HN : Hid ((n : Int) ≤ 9223372036854775807) := by have := HB2.out; show _ ≤ _; omega
                obtain ⟨M, eM⟩ : ∃ M, M = fillN N R D B (tn - tt) := ⟨_, rfl⟩
                have HM : Hid (atT tt (tn : Int) = tn ∧ atN tt N R D B (tn : Int) = M ∧ atT Tb (tn : Int) = tn ∧ atN Tb Nb R D B (tn : Int) = M) := by
                  obtain ⟨g1, g2, g3, g4⟩ := HJ.out
                  have o1 := HO.out
                  refine ⟨atT_of o1.1 o1.2, by rw [atN_of o1.1 o1.2, eM], atT_of g2 o1.2, ?_⟩
                  rw [atN_of g2 o1.2, g3, fillN_add, eM, show Tb - tt + (tn - Tb) = tn - tt by omega]
                clear hn ln eM x2
                go_wp2_with fail
                refine (HJ.out.2.2.2.takeA (tn : Int) (n : Int) HN.out).mono ?_
                rintro e w5 ⟨rfl, h5⟩
                rw [HM.out.1, HM.out.2.1] at h5
                rw [HM.out.2.1]
                obtain ⟨E1, hE1⟩ : ∃ E1, E1 = takeE M D (n : Int) := ⟨_, rfl⟩
                obtain ⟨N3, hN3⟩ : ∃ N3, N3 = takeN M D (n : Int) := ⟨_, rfl⟩
                have HE : Hid (E1 = takeE M D (n : Int) ∧ N3 = takeN M D (n : Int)) := ⟨hE1, hN3⟩
                rw [← hN3] at h5
                rw [← hE1]
                have S5 : Hid (Sd W0 w5 a b tn N3 Tb Nb R D B g x y z) := h5
                clear h5 hE1 hN3
                go_wp2_with fail
                refine (S5.out.takeB (tn : Int) (n : Int) HN.out).mono ?_
                rintro e w6 ⟨rfl, h6⟩
                rw [HM.out.2.2.1, HM.out.2.2.2, ← HE.out.2] at h6
                rw [HM.out.2.2.2, ← HE.out.1]
                have S6 : Hid (Sd W0 w6 a b tn N3 tn N3 R D B g x y z) := h6
                have HA : Hid (atT tn (tn : Int) = tn ∧ atN tn N3 R D B (tn : Int) = N3) := ⟨atT_of (Nat.le_refl _) HO.out.2, by rw [atN_of (Nat.le_refl _) HO.out.2, Nat.sub_self, fillN_zero h6.ba.cN]⟩
                clear h6 S5
                go_wp2_with fail
                refine (S6.out.atA (tn : Int)).mono ?_
                rintro e w7 ⟨v7, p7, q7, rfl, hv7, hf7, h7⟩
                rw [HA.out.2] at hf7 h7
                rw [HA.out.1] at h7
                have S7 : Hid (Sd W0 w7 a b tn N3 tn N3 R D B g x y z ∧ Rt w7 v7 p7 q7 ∧ Fc p7 q7 N3 D 20) := ⟨h7, hv7, hf7⟩
                clear h7 hv7 hf7 S6
                go_wp2_with fail
                refine (S7.out.1.atB (tn : Int)).mono ?_
                rintro e w8 ⟨v8, p8, q8, rfl, hv8, hf8, h8, hk8⟩
                rw [HA.out.2] at hf8 h8
                rw [HA.out.1] at h8
                have S8 : Hid (Sd W0 w8 a b tn N3 tn N3 R D B g x y z ∧ Rt w8 v7 p7 q7 ∧ Fc p7 q7 N3 D 20 ∧ Rt w8 v8 p8 q8 ∧ Fc p8 q8 N3 D 20) := ⟨h8, hk8 _ _ _ S7.out.2.1, S7.out.2.2, hv8, hf8⟩
                clear h8 hv8 hf8 hk8 S7
                go_wp2_with fail
                refine (S8.out.2.2.1.cmp S8.out.2.2.2.2 (by omega) (by omega) (cmpI_same rfl) v7 v8 w8 S8.out.2.1 S8.out.2.2.2.1).mono ?_
                rintro e w9 ⟨rfl, hb9⟩
                have S9 : Hid (Sd W0 w9 a b tn N3 tn N3 R D B g x y z) := S8.out.1.go hb9
                clear hb9 S8
                go_wp2_with fail
                refine (bwait_any a tn N3 R D B (n : Int) w9 S9.out.ba S9.out.tab HN.out).mono ?_
                rintro e w10 ⟨rfl, hb10⟩
                have S10 : Hid (Sd W0 w10 a b tn N3 tn N3 R D B g x y z) := S9.out.go hb10
                obtain ⟨X1, hX1⟩ : ∃ X1, X1 = waitV tn N3 R D B (n : Int) := ⟨_, rfl⟩
                obtain ⟨X2, hX2⟩ : ∃ X2, X2 = waitE tn N3 R D B (n : Int) := ⟨_, rfl⟩
                have HX : Hid (X1 = waitV tn N3 R D B (n : Int) ∧ X2 = waitE tn N3 R D B (n : Int)) := ⟨hX1, hX2⟩
                rw [← hX1, ← hX2]
                clear hb10 S9 hX1 hX2
                go_wp2_with fail
                refine (bwait_any b tn N3 R D B (n : Int) w10 S10.out.bb S10.out.tab HN.out).mono ?_
                rintro e w11 ⟨rfl, hb11⟩
                have S11 : Hid (Sd W0 w11 a b tn N3 tn N3 R D B g x y z) := S10.out.go hb11
                rw [← HX.out.1, ← HX.out.2]
                clear hb11 S10 HX
                go_wp2_with fail
                go_roundw
                case rel => exact ⟨k + 1, tn, N3, by omega, rfl, by go_num, S11.out.toSc⟩
                case measure => simp [intOf]; omega
        · have d2 : decide ((k : Int) < 60) = false := decide_eq_false (by omega)
          go_wp2_with fail
          go_ret
          exact ⟨rfl, hI.out.bel⟩
      · have d1 : decide ((k : Int) < (L3 : Int)) = false := decide_eq_false (by omega)
        go_wp2_with fail
        go_ret
        exact ⟨rfl, hI.out.bel⟩
  · refine (NN.out _ hr).mono ?_
    rintro e w2 ⟨rfl, hbl⟩
    have Z0 : Hid (Below W0.heap.size W0 w2 ∧ Tab w2) := ⟨hbl, HU.out.2.1.go hbl⟩
    clear hbl
    go_wp2_with fail
    refine (FT.out _).mono ?_
    rintro e w1 ⟨rfl, rfl⟩
    go_wp2_with fail
    refine (NN.out _ hr).mono ?_
    rintro e w3 ⟨rfl, hbl⟩
    have Z1 : Hid (Below W0.heap.size W0 w3 ∧ Tab w3) := ⟨Z0.out.1.trans (hbl.mono Z0.out.1.size), Z0.out.2.go hbl⟩
    clear hbl Z0 hr NY NN
    go_wp2_with fail
    refine (btold_true w3 Z1.out.2).mono ?_
    rintro e w4 ⟨rfl, h4⟩
    have Z2 : Hid (Below W0.heap.size W0 w4) := Z1.out.1.trans (h4.mono Z1.out.1.size)
    clear h4 Z1
    go_wp2_with fail
    go_loopw [15, 16] (fun tv iv wr => iv = .int .i64 0 ∧ Hid (Below W0.heap.size W0 wr)) (fun _ i _ => 0)
    case atStart => exact ⟨rfl, Z2⟩
    case round =>
      clear Z2
      obtain ⟨rfl, hI⟩ := hrel
      by_cases hk1 : 0 < L3
      · have d1 : decide ((0 : Int) < (L3 : Int)) = true := decide_eq_true (by omega)
        go_wp2_with fail
        go_ret
        exact ⟨rfl, hI.out⟩
      · have d1 : decide ((0 : Int) < (L3 : Int)) = false := decide_eq_false (by omega)
        go_wp2_with fail
        go_ret
        exact ⟨rfl, hI.out⟩
end Go.Proofs.YtdmkneojhnhomaaGreatDoor
