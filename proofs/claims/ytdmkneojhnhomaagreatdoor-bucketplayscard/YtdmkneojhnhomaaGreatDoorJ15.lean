/- Contracts of the program's functions, part 15: own work, joined in build order. -/
import Derived.Test.YtdmkneojhnhomaaGreatDoorJ14
import Derived.LaidEqlPtr
namespace Go.Proofs.YtdmkneojhnhomaaGreatDoor
open Go.RowKit
set_option maxRecDepth 100000
set_option linter.unusedVariables false
/-- Two buckets of one rate and one burst. -/
structure Sc (W0 W : World) (a b Ta Na Tb Nb R D B : Nat) : Prop where
  ba : Bu W a Ta Na R D B
  bb : Bu W b Tb Nb R D B
  ne : a ≠ b
  la : W0.heap.size ≤ a
  lb : W0.heap.size ≤ b
  bel : Below W0.heap.size W0 W
  tab : Tab W
/-- A step lies in a box. -/
def Bx (W : World) (g : Nat) (x y z : Int) : Prop := W.heap[g]? = some (.cells #[.int .i64 x, .int .i64 y, .int .i64 z] 42)
section
variable {W0 W W' : World} {a b Ta Na Tb Nb R D B g : Nat} {x y z : Int}
theorem Sc.go (h : Sc W0 W a b Ta Na Tb Nb R D B) (k : Below W.heap.size W W') : Sc W0 W' a b Ta Na Tb Nb R D B :=
  ⟨h.ba.go k, h.bb.go k, h.ne, h.la, h.lb, h.bel.trans (k.mono h.bel.size), h.tab.go k⟩
theorem Sc.stepA {T' N' : Nat} (h : Sc W0 W a b Ta Na Tb Nb R D B) (k : Bu W' a T' N' R D B) (f : Fb (fun x => x = a) W W') : Sc W0 W' a b T' N' Tb Nb R D B :=
  ⟨k, h.bb.fb f (fun x e => e ▸ h.ba.odd) (fun e => h.ne e.symm), h.ne, h.la, h.lb, h.bel.trans (f.below h.bel.size (fun x e => e ▸ h.la)), h.tab.fb f (fun x e => e ▸ h.ba.odd)⟩
theorem Sc.stepB {T' N' : Nat} (h : Sc W0 W a b Ta Na Tb Nb R D B) (k : Bu W' b T' N' R D B) (f : Fb (fun x => x = b) W W') : Sc W0 W' a b Ta Na T' N' R D B :=
  ⟨h.ba.fb f (fun x e => e ▸ h.bb.odd) (fun e => h.ne e), k, h.ne, h.la, h.lb, h.bel.trans (f.below h.bel.size (fun x e => e ▸ h.lb)), h.tab.fb f (fun x e => e ▸ h.bb.odd)⟩
theorem Bx.ne {T N R D B : Nat} (h : Bx W g x y z) (k : Bu W a T N R D B) : g ≠ a := by
  rintro rfl
  obtain ⟨p, q, u1, u2, u3, u4, u5, u6, hb, _⟩ := k.ex
  unfold Bx at h
  unfold BkAt at hb
  rw [h] at hb
  injection hb with hb
  injection hb with hb
  injection hb with hb
  simp at hb
theorem Bx.go (h : Bx W g x y z) (k : Below W.heap.size W W') : Bx W' g x y z := (k.block g (Array.getElem?_eq_some_iff.1 h).1).trans h
theorem Bx.fb {T N R D B : Nat} (h : Bx W g x y z) (k : Bu W a T N R D B) (f : Fb (fun x => x = a) W W') : Bx W' g x y z := f.heap h (h.ne k)
theorem Bx.cells (h : Bx W g x y z) : W.cell? ⟨g, 0, none⟩ = some (.int .i64 x) ∧ W.cell? ⟨g, 1, none⟩ = some (.int .i64 y) ∧ W.cell? ⟨g, 2, none⟩ = some (.int .i64 z) := by
  unfold Bx at h
  exact ⟨by simp [World.cell?, h], by simp [World.cell?, h], by simp [World.cell?, h]⟩
/-- Two buckets and a step. -/
structure Sd (W0 W : World) (a b Ta Na Tb Nb R D B g : Nat) (x y z : Int) : Prop extends Sc W0 W a b Ta Na Tb Nb R D B where
  bx : Bx W g x y z
theorem Sd.go (h : Sd W0 W a b Ta Na Tb Nb R D B g x y z) (k : Below W.heap.size W W') : Sd W0 W' a b Ta Na Tb Nb R D B g x y z := ⟨h.toSc.go k, h.bx.go k⟩
theorem Sd.atA (h : Sd W0 W a b Ta Na Tb Nb R D B g x y z) (t : Int) : Calls Tryz.prog 13 #[.pointer (some ⟨a, 0, none⟩), .int .i64 t] W fun e W' => ∃ v p q, e = .returned v ∧ Rt W' v p q ∧ Fc p q (atN Ta Na R D B t) D 20 ∧ Sd W0 W' a b (atT Ta t) (atN Ta Na R D B t) Tb Nb R D B g x y z := by
  refine (bat_any a Ta Na R D B t W h.ba h.tab).mono ?_
  rintro e W' ⟨v, p, q, rfl, hv, hf, k, f⟩
  exact ⟨v, p, q, rfl, hv, hf, h.toSc.stepA k f, h.bx.fb h.ba f⟩
theorem Sd.atB (h : Sd W0 W a b Ta Na Tb Nb R D B g x y z) (t : Int) : Calls Tryz.prog 13 #[.pointer (some ⟨b, 0, none⟩), .int .i64 t] W fun e W' => ∃ v p q, e = .returned v ∧ Rt W' v p q ∧ Fc p q (atN Tb Nb R D B t) D 20 ∧ Sd W0 W' a b Ta Na (atT Tb t) (atN Tb Nb R D B t) R D B g x y z ∧ ∀ u p' q', Rt W u p' q' → Rt W' u p' q' := by
  refine (bat_any b Tb Nb R D B t W h.bb h.tab).mono ?_
  rintro e W' ⟨v, p, q, rfl, hv, hf, k, f⟩
  exact ⟨v, p, q, rfl, hv, hf, ⟨h.toSc.stepB k f, h.bx.fb h.bb f⟩, fun u p' q' hu => hu.fb f (fun x e => e ▸ h.bb.odd)⟩
theorem Sd.takeA (h : Sd W0 W a b Ta Na Tb Nb R D B g x y z) (t n : Int) (hn : n ≤ 9223372036854775807) : Calls Tryz.prog 16 #[.pointer (some ⟨a, 0, none⟩), .int .i64 t, .int .i64 n] W fun e W' => e = .returned (.int .i64 (takeE (atN Ta Na R D B t) D n)) ∧ Sd W0 W' a b (atT Ta t) (takeN (atN Ta Na R D B t) D n) Tb Nb R D B g x y z := by
  refine (btake_any a Ta Na R D B t n W h.ba h.tab hn).mono ?_
  rintro e W' ⟨rfl, k, f⟩
  exact ⟨rfl, h.toSc.stepA k f, h.bx.fb h.ba f⟩
theorem Sd.takeB (h : Sd W0 W a b Ta Na Tb Nb R D B g x y z) (t n : Int) (hn : n ≤ 9223372036854775807) : Calls Tryz.prog 16 #[.pointer (some ⟨b, 0, none⟩), .int .i64 t, .int .i64 n] W fun e W' => e = .returned (.int .i64 (takeE (atN Tb Nb R D B t) D n)) ∧ Sd W0 W' a b Ta Na (atT Tb t) (takeN (atN Tb Nb R D B t) D n) R D B g x y z := by
  refine (btake_any b Tb Nb R D B t n W h.bb h.tab hn).mono ?_
  rintro e W' ⟨rfl, k, f⟩
  exact ⟨rfl, h.toSc.stepB k f, h.bx.fb h.bb f⟩
end
set_option maxHeartbeats 8000000 in
theorem cuts_any (W0 : World) (i0 : Int) (u : Nat) (i2 : Int) (s3 : Option Addr) (L3 K3 : Nat) (G : Nat → Nat → Int) (s4 : Option Addr) (L4 K4 : Nat) (zs : Nat → Int) (r0 : -9223372036854775808 ≤ i0 ∧ i0 ≤ 9223372036854775807) (hu : u < 18446744073709551616) (r2 : -9223372036854775808 ≤ i2 ∧ i2 ≤ 9223372036854775807) (hs3 : SSl W0 s3 L3 K3 G) (hs4 : ISl W0 s4 L4 K4 zs) (hT : Tab W0) :
    Calls Tryz.prog 5 #[.int .i64 i0, .int .u64 (u : Int), .int .i64 i2, .slice s3 L3 K3, .slice s4 L4 K4] W0 fun e w' => e = .returned (.bool true) ∧ Below W0.heap.size W0 w' := by
  have FE : Hid (∀ (n : Int) (m : Nat) w, -9223372036854775808 ≤ n ∧ n ≤ 9223372036854775807 → m ≤ 9223372036854775806 → Calls Tryz.prog 20 #[.int .i64 n, .int .i64 (m : Int)] w fun e w' => e = .returned (.int .i64 ((fewN n m : Nat) : Int)) ∧ w = w') := fun n m w h hm => (few_any n m w h.1 h.2 hm).mono fun e w' h => ⟨h.1, h.2.symm⟩
  have FL : ∀ (n : Int) (m : Nat) (M : Int) w, (m : Int) = M → -9223372036854775808 ≤ n ∧ n ≤ 9223372036854775807 → m ≤ 9223372036854775806 → Calls Tryz.prog 20 #[.int .i64 n, .int .i64 M] w fun e w' => e = .returned (.int .i64 ((fewN n m : Nat) : Int)) ∧ w = w' := fun n m M w e h hm => by subst e; exact (few_any n m w h.1 h.2 hm).mono fun e w' h => ⟨h.1, h.2.symm⟩
  have FA : Hid (∀ w, Calls Tryz.prog 20 #[.int .i64 i0, .int .i64 1099511627775] w fun e w' => e = .returned (.int .i64 ((fewN i0 1099511627775 : Nat) : Int)) ∧ w = w') := fun w => FL i0 1099511627775 _ w (by omega) r0 (by omega)
  have FB : Hid (∀ w, Calls Tryz.prog 20 #[.int .i64 i2, .int .i64 1073741823] w fun e w' => e = .returned (.int .i64 ((fewN i2 1073741823 : Nat) : Int)) ∧ w = w') := fun w => FL i2 1073741823 _ w (by omega) r2 (by omega)
  have FC : Hid (∀ n w, -9223372036854775808 ≤ n ∧ n ≤ 9223372036854775807 → Calls Tryz.prog 20 #[.int .i64 n, .int .i64 1125899906842624] w fun e w' => e = .returned (.int .i64 ((fewN n 1125899906842624 : Nat) : Int)) ∧ w = w') := fun n w h => FL n 1125899906842624 _ w (by omega) h (by omega)
  have HU : Hid (u < 18446744073709551616 ∧ Tab W0 ∧ SSl W0 s3 L3 K3 G ∧ ISl W0 s4 L4 K4 zs) := ⟨hu, hT, hs3, hs4⟩
  have hl3 : L3 ≤ 9223372036854775807 := Nat.le_trans hs3.le hs3.lim
  have hl4 : L4 ≤ 9223372036854775807 := Nat.le_trans hs4.le hs4.lim
  have hl3' := hs3.le
  have hl4' := hs4.le
  clear r0 r2 hT hu FL hs3 hs4
  go_enter Tryz.func5, Tryz.ntmps5
  go_wp2_with fail
  refine (FA.out _).mono ?_
  rintro e w1 ⟨rfl, rfl⟩
  obtain ⟨f0, hf0⟩ : ∃ f, f = fewN i0 1099511627775 := ⟨_, rfl⟩
  have l0 : f0 ≤ 1099511627775 := by rw [hf0]; exact fewN_le _ _
  rw [← hf0]
  clear hf0
  obtain ⟨B, eB⟩ : ∃ B : Nat, B = f0 + 1 := ⟨_, rfl⟩
  have q0 : wrap64 ((f0 : Int) + 1) = (B : Int) := by rw [IntWalk.wrap64_in _ ⟨by omega, by omega⟩]; omega
  have HB : Hid (1 ≤ B ∧ B ≤ 1099511627776) := ⟨by omega, by omega⟩
  clear eB l0
  go_wp2_with fail
  refine (FB.out _).mono ?_
  rintro e w1 ⟨rfl, rfl⟩
  obtain ⟨f1, hf1⟩ : ∃ f, f = fewN i2 1073741823 := ⟨_, rfl⟩
  have l1 : f1 ≤ 1073741823 := by rw [hf1]; exact fewN_le _ _
  rw [← hf1]
  clear hf1
  obtain ⟨per, eper⟩ : ∃ per : Nat, per = f1 + 1 := ⟨_, rfl⟩
  have q1 : wrap64 ((f1 : Int) + 1) = (per : Int) := by rw [IntWalk.wrap64_in _ ⟨by omega, by omega⟩]; omega
  have HP : Hid (1 ≤ per ∧ per ≤ 1073741824) := ⟨by omega, by omega⟩
  clear eper l1
  have FT : Hid (∀ w, Calls Tryz.prog 10 #[.int .u64 (u : Int)] w fun e w' => e = .returned (.float .f64 u) ∧ w = w') := fun w => (float_any u w).mono fun e w' h => ⟨h.1, h.2.symm⟩
  go_wp2_with fail
  refine (FT.out _).mono ?_
  rintro e w1 ⟨rfl, rfl⟩
  go_wp2_with fail
  obtain ⟨R, eR⟩ : ∃ R, R = rP u per := ⟨_, rfl⟩
  obtain ⟨D, eD⟩ : ∃ D, D = rQ u per := ⟨_, rfl⟩
  have NY : Hid (∀ w, Tab w → rateOk u (per : Int) → Calls Tryz.prog 9 #[.int .i64 (B : Int), .float .f64 u, .int .i64 (per : Int), .int .i64 0] w (NewYes w 0 R D B)) := fun w hT h => by
    have := bnew_yes B u per 0 w HB.out.1 HB.out.2 h (by omega) hT
    rw [← eR, ← eD] at this
    exact this
  have NN : Hid (∀ w, ¬ rateOk u (per : Int) → Calls Tryz.prog 9 #[.int .i64 (B : Int), .float .f64 u, .int .i64 (per : Int), .int .i64 0] w (NewNo w 98)) := fun w h => bnew_rate (B : Int) u (per : Int) 0 w (by have := HB.out; omega) (by have := HB.out; omega) h HU.out.1
  clear eR eD q0 q1 FA FB
  by_cases hr : rateOk u (per : Int)
  · refine (NY.out _ HU.out.2.1 hr).mono ?_
    rintro e w2 ⟨a, rfl, ha, hua, hbl⟩
    have Z0 : Hid (Bu w2 a 0 0 R D B ∧ W0.heap.size ≤ a ∧ Below W0.heap.size W0 w2 ∧ Tab w2) := ⟨hua, ha, hbl, HU.out.2.1.go hbl⟩
    clear ha hua hbl
    go_wp2_with fail
    refine (FT.out _).mono ?_
    rintro e w1 ⟨rfl, rfl⟩
    go_wp2_with fail
    refine (NY.out _ Z0.out.2.2.2 hr).mono ?_
    rintro e w3 ⟨b, rfl, hb, hub, hbl⟩
    have S0 : Hid (Sc W0 w3 a b 0 0 0 0 R D B) := ⟨Z0.out.1.go hbl, hub, by have := Z0.out.1.lt; omega, Z0.out.2.1, Nat.le_trans Z0.out.2.2.1.size hb, Z0.out.2.2.1.trans (hbl.mono Z0.out.2.2.1.size), Z0.out.2.2.2.go hbl⟩
    clear hb hub hbl Z0 hr NY NN
    go_wp2_with fail
    refine (btold_true w3 S0.out.tab).mono ?_
    rintro e w4 ⟨rfl, h4⟩
    have S1 : Hid (Sc W0 w4 a b 0 0 0 0 R D B) := S0.out.go h4
    clear h4 S0
    go_wp2_with fail
    go_loopw [15, 16] (fun tv iv wr => ∃ (k tt N : Nat), k ≤ L3 ∧ tv = .int .i64 (tt : Int) ∧ iv = .int .i64 (k : Int) ∧ Hid (Sc W0 wr a b tt N tt N R D B)) (fun _ i _ => L3 - (intOf i).toNat)
    case atStart => exact ⟨0, 0, 0, by omega, rfl, rfl, S1⟩
    case round =>
      clear S1
      obtain ⟨k, tt, N, hk, rfl, rfl, hI⟩ := hrel
      by_cases hk1 : k < L3
      · have d1 : decide ((k : Int) < (L3 : Int)) = true := decide_eq_true (by omega)
        by_cases hk2 : k < 60
        · have d2 : decide ((k : Int) < 60) = true := decide_eq_true (by omega)
          obtain ⟨sb, so, es, hc⟩ := HU.out.2.2.1.at hI.out.bel (by omega)
          have c0 : wr.cell? ⟨sb, so + k * 3, none⟩ = some (.int .i64 (G k 0)) := by simpa using hc k 0 hk1 (by omega)
          have c1 := hc k 1 hk1 (by omega)
          have c2 := hc k 2 hk1 (by omega)
          have b1 := HU.out.2.2.1.wf k 1 hk1 (by omega)
          have b2 := HU.out.2.2.1.wf k 2 hk1 (by omega)
          subst es
          obtain ⟨x, ex⟩ : ∃ x, x = G k 0 := ⟨_, rfl⟩
          obtain ⟨y, ey⟩ : ∃ y, y = G k 1 := ⟨_, rfl⟩
          obtain ⟨z, ez⟩ : ∃ z, z = G k 2 := ⟨_, rfl⟩
          rw [← ex] at c0
          rw [← ey] at c1 b1
          rw [← ez] at c2 b2
          have HZ : Hid ((-9223372036854775808 ≤ y ∧ y ≤ 9223372036854775807) ∧ (-9223372036854775808 ≤ z ∧ z ≤ 9223372036854775807) ∧ tt ≤ 4611686018427387904) := ⟨b1, b2, hI.out.ba.cT⟩
          have S2 : Hid (Sd W0 (wr.alloc (.cells #[.int .i64 x, .int .i64 y, .int .i64 z] 42)) a b tt N tt N R D B wr.heap.size x y z) := ⟨hI.out.go (bel_al (bel_refl _)), heap_new _ _⟩
          clear ex ey ez b1 b2 hc hI
          go_wp2_with fail
          refine (FC.out y _ HZ.out.1).mono ?_
          rintro e w1 ⟨rfl, rfl⟩
          obtain ⟨f2, hf2⟩ : ∃ f, f = fewN y 1125899906842624 := ⟨_, rfl⟩
          have l2 : f2 ≤ 1125899906842624 := by rw [hf2]; exact fewN_le _ _
          rw [← hf2]
          obtain ⟨s, es⟩ : ∃ s : Int, s = (tt : Int) + (f2 : Int) := ⟨_, rfl⟩
          obtain ⟨M, m1, m2, m3, m4, m5⟩ := min_int s
          obtain ⟨tn, hto⟩ : ∃ tn : Nat, M = (tn : Int) := ⟨M.toNat, by omega⟩
          rw [hto] at m1 m2
          have HO : Hid (tt ≤ tn ∧ tn ≤ 4611686018427387904) := ⟨by have := HZ.out.2.2; omega, by omega⟩
          have q2 : wrap64 ((tt : Int) + (f2 : Int)) = s := by have := HZ.out.2.2; rw [IntWalk.wrap64_in _ ⟨by omega, by omega⟩]; omega
          clear hf2 l2 es m3 m4 m5 hto
          go_wp2_with fail
          obtain ⟨W1, hW1⟩ : ∃ W1, W1 = wr.alloc (.cells #[.int .i64 x, .int .i64 y, .int .i64 z] 42) := ⟨_, rfl⟩
          obtain ⟨g, hg⟩ : ∃ g, g = wr.heap.size := ⟨_, rfl⟩
          rw [← hW1, ← hg] at S2
          rw [← hW1, ← hg]
          clear hW1 hg c0 c1 c2 q2 m1 m2
          obtain ⟨dd, edd⟩ : ∃ dd : Nat, dd = tn - tt := ⟨_, rfl⟩
          have HDD : Hid (dd = tn - tt) := edd
          have qd : wrap64 ((tn : Int) - (tt : Int)) = (dd : Int) := by have := HO.out; rw [IntWalk.wrap64_in _ ⟨by omega, by omega⟩]; omega
          clear edd
          go_loopw [19] (fun kv w4 => ∃ j : Nat, j ≤ 3 ∧ kv = .int .i64 (j : Int) ∧ Hid (∃ Tb Nb, tt ≤ Tb ∧ Tb ≤ tn ∧ Nb = fillN N R D B (Tb - tt) ∧ Sd W0 w4 a b tt N Tb Nb R D B g x y z)) (fun i _ => 3 - (intOf i).toNat)
          case atStart => exact ⟨0, Nat.zero_le _, rfl, tt, N, Nat.le_refl _, HO.out.1, by rw [Nat.sub_self, fillN_zero S2.out.ba.cN], S2.out⟩
          case round =>
            clear S2
            have QD : Hid (wrap64 ((tn : Int) - (tt : Int)) = (dd : Int)) := qd
            clear qd
            obtain ⟨j, hj, rfl, hJ⟩ := hrel
            by_cases hj1 : j < 3 ∧ k < L4
            · obtain ⟨Tb, Nb, g1, g2, g3, g4⟩ := hJ.out
              have HJ : Hid (tt ≤ Tb ∧ Tb ≤ tn ∧ Nb = fillN N R D B (Tb - tt) ∧ Sd W0 wr a b tt N Tb Nb R D B g x y z) := ⟨g1, g2, g3, g4⟩
              obtain ⟨mb, mo, em, hm⟩ := HU.out.2.2.2.at g4.bel (by omega)
              have c3 := hm k hj1.2
              have b3 := HU.out.2.2.2.wf k hj1.2
              obtain ⟨hj0, hkl⟩ := hj1
              subst em
              obtain ⟨zz, ezz⟩ : ∃ zz, zz = zs k := ⟨_, rfl⟩
              rw [← ezz] at c3 b3
              have d4 : decide ((k : Int) < (L4 : Int)) = true := decide_eq_true (by omega)
              clear g1 g2 g3 g4 hm hJ ezz
              obtain e0 | e0 | e0 : j = 0 ∨ j = 1 ∨ j = 2 := by omega
              · subst e0
                have qd := QD.out
                go_wp2_with fail
                clear qd
                refine (FE.out zz dd _ ⟨by omega, by omega⟩ (by have := HDD.out; have := HO.out; omega)).mono ?_
                rintro e w1 ⟨rfl, rfl⟩
                obtain ⟨f3, hf3⟩ : ∃ f, f = fewN zz dd := ⟨_, rfl⟩
                have l3 : f3 ≤ dd := by rw [hf3]; exact fewN_le _ _
                rw [← hf3]
                obtain ⟨t3, e3⟩ : ∃ t3 : Nat, t3 = tt + f3 := ⟨_, rfl⟩
                have H3 : Hid (tt ≤ t3 ∧ t3 ≤ tn) := ⟨by omega, by have := HO.out; have := HDD.out; omega⟩
                have q3 : wrap64 ((tt : Int) + (f3 : Int)) = (t3 : Int) := by have := HO.out; have := H3.out; rw [IntWalk.wrap64_in _ ⟨by omega, by omega⟩]; omega
                clear hf3 l3 e3
                go_wp2_with fail
                refine (HJ.out.2.2.2.atB (t3 : Int)).mono ?_
                rintro e w5 ⟨v5, p5, q5, rfl, _, _, h5, _⟩
                clear q3
                have H5 : Hid (∃ Tb Nb, tt ≤ Tb ∧ Tb ≤ tn ∧ Nb = fillN N R D B (Tb - tt) ∧ Sd W0 w5 a b tt N Tb Nb R D B g x y z) := by
                  obtain ⟨g1, g2, g3, g4⟩ := HJ.out
                  have o1 := HO.out
                  have o2 := H3.out
                  have eT : atT Tb (t3 : Int) = max Tb t3 := by unfold atT; omega
                  refine ⟨atT Tb (t3 : Int), atN Tb Nb R D B (t3 : Int), by omega, by omega, ?_, h5⟩
                  unfold atN
                  rw [g3, fillN_add, eT, show Tb - tt + (max Tb t3 - Tb) = max Tb t3 - tt by omega]
                clear h5 HJ H3 c3 b3 d4
                go_wp2_with fail
                go_roundw
                case rel => exact ⟨1, by omega, rfl, H5⟩
                case measure => simp [intOf]
              · subst e0
                have qd := QD.out
                go_wp2_with fail
                clear qd
                refine (FE.out (zz / 256) dd _ ⟨by omega, by omega⟩ (by have := HDD.out; have := HO.out; omega)).mono ?_
                rintro e w1 ⟨rfl, rfl⟩
                obtain ⟨f3, hf3⟩ : ∃ f, f = fewN (zz / 256) dd := ⟨_, rfl⟩
                have l3 : f3 ≤ dd := by rw [hf3]; exact fewN_le _ _
                rw [← hf3]
                obtain ⟨t3, e3⟩ : ∃ t3 : Nat, t3 = tt + f3 := ⟨_, rfl⟩
                have H3 : Hid (tt ≤ t3 ∧ t3 ≤ tn) := ⟨by omega, by have := HO.out; have := HDD.out; omega⟩
                have q3 : wrap64 ((tt : Int) + (f3 : Int)) = (t3 : Int) := by have := HO.out; have := H3.out; rw [IntWalk.wrap64_in _ ⟨by omega, by omega⟩]; omega
                clear hf3 l3 e3
                go_wp2_with fail
                refine (HJ.out.2.2.2.atB (t3 : Int)).mono ?_
                rintro e w5 ⟨v5, p5, q5, rfl, _, _, h5, _⟩
                clear q3
                have H5 : Hid (∃ Tb Nb, tt ≤ Tb ∧ Tb ≤ tn ∧ Nb = fillN N R D B (Tb - tt) ∧ Sd W0 w5 a b tt N Tb Nb R D B g x y z) := by
                  obtain ⟨g1, g2, g3, g4⟩ := HJ.out
                  have o1 := HO.out
                  have o2 := H3.out
                  have eT : atT Tb (t3 : Int) = max Tb t3 := by unfold atT; omega
                  refine ⟨atT Tb (t3 : Int), atN Tb Nb R D B (t3 : Int), by omega, by omega, ?_, h5⟩
                  unfold atN
                  rw [g3, fillN_add, eT, show Tb - tt + (max Tb t3 - Tb) = max Tb t3 - tt by omega]
                clear h5 HJ H3 c3 b3 d4
                go_wp2_with fail
                go_roundw
                case rel => exact ⟨2, by omega, rfl, H5⟩
                case measure => simp [intOf]
              · subst e0
                have qd := QD.out
                go_wp2_with fail
                clear qd
                refine (FE.out (zz / 65536) dd _ ⟨by omega, by omega⟩ (by have := HDD.out; have := HO.out; omega)).mono ?_
                rintro e w1 ⟨rfl, rfl⟩
                obtain ⟨f3, hf3⟩ : ∃ f, f = fewN (zz / 65536) dd := ⟨_, rfl⟩
                have l3 : f3 ≤ dd := by rw [hf3]; exact fewN_le _ _
                rw [← hf3]
                obtain ⟨t3, e3⟩ : ∃ t3 : Nat, t3 = tt + f3 := ⟨_, rfl⟩
                have H3 : Hid (tt ≤ t3 ∧ t3 ≤ tn) := ⟨by omega, by have := HO.out; have := HDD.out; omega⟩
                have q3 : wrap64 ((tt : Int) + (f3 : Int)) = (t3 : Int) := by have := HO.out; have := H3.out; rw [IntWalk.wrap64_in _ ⟨by omega, by omega⟩]; omega
                clear hf3 l3 e3
                go_wp2_with fail
                refine (HJ.out.2.2.2.atB (t3 : Int)).mono ?_
                rintro e w5 ⟨v5, p5, q5, rfl, _, _, h5, _⟩
                clear q3
                have H5 : Hid (∃ Tb Nb, tt ≤ Tb ∧ Tb ≤ tn ∧ Nb = fillN N R D B (Tb - tt) ∧ Sd W0 w5 a b tt N Tb Nb R D B g x y z) := by
                  obtain ⟨g1, g2, g3, g4⟩ := HJ.out
                  have o1 := HO.out
                  have o2 := H3.out
                  have eT : atT Tb (t3 : Int) = max Tb t3 := by unfold atT; omega
                  refine ⟨atT Tb (t3 : Int), atN Tb Nb R D B (t3 : Int), by omega, by omega, ?_, h5⟩
                  unfold atN
                  rw [g3, fillN_add, eT, show Tb - tt + (max Tb t3 - Tb) = max Tb t3 - tt by omega]
                clear h5 HJ H3 c3 b3 d4
                go_wp2_with fail
                go_roundw
                case rel => exact ⟨3, by omega, rfl, H5⟩
                case measure => simp [intOf]
            · by_cases hj3 : j < 3
              · have d6 : decide ((j : Int) < 3) = true := decide_eq_true (by omega)
                have d7 : decide ((k : Int) < (L4 : Int)) = false := decide_eq_false (by omega)
                obtain ⟨Tb, Nb, g1, g2, g3, g4⟩ := hJ.out
                have HJ : Hid (tt ≤ Tb ∧ Tb ≤ tn ∧ Nb = fillN N R D B (Tb - tt) ∧ Sd W0 wr a b tt N Tb Nb R D B g x y z) := ⟨g1, g2, g3, g4⟩
                obtain ⟨-, -, x2⟩ := g4.bx.cells
                obtain ⟨B2, eB2⟩ : ∃ B2 : Nat, B2 = 2 * B := ⟨_, rfl⟩
                have HB2 : Hid (B2 ≤ 2199023255552) := by have := HB.out; show _ ≤ _; omega
                have q5 : wrap64 (2 * (B : Int)) = (B2 : Int) := by have := HB.out; rw [IntWalk.wrap64_in _ ⟨by omega, by omega⟩]; omega
                clear g1 g2 g3 g4 hJ eB2
                skip
                go_wp2_with fail
                clear q5
                refine (FE.out z B2 _ HZ.out.2.1 (by have := HB2.out; omega)).mono ?_
                rintro e w1 ⟨rfl, rfl⟩
                obtain ⟨n, hn⟩ : ∃ f, f = fewN z B2 := ⟨_, rfl⟩
                have ln : n ≤ B2 := by rw [hn]; exact fewN_le _ _
                rw [← hn]
                have HN : Hid ((n : Int) ≤ 9223372036854775807) := by have := HB2.out; show _ ≤ _; omega
                obtain ⟨M, eM⟩ : ∃ M, M = fillN N R D B (tn - tt) := ⟨_, rfl⟩
                have HM : Hid (atT tt (tn : Int) = tn ∧ atN tt N R D B (tn : Int) = M ∧ atT Tb (tn : Int) = tn ∧ atN Tb Nb R D B (tn : Int) = M) := by
                  obtain ⟨g1, g2, g3, g4⟩ := HJ.out
                  have o1 := HO.out
                  refine ⟨atT_of o1.1 o1.2, by rw [atN_of o1.1 o1.2, eM], atT_of g2 o1.2, ?_⟩
                  rw [atN_of g2 o1.2, g3, fillN_add, eM, show Tb - tt + (tn - Tb) = tn - tt by omega]
                clear hn ln eM x2
                go_wp2_with fail
                refine (HJ.out.2.2.2.takeA (tn : Int) (n : Int) HN.out).mono ?_
                rintro e w5 ⟨rfl, h5⟩
                rw [HM.out.1, HM.out.2.1] at h5
                rw [HM.out.2.1]
                obtain ⟨E1, hE1⟩ : ∃ E1, E1 = takeE M D (n : Int) := ⟨_, rfl⟩
                obtain ⟨N3, hN3⟩ : ∃ N3, N3 = takeN M D (n : Int) := ⟨_, rfl⟩
                have HE : Hid (E1 = takeE M D (n : Int) ∧ N3 = takeN M D (n : Int)) := ⟨hE1, hN3⟩
                rw [← hN3] at h5
                rw [← hE1]
                have S5 : Hid (Sd W0 w5 a b tn N3 Tb Nb R D B g x y z) := h5
                clear h5 hE1 hN3
                go_wp2_with fail
                refine (S5.out.takeB (tn : Int) (n : Int) HN.out).mono ?_
                rintro e w6 ⟨rfl, h6⟩
                rw [HM.out.2.2.1, HM.out.2.2.2, ← HE.out.2] at h6
                rw [HM.out.2.2.2, ← HE.out.1]
                have S6 : Hid (Sd W0 w6 a b tn N3 tn N3 R D B g x y z) := h6
                have HA : Hid (atT tn (tn : Int) = tn ∧ atN tn N3 R D B (tn : Int) = N3) := ⟨atT_of (Nat.le_refl _) HO.out.2, by rw [atN_of (Nat.le_refl _) HO.out.2, Nat.sub_self, fillN_zero h6.ba.cN]⟩
                clear h6 S5
                go_wp2_with fail
                refine (S6.out.atA (tn : Int)).mono ?_
                rintro e w7 ⟨v7, p7, q7, rfl, hv7, hf7, h7⟩
                rw [HA.out.2] at hf7 h7
                rw [HA.out.1] at h7
                have S7 : Hid (Sd W0 w7 a b tn N3 tn N3 R D B g x y z ∧ Rt w7 v7 p7 q7 ∧ Fc p7 q7 N3 D 20) := ⟨h7, hv7, hf7⟩
                clear h7 hv7 hf7 S6
                go_wp2_with fail
                refine (S7.out.1.atB (tn : Int)).mono ?_
                rintro e w8 ⟨v8, p8, q8, rfl, hv8, hf8, h8, hk8⟩
                rw [HA.out.2] at hf8 h8
                rw [HA.out.1] at h8
                have S8 : Hid (Sd W0 w8 a b tn N3 tn N3 R D B g x y z ∧ Rt w8 v7 p7 q7 ∧ Fc p7 q7 N3 D 20 ∧ Rt w8 v8 p8 q8 ∧ Fc p8 q8 N3 D 20) := ⟨h8, hk8 _ _ _ S7.out.2.1, S7.out.2.2, hv8, hf8⟩
                clear h8 hv8 hf8 hk8 S7
                go_wp2_with fail
                refine (S8.out.2.2.1.cmp S8.out.2.2.2.2 (by omega) (by omega) (cmpI_same rfl) v7 v8 w8 S8.out.2.1 S8.out.2.2.2.1).mono ?_
                rintro e w9 ⟨rfl, hb9⟩
                have S9 : Hid (Sd W0 w9 a b tn N3 tn N3 R D B g x y z) := S8.out.1.go hb9
                clear hb9 S8
                go_wp2_with fail
                refine (bwait_any a tn N3 R D B (n : Int) w9 S9.out.ba S9.out.tab HN.out).mono ?_
                rintro e w10 ⟨rfl, hb10⟩
                have S10 : Hid (Sd W0 w10 a b tn N3 tn N3 R D B g x y z) := S9.out.go hb10
                obtain ⟨X1, hX1⟩ : ∃ X1, X1 = waitV tn N3 R D B (n : Int) := ⟨_, rfl⟩
                obtain ⟨X2, hX2⟩ : ∃ X2, X2 = waitE tn N3 R D B (n : Int) := ⟨_, rfl⟩
                have HX : Hid (X1 = waitV tn N3 R D B (n : Int) ∧ X2 = waitE tn N3 R D B (n : Int)) := ⟨hX1, hX2⟩
                rw [← hX1, ← hX2]
                clear hb10 S9 hX1 hX2
                go_wp2_with fail
                refine (bwait_any b tn N3 R D B (n : Int) w10 S10.out.bb S10.out.tab HN.out).mono ?_
                rintro e w11 ⟨rfl, hb11⟩
                have S11 : Hid (Sd W0 w11 a b tn N3 tn N3 R D B g x y z) := S10.out.go hb11
                rw [← HX.out.1, ← HX.out.2]
                clear hb11 S10 HX
                go_wp2_with fail
                go_roundw
                case rel => exact ⟨k + 1, tn, N3, by omega, rfl, by go_num, S11.out.toSc⟩
                case measure => simp [intOf]; omega
              · have d6 : decide ((j : Int) < 3) = false := decide_eq_false (by omega)
                obtain ⟨Tb, Nb, g1, g2, g3, g4⟩ := hJ.out
                have HJ : Hid (tt ≤ Tb ∧ Tb ≤ tn ∧ Nb = fillN N R D B (Tb - tt) ∧ Sd W0 wr a b tt N Tb Nb R D B g x y z) := ⟨g1, g2, g3, g4⟩
                obtain ⟨-, -, x2⟩ := g4.bx.cells
                obtain ⟨B2, eB2⟩ : ∃ B2 : Nat, B2 = 2 * B := ⟨_, rfl⟩
                have HB2 : Hid (B2 ≤ 2199023255552) := by have := HB.out; show _ ≤ _; omega
                have q5 : wrap64 (2 * (B : Int)) = (B2 : Int) := by have := HB.out; rw [IntWalk.wrap64_in _ ⟨by omega, by omega⟩]; omega
                clear g1 g2 g3 g4 hJ eB2
                skip
                go_wp2_with fail
                clear q5
                refine (FE.out z B2 _ HZ.out.2.1 (by have := HB2.out; omega)).mono ?_
                rintro e w1 ⟨rfl, rfl⟩
                obtain ⟨n, hn⟩ : ∃ f, f = fewN z B2 := ⟨_, rfl⟩
                have ln : n ≤ B2 := by rw [hn]; exact fewN_le _ _
                rw [← hn]
                have HN : Hid ((n : Int) ≤ 9223372036854775807) := by have := HB2.out; show _ ≤ _; omega
                obtain ⟨M, eM⟩ : ∃ M, M = fillN N R D B (tn - tt) := ⟨_, rfl⟩
                have HM : Hid (atT tt (tn : Int) = tn ∧ atN tt N R D B (tn : Int) = M ∧ atT Tb (tn : Int) = tn ∧ atN Tb Nb R D B (tn : Int) = M) := by
                  obtain ⟨g1, g2, g3, g4⟩ := HJ.out
                  have o1 := HO.out
                  refine ⟨atT_of o1.1 o1.2, by rw [atN_of o1.1 o1.2, eM], atT_of g2 o1.2, ?_⟩
                  rw [atN_of g2 o1.2, g3, fillN_add, eM, show Tb - tt + (tn - Tb) = tn - tt by omega]
                clear hn ln eM x2
                go_wp2_with fail
                refine (HJ.out.2.2.2.takeA (tn : Int) (n : Int) HN.out).mono ?_
                rintro e w5 ⟨rfl, h5⟩
                rw [HM.out.1, HM.out.2.1] at h5
                rw [HM.out.2.1]
                obtain ⟨E1, hE1⟩ : ∃ E1, E1 = takeE M D (n : Int) := ⟨_, rfl⟩
                obtain ⟨N3, hN3⟩ : ∃ N3, N3 = takeN M D (n : Int) := ⟨_, rfl⟩
                have HE : Hid (E1 = takeE M D (n : Int) ∧ N3 = takeN M D (n : Int)) := ⟨hE1, hN3⟩
                rw [← hN3] at h5
                rw [← hE1]
                have S5 : Hid (Sd W0 w5 a b tn N3 Tb Nb R D B g x y z) := h5
                clear h5 hE1 hN3
                go_wp2_with fail
                refine (S5.out.takeB (tn : Int) (n : Int) HN.out).mono ?_
                rintro e w6 ⟨rfl, h6⟩
                rw [HM.out.2.2.1, HM.out.2.2.2, ← HE.out.2] at h6
                rw [HM.out.2.2.2, ← HE.out.1]
                have S6 : Hid (Sd W0 w6 a b tn N3 tn N3 R D B g x y z) := h6
                have HA : Hid (atT tn (tn : Int) = tn ∧ atN tn N3 R D B (tn : Int) = N3) := ⟨atT_of (Nat.le_refl _) HO.out.2, by rw [atN_of (Nat.le_refl _) HO.out.2, Nat.sub_self, fillN_zero h6.ba.cN]⟩
                clear h6 S5
                go_wp2_with fail
                refine (S6.out.atA (tn : Int)).mono ?_
                rintro e w7 ⟨v7, p7, q7, rfl, hv7, hf7, h7⟩
                rw [HA.out.2] at hf7 h7
                rw [HA.out.1] at h7
                have S7 : Hid (Sd W0 w7 a b tn N3 tn N3 R D B g x y z ∧ Rt w7 v7 p7 q7 ∧ Fc p7 q7 N3 D 20) := ⟨h7, hv7, hf7⟩
                clear h7 hv7 hf7 S6
                go_wp2_with fail
                refine (S7.out.1.atB (tn : Int)).mono ?_
                rintro e w8 ⟨v8, p8, q8, rfl, hv8, hf8, h8, hk8⟩
                rw [HA.out.2] at hf8 h8
                rw [HA.out.1] at h8
                have S8 : Hid (Sd W0 w8 a b tn N3 tn N3 R D B g x y z ∧ Rt w8 v7 p7 q7 ∧ Fc p7 q7 N3 D 20 ∧ Rt w8 v8 p8 q8 ∧ Fc p8 q8 N3 D 20) := ⟨h8, hk8 _ _ _ S7.out.2.1, S7.out.2.2, hv8, hf8⟩
                clear h8 hv8 hf8 hk8 S7
                go_wp2_with fail
                refine (S8.out.2.2.1.cmp S8.out.2.2.2.2 (by omega) (by omega) (cmpI_same rfl) v7 v8 w8 S8.out.2.1 S8.out.2.2.2.1).mono ?_
                rintro e w9 ⟨rfl, hb9⟩
                have S9 : Hid (Sd W0 w9 a b tn N3 tn N3 R D B g x y z) := S8.out.1.go hb9
                clear hb9 S8
                go_wp2_with fail
                refine (bwait_any a tn N3 R D B (n : Int) w9 S9.out.ba S9.out.tab HN.out).mono ?_
                rintro e w10 ⟨rfl, hb10⟩
                have S10 : Hid (Sd W0 w10 a b tn N3 tn N3 R D B g x y z) := S9.out.go hb10
                obtain ⟨X1, hX1⟩ : ∃ X1, X1 = waitV tn N3 R D B (n : Int) := ⟨_, rfl⟩
                obtain ⟨X2, hX2⟩ : ∃ X2, X2 = waitE tn N3 R D B (n : Int) := ⟨_, rfl⟩
                have HX : Hid (X1 = waitV tn N3 R D B (n : Int) ∧ X2 = waitE tn N3 R D B (n : Int)) := ⟨hX1, hX2⟩
                rw [← hX1, ← hX2]
                clear hb10 S9 hX1 hX2
                go_wp2_with fail
                refine (bwait_any b tn N3 R D B (n : Int) w10 S10.out.bb S10.out.tab HN.out).mono ?_
                rintro e w11 ⟨rfl, hb11⟩
                have S11 : Hid (Sd W0 w11 a b tn N3 tn N3 R D B g x y z) := S10.out.go hb11
                rw [← HX.out.1, ← HX.out.2]
                clear hb11 S10 HX
                go_wp2_with fail
                go_roundw
                case rel => exact ⟨k + 1, tn, N3, by omega, rfl, by go_num, S11.out.toSc⟩
                case measure => simp [intOf]; omega
        · have d2 : decide ((k : Int) < 60) = false := decide_eq_false (by omega)
          go_wp2_with fail
          go_ret
          exact ⟨rfl, hI.out.bel⟩
      · have d1 : decide ((k : Int) < (L3 : Int)) = false := decide_eq_false (by omega)
        go_wp2_with fail
        go_ret
        exact ⟨rfl, hI.out.bel⟩
  · refine (NN.out _ hr).mono ?_
    rintro e w2 ⟨rfl, hbl⟩
    have Z0 : Hid (Below W0.heap.size W0 w2 ∧ Tab w2) := ⟨hbl, HU.out.2.1.go hbl⟩
    clear hbl
    go_wp2_with fail
    refine (FT.out _).mono ?_
    rintro e w1 ⟨rfl, rfl⟩
    go_wp2_with fail
    refine (NN.out _ hr).mono ?_
    rintro e w3 ⟨rfl, hbl⟩
    have Z1 : Hid (Below W0.heap.size W0 w3 ∧ Tab w3) := ⟨Z0.out.1.trans (hbl.mono Z0.out.1.size), Z0.out.2.go hbl⟩
    clear hbl Z0 hr NY NN
    go_wp2_with fail
    refine (btold_true w3 Z1.out.2).mono ?_
    rintro e w4 ⟨rfl, h4⟩
    have Z2 : Hid (Below W0.heap.size W0 w4) := Z1.out.1.trans (h4.mono Z1.out.1.size)
    clear h4 Z1
    go_wp2_with fail
    go_loopw [15, 16] (fun tv iv wr => iv = .int .i64 0 ∧ Hid (Below W0.heap.size W0 wr)) (fun _ i _ => 0)
    case atStart => exact ⟨rfl, Z2⟩
    case round =>
      clear Z2
      obtain ⟨rfl, hI⟩ := hrel
      by_cases hk1 : 0 < L3
      · have d1 : decide ((0 : Int) < (L3 : Int)) = true := decide_eq_true (by omega)
        go_wp2_with fail
        go_ret
        exact ⟨rfl, hI.out⟩
      · have d1 : decide ((0 : Int) < (L3 : Int)) = false := decide_eq_false (by omega)
        go_wp2_with fail
        go_ret
        exact ⟨rfl, hI.out⟩
end Go.Proofs.YtdmkneojhnhomaaGreatDoor
namespace Go.Proofs.YtdmkneojhnhomaaGreatDoor
open Go.RowKit
set_option maxRecDepth 100000
set_option linter.unusedVariables false
set_option maxHeartbeats 2000000 in
theorem rwhole_any (n : Nat) (w : World) (hn : n < 18446744073709551616) : Calls Tryz.prog 25 #[.int .u64 (n : Int)] w (MakesRR w n 1) := by
  have ba : Hid (Below w.heap.size w (w.alloc (.cells #[.slice none 0 0, .slice none 0 0] 35))) := bel_al (bel_refl w)
  have HN : Hid (n < 18446744073709551616) := hn
  clear hn
  go_enter Tryz.func25, Tryz.ntmps25
  go_wp2_with fail
  refine (rof_any n _ HN.out).mono ?_
  rintro e w1 ⟨v1, rfl, hv1, hb1⟩
  obtain ⟨a1, n1, k1, rfl⟩ := hv1.isAgg
  have c0 : w1.cell? ⟨w.heap.size, 0, none⟩ = some (.slice none 0 0) := cell_later hb1 (by simp [go_sem])
  have c1 : w1.cell? ⟨w.heap.size, 1, none⟩ = some (.slice none 0 0) := cell_later hb1 (by simp [go_sem])
  have f0 : w1.frozen? ⟨w.heap.size, 0, none⟩ = false := (hb1.frozen (by simp)).trans (by simp [go_sem])
  have f1 : w1.frozen? ⟨w.heap.size, 1, none⟩ = false := (hb1.frozen (by simp)).trans (by simp [go_sem])
  have I1 : Hid (RNat w1 (.agg #[.slice a1 n1 k1]) n ∧ Below w.heap.size w w1) := ⟨hv1, bel_go ba.out hb1⟩
  clear hv1 hb1 ba
  go_wp2_with fail
  refine (rof_any 1 _ (by omega)).mono ?_
  rintro e w2 ⟨v2, rfl, hv2, hb2⟩
  obtain ⟨a2, n2, k2, rfl⟩ := hv2.isAgg
  have x0 := cell_later hb2 c0
  have x1 := cell_later hb2 c1
  have y0 := (hb2.frozen (World.block_lt_of_cell? _ _ c0)).trans f0
  have y1 := (hb2.frozen (World.block_lt_of_cell? _ _ c1)).trans f1
  have Z : Hid _ := rrat_put (v := .slice a1 n1 k1) (u := .slice a2 n2 k2) x0 x1 (V := .agg #[.slice a1 n1 k1, .slice a2 n2 k2]) (p := n) (q := 1) ⟨_, _, _, _, _, _, rfl, I1.out.1.mono hb2, hv2⟩ (bel_go I1.out.2 hb2) (Nat.le_refl _)
  clear hv2 hb2 c0 c1 f0 f1 I1
  go_wp2_with fail
  exact bodyPost_ret (v := .agg #[.slice a1 n1 k1, .slice a2 n2 k2]) (by simp [results, Tryz.results25, go_sem, x0, x1]) rfl ⟨_, rfl, Z.out.1, Z.out.2⟩
set_option maxHeartbeats 2000000 in
theorem rsign2_any (v : Value) (p q : Nat) (w : World) (h : RRt w v p q) (hp : RFits p) (z : Int) (hz : z = if p = 0 then 0 else 1) : Calls Tryz.prog 43 #[v] w fun e w' => e = .returned (.int .i64 z) ∧ Below w.heap.size w w' := by
  obtain ⟨a, n, c, a', n', c', rfl, h1, h2⟩ := h
  have HH : Hid (RNat (w.alloc (.cells #[.slice a n c, .slice a' n' c'] 35)) (.agg #[.slice a n c]) p ∧ RFits p ∧ Below w.heap.size w (w.alloc (.cells #[.slice a n c, .slice a' n' c'] 35))) := ⟨h1.mono (bel_al (bel_refl _)), hp, bel_al (bel_refl _)⟩
  clear h1 h2 hp
  go_enter Tryz.func43, Tryz.ntmps43
  go_wp2_with fail
  refine (rzero_any _ p _ HH.out.1 HH.out.2.1).mono ?_
  rintro e w1 ⟨rfl, hb1⟩
  have B1 : Hid (Below w.heap.size w w1) := bel_go HH.out.2.2 hb1
  clear hb1 HH
  by_cases e0 : p = 0
  · have d : decide (p = 0) = true := decide_eq_true e0
    rw [if_pos e0] at hz
    have HZ : Hid (z = 0) := hz
    clear e0 hz
    go_wp2_with fail
    go_ret
    exact ⟨ret_int HZ.out.symm, B1.out⟩
  · have d : decide (p = 0) = false := decide_eq_false e0
    rw [if_neg e0] at hz
    have HZ : Hid (z = 1) := hz
    clear e0 hz
    go_wp2_with fail
    go_ret
    exact ⟨ret_int HZ.out.symm, B1.out⟩
set_option maxHeartbeats 8000000 in
theorem rmul2_any (v u : Value) (p q x y : Nat) (w : World) (h : RRt w v p q) (k : RRt w u x y) (hp : RS p) (hq : RS q) (hx : RS x) (hy : RS y) (hq0 : 0 < q) (hy0 : 0 < y) :
    Calls Tryz.prog 51 #[v, u] w (MakesRR w (p * x / Nat.gcd (p * x) (q * y)) (q * y / Nat.gcd (p * x) (q * y))) := by
  obtain ⟨a1, n1, c1, a2, n2, c2, e0, g1, g2⟩ := h
  subst e0
  obtain ⟨a3, n3, c3, a4, n4, c4, e1, g3, g4⟩ := k
  subst e1
  have S0 : Hid _ := ((((((sx_start w).addM g1).addM g2).addM g3).addM g4).box (.slice a1 n1 c1) (.slice a2 n2 c2) 35 _ rfl).box (.slice a3 n3 c3) (.slice a4 n4 c4) 35 _ rfl
  simp only [World.size_alloc] at S0
  have S1 : Hid _ := S0.out.box (.slice none 0 0) (.slice none 0 0) 35 _ rfl
  simp only [World.size_alloc] at S1
  obtain ⟨w0, hw0⟩ : ∃ w0, w0 = ((w.alloc (.cells #[.slice a1 n1 c1, .slice a2 n2 c2] 35)).alloc (.cells #[.slice a3 n3 c3, .slice a4 n4 c4] 35)).alloc (.cells #[.slice none 0 0, .slice none 0 0] 35) := ⟨_, rfl⟩
  have f6 : w0.frozen? ⟨w.heap.size + 1 + 1, 0, none⟩ = false := by rw [hw0]; simp [go_sem]
  have f7 : w0.frozen? ⟨w.heap.size + 1 + 1, 1, none⟩ = false := by rw [hw0]; simp [go_sem]
  have FZ : Hid _ := And.intro f6 f7
  have s1 : RSome (p * x) := ⟨Nat.lt_of_lt_of_le (by rw [← P_B]; exact hp.mul hx) (B_le (show 2 * 180 ≤ 1000000 by omega))⟩
  have s2 : RSome (q * y) := ⟨Nat.lt_of_lt_of_le (by rw [← P_B]; exact hq.mul hy) (B_le (show 2 * 180 ≤ 1000000 by omega))⟩
  have HH : Hid (RS p ∧ RS q ∧ RS x ∧ RS y ∧ RSome (p * x) ∧ RSome (q * y) ∧ 0 < q * y) := ⟨hp, hq, hx, hy, s1, s2, Nat.mul_pos hq0 hy0⟩
  clear g1 g2 g3 g4 hp hq hx hy hq0 hy0 s1 s2 S0 f6 f7
  go_enter Tryz.func51, Tryz.ntmps51
  go_wp2_with fail
  rw [← hw0] at S1
  rw [← hw0]
  obtain ⟨b2, hb2⟩ : ∃ b2, b2 = w.heap.size := ⟨_, rfl⟩
  have HB : Hid (w.heap.size ≤ b2 + 1 + 1) := by show _ ≤ _; omega
  rw [← hb2] at S1 FZ
  rw [← hb2]
  clear hw0 hb2
  refine wp_region_held_drew (S := fun w9 => w9.cell? ⟨b2, 0, none⟩ = some (.slice a1 n1 c1) ∧ w9.cell? ⟨b2, 1, none⟩ = some (.slice a2 n2 c2) ∧ w9.cell? ⟨b2 + 1, 0, none⟩ = some (.slice a3 n3 c3) ∧ w9.cell? ⟨b2 + 1, 1, none⟩ = some (.slice a4 n4 c4)) (by kernel_rfl) ⟨(S1.out.cel (b2) 0 (.slice a1 n1 c1)), (S1.out.cel (b2) 1 (.slice a2 n2 c2)), (S1.out.cel (b2 + 1) 0 (.slice a3 n3 c3)), (S1.out.cel (b2 + 1) 1 (.slice a4 n4 c4))⟩ (fun hHeld => ?_)
  refine wpAnyH_take (i := 0) (v := .pointer (some ⟨b2, 0, none⟩)) rfl (by kernel_rfl) (by kernel_rfl) (by kernel_rfl) (fun _ _ _ h => h) (Or.inl ⟨by rfl, ?_⟩) (by assumption) ?_
  · intro w hSw
    obtain ⟨g0, g1, g2, g3⟩ := hSw
    go_simp
  refine wpAnyH_take (i := 1) (v := .agg #[.slice a1 n1 c1]) rfl (by kernel_rfl) (by kernel_rfl) (by kernel_rfl) (fun _ _ _ h => h) (Or.inl ⟨by rfl, ?_⟩) (by assumption) ?_
  · intro w hSw
    obtain ⟨g0, g1, g2, g3⟩ := hSw
    go_simp
  refine wpAnyH_take (i := 2) (v := .pointer (some ⟨b2 + 1, 0, none⟩)) rfl (by kernel_rfl) (by kernel_rfl) (by kernel_rfl) (fun _ _ _ h => h) (Or.inl ⟨by rfl, ?_⟩) (by assumption) ?_
  · intro w hSw
    obtain ⟨g0, g1, g2, g3⟩ := hSw
    go_simp
  refine wpAnyH_take (i := 3) (v := .agg #[.slice a3 n3 c3]) rfl (by kernel_rfl) (by kernel_rfl) (by kernel_rfl) (fun _ _ _ h => h) (Or.inl ⟨by rfl, ?_⟩) (by assumption) ?_
  · intro w hSw
    obtain ⟨g0, g1, g2, g3⟩ := hSw
    go_simp
  refine wpAnyH_take (i := 5) (v := .pointer (some ⟨b2, 1, none⟩)) rfl (by kernel_rfl) (by kernel_rfl) (by kernel_rfl) (fun _ _ _ h => h) (Or.inl ⟨by rfl, ?_⟩) (by assumption) ?_
  · intro w hSw
    obtain ⟨g0, g1, g2, g3⟩ := hSw
    go_simp
  refine wpAnyH_take (i := 6) (v := .agg #[.slice a2 n2 c2]) rfl (by kernel_rfl) (by kernel_rfl) (by kernel_rfl) (fun _ _ _ h => h) (Or.inl ⟨by rfl, ?_⟩) (by assumption) ?_
  · intro w hSw
    obtain ⟨g0, g1, g2, g3⟩ := hSw
    go_simp
  refine wpAnyH_take (i := 7) (v := .pointer (some ⟨b2 + 1, 1, none⟩)) rfl (by kernel_rfl) (by kernel_rfl) (by kernel_rfl) (fun _ _ _ h => h) (Or.inl ⟨by rfl, ?_⟩) (by assumption) ?_
  · intro w hSw
    obtain ⟨g0, g1, g2, g3⟩ := hSw
    go_simp
  refine wpAnyH_take (i := 8) (v := .agg #[.slice a4 n4 c4]) rfl (by kernel_rfl) (by kernel_rfl) (by kernel_rfl) (fun _ _ _ h => h) (Or.inl ⟨by rfl, ?_⟩) (by assumption) ?_
  · intro w hSw
    obtain ⟨g0, g1, g2, g3⟩ := hSw
    go_simp
  refine wpAnyH_ready (rs := [4]) (by kernel_rfl) (by simp) ?_
  refine AllReadyH.cons rfl (fun K9 hK9 => ?_) AllReadyH.nil
  go_simp
  refine Calls.mono (rtimes_any _ _ p x _ ((S1.out.rat (.agg #[.slice a1 n1 c1]) p).mono (bel_dr (bel_refl _))) ((S1.out.rat (.agg #[.slice a3 n3 c3]) x).mono (bel_dr (bel_refl _))) HH.out.1.rfits HH.out.2.2.1.rfits) ?_
  rintro e w3 ⟨v3, rfl, hv3, hb3⟩
  replace hb3 : Below w0.heap.size w0 w3 := bel_undrew hb3
  have FZ : Hid (w3.frozen? ⟨b2 + 1 + 1, 0, none⟩ = false ∧ w3.frozen? ⟨b2 + 1 + 1, 1, none⟩ = false) := ⟨(hb3.frozen (World.block_lt_of_cell? _ _ (S1.out.cel (b2 + 1 + 1) 0 (.slice none 0 0)))).trans FZ.out.1, (hb3.frozen (World.block_lt_of_cell? _ _ (S1.out.cel (b2 + 1 + 1) 1 (.slice none 0 0)))).trans FZ.out.2⟩
  have S2 : Hid _ := (S1.out.go hb3).addM hv3
  clear hv3 hb3 S1 hHeld
  refine hK9.out _ _ ⟨(S2.out.cel (b2) 0 (.slice a1 n1 c1)), (S2.out.cel (b2) 1 (.slice a2 n2 c2)), (S2.out.cel (b2 + 1) 0 (.slice a3 n3 c3)), (S2.out.cel (b2 + 1) 1 (.slice a4 n4 c4))⟩ (fun hHeld => ?_)
  clear hK9 K9
  refine wpAnyH_ready (rs := [9]) (by kernel_rfl) (by simp) ?_
  refine AllReadyH.cons rfl (fun K9 hK9 => ?_) AllReadyH.nil
  go_simp
  refine Calls.mono (rtimes_any _ _ q y _ (S2.out.rat (.agg #[.slice a2 n2 c2]) q) (S2.out.rat (.agg #[.slice a4 n4 c4]) y) HH.out.2.1.rfits HH.out.2.2.2.1.rfits) ?_
  rintro e w4 ⟨v4, rfl, hv4, hb4⟩
  have FZ : Hid (w4.frozen? ⟨b2 + 1 + 1, 0, none⟩ = false ∧ w4.frozen? ⟨b2 + 1 + 1, 1, none⟩ = false) := ⟨(hb4.frozen (World.block_lt_of_cell? _ _ (S2.out.cel (b2 + 1 + 1) 0 (.slice none 0 0)))).trans FZ.out.1, (hb4.frozen (World.block_lt_of_cell? _ _ (S2.out.cel (b2 + 1 + 1) 1 (.slice none 0 0)))).trans FZ.out.2⟩
  have S3 : Hid _ := (S2.out.go hb4).addM hv4
  clear hv4 hb4 S2 hHeld
  refine hK9.out _ _ ⟨(S3.out.cel (b2) 0 (.slice a1 n1 c1)), (S3.out.cel (b2) 1 (.slice a2 n2 c2)), (S3.out.cel (b2 + 1) 0 (.slice a3 n3 c3)), (S3.out.cel (b2 + 1) 1 (.slice a4 n4 c4))⟩ (fun hHeld => ?_)
  clear hK9 K9
  refine wpAnyH_ready (rs := [10]) (by kernel_rfl) (by simp) ?_
  refine AllReadyH.cons rfl (fun K9 hK9 => ?_) AllReadyH.nil
  go_simp
  refine Calls.mono (rmade_any v3 v4 (p * x) (q * y) _ (S3.out.rat v3 (p * x)) (S3.out.rat v4 (q * y)) HH.out.2.2.2.2.1 HH.out.2.2.2.2.2.1 HH.out.2.2.2.2.2.2) ?_
  rintro e w6 ⟨v6, rfl, hv6, hb6⟩
  have FZ : Hid (w6.frozen? ⟨b2 + 1 + 1, 0, none⟩ = false ∧ w6.frozen? ⟨b2 + 1 + 1, 1, none⟩ = false) := ⟨(hb6.frozen (World.block_lt_of_cell? _ _ (S3.out.cel (b2 + 1 + 1) 0 (.slice none 0 0)))).trans FZ.out.1, (hb6.frozen (World.block_lt_of_cell? _ _ (S3.out.cel (b2 + 1 + 1) 1 (.slice none 0 0)))).trans FZ.out.2⟩
  have S4 : Hid _ := (S3.out.go hb6).addG hv6
  obtain ⟨a6, n6, c6, a7, n7, c7, ev, _, _⟩ := hv6
  subst ev
  clear hb6 S3 hHeld
  have z0 := S4.out.cel (b2 + 1 + 1) 0 (.slice none 0 0)
  have z1 := S4.out.cel (b2 + 1 + 1) 1 (.slice none 0 0)
  have y0 := FZ.out.1
  have y1 := FZ.out.2
  have t0 := (S4.out.cel (b2) 0 (.slice a1 n1 c1))
  have t1 := (S4.out.cel (b2) 1 (.slice a2 n2 c2))
  have t2 := (S4.out.cel (b2 + 1) 0 (.slice a3 n3 c3))
  have t3 := (S4.out.cel (b2 + 1) 1 (.slice a4 n4 c4))
  refine hK9.out _ _ ⟨t0, t1, t2, t3⟩ (fun hHeld => ?_)
  clear hK9 K9
  refine wpAnyH_ready (rs := [11]) (by kernel_rfl) (by simp) ?_
  refine AllReadyH.cons rfl (fun K9 hK9 => ?_) AllReadyH.nil
  go_simp
  clear hHeld
  refine hK9.out _ _ (by simp [go_sem, *]) (fun hHeld => ?_)
  clear hK9 K9
  refine wpAnyH_done (by kernel_rfl) ?_ _
  have Z : Hid _ := rrat_put (w0 := w) (v := .slice a6 n6 c6) (u := .slice a7 n7 c7) z0 z1 (S4.out.rfr (.agg #[.slice a6 n6 c6, .slice a7 n7 c7]) (p * x / Nat.gcd (p * x) (q * y)) (q * y / Nat.gcd (p * x) (q * y))) S4.out.bel HB.out
  clear S4 FZ t0 t1 t2 t3
  go_wp2_with fail
  exact bodyPost_ret (v := .agg #[.slice a6 n6 c6, .slice a7 n7 c7]) (by simp [results, Tryz.results51, go_sem, z0, z1]) rfl ⟨_, rfl, Z.out.1, Z.out.2⟩
set_option maxHeartbeats 8000000 in
theorem rdiv2_yes (v u : Value) (p q x y : Nat) (w : World) (h : RRt w v p q) (k : RRt w u x y) (hp : RS p) (hq : RS q) (hx : RS x) (hy : RS y) (hq0 : 0 < q) (hx0 : 0 < x) :
    Calls Tryz.prog 44 #[v, u] w (MakesRRB w (p * y / Nat.gcd (p * y) (q * x)) (q * x / Nat.gcd (p * y) (q * x)) true) := by
  obtain ⟨a1, n1, c1, a2, n2, c2, e0, g1, g2⟩ := h
  subst e0
  obtain ⟨a3, n3, c3, a4, n4, c4, e1, g3, g4⟩ := k
  subst e1
  have S0 : Hid _ := ((((((sx_start w).addM g1).addM g2).addM g3).addM g4).box (.slice a1 n1 c1) (.slice a2 n2 c2) 35 _ rfl).box (.slice a3 n3 c3) (.slice a4 n4 c4) 35 _ rfl
  simp only [World.size_alloc] at S0
  have S1 : Hid _ := S0.out.box (.slice none 0 0) (.slice none 0 0) 35 _ rfl
  simp only [World.size_alloc] at S1
  obtain ⟨w0, hw0⟩ : ∃ w0, w0 = ((w.alloc (.cells #[.slice a1 n1 c1, .slice a2 n2 c2] 35)).alloc (.cells #[.slice a3 n3 c3, .slice a4 n4 c4] 35)).alloc (.cells #[.slice none 0 0, .slice none 0 0] 35) := ⟨_, rfl⟩
  have f6 : w0.frozen? ⟨w.heap.size + 1 + 1, 0, none⟩ = false := by rw [hw0]; simp [go_sem]
  have f7 : w0.frozen? ⟨w.heap.size + 1 + 1, 1, none⟩ = false := by rw [hw0]; simp [go_sem]
  have FZ : Hid _ := And.intro f6 f7
  have s1 : RSome (p * y) := ⟨Nat.lt_of_lt_of_le (by rw [← P_B]; exact hp.mul hy) (B_le (show 2 * 180 ≤ 1000000 by omega))⟩
  have s2 : RSome (q * x) := ⟨Nat.lt_of_lt_of_le (by rw [← P_B]; exact hq.mul hx) (B_le (show 2 * 180 ≤ 1000000 by omega))⟩
  have HH : Hid (RS p ∧ RS q ∧ RS x ∧ RS y ∧ RSome (p * y) ∧ RSome (q * x) ∧ 0 < q * x) := ⟨hp, hq, hx, hy, s1, s2, Nat.mul_pos hq0 hx0⟩
  have SG : Hid (∀ v w, RRt w v x y → Calls Tryz.prog 43 #[v] w fun e w' => e = .returned (.int .i64 1) ∧ Below w.heap.size w w') := fun v w h => rsign2_any v x y w h hx.rfits 1 (by rw [if_neg (by omega)])
  have g34 : Hid (RRt w (.agg #[.slice a3 n3 c3, .slice a4 n4 c4]) x y) := ⟨_, _, _, _, _, _, rfl, g3, g4⟩
  clear g1 g2 g3 g4 hp hq hx hy hq0 hx0 s1 s2 S0 f6 f7
  go_enter Tryz.func44, Tryz.ntmps44
  go_wp2_with fail
  rw [← hw0] at S1
  rw [← hw0]
  obtain ⟨b2, hb2⟩ : ∃ b2, b2 = w.heap.size := ⟨_, rfl⟩
  have HB : Hid (w.heap.size ≤ b2 + 1 + 1) := by show _ ≤ _; omega
  rw [← hb2] at S1 FZ
  rw [← hb2]
  clear hw0 hb2
  refine (SG.out _ _ (g34.out.mono S1.out.bel)).mono ?_
  rintro e w5 ⟨rfl, hb5⟩
  have FZ : Hid (w5.frozen? ⟨b2 + 1 + 1, 0, none⟩ = false ∧ w5.frozen? ⟨b2 + 1 + 1, 1, none⟩ = false) := ⟨(hb5.frozen (World.block_lt_of_cell? _ _ (S1.out.cel (b2 + 1 + 1) 0 (.slice none 0 0)))).trans FZ.out.1, (hb5.frozen (World.block_lt_of_cell? _ _ (S1.out.cel (b2 + 1 + 1) 1 (.slice none 0 0)))).trans FZ.out.2⟩
  have S1 : Hid _ := S1.out.go hb5
  clear hb5 g34 SG
  go_wp2_with fail
  obtain ⟨w0, ew0⟩ : ∃ w0, w0 = w5 := ⟨_, rfl⟩
  rw [← ew0] at S1 FZ
  rw [← ew0]
  clear ew0
  refine wp_region_held_drew (S := fun w9 => w9.cell? ⟨b2, 0, none⟩ = some (.slice a1 n1 c1) ∧ w9.cell? ⟨b2, 1, none⟩ = some (.slice a2 n2 c2) ∧ w9.cell? ⟨b2 + 1, 0, none⟩ = some (.slice a3 n3 c3) ∧ w9.cell? ⟨b2 + 1, 1, none⟩ = some (.slice a4 n4 c4)) (by kernel_rfl) ⟨(S1.out.cel (b2) 0 (.slice a1 n1 c1)), (S1.out.cel (b2) 1 (.slice a2 n2 c2)), (S1.out.cel (b2 + 1) 0 (.slice a3 n3 c3)), (S1.out.cel (b2 + 1) 1 (.slice a4 n4 c4))⟩ (fun hHeld => ?_)
  refine wpAnyH_take (i := 0) (v := .pointer (some ⟨b2, 0, none⟩)) rfl (by kernel_rfl) (by kernel_rfl) (by kernel_rfl) (fun _ _ _ h => h) (Or.inl ⟨by rfl, ?_⟩) (by assumption) ?_
  · intro w hSw
    obtain ⟨g0, g1, g2, g3⟩ := hSw
    go_simp
  refine wpAnyH_take (i := 1) (v := .agg #[.slice a1 n1 c1]) rfl (by kernel_rfl) (by kernel_rfl) (by kernel_rfl) (fun _ _ _ h => h) (Or.inl ⟨by rfl, ?_⟩) (by assumption) ?_
  · intro w hSw
    obtain ⟨g0, g1, g2, g3⟩ := hSw
    go_simp
  refine wpAnyH_take (i := 2) (v := .pointer (some ⟨b2 + 1, 1, none⟩)) rfl (by kernel_rfl) (by kernel_rfl) (by kernel_rfl) (fun _ _ _ h => h) (Or.inl ⟨by rfl, ?_⟩) (by assumption) ?_
  · intro w hSw
    obtain ⟨g0, g1, g2, g3⟩ := hSw
    go_simp
  refine wpAnyH_take (i := 3) (v := .agg #[.slice a4 n4 c4]) rfl (by kernel_rfl) (by kernel_rfl) (by kernel_rfl) (fun _ _ _ h => h) (Or.inl ⟨by rfl, ?_⟩) (by assumption) ?_
  · intro w hSw
    obtain ⟨g0, g1, g2, g3⟩ := hSw
    go_simp
  refine wpAnyH_take (i := 5) (v := .pointer (some ⟨b2, 1, none⟩)) rfl (by kernel_rfl) (by kernel_rfl) (by kernel_rfl) (fun _ _ _ h => h) (Or.inl ⟨by rfl, ?_⟩) (by assumption) ?_
  · intro w hSw
    obtain ⟨g0, g1, g2, g3⟩ := hSw
    go_simp
  refine wpAnyH_take (i := 6) (v := .agg #[.slice a2 n2 c2]) rfl (by kernel_rfl) (by kernel_rfl) (by kernel_rfl) (fun _ _ _ h => h) (Or.inl ⟨by rfl, ?_⟩) (by assumption) ?_
  · intro w hSw
    obtain ⟨g0, g1, g2, g3⟩ := hSw
    go_simp
  refine wpAnyH_take (i := 7) (v := .pointer (some ⟨b2 + 1, 0, none⟩)) rfl (by kernel_rfl) (by kernel_rfl) (by kernel_rfl) (fun _ _ _ h => h) (Or.inl ⟨by rfl, ?_⟩) (by assumption) ?_
  · intro w hSw
    obtain ⟨g0, g1, g2, g3⟩ := hSw
    go_simp
  refine wpAnyH_take (i := 8) (v := .agg #[.slice a3 n3 c3]) rfl (by kernel_rfl) (by kernel_rfl) (by kernel_rfl) (fun _ _ _ h => h) (Or.inl ⟨by rfl, ?_⟩) (by assumption) ?_
  · intro w hSw
    obtain ⟨g0, g1, g2, g3⟩ := hSw
    go_simp
  refine wpAnyH_ready (rs := [4]) (by kernel_rfl) (by simp) ?_
  refine AllReadyH.cons rfl (fun K9 hK9 => ?_) AllReadyH.nil
  go_simp
  refine Calls.mono (rtimes_any _ _ p y _ ((S1.out.rat (.agg #[.slice a1 n1 c1]) p).mono (bel_dr (bel_refl _))) ((S1.out.rat (.agg #[.slice a4 n4 c4]) y).mono (bel_dr (bel_refl _))) HH.out.1.rfits HH.out.2.2.2.1.rfits) ?_
  rintro e w3 ⟨v3, rfl, hv3, hb3⟩
  replace hb3 : Below w0.heap.size w0 w3 := bel_undrew hb3
  have FZ : Hid (w3.frozen? ⟨b2 + 1 + 1, 0, none⟩ = false ∧ w3.frozen? ⟨b2 + 1 + 1, 1, none⟩ = false) := ⟨(hb3.frozen (World.block_lt_of_cell? _ _ (S1.out.cel (b2 + 1 + 1) 0 (.slice none 0 0)))).trans FZ.out.1, (hb3.frozen (World.block_lt_of_cell? _ _ (S1.out.cel (b2 + 1 + 1) 1 (.slice none 0 0)))).trans FZ.out.2⟩
  have S2 : Hid _ := (S1.out.go hb3).addM hv3
  clear hv3 hb3 S1 hHeld
  refine hK9.out _ _ ⟨(S2.out.cel (b2) 0 (.slice a1 n1 c1)), (S2.out.cel (b2) 1 (.slice a2 n2 c2)), (S2.out.cel (b2 + 1) 0 (.slice a3 n3 c3)), (S2.out.cel (b2 + 1) 1 (.slice a4 n4 c4))⟩ (fun hHeld => ?_)
  clear hK9 K9
  refine wpAnyH_ready (rs := [9]) (by kernel_rfl) (by simp) ?_
  refine AllReadyH.cons rfl (fun K9 hK9 => ?_) AllReadyH.nil
  go_simp
  refine Calls.mono (rtimes_any _ _ q x _ (S2.out.rat (.agg #[.slice a2 n2 c2]) q) (S2.out.rat (.agg #[.slice a3 n3 c3]) x) HH.out.2.1.rfits HH.out.2.2.1.rfits) ?_
  rintro e w4 ⟨v4, rfl, hv4, hb4⟩
  have FZ : Hid (w4.frozen? ⟨b2 + 1 + 1, 0, none⟩ = false ∧ w4.frozen? ⟨b2 + 1 + 1, 1, none⟩ = false) := ⟨(hb4.frozen (World.block_lt_of_cell? _ _ (S2.out.cel (b2 + 1 + 1) 0 (.slice none 0 0)))).trans FZ.out.1, (hb4.frozen (World.block_lt_of_cell? _ _ (S2.out.cel (b2 + 1 + 1) 1 (.slice none 0 0)))).trans FZ.out.2⟩
  have S3 : Hid _ := (S2.out.go hb4).addM hv4
  clear hv4 hb4 S2 hHeld
  refine hK9.out _ _ ⟨(S3.out.cel (b2) 0 (.slice a1 n1 c1)), (S3.out.cel (b2) 1 (.slice a2 n2 c2)), (S3.out.cel (b2 + 1) 0 (.slice a3 n3 c3)), (S3.out.cel (b2 + 1) 1 (.slice a4 n4 c4))⟩ (fun hHeld => ?_)
  clear hK9 K9
  refine wpAnyH_ready (rs := [10]) (by kernel_rfl) (by simp) ?_
  refine AllReadyH.cons rfl (fun K9 hK9 => ?_) AllReadyH.nil
  go_simp
  refine Calls.mono (rmade_any v3 v4 (p * y) (q * x) _ (S3.out.rat v3 (p * y)) (S3.out.rat v4 (q * x)) HH.out.2.2.2.2.1 HH.out.2.2.2.2.2.1 HH.out.2.2.2.2.2.2) ?_
  rintro e w6 ⟨v6, rfl, hv6, hb6⟩
  have FZ : Hid (w6.frozen? ⟨b2 + 1 + 1, 0, none⟩ = false ∧ w6.frozen? ⟨b2 + 1 + 1, 1, none⟩ = false) := ⟨(hb6.frozen (World.block_lt_of_cell? _ _ (S3.out.cel (b2 + 1 + 1) 0 (.slice none 0 0)))).trans FZ.out.1, (hb6.frozen (World.block_lt_of_cell? _ _ (S3.out.cel (b2 + 1 + 1) 1 (.slice none 0 0)))).trans FZ.out.2⟩
  have S4 : Hid _ := (S3.out.go hb6).addG hv6
  obtain ⟨a6, n6, c6, a7, n7, c7, ev, _, _⟩ := hv6
  subst ev
  clear hb6 S3 hHeld
  have z0 := S4.out.cel (b2 + 1 + 1) 0 (.slice none 0 0)
  have z1 := S4.out.cel (b2 + 1 + 1) 1 (.slice none 0 0)
  have y0 := FZ.out.1
  have y1 := FZ.out.2
  have t0 := (S4.out.cel (b2) 0 (.slice a1 n1 c1))
  have t1 := (S4.out.cel (b2) 1 (.slice a2 n2 c2))
  have t2 := (S4.out.cel (b2 + 1) 0 (.slice a3 n3 c3))
  have t3 := (S4.out.cel (b2 + 1) 1 (.slice a4 n4 c4))
  refine hK9.out _ _ ⟨t0, t1, t2, t3⟩ (fun hHeld => ?_)
  clear hK9 K9
  refine wpAnyH_ready (rs := [11]) (by kernel_rfl) (by simp) ?_
  refine AllReadyH.cons rfl (fun K9 hK9 => ?_) AllReadyH.nil
  go_simp
  clear hHeld
  refine hK9.out _ _ (by simp [go_sem, *]) (fun hHeld => ?_)
  clear hK9 K9
  refine wpAnyH_take (i := 12) (v := .bool true) rfl (by kernel_rfl) (by kernel_rfl) (by kernel_rfl) (fun _ _ _ h => h) (Or.inl ⟨by rfl, ?_⟩) (by assumption) ?_
  · intro w hSw
    obtain ⟨g0, g1, g2, g3⟩ := hSw
    go_simp
  refine wpAnyH_done (by kernel_rfl) ?_ _
  have Z : Hid _ := rrat_put (w0 := w) (v := .slice a6 n6 c6) (u := .slice a7 n7 c7) z0 z1 (S4.out.rfr (.agg #[.slice a6 n6 c6, .slice a7 n7 c7]) (p * y / Nat.gcd (p * y) (q * x)) (q * x / Nat.gcd (p * y) (q * x))) S4.out.bel HB.out
  clear S4 FZ t0 t1 t2 t3
  go_wp2_with fail
  exact bodyPost_ret (v := .tuple #[.agg #[.slice a6 n6 c6, .slice a7 n7 c7], .bool true]) (by simp [results, Tryz.results44, go_sem, z0, z1]) rfl ⟨_, rfl, Z.out.1, Z.out.2⟩
end Go.Proofs.YtdmkneojhnhomaaGreatDoor
namespace Go.Proofs.YtdmkneojhnhomaaGreatDoor
open Go.RowKit
set_option maxRecDepth 100000
set_option linter.unusedVariables false
set_option maxHeartbeats 8000000 in
theorem rmulInt2_yes (v : Value) (p q k : Nat) (w : World) (h : RRt w v p q) (hp : RS p) (hq : RS q) (hk : k ≤ 9223372036854775807) (hq0 : 0 < q) :
    Calls Tryz.prog 23 #[v, .int .i64 (k : Int)] w (MakesRRB w (p * k / Nat.gcd (p * k) (q * 1)) (q * 1 / Nat.gcd (p * k) (q * 1)) true) := by
  obtain ⟨a1, n1, c1, a2, n2, c2, e0, g1, g2⟩ := h
  subst e0
  have S1 : Hid _ := ((((sx_start w).addG (v := .agg #[.slice a1 n1 c1, .slice a2 n2 c2]) (x := p) (y := q) ⟨_, _, _, _, _, _, rfl, g1, g2⟩).box (.slice a1 n1 c1) (.slice a2 n2 c2) 35 _ rfl).box (.slice none 0 0) (.slice none 0 0) 35 _ rfl)
  simp only [World.size_alloc] at S1
  obtain ⟨w0, hw0⟩ : ∃ w0, w0 = (w.alloc (.cells #[.slice a1 n1 c1, .slice a2 n2 c2] 35)).alloc (.cells #[.slice none 0 0, .slice none 0 0] 35) := ⟨_, rfl⟩
  have f6 : w0.frozen? ⟨w.heap.size + 1, 0, none⟩ = false := by rw [hw0]; simp [go_sem]
  have f7 : w0.frozen? ⟨w.heap.size + 1, 1, none⟩ = false := by rw [hw0]; simp [go_sem]
  have FZ : Hid _ := And.intro f6 f7
  have hk2 : RS k := rs_word (by omega)
  have h1 : RS 1 := rs_word (by omega)
  have HH : Hid (RS p ∧ RS q ∧ RS k ∧ RS 1 ∧ 0 < q ∧ k < 18446744073709551616) := ⟨hp, hq, hk2, h1, hq0, by omega⟩
  have d1 : decide ((k : Int) < 0) = false := decide_eq_false (by omega)
  have m1 : IntKind.u64.wrap (k : Int) = (k : Int) := by rw [IntKind.wrap_u64]; omega
  clear g1 g2 hp hq hq0 hk2 h1 f6 f7
  go_enter Tryz.func23, Tryz.ntmps23
  go_wp2_with fail
  rw [← hw0] at S1
  rw [← hw0]
  obtain ⟨b2, hb2⟩ : ∃ b2, b2 = w.heap.size := ⟨_, rfl⟩
  have HB : Hid (w.heap.size ≤ b2 + 1) := by show _ ≤ _; omega
  rw [← hb2] at S1 FZ
  rw [← hb2]
  clear hw0 hb2
  refine wp_region_held_drew (S := fun w9 => w9.cell? ⟨b2, 0, none⟩ = some (.slice a1 n1 c1) ∧ w9.cell? ⟨b2, 1, none⟩ = some (.slice a2 n2 c2)) (by kernel_rfl) ⟨(S1.out.cel (b2) 0 (.slice a1 n1 c1)), (S1.out.cel (b2) 1 (.slice a2 n2 c2))⟩ (fun hHeld => ?_)
  refine wpAnyH_take (i := 0) (v := .agg #[.slice a1 n1 c1, .slice a2 n2 c2]) rfl (by kernel_rfl) (by kernel_rfl) (by kernel_rfl) (fun _ _ _ h => h) (Or.inl ⟨by rfl, ?_⟩) (by assumption) ?_
  · intro w hSw
    obtain ⟨g0, g1⟩ := hSw
    go_simp
  refine wpAnyH_take (i := 1) (v := .int .i64 (k : Int)) rfl (by kernel_rfl) (by kernel_rfl) (by kernel_rfl) (fun _ _ _ h => h) (Or.inl ⟨by rfl, ?_⟩) (by assumption) ?_
  · intro w hSw
    obtain ⟨g0, g1⟩ := hSw
    go_simp
  refine wpAnyH_take (i := 2) (v := .int .u64 (k : Int)) rfl (by kernel_rfl) (by kernel_rfl) (by kernel_rfl) (fun _ _ _ h => h) (Or.inl ⟨by rfl, ?_⟩) (by assumption) ?_
  · intro w hSw
    obtain ⟨g0, g1⟩ := hSw
    go_simp
  refine wpAnyH_ready (rs := [3]) (by kernel_rfl) (by simp) ?_
  refine AllReadyH.cons rfl (fun K9 hK9 => ?_) AllReadyH.nil
  go_simp
  refine Calls.mono (rwhole_any k _ HH.out.2.2.2.2.2) ?_
  rintro e w3 ⟨v3, rfl, hv3, hb3⟩
  replace hb3 : Below w0.heap.size w0 w3 := bel_undrew hb3
  have FZ : Hid (w3.frozen? ⟨b2 + 1, 0, none⟩ = false ∧ w3.frozen? ⟨b2 + 1, 1, none⟩ = false) := ⟨(hb3.frozen (World.block_lt_of_cell? _ _ (S1.out.cel (b2 + 1) 0 (.slice none 0 0)))).trans FZ.out.1, (hb3.frozen (World.block_lt_of_cell? _ _ (S1.out.cel (b2 + 1) 1 (.slice none 0 0)))).trans FZ.out.2⟩
  have S2 : Hid _ := (S1.out.go hb3).addG hv3
  clear hv3 hb3 S1 hHeld
  refine hK9.out _ _ ⟨(S2.out.cel (b2) 0 (.slice a1 n1 c1)), (S2.out.cel (b2) 1 (.slice a2 n2 c2))⟩ (fun hHeld => ?_)
  clear hK9 K9
  refine wpAnyH_ready (rs := [4]) (by kernel_rfl) (by simp) ?_
  refine AllReadyH.cons rfl (fun K9 hK9 => ?_) AllReadyH.nil
  go_simp
  refine Calls.mono (rmul2_any _ v3 p q k 1 _ (S2.out.rfr (.agg #[.slice a1 n1 c1, .slice a2 n2 c2]) p q) (S2.out.rfr v3 k 1) HH.out.1 HH.out.2.1 HH.out.2.2.1 HH.out.2.2.2.1 HH.out.2.2.2.2.1 (by omega)) ?_
  rintro e w6 ⟨v6, rfl, hv6, hb6⟩
  have FZ : Hid (w6.frozen? ⟨b2 + 1, 0, none⟩ = false ∧ w6.frozen? ⟨b2 + 1, 1, none⟩ = false) := ⟨(hb6.frozen (World.block_lt_of_cell? _ _ (S2.out.cel (b2 + 1) 0 (.slice none 0 0)))).trans FZ.out.1, (hb6.frozen (World.block_lt_of_cell? _ _ (S2.out.cel (b2 + 1) 1 (.slice none 0 0)))).trans FZ.out.2⟩
  have S4 : Hid _ := (S2.out.go hb6).addG hv6
  obtain ⟨a6, n6, c6, a7, n7, c7, ev, _, _⟩ := hv6
  subst ev
  clear hb6 S2 hHeld
  have z0 := S4.out.cel (b2 + 1) 0 (.slice none 0 0)
  have z1 := S4.out.cel (b2 + 1) 1 (.slice none 0 0)
  have y0 := FZ.out.1
  have y1 := FZ.out.2
  have t0 := (S4.out.cel (b2) 0 (.slice a1 n1 c1))
  have t1 := (S4.out.cel (b2) 1 (.slice a2 n2 c2))
  refine hK9.out _ _ ⟨t0, t1⟩ (fun hHeld => ?_)
  clear hK9 K9
  refine wpAnyH_ready (rs := [5]) (by kernel_rfl) (by simp) ?_
  refine AllReadyH.cons rfl (fun K9 hK9 => ?_) AllReadyH.nil
  go_simp
  clear hHeld
  refine hK9.out _ _ (by simp [go_sem, *]) (fun hHeld => ?_)
  clear hK9 K9
  refine wpAnyH_take (i := 6) (v := .bool true) rfl (by kernel_rfl) (by kernel_rfl) (by kernel_rfl) (fun _ _ _ h => h) (Or.inl ⟨by rfl, ?_⟩) (by assumption) ?_
  · intro w hSw
    obtain ⟨g0, g1⟩ := hSw
    go_simp
  refine wpAnyH_done (by kernel_rfl) ?_ _
  have Z : Hid _ := rrat_put (w0 := w) (v := .slice a6 n6 c6) (u := .slice a7 n7 c7) z0 z1 (S4.out.rfr (.agg #[.slice a6 n6 c6, .slice a7 n7 c7]) (p * k / Nat.gcd (p * k) (q * 1)) (q * 1 / Nat.gcd (p * k) (q * 1))) S4.out.bel HB.out
  clear S4 FZ t0 t1
  go_wp2_with fail
  exact bodyPost_ret (v := .tuple #[.agg #[.slice a6 n6 c6, .slice a7 n7 c7], .bool true]) (by simp [results, Tryz.results23, go_sem, z0, z1]) rfl ⟨_, rfl, Z.out.1, Z.out.2⟩
set_option maxHeartbeats 8000000 in
theorem rdivInt2_yes (v : Value) (p q k : Nat) (w : World) (h : RRt w v p q) (hp : RS p) (hq : RS q) (hk : k ≤ 9223372036854775807) (hq0 : 0 < q) (hk0 : 0 < k) :
    Calls Tryz.prog 22 #[v, .int .i64 (k : Int)] w (MakesRRB w (p * 1 / Nat.gcd (p * 1) (q * k)) (q * k / Nat.gcd (p * 1) (q * k)) true) := by
  obtain ⟨a1, n1, c1, a2, n2, c2, e0, g1, g2⟩ := h
  subst e0
  have S1 : Hid _ := ((((sx_start w).addG (v := .agg #[.slice a1 n1 c1, .slice a2 n2 c2]) (x := p) (y := q) ⟨_, _, _, _, _, _, rfl, g1, g2⟩).box (.slice a1 n1 c1) (.slice a2 n2 c2) 35 _ rfl).box (.slice none 0 0) (.slice none 0 0) 35 _ rfl)
  simp only [World.size_alloc] at S1
  obtain ⟨w0, hw0⟩ : ∃ w0, w0 = (w.alloc (.cells #[.slice a1 n1 c1, .slice a2 n2 c2] 35)).alloc (.cells #[.slice none 0 0, .slice none 0 0] 35) := ⟨_, rfl⟩
  have f6 : w0.frozen? ⟨w.heap.size + 1, 0, none⟩ = false := by rw [hw0]; simp [go_sem]
  have f7 : w0.frozen? ⟨w.heap.size + 1, 1, none⟩ = false := by rw [hw0]; simp [go_sem]
  have FZ : Hid _ := And.intro f6 f7
  have hk2 : RS k := rs_word (by omega)
  have h1 : RS 1 := rs_word (by omega)
  have HH : Hid (RS p ∧ RS q ∧ RS k ∧ RS 1 ∧ 0 < q ∧ k < 18446744073709551616 ∧ 0 < k) := ⟨hp, hq, hk2, h1, hq0, by omega, hk0⟩
  have d1 : decide ((k : Int) < 1) = false := decide_eq_false (by omega)
  have m1 : IntKind.u64.wrap (k : Int) = (k : Int) := by rw [IntKind.wrap_u64]; omega
  clear g1 g2 hp hq hq0 hk2 h1 f6 f7 hk0
  go_enter Tryz.func22, Tryz.ntmps22
  go_wp2_with fail
  rw [← hw0] at S1
  rw [← hw0]
  obtain ⟨b2, hb2⟩ : ∃ b2, b2 = w.heap.size := ⟨_, rfl⟩
  have HB : Hid (w.heap.size ≤ b2 + 1) := by show _ ≤ _; omega
  rw [← hb2] at S1 FZ
  rw [← hb2]
  clear hw0 hb2
  refine wp_region_held_drew (S := fun w9 => w9.cell? ⟨b2, 0, none⟩ = some (.slice a1 n1 c1) ∧ w9.cell? ⟨b2, 1, none⟩ = some (.slice a2 n2 c2)) (by kernel_rfl) ⟨(S1.out.cel (b2) 0 (.slice a1 n1 c1)), (S1.out.cel (b2) 1 (.slice a2 n2 c2))⟩ (fun hHeld => ?_)
  refine wpAnyH_take (i := 0) (v := .agg #[.slice a1 n1 c1, .slice a2 n2 c2]) rfl (by kernel_rfl) (by kernel_rfl) (by kernel_rfl) (fun _ _ _ h => h) (Or.inl ⟨by rfl, ?_⟩) (by assumption) ?_
  · intro w hSw
    obtain ⟨g0, g1⟩ := hSw
    go_simp
  refine wpAnyH_take (i := 1) (v := .int .i64 (k : Int)) rfl (by kernel_rfl) (by kernel_rfl) (by kernel_rfl) (fun _ _ _ h => h) (Or.inl ⟨by rfl, ?_⟩) (by assumption) ?_
  · intro w hSw
    obtain ⟨g0, g1⟩ := hSw
    go_simp
  refine wpAnyH_take (i := 2) (v := .int .u64 (k : Int)) rfl (by kernel_rfl) (by kernel_rfl) (by kernel_rfl) (fun _ _ _ h => h) (Or.inl ⟨by rfl, ?_⟩) (by assumption) ?_
  · intro w hSw
    obtain ⟨g0, g1⟩ := hSw
    go_simp
  refine wpAnyH_ready (rs := [3]) (by kernel_rfl) (by simp) ?_
  refine AllReadyH.cons rfl (fun K9 hK9 => ?_) AllReadyH.nil
  go_simp
  refine Calls.mono (rwhole_any k _ HH.out.2.2.2.2.2.1) ?_
  rintro e w3 ⟨v3, rfl, hv3, hb3⟩
  replace hb3 : Below w0.heap.size w0 w3 := bel_undrew hb3
  have FZ : Hid (w3.frozen? ⟨b2 + 1, 0, none⟩ = false ∧ w3.frozen? ⟨b2 + 1, 1, none⟩ = false) := ⟨(hb3.frozen (World.block_lt_of_cell? _ _ (S1.out.cel (b2 + 1) 0 (.slice none 0 0)))).trans FZ.out.1, (hb3.frozen (World.block_lt_of_cell? _ _ (S1.out.cel (b2 + 1) 1 (.slice none 0 0)))).trans FZ.out.2⟩
  have S2 : Hid _ := (S1.out.go hb3).addG hv3
  clear hv3 hb3 S1 hHeld
  refine hK9.out _ _ ⟨(S2.out.cel (b2) 0 (.slice a1 n1 c1)), (S2.out.cel (b2) 1 (.slice a2 n2 c2))⟩ (fun hHeld => ?_)
  clear hK9 K9
  refine wpAnyH_ready (rs := [4]) (by kernel_rfl) (by simp) ?_
  refine AllReadyH.cons rfl (fun K9 hK9 => ?_) AllReadyH.nil
  go_simp
  refine Calls.mono (rdiv2_yes _ v3 p q k 1 _ (S2.out.rfr (.agg #[.slice a1 n1 c1, .slice a2 n2 c2]) p q) (S2.out.rfr v3 k 1) HH.out.1 HH.out.2.1 HH.out.2.2.1 HH.out.2.2.2.1 HH.out.2.2.2.2.1 HH.out.2.2.2.2.2.2) ?_
  rintro e w6 ⟨v6, rfl, hv6, hb6⟩
  have FZ : Hid (w6.frozen? ⟨b2 + 1, 0, none⟩ = false ∧ w6.frozen? ⟨b2 + 1, 1, none⟩ = false) := ⟨(hb6.frozen (World.block_lt_of_cell? _ _ (S2.out.cel (b2 + 1) 0 (.slice none 0 0)))).trans FZ.out.1, (hb6.frozen (World.block_lt_of_cell? _ _ (S2.out.cel (b2 + 1) 1 (.slice none 0 0)))).trans FZ.out.2⟩
  have S4 : Hid _ := (S2.out.go hb6).addG hv6
  obtain ⟨a6, n6, c6, a7, n7, c7, ev, _, _⟩ := hv6
  subst ev
  clear hb6 S2 hHeld
  have z0 := S4.out.cel (b2 + 1) 0 (.slice none 0 0)
  have z1 := S4.out.cel (b2 + 1) 1 (.slice none 0 0)
  have y0 := FZ.out.1
  have y1 := FZ.out.2
  have t0 := (S4.out.cel (b2) 0 (.slice a1 n1 c1))
  have t1 := (S4.out.cel (b2) 1 (.slice a2 n2 c2))
  refine hK9.out _ _ ⟨t0, t1⟩ (fun hHeld => ?_)
  clear hK9 K9
  refine wpAnyH_take (i := 5) (v := .agg #[.slice a6 n6 c6, .slice a7 n7 c7]) rfl (by kernel_rfl) (by kernel_rfl) (by kernel_rfl) (fun _ _ _ h => h) (Or.inl ⟨by rfl, ?_⟩) (by assumption) ?_
  · intro w hSw
    obtain ⟨g0, g1⟩ := hSw
    go_simp
  refine wpAnyH_take (i := 6) (v := .bool true) rfl (by kernel_rfl) (by kernel_rfl) (by kernel_rfl) (fun _ _ _ h => h) (Or.inl ⟨by rfl, ?_⟩) (by assumption) ?_
  · intro w hSw
    obtain ⟨g0, g1⟩ := hSw
    go_simp
  refine wpAnyH_ready (rs := [7]) (by kernel_rfl) (by simp) ?_
  refine AllReadyH.cons rfl (fun K9 hK9 => ?_) AllReadyH.nil
  go_simp
  clear hHeld
  refine hK9.out _ _ (by simp [go_sem, *]) (fun hHeld => ?_)
  clear hK9 K9
  refine wpAnyH_take (i := 8) (v := .bool true) rfl (by kernel_rfl) (by kernel_rfl) (by kernel_rfl) (fun _ _ _ h => h) (Or.inl ⟨by rfl, ?_⟩) (by assumption) ?_
  · intro w hSw
    obtain ⟨g0, g1⟩ := hSw
    go_simp
  refine wpAnyH_done (by kernel_rfl) ?_ _
  have Z : Hid _ := rrat_put (w0 := w) (v := .slice a6 n6 c6) (u := .slice a7 n7 c7) z0 z1 (S4.out.rfr (.agg #[.slice a6 n6 c6, .slice a7 n7 c7]) (p * 1 / Nat.gcd (p * 1) (q * k)) (q * k / Nat.gcd (p * 1) (q * k))) S4.out.bel HB.out
  clear S4 FZ t0 t1
  go_wp2_with fail
  exact bodyPost_ret (v := .tuple #[.agg #[.slice a6 n6 c6, .slice a7 n7 c7], .bool true]) (by simp [results, Tryz.results22, go_sem, z0, z1]) rfl ⟨_, rfl, Z.out.1, Z.out.2⟩
/-- By their values. -/
theorem Fc.rmulInt {p q N D n k : Nat} (h : Fc p q N D n) (hn : n ≤ 80) (hk : k ≤ 9223372036854775807) : ∃ A B, Fc A B (N * k) D (n + 1) ∧ ∀ v w, RRt w v p q → Calls Tryz.prog 23 #[v, .int .i64 (k : Int)] w (MakesRRB w A B true) := by
  have kk : Fc k 1 k 1 1 := ⟨Nat.gcd_one_right _, by omega, by omega, rfl, by rw [P_one]; omega, by rw [P_one]; omega⟩
  have low := low_terms (p * k) (q * 1) (by rw [Nat.mul_one]; exact h.pos)
  have s1 : p * k < P (n + 1) := mulP_lt h.s1 kk.s1
  have s2 : q * 1 < P (n + 1) := mulP_lt h.s2 kk.s2
  have vv := val_mul h.pos kk.pos h.val kk.val low.2.1
  rw [Nat.mul_one D] at vv
  exact ⟨_, _, ⟨low.1, low.2.2, h.dpos, vv, Nat.lt_of_le_of_lt (Nat.div_le_self _ _) s1, Nat.lt_of_le_of_lt (Nat.div_le_self _ _) s2⟩, fun v w e => rmulInt2_yes v p q k w e (h.rs1 (by omega)) (h.rs2 (by omega)) hk h.pos⟩
theorem Fc.rdivInt {p q N D n k : Nat} (h : Fc p q N D n) (hn : n ≤ 80) (hk : k ≤ 9223372036854775807) (hk0 : 0 < k) : ∃ A B, Fc A B N (D * k) (n + 1) ∧ ∀ v w, RRt w v p q → Calls Tryz.prog 22 #[v, .int .i64 (k : Int)] w (MakesRRB w A B true) := by
  have kk : Fc 1 k 1 k 1 := ⟨Nat.gcd_one_left _, by omega, by omega, rfl, by rw [P_one]; omega, by rw [P_one]; omega⟩
  have low := low_terms (p * 1) (q * k) (Nat.mul_pos h.pos hk0)
  have s1 : p * 1 < P (n + 1) := mulP_lt h.s1 kk.s1
  have s2 : q * k < P (n + 1) := mulP_lt h.s2 kk.s2
  have vv := val_mul h.pos kk.pos h.val kk.val low.2.1
  rw [Nat.mul_one N] at vv
  exact ⟨_, _, ⟨low.1, low.2.2, Nat.mul_pos h.dpos hk0, vv, Nat.lt_of_le_of_lt (Nat.div_le_self _ _) s1, Nat.lt_of_le_of_lt (Nat.div_le_self _ _) s2⟩, fun v w e => rdivInt2_yes v p q k w e (h.rs1 (by omega)) (h.rs2 (by omega)) hk h.pos hk0⟩
end Go.Proofs.YtdmkneojhnhomaaGreatDoor
namespace Go.Proofs.YtdmkneojhnhomaaGreatDoor
open Go.RowKit
set_option maxRecDepth 100000
set_option linter.unusedVariables false
/-- i digits of a difference are made, c is borrowed. -/
structure Mi (w0 wr : World) (v : Value) (F : Nat → Nat) (G : Nat → Nat) (m i c : Nat) (H : Nat → Nat) : Prop where
  own : OR wr 22 w0.heap.size v i (wd H)
  dg : Dg H i
  sum : U H i + U (cutU G m 0) i = U F i + c * B i
  car : c ≤ 1
  bel : Below w0.heap.size w0 wr
theorem mi_sum {F c b G f g s U1 : Nat} (hs : s + g + c = 4294967296 + f) (hl : s < 8589934592) (e : U1 + G = F + c * b) : U1 + s % 4294967296 * b + (G + g * b) = F + f * b + (1 - s / 4294967296) * (b * 4294967296) := by
  have h2 : (s + g + c) * b = (4294967296 + f) * b := by rw [hs]
  rcases Nat.lt_or_ge s 4294967296 with h | h
  · rw [Nat.mod_eq_of_lt h, Nat.div_eq_of_lt h]
    grind
  · obtain ⟨z, rfl⟩ : ∃ z, s = 4294967296 + z := ⟨s - 4294967296, by omega⟩
    rw [show (4294967296 + z) % 4294967296 = z by omega, show (4294967296 + z) / 4294967296 = 1 by omega]
    grind
theorem Mi.step {w0 wr w2 : World} {v v2 : Value} {F G H : Nat → Nat} {m i c g : Nat} (h : Mi w0 wr v F G m i c H) (hg : g = cutU G m 0 i) (lf : F i < 4294967296) (lg : g < 4294967296)
    (ho : OR w2 22 w0.heap.size v2 (i + 1) (fun j => if j = i then .int .u64 (((4294967296 + F i - g - c : Nat) : Int) % 4294967296) else wd H j)) (hb : Below w0.heap.size w0 w2) :
    Mi w0 w2 v2 F G m (i + 1) (1 - (4294967296 + F i - g - c) / 4294967296) (put H i ((4294967296 + F i - g - c) % 4294967296)) := by
  have hc := h.car
  refine ⟨OR.congr ho fun j hj => ?_, fun j hj => ?_, ?_, by omega, hb⟩
  · unfold wd put
    split
    · congr 1
    · rfl
  · unfold put
    split
    · exact Nat.mod_lt _ (by decide)
    · exact h.dg j (by omega)
  · rw [U_succ, U_succ, U_succ, put_same, U_congr (F := put H i _) (G := H) fun j hj => put_other _ _ (by omega), ← hg, B_succ]
    exact mi_sum (by omega) (by omega) h.sum
theorem Mi.done {w0 wr : World} {v : Value} {F G H : Nat → Nat} {n m c : Nat} (h : Mi w0 wr v F G m n c H) (hm : m ≤ n) (dF : Dg F n) (hle : U G m ≤ U F n) : U H n = U F n - U G m := by
  have h1 := h.sum
  rw [U_cut hm] at h1
  have h2 := U_lt h.dg
  have h5 : c = 0 ∨ c = 1 := by have := h.car; omega
  rcases h5 with rfl | rfl <;> omega
set_option maxHeartbeats 2000000 in
theorem rminus_any (v u : Value) (x y : Nat) (w : World) (h : RNat w v x) (k : RNat w u y) (hx : RFits x) (hle : y ≤ x) :
    Calls Tryz.prog 72 #[v, u] w (RMakes w (x - y)) := by
  obtain ⟨ax, n, cap, rfl⟩ := h.isAgg
  obtain ⟨ay, m, cap', rfl⟩ := k.isAgg
  obtain ⟨F, hs, hd, h1, hv⟩ := h.open
  obtain ⟨G, ks, kd, k1, kv⟩ := k.open
  have hn : n ≤ 4294967296 := rfits_len (hv.symm ▸ hx) h1
  have hm : m ≤ n := by
    refine U_len_le (m := n) ?_ k1
    rw [kv]
    exact Nat.lt_of_le_of_lt hle (hv ▸ U_lt hd)
  have hle' : U G m ≤ U F n := by rw [kv, hv]; exact hle
  have hm3 : m ≤ 4294967296 := by omega
  have HH : Hid (Sl w ax n cap F ∧ Dg F n ∧ U F n = x ∧ Sl w ay m cap' G ∧ Dg G m ∧ U G m = y ∧ U G m ≤ U F n) := ⟨hs, hd, hv, ks, kd, kv, hle'⟩
  clear hs hd h1 hv ks kd k1 kv h k hx hle hle'
  have HB : Hid (Below w.heap.size w (((w.alloc (.cells #[.slice ax n cap] 33)).alloc (.cells #[.slice ay m cap'] 33)).alloc (.cells #[.slice none 0 0] 33))) := (bel_alloc2 _ _ _).alloc (by simp <;> omega) _
  go_enter Tryz.func72, Tryz.ntmps72
  go_wp2_with fail
  obtain ⟨w0, hw0⟩ : ∃ w0, w0 = ((w.alloc (.cells #[.slice ax n cap] 33)).alloc (.cells #[.slice ay m cap'] 33)).alloc (.cells #[.slice none 0 0] 33) := ⟨_, rfl⟩
  have c1 : w0.cell? ⟨w.heap.size, 0, none⟩ = some (.slice ax n cap) := by rw [hw0]; simp [go_sem]
  have c2 : w0.cell? ⟨w.heap.size + 1, 0, none⟩ = some (.slice ay m cap') := by rw [hw0]; simp [go_sem]
  have c3 : w0.cell? ⟨w.heap.size + 1 + 1, 0, none⟩ = some (.slice none 0 0) := by rw [hw0]; simp [go_sem]
  have f3 : w0.frozen? ⟨w.heap.size + 1 + 1, 0, none⟩ = false := by rw [hw0]; simp [go_sem]
  rw [← hw0] at HB ⊢
  clear hw0
  have CC : Hid _ := And.intro c1 (And.intro c2 (And.intro c3 f3))
  clear c1 c2 c3 f3
  go_loopw [5, 6, 7] (fun l q t wr => ∃ (i c : Nat) (H : Nat → Nat), i ≤ n ∧ t = .int .i64 (i : Int) ∧ q = .int .u64 (c : Int) ∧ Hid (Mi w0 wr l F G m i c H) ∧ Hid (i = 0 → l = .slice none 0 0)) (fun _ _ t _ => n - (intOf t).toNat)
  case atStart => exact ⟨0, 0, fun _ => 0, by omega, rfl, rfl, ⟨OR.nil _ _ _ _, fun i hi => absurd hi (by omega), by simp [U_zero], by omega, Below.refl _ _⟩, fun _ => rfl⟩
  case round =>
    obtain ⟨i, c, H, hi, rfl, rfl, hP, HZ⟩ := hrel
    have d1 := cell_later hP.out.bel CC.out.1
    have d2 := cell_later hP.out.bel CC.out.2.1
    by_cases him : i < n
    · have him' : (i : Int) < n := by omega
      have hc1 := hP.out.car
      have hf := HH.out.2.1 i him
      have hg := dg_cut HH.out.2.2.2.2.1 i
      obtain ⟨g, eg⟩ : ∃ g, g = cutU G m 0 i := ⟨_, rfl⟩
      have EG : Hid (g = cutU G m 0 i) := eg
      rw [← eg] at hg
      clear eg
      obtain ⟨b, o, rfl, hw⟩ := HH.out.1.at i him
      have e1 : wr.cell? ⟨b, o + i, none⟩ = some (.int .u64 (F i : Nat)) := cell_later (bel_go HB.out hP.out.bel) (hw i him)
      obtain ⟨f, ef⟩ : ∃ f, f = F i := ⟨_, rfl⟩
      have EF : Hid (f = F i) := ef
      rw [← ef] at hf e1
      clear ef hw
      have r1 : IntKind.u64.wrap (4294967296 + (f : Int)) = 4294967296 + (f : Int) := by rw [IntKind.wrap_u64]; omega
      have r2 : IntKind.u64.wrap (4294967296 + (f : Int) - (g : Int)) = 4294967296 + (f : Int) - (g : Int) := by rw [IntKind.wrap_u64]; omega
      have r3 : IntKind.u64.wrap (4294967296 + (f : Int) - (g : Int) - (c : Int)) = ((4294967296 + f - g - c : Nat) : Int) := by rw [IntKind.wrap_u64]; omega
      have DG : Hid (∀ k, Calls Tryz.prog 56 #[.slice ay m cap', .int .i64 (i : Int)] (wr.drewN k) fun e w' => e = .returned (.int .u64 (g : Int)) ∧ w' = wr.drewN k) := fun k => by
        rw [EG.out]
        exact rdigit_any _ _ _ G i _ (HH.out.2.2.2.1.mono (bel_drewN (bel_go HB.out hP.out.bel) k)) (by omega)
      go_wp2_with fail
      go_quiet ((go_at_call 56; exact Calls.quiet_of_same (DG.out _)))
      obtain ⟨s, hs⟩ : ∃ s, s = 4294967296 + f - g - c := ⟨_, rfl⟩
      have hsl : s < 8589934592 := by omega
      have ES : Hid (s = 4294967296 + f - g - c) := hs
      rw [← hs]
      clear hs r1 r2 r3
      have r4 : IntKind.u64.wrap (1 - (s : Int) / 4294967296) = ((1 - s / 4294967296 : Nat) : Int) := by rw [IntKind.wrap_u64]; omega
      have OW : Hid _ := hP.out.own.below (bel_al (bel_drewN (bel_refl wr) nq) (o := .cells #[.int .u64 ((s : Int) % 4294967296)] 22))
      have CE : Hid (((wr.drewN nq).alloc (.cells #[.int .u64 ((s : Int) % 4294967296)] 22)).cell? ⟨wr.heap.size, 0, none⟩ = some (.int .u64 ((s : Int) % 4294967296))) := cell_new (wr.drewN nq) _ _
      have SZ : Hid (w0.heap.size ≤ ((wr.drewN nq).alloc (.cells #[.int .u64 ((s : Int) % 4294967296)] 22)).heap.size) := Nat.le_trans hP.out.bel.size (bel_al (bel_drewN (bel_refl wr) nq)).size
      have hs7 : w0.heap.size ≤ wr.heap.size := hP.out.bel.size
      go_wp2_with (refine (id ?_ : wpList Tryz.prog _ _ (⟨some 33, _, _, _, _, _⟩ :: _) _ _); refine hold ?_)
      intro _
      refine wpList_append_one rfl (.tmp 29) (.tmp 32) 31 rfl 22 (.int .u64 0) 8 Tryz.underlying31 Tryz.info22b rfl (by omega) w0.heap.size _ i (wd H) rfl OW.out _ _ rfl _ CE.out rfl (by omega) SZ.out ?_
      intro g2 cap2 w2 ho hg2 _ _
      rw [ES.out, EF.out] at ho
      have S : Hid _ := hP.out.step EG.out (EF.out ▸ hf) hg ho (((bel_drewN hP.out.bel nq).alloc hs7 _).grown hg2 SZ.out hP.out.own.blk)
      rw [← EF.out, ← ES.out] at S
      clear ho hg2 OW
      go_wp2_with fail
      go_roundw
      case rel => exact ⟨i + 1, _, _, by omega, by go_num, by go_num, S.out, fun e => absurd e (by omega)⟩
      case measure => simp [intOf]; omega
    · obtain rfl : i = n := by omega
      have B0 : Hid (Below w.heap.size w wr) := bel_go HB.out hP.out.bel
      obtain ⟨a, cap1, rfl, hsl⟩ := hP.out.own.sl (fun j hj => by have := hP.out.dg j hj; omega)
      have hcr : wr.cell? ⟨w.heap.size + 1 + 1, 0, none⟩ = some (.slice none 0 0) := cell_later hP.out.bel CC.out.2.2.1
      have hfr : wr.frozen? ⟨w.heap.size + 1 + 1, 0, none⟩ = false := (hP.out.bel.frozen (World.block_lt_of_cell? _ _ CC.out.2.2.1)).trans CC.out.2.2.2
      have HS : Hid (Sl wr a i cap1 H) := hsl
      have H0 : Hid (i = 0 → a = none ∧ cap1 = 0) := fun e => by
        have := HZ.out e
        cases this
        exact ⟨rfl, rfl⟩
      clear hsl
      go_wp2_with fail
      refine (rtrimmed_any _ i _ H wr HS.out hP.out.dg (by omega) H0.out).mono ?_
      rintro e w3 ⟨v3, rfl, hv3, hb3⟩
      rw [hP.out.done hm HH.out.2.1 HH.out.2.2.2.2.2.2, HH.out.2.2.1, HH.out.2.2.2.2.2.1] at hv3
      have hcr3 : w3.cell? ⟨w.heap.size + 1 + 1, 0, none⟩ = some (.slice none 0 0) := cell_later hb3 hcr
      have hfr3 : w3.frozen? ⟨w.heap.size + 1 + 1, 0, none⟩ = false := (hb3.frozen (World.block_lt_of_cell? _ _ hcr)).trans hfr
      obtain ⟨a3, n3, cap3, rfl⟩ := hv3.isAgg
      have HV3 : Hid (RNat w3 (.agg #[.slice a3 n3 cap3]) (x - y)) := hv3
      have B3 : Hid (Below w.heap.size w w3) := bel_go B0.out hb3
      clear hv3 hb3 hcr hfr
      go_wp2_with fail
      refine bodyPost_ret (v := .agg #[.slice a3 n3 cap3]) (by simp [results, Tryz.results72, go_sem, hcr3]) rfl ⟨_, rfl, ?_, B3.out.setCell (by show _ ≤ _ + 1 + 1; omega) _⟩
      exact HV3.out.setCell (no_int_slice hcr3) _
end Go.Proofs.YtdmkneojhnhomaaGreatDoor
