/- Contracts of the program's functions, part 22: own work, joined in build order. -/
import Derived.Test.YthogfecnbddfoaaGreatDoorJ21
import Derived.Deep.Cut
import Derived.Deep.CutRange
namespace Go.Proofs.YthogfecnbddfoaaGreatDoor
open Go.RowKit
set_option maxRecDepth 100000
set_option linter.unusedVariables false
theorem whole_fc {x n : Nat} (h : x < P n) (h1 : 1 ≤ n) : Fc x 1 x 1 n := Fc.own (Nat.gcd_one_right _) (by omega) h (Nat.lt_of_lt_of_le (show 1 < P 1 by rw [P_one]; omega) (P_le h1))
theorem word_P {x : Nat} (h : x < 18446744073709551616) : x < P 1 := by rw [P_one]; exact h
theorem cmpI_leJ {a b : Nat} (h : a ≤ b) : cmpI a b ≤ 0 := by
  unfold cmpI
  split
  · omega
  · split <;> omega
/-- What is read of the lists. -/
structure Rd (W0 W : World) (rb gt gn c R D : Nat) (a1 : Option Addr) (n1 c1 : Nat) (d1 : Option Addr) (m1 g1 : Nat) (τ ν : Nat → Nat) : Prop where
  sy : SY W0 W [] [] [] [(.agg #[.slice a1 n1 c1, .slice d1 m1 g1], R, D)] [(rb, 0, .slice a1 n1 c1), (rb, 1, .slice d1 m1 g1)] []
  ts : ∀ j, j < c → W.cell? ⟨gt, j, none⟩ = some (.int .i64 ((τ j : Nat) : Int))
  ns : ∀ j, j < c → W.cell? ⟨gn, j, none⟩ = some (.int .i64 ((ν j : Nat) : Int))
theorem Rd.go {W0 W W' : World} {rb gt gn c R D : Nat} {a1 : Option Addr} {n1 c1 : Nat} {d1 : Option Addr} {m1 g1 : Nat} {τ ν : Nat → Nat} (h : Rd W0 W rb gt gn c R D a1 n1 c1 d1 m1 g1 τ ν) (k : Below W.heap.size W W') : Rd W0 W' rb gt gn c R D a1 n1 c1 d1 m1 g1 τ ν :=
  ⟨h.sy.go k, fun j hj => cell_later k (h.ts j hj), fun j hj => cell_later k (h.ns j hj)⟩
theorem SY.put2J {w0 w : World} {N M : List (Value × Nat)} {F G : List (Value × Nat × Nat)} {C : List (Nat × Nat × Value)} {Z : List Nat} (h : SY w0 w N M F G C Z) {b : Nat} {a1 a2 : Option Addr} {n1 c1 n2 c2 : Nat} (k0 : w.cell? ⟨b, 0, none⟩ = some (.slice a1 n1 c1)) (k1 : w.cell? ⟨b, 1, none⟩ = some (.slice a2 n2 c2)) (hb : w0.heap.size ≤ b) (C' : List (Nat × Nat × Value)) (hC : ∀ p ∈ C', p ∈ C ∧ p.1 ≠ b) (u u' : Value) :
    SY w0 ((w.setCell ⟨b, 0, none⟩ u).setCell ⟨b, 1, none⟩ u') N M F G ((b, 0, u) :: (b, 1, u') :: C') Z := by
  have h1 := h.set k0 hb C' hC u
  have j1 : (w.setCell ⟨b, 0, none⟩ u).cell? ⟨b, 1, none⟩ = some (.slice a2 n2 c2) := by simp [go_sem, k1]
  have h2 := h1.set j1 hb C' (fun p hp => ⟨hp, (hC p hp).2⟩) u'
  have j2 : ((w.setCell ⟨b, 0, none⟩ u).setCell ⟨b, 1, none⟩ u').cell? ⟨b, 1, none⟩ = some u' := by simp [go_sem, k1]
  have j3 : ((w.setCell ⟨b, 0, none⟩ u).setCell ⟨b, 1, none⟩ u').cell? ⟨b, 0, none⟩ = some u := by simp [go_sem, k0]
  exact (h2.addC j2).addC j3
theorem set2_heap {W : World} {g : Nat} {x y : Value} {t : TypeId} (h : W.heap[g]? = some (.cells #[x, y] t)) (v1 v2 : Value) : ((W.setCell ⟨g, 0, none⟩ v1).setCell ⟨g, 1, none⟩ v2).heap[g]? = some (.cells #[v1, v2] t) := by
  simp [World.setCell, Array.getElem?_modify, h]
theorem getD_map (l : List Nat) (j : Nat) : (l.map Int.ofNat).getD j 0 = ((l.getD j 0 : Nat) : Int) := by
  simp only [List.getD_eq_getElem?_getD, List.getElem?_map]
  cases l[j]? <;> rfl
set_option maxHeartbeats 2000000 in
theorem caps_any (W0 : World) (i0 : Int) (u : Nat) (i2 : Int) (s3 : Option Addr) (L3 K3 : Nat) (G : Nat → Nat → Int) (r0 : -9223372036854775808 ≤ i0 ∧ i0 ≤ 9223372036854775807) (hu : u < 18446744073709551616) (r2 : -9223372036854775808 ≤ i2 ∧ i2 ≤ 9223372036854775807) (hs3 : SSl W0 s3 L3 K3 G) (hT : Tab W0) :
    Calls Tryz.prog 3 #[.int .i64 i0, .int .u64 (u : Int), .int .i64 i2, .slice s3 L3 K3] W0 fun e w' => e = .returned (.bool true) ∧ Below W0.heap.size W0 w' := by
  have FL : ∀ (n : Int) (m : Nat) (M : Int) w, (m : Int) = M → -9223372036854775808 ≤ n ∧ n ≤ 9223372036854775807 → m ≤ 9223372036854775806 → Calls Tryz.prog 4 #[.int .i64 n, .int .i64 M] w fun e w' => e = .returned (.int .i64 ((fewN n m : Nat) : Int)) ∧ w = w' := fun n m M w e h hm => by subst e; exact (few_any n m w h.1 h.2 hm).mono fun e w' h => ⟨h.1, h.2.symm⟩
  have FA : Hid (∀ n w, -9223372036854775808 ≤ n ∧ n ≤ 9223372036854775807 → Calls Tryz.prog 4 #[.int .i64 n, .int .i64 1099511627775] w fun e w' => e = .returned (.int .i64 ((fewN n 1099511627775 : Nat) : Int)) ∧ w = w') := fun n w h => FL n 1099511627775 _ w (by omega) h (by omega)
  have FB : Hid (∀ n w, -9223372036854775808 ≤ n ∧ n ≤ 9223372036854775807 → Calls Tryz.prog 4 #[.int .i64 n, .int .i64 1073741823] w fun e w' => e = .returned (.int .i64 ((fewN n 1073741823 : Nat) : Int)) ∧ w = w') := fun n w h => FL n 1073741823 _ w (by omega) h (by omega)
  have FC : Hid (∀ n w, -9223372036854775808 ≤ n ∧ n ≤ 9223372036854775807 → Calls Tryz.prog 4 #[.int .i64 n, .int .i64 288230376151711744] w fun e w' => e = .returned (.int .i64 ((fewN n 288230376151711744 : Nat) : Int)) ∧ w = w') := fun n w h => FL n 288230376151711744 _ w (by omega) h (by omega)
  have FD : Hid (∀ n w, -9223372036854775808 ≤ n ∧ n ≤ 9223372036854775807 → Calls Tryz.prog 4 #[.int .i64 n, .int .i64 2199023255552] w fun e w' => e = .returned (.int .i64 ((fewN n 2199023255552 : Nat) : Int)) ∧ w = w') := fun n w h => FL n 2199023255552 _ w (by omega) h (by omega)
  have HU : Hid (u < 18446744073709551616 ∧ Tab W0 ∧ SSl W0 s3 L3 K3 G ∧ (-9223372036854775808 ≤ i0 ∧ i0 ≤ 9223372036854775807) ∧ (-9223372036854775808 ≤ i2 ∧ i2 ≤ 9223372036854775807)) := ⟨hu, hT, hs3, r0, r2⟩
  have hl3 : L3 ≤ 9223372036854775807 := Nat.le_trans hs3.le hs3.lim
  have hl3' := hs3.le
  clear r0 r2 hT hu FL hs3
  go_enter Tryz.func3, Tryz.ntmps3
  go_wp2_with fail
  refine (FA.out _ _ HU.out.2.2.2.1).mono ?_
  rintro e w1 ⟨rfl, rfl⟩
  obtain ⟨f0, hf0⟩ : ∃ f, f = fewN i0 1099511627775 := ⟨_, rfl⟩
  have l0 : f0 ≤ 1099511627775 := by rw [hf0]; exact fewN_le _ _
  rw [← hf0]
  clear hf0
  obtain ⟨B, eB⟩ : ∃ B : Nat, B = f0 + 1 := ⟨_, rfl⟩
  have q0 : wrap64 ((f0 : Int) + 1) = (B : Int) := by rw [IntWalk.wrap64_in _ ⟨by omega, by omega⟩]; omega
  have HB : Hid (1 ≤ B ∧ B ≤ 1099511627776) := ⟨by clear q0; omega, by clear q0; omega⟩
  clear eB l0
  go_wp2_with fail
  refine (FB.out _ _ HU.out.2.2.2.2).mono ?_
  rintro e w1 ⟨rfl, rfl⟩
  obtain ⟨f1, hf1⟩ : ∃ f, f = fewN i2 1073741823 := ⟨_, rfl⟩
  have l1 : f1 ≤ 1073741823 := by rw [hf1]; exact fewN_le _ _
  rw [← hf1]
  clear hf1
  obtain ⟨per, eper⟩ : ∃ per : Nat, per = f1 + 1 := ⟨_, rfl⟩
  have HP : Hid (1 ≤ per ∧ per ≤ 1073741824) := ⟨by omega, by omega⟩
  have q1 : wrap64 ((f1 : Int) + 1) = (per : Int) := by rw [IntWalk.wrap64_in _ ⟨by omega, by omega⟩]; omega
  clear eper l1
  have FT : Hid (∀ w, Calls Tryz.prog 6 #[.int .u64 (u : Int)] w fun e w' => e = .returned (.float .f64 u) ∧ w = w') := fun w => (float_any u w).mono fun e w' h => ⟨h.1, h.2.symm⟩
  go_wp2_with fail
  refine (FT.out _).mono ?_
  rintro e w1 ⟨rfl, rfl⟩
  go_wp2_with fail
  obtain ⟨R, eR⟩ : ∃ R, R = rP u per := ⟨_, rfl⟩
  obtain ⟨D, eD⟩ : ∃ D, D = rQ u per := ⟨_, rfl⟩
  have NY : Hid (∀ w, Tab w → rateOk u (per : Int) → Calls Tryz.prog 5 #[.int .i64 (B : Int), .float .f64 u, .int .i64 (per : Int), .int .i64 0] w (NewYes w 0 R D B)) := fun w hT h => by
    have := bnew_yes B u per 0 w HB.out.1 HB.out.2 h (by omega) hT
    rw [← eR, ← eD] at this
    exact this
  have NN : Hid (∀ w, ¬ rateOk u (per : Int) → Calls Tryz.prog 5 #[.int .i64 (B : Int), .float .f64 u, .int .i64 (per : Int), .int .i64 0] w (NewNo w 98)) := fun w h => bnew_rate (B : Int) u (per : Int) 0 w (by have := HB.out; omega) (by have := HB.out; omega) h HU.out.1
  have HRD : Hid (R = rP u per ∧ D = rQ u per) := ⟨eR, eD⟩
  clear eR eD q0 q1 FA FB
  by_cases hr : rateOk u (per : Int)
  · refine (NY.out _ HU.out.2.1 hr).mono ?_
    rintro e w2 ⟨b, rfl, hlb, hub, hbl⟩
    have SR : Hid (Sr W0 w2 b R D B) := ⟨hub, hlb, hbl, HU.out.2.1.go hbl⟩
    have hr2 := hr
    obtain ⟨hg, hp1, hp2, hF⟩ := hr2
    have rf := rate_fc hF HP.out.1 HP.out.2
    rw [← HRD.out.1, ← HRD.out.2] at rf
    have lf := low_fc (N := fN (nz u)) (D := fD (nz u)) (n := 17) (fD_pos _) (P_up (fN_lt (nz_lt hF)) (by omega)) (fD_lt _)
    obtain ⟨X, Y, fx, dx⟩ := lf.rdivInt (k := per) (by omega) (by have := HP.out; omega) HP.out.1
    obtain ⟨rfl, rfl⟩ := fx.one rf
    have DX : Hid _ := dx
    have FR : Hid (Fc X Y X Y 18) := Fc.own rf.low rf.pos rf.s1 rf.s2
    have RY : Hid (∀ w, Calls Tryz.prog 7 #[.int .u64 (u : Int)] w (MakesRRB w (fN (nz u) / Nat.gcd (fN (nz u)) (fD (nz u))) (fD (nz u) / Nat.gcd (fN (nz u)) (fD (nz u))) true)) := fun w => rrate_yes u w HU.out.1 hF hg
    obtain ⟨P0, eP0⟩ : ∃ P0, P0 = fN (nz u) / Nat.gcd (fN (nz u)) (fD (nz u)) := ⟨_, rfl⟩
    obtain ⟨Q0, eQ0⟩ : ∃ Q0, Q0 = fD (nz u) / Nat.gcd (fN (nz u)) (fD (nz u)) := ⟨_, rfl⟩
    rw [← eP0, ← eQ0] at RY DX
    obtain ⟨R, eRR⟩ : ∃ R, R = X := ⟨_, rfl⟩
    obtain ⟨D, eDD⟩ : ∃ D, D = Y := ⟨_, rfl⟩
    rw [← eRR, ← eDD] at SR DX FR
    clear hub hlb hbl hr hg hp1 hp2 hF rf lf fx dx NY NN HRD eP0 eQ0 eRR eDD
    go_wp2_with fail
    refine (RY.out _).mono ?_
    rintro e w3 ⟨v3, rfl, hv, hb⟩
    have hv' := hv
    obtain ⟨a3, n3, c3, d3, m3, g3, ev, _, _⟩ := hv'
    subst ev
    have hlt := hb.size
    have S3 : Hid (Sr W0 (w3.alloc (.cells #[.slice a3 n3 c3, .slice d3 m3 g3] 35)) b R D B ∧ RRt (w3.alloc (.cells #[.slice a3 n3 c3, .slice d3 m3 g3] 35)) (.agg #[.slice a3 n3 c3, .slice d3 m3 g3]) P0 Q0 ∧ (w3.alloc (.cells #[.slice a3 n3 c3, .slice d3 m3 g3] 35)).heap[w3.heap.size]? = some (.cells #[.slice a3 n3 c3, .slice d3 m3 g3] 35) ∧ W0.heap.size ≤ w3.heap.size ∧ ¬ w3.heap.size = b) :=
      ⟨(SR.out.go hb).go (bel_al (bel_refl _)), hv.mono (bel_al (bel_refl _)), heap_new _ _, by have := SR.out.bel.size; omega, by have := (SR.out.go hb).bu.lt; omega⟩
    clear hv hb hlt SR
    go_wp2_with fail
    obtain ⟨w4, ew⟩ : ∃ w4, w4 = w3.alloc (.cells #[.slice a3 n3 c3, .slice d3 m3 g3] 35) := ⟨_, rfl⟩
    obtain ⟨rb, eb⟩ : ∃ rb, rb = w3.heap.size := ⟨_, rfl⟩
    rw [← ew, ← eb] at S3
    rw [← ew, ← eb]
    clear ew eb
    refine (btold_true _ S3.out.1.tab).mono ?_
    rintro e w5 ⟨rfl, hb⟩
    have lt : rb < w4.heap.size := (Array.getElem?_eq_some_iff.1 S3.out.2.2.1).1
    have S4 : Hid (Sr W0 w5 b R D B ∧ RRt w5 (.agg #[.slice a3 n3 c3, .slice d3 m3 g3]) P0 Q0 ∧ w5.heap[rb]? = some (.cells #[.slice a3 n3 c3, .slice d3 m3 g3] 35) ∧ W0.heap.size ≤ rb ∧ ¬ rb = b) := ⟨S3.out.1.go hb, S3.out.2.1.mono hb, (hb.block rb lt).trans S3.out.2.2.1, S3.out.2.2.2⟩
    clear hb S3 lt
    have k0 : w5.cell? ⟨rb, 0, none⟩ = some (.slice a3 n3 c3) := by simp [World.cell?, S4.out.2.2.1]
    have k1 : w5.cell? ⟨rb, 1, none⟩ = some (.slice d3 m3 g3) := by simp [World.cell?, S4.out.2.2.1]
    go_wp2_with fail
    refine (DX.out _ _ S4.out.2.1).mono ?_
    rintro e w6 ⟨v6, rfl, hv, hb⟩
    have hv' := hv
    obtain ⟨a1, n1, c1, d1, m1, g1, ev, _, _⟩ := hv'
    subst ev
    have lt : rb < w5.heap.size := (Array.getElem?_eq_some_iff.1 S4.out.2.2.1).1
    have h6 : w6.heap[rb]? = some (.cells #[.slice a3 n3 c3, .slice d3 m3 g3] 35) := (hb.block rb lt).trans S4.out.2.2.1
    clear k0 k1
    have k0 : w6.cell? ⟨rb, 0, none⟩ = some (.slice a3 n3 c3) := by simp [World.cell?, h6]
    have k1 : w6.cell? ⟨rb, 1, none⟩ = some (.slice d3 m3 g3) := by simp [World.cell?, h6]
    have f0 : w6.frozen? ⟨rb, 0, none⟩ = false := by simp [World.frozen?, h6]
    have f1 : w6.frozen? ⟨rb, 1, none⟩ = false := by simp [World.frozen?, h6]
    have PU := (S4.out.1.go hb).put S4.out.2.2.2.1 S4.out.2.2.2.2 (v1 := .slice a1 n1 c1) (v2 := .slice d1 m1 g1) k0 k1
    have C0 : Hid (Cs W0 ((w6.setCell ⟨rb, 0, none⟩ (.slice a1 n1 c1)).setCell ⟨rb, 1, none⟩ (.slice d1 m1 g1)) w6.heap.size b 0 0 R D B rb (.slice a1 n1 c1) (.slice d1 m1 g1) (.slice none 0 0) (.slice none 0 0) [] []) :=
      ⟨PU.1.bu, PU.1.lo, set2_heap h6 _ _, PU.2 _ _ _ hv, RwO.nil _ _, RwO.nil _ _, (fun k e => by cases e), ⟨(S4.out.1.go hb).bel.size, by simp [World.setCell]⟩, PU.1.bel, PU.1.tab⟩
    clear hv hb S4 lt h6 PU RY DX
    go_wp2_with fail
    obtain ⟨w7, ew⟩ : ∃ w7, w7 = (w6.setCell ⟨rb, 0, none⟩ (.slice a1 n1 c1)).setCell ⟨rb, 1, none⟩ (.slice d1 m1 g1) := ⟨_, rfl⟩
    obtain ⟨rz, er⟩ : ∃ rz, rz = w6.heap.size := ⟨_, rfl⟩
    rw [← ew, ← er] at C0
    rw [← ew]
    clear ew er k0 k1 f0 f1
    go_loopw [13, 14, 15, 16] (fun tv nv t iv wr => ∃ (k tt N : Nat) (tl nl : List Nat), k ≤ L3 ∧ k ≤ 40 ∧ t = .int .i64 (tt : Int) ∧ iv = .int .i64 (k : Int) ∧ Hid (Cs W0 wr rz b tt N R D B rb (.slice a1 n1 c1) (.slice d1 m1 g1) tv nv tl nl ∧ CapL tt N R D B tl nl ∧ tl.length ≤ k)) (fun _ _ _ i _ => L3 - (intOf i).toNat)
    case atStart => exact ⟨0, 0, 0, [], [], by omega, by omega, rfl, rfl, C0.out, ⟨rfl, cap_zero R D B _ _⟩, Nat.le_refl _⟩
    case round =>
      clear C0
      obtain ⟨k, tt, N, tl, nl, hk, hk4, rfl, rfl, hI⟩ := hrel
      go_upto_region 13 with fail
      go_cut [69] from 62 to 69 (fun s69 wx => wx = wr ∧ s69 = .bool (decide (k < L3 ∧ k < 40)))
      case first =>
        by_cases h1 : k < L3
        · by_cases h2 : k < 40
          · have d2 : decide ((k : Int) < 40) = true := decide_eq_true (by omega)
            have e9 : decide (k < L3 ∧ k < 40) = true := decide_eq_true ⟨h1, h2⟩
            go_wp2_with fail
            go_meet
            exact ⟨rfl, by first | rw [e9] | rfl⟩
          · have d2 : decide ((k : Int) < 40) = false := decide_eq_false (by omega)
            have e9 : decide (k < L3 ∧ k < 40) = false := decide_eq_false (fun h => h2 h.2)
            go_wp2_with fail
            go_meet
            exact ⟨rfl, by first | rw [e9] | rfl⟩
        · have e9 : decide (k < L3 ∧ k < 40) = false := decide_eq_false (fun h => h1 h.1)
          go_wp2_with fail
          go_meet
          exact ⟨rfl, by first | rw [e9] | rfl⟩
      case rest =>
        obtain ⟨hw, rfl⟩ := hcut
        rw [hw]
        clear hw wc
        by_cases hkk : k < L3 ∧ k < 40
        · rw [decide_eq_true hkk]
          obtain ⟨hk1, hk2⟩ := hkk
          obtain ⟨sb, so, es, hc⟩ := HU.out.2.2.1.at hI.out.1.bel (by omega)
          have c1 := hc k 1 hk1 (by omega)
          have c2 := hc k 2 hk1 (by omega)
          have b1 := HU.out.2.2.1.wf k 1 hk1 (by omega)
          have b2 := HU.out.2.2.1.wf k 2 hk1 (by omega)
          subst es
          obtain ⟨y, ey⟩ : ∃ y, y = G k 1 := ⟨_, rfl⟩
          obtain ⟨z, ez⟩ : ∃ z, z = G k 2 := ⟨_, rfl⟩
          rw [← ey] at c1 b1
          rw [← ez] at c2 b2
          have HZ : Hid ((-9223372036854775808 ≤ y ∧ y ≤ 9223372036854775807) ∧ (-9223372036854775808 ≤ z ∧ z ≤ 9223372036854775807) ∧ tt ≤ 4611686018427387904) := ⟨b1, b2, hI.out.1.bu.cT⟩
          clear ey ez b1 b2 hc
          go_wp2_with fail
          refine (FC.out y _ HZ.out.1).mono ?_
          rintro e w1 ⟨rfl, rfl⟩
          obtain ⟨f2, hf2⟩ : ∃ f, f = fewN y 288230376151711744 := ⟨_, rfl⟩
          have l2 : f2 ≤ 288230376151711744 := by rw [hf2]; exact fewN_le _ _
          rw [← hf2]
          obtain ⟨s, es⟩ : ∃ s : Int, s = (tt : Int) + (f2 : Int) := ⟨_, rfl⟩
          obtain ⟨M, m1', m2', m3', m4', m5'⟩ := min_int s
          obtain ⟨tn, hto⟩ : ∃ tn : Nat, M = (tn : Int) := ⟨M.toNat, by omega⟩
          rw [hto] at m1' m2'
          have HO : Hid (tt ≤ tn ∧ tn ≤ 4611686018427387904) := ⟨by have := HZ.out.2.2; omega, by omega⟩
          have q2 : wrap64 ((tt : Int) + (f2 : Int)) = s := by have := HZ.out.2.2; rw [IntWalk.wrap64_in _ ⟨by omega, by omega⟩]; omega
          clear hf2 l2 es m3' m4' m5' hto
          go_wp2_with fail
          refine (FD.out z _ HZ.out.2.1).mono ?_
          rintro e w1 ⟨rfl, rfl⟩
          clear q2 m1' m2' c1 c2
          obtain ⟨f3, hf3⟩ : ∃ f, f = fewN z 2199023255552 := ⟨_, rfl⟩
          have l3 : f3 ≤ 2199023255552 := by rw [hf3]; exact fewN_le _ _
          rw [← hf3]
          obtain ⟨n, en⟩ : ∃ n : Nat, n = f3 + 1 := ⟨_, rfl⟩
          have HN : Hid (1 ≤ n ∧ n ≤ 4398046511104 ∧ (n : Int) ≤ 9223372036854775807) := ⟨by omega, by omega, by omega⟩
          have q3 : wrap64 ((f3 : Int) + 1) = (n : Int) := by rw [IntWalk.wrap64_in _ ⟨by omega, by omega⟩]; omega
          clear hf3 l3 en
          obtain ⟨M, eM⟩ : ∃ M, M = fillN N R D B (tn - tt) := ⟨_, rfl⟩
          have HM : Hid (atT tt (tn : Int) = tn ∧ atN tt N R D B (tn : Int) = M ∧ M ≤ B * D ∧ M ≤ N + R * (tn - tt)) := ⟨atT_of HO.out.1 HO.out.2, by rw [atN_of HO.out.1 HO.out.2, eM], by rw [eM]; exact fillN_le _ _ _ _ _, by rw [eM]; exact Nat.min_le_left _ _⟩
          have HL : Hid (tl.length ≤ k) := hI.out.2.2
          clear eM
          go_wp2_with fail
          try simp only [q3]
          clear q3
          refine (btake_any b tt N R D B (tn : Int) (n : Int) _ hI.out.1.bu hI.out.1.tab HN.out.2.2).mono ?_
          rintro e w5 ⟨rfl, hbu, hfb⟩
          rw [HM.out.1, HM.out.2.1] at hbu
          rw [HM.out.2.1]
          by_cases hen : n * D ≤ M
          · rw [take_0 HN.out.1 hen]
            have eN : takeN M D (n : Int) = M - n * D := by unfold takeN; rw [if_neg (by have := HN.out; omega), if_neg (by rw [Int.toNat_natCast]; omega), Int.toNat_natCast]
            rw [eN] at hbu
            have H5 : Hid (Cs W0 w5 rz b tn (M - n * D) R D B rb (.slice a1 n1 c1) (.slice d1 m1 g1) u13 u14 tl nl) := hI.out.1.take hbu hfb
            have HCL : Hid (CapL tn (M - n * D) R D B (tl ++ [tn]) (nl ++ [n])) := (hI.out.2.1.fill HO.out.1 HM.out.2.2.2).take HM.out.2.2.1 hen HN.out.2.1
            clear hbu hfb hI eN hen
            go_wp2_with (refine (id ?_ : wpList Tryz.prog _ _ (⟨some 96, _, _, _, _, _⟩ :: _) _ _); refine wp_appJ rfl (.tmp 93) (.tmp 95) rfl rz u13 (tl.map Int.ofNat) (tn : Int) rfl (H5.out.go (bel_al (bel_refl _))).rt w5.heap.size rfl (by simp [go_sem]) (by rw [List.length_map]; have := HL.out; omega) (H5.out.go (bel_al (bel_refl _))).base.2 ?_)
            intro v7 w7' H7
            have H8 : Hid (Cs W0 w7' rz b tn (M - n * D) R D B rb (.slice a1 n1 c1) (.slice d1 m1 g1) v7 u14 (tl ++ [tn]) nl) := H5.out.appT H7.out.1 H7.out.2.1 (by simpa using H7.out.2.2)
            clear H5 H7
            go_wp2_with (refine (id ?_ : wpList Tryz.prog _ _ (⟨some 100, _, _, _, _, _⟩ :: _) _ _); refine wp_appJ rfl (.tmp 97) (.tmp 99) rfl rz u14 (nl.map Int.ofNat) (n : Int) rfl (H8.out.go (bel_al (bel_refl _))).rn w7'.heap.size rfl (by simp [go_sem]) (by rw [List.length_map]; have := HL.out; have := HCL.out.1; simp at this; omega) (H8.out.go (bel_al (bel_refl _))).base.2 ?_)
            intro v8 w8 H9
            have HA : Hid (Cs W0 w8 rz b tn (M - n * D) R D B rb (.slice a1 n1 c1) (.slice d1 m1 g1) v7 v8 (tl ++ [tn]) (nl ++ [n])) := H8.out.appN H9.out.1 H9.out.2.1 (by simpa using H9.out.2.2)
            clear H8 H9
            go_wp2_with fail
            go_roundw
            case rel => exact ⟨k + 1, tn, M - n * D, tl ++ [tn], nl ++ [n], by omega, by omega, rfl, by go_num, HA.out, HCL.out, by rw [List.length_append, List.length_singleton]; have := HL.out; omega⟩
            case measure => simp [intOf]; omega
          · rw [take_80 HN.out.1 (by omega)]
            have eN : takeN M D (n : Int) = M := by unfold takeN; rw [if_neg (by have := HN.out; omega), if_pos (by rw [Int.toNat_natCast]; omega)]
            rw [eN] at hbu
            have HA : Hid (Cs W0 w5 rz b tn M R D B rb (.slice a1 n1 c1) (.slice d1 m1 g1) u13 u14 tl nl ∧ CapL tn M R D B tl nl) := ⟨hI.out.1.take hbu hfb, hI.out.2.1.fill HO.out.1 HM.out.2.2.2⟩
            clear hbu hfb hI eN hen
            go_wp2_with fail
            go_roundw
            case rel => exact ⟨k + 1, tn, M, tl, nl, by omega, by omega, rfl, by go_num, HA.out.1, HA.out.2, by have := HL.out; omega⟩
            case measure => simp [intOf]; omega
        · rw [decide_eq_false hkk]
          clear hkk
          obtain ⟨WF, eWF⟩ : ∃ WF, WF = wr := ⟨_, rfl⟩
          rw [← eWF] at hI
          rw [← eWF]
          clear eWF
          obtain ⟨at', tc, et, t1, t2, t3⟩ := hI.out.1.rt.sl
          obtain ⟨an', nc, en, n1', n2', n3'⟩ := hI.out.1.rn.sl
          rw [List.length_map] at et t1 t3 en n1' n3'
          rw [← hI.out.2.1.1] at en n1' n3'
          obtain ⟨c, ec⟩ : ∃ c, c = tl.length := ⟨_, rfl⟩
          rw [← ec] at et t1 t3 en n1' n3'
          subst et en
          have HL : Hid (c ≤ 40) := by show _ ≤ _; rw [ec]; exact Nat.le_trans hI.out.2.2 hk4
          have HT : Hid (True ∧ tt ≤ 4611686018427387904 ∧ B ≤ 1099511627776) := ⟨trivial, hI.out.1.bu.cT, HB.out.2⟩
          have HW : Hid (Below W0.heap.size W0 WF) := hI.out.1.bel
          by_cases c0 : c = 0
          · clear t1 t2 t3 n1' n2' n3' hI
            subst c0
            have hl0 := HL.out
            go_wp2_with fail
            go_loopw [18] (fun iv w4 => iv = .int .i64 0 ∧ w4 = WF) (fun _ _ => 0)
            case atStart => exact ⟨rfl, rfl⟩
            case round =>
              obtain ⟨rfl, rfl⟩ := hrel
              go_wp2_with fail
              go_ret
              exact ⟨rfl, HW.out⟩
          · obtain ⟨gt, rfl, cts⟩ := t3 (by omega)
            obtain ⟨gn, rfl, cns⟩ := n3' (by omega)
            obtain ⟨τ, hτ⟩ : ∃ τ : Nat → Nat, τ = fun j => tl.getD j 0 := ⟨_, rfl⟩
            obtain ⟨ν, hν⟩ : ∃ ν : Nat → Nat, ν = fun j => nl.getD j 0 := ⟨_, rfl⟩
            have HCap : Hid (Cap c tt N R D B τ ν) := by rw [hτ, hν, ec]; exact hI.out.2.1.2
            have RD : Hid (Rd W0 WF rb gt gn c R D a1 n1 c1 d1 m1 g1 τ ν) := by
              refine ⟨((((sy_start W0).go hI.out.1.bel).addG hI.out.1.rv).addC (b := rb) (i := 1) (v := .slice d1 m1 g1) (by simp [World.cell?, hI.out.1.rr])).addC (b := rb) (i := 0) (v := .slice a1 n1 c1) (by simp [World.cell?, hI.out.1.rr]), fun j hj => ?_, fun j hj => ?_⟩
              · rw [cts j hj, hτ]
                exact congrArg (fun x => some (Value.int .i64 x)) (getD_map tl j)
              · rw [cns j hj, hν]
                exact congrArg (fun x => some (Value.int .i64 x)) (getD_map nl j)
            clear cts cns hτ hν hI c0 ec
            go_wp2_with fail
            go_loopw [18] (fun iv w4 => ∃ i : Nat, i ≤ c ∧ iv = .int .i64 (i : Int) ∧ Below WF.heap.size WF w4) (fun i _ => c - (intOf i).toNat)
            case atStart => exact ⟨0, by omega, rfl, bel_refl _⟩
            case round =>
              obtain ⟨i, hi2, rfl, hbl⟩ := hrel
              have HBF : Hid (Below WF.heap.size WF wr) := hbl
              clear hbl
              by_cases hic : i < c
              · obtain ⟨ti, eti⟩ : ∃ ti, τ i = ti := ⟨_, rfl⟩
                obtain ⟨cz, ecz⟩ : ∃ cz, cz = c - 1 := ⟨_, rfl⟩
                obtain ⟨tz, etz⟩ : ∃ tz, τ cz = tz := ⟨_, rfl⟩
                have HI : Hid (τ i = ti ∧ i < c) := ⟨eti, hic⟩
                have HTL : Hid (τ (c - 1) = tz) := by rw [← ecz]; exact etz
                have hcz : cz < c := by omega
                have R1 : Hid _ := RD.out.go HBF.out
                have x1 := R1.out.ts cz hcz
                rw [etz] at x1
                have tzl : tz ≤ 9223372036854775807 := by
                  have q4 := HCap.out.lo cz hcz
                  rw [etz] at q4
                  have := HT.out.2.1
                  omega
                have rc : IntKind.i64.wrap ((c : Int) - 1) = (cz : Int) := by rw [IntKind.wrap_i64]; have := HL.out; omega
                obtain ⟨X0, Y0, f0, mk0⟩ := (FR.out).rmulInt (k := tz) (by omega) tzl
                have MK : Hid _ := mk0
                have F0 : Hid (Fc X0 Y0 (R * tz) D 19) := f0
                have S5 : Hid _ := ((((sy_start wr).addG (R1.out.sy.rfr (.agg #[.slice a1 n1 c1, .slice d1 m1 g1]) R D)).addC (R1.out.sy.cel rb 1 (.slice d1 m1 g1))).addC (R1.out.sy.cel rb 0 (.slice a1 n1 c1))).addC x1
                clear f0 mk0 tzl ecz etz eti
                go_wp2_with fail
                refine wp_region_inv (JC wr [sRRt (R) (D), sEq (.slice (some ⟨gt, 0, none⟩) c tc), sEq (.slice (some ⟨gt, 0, none⟩) c tc), sEq (.int .i64 (c : Int)), sEq (.int .i64 (cz : Int)), sEq (.pointer (some ⟨gt, cz, none⟩)), sEq (.int .i64 (tz : Int)), sRRtB (X0) (Y0) true, sRRtB (X0) (Y0) true, sRRt (X0) (Y0), sEq (.bool true), sAny, sAny, sEq (.bool true)] (11, 12, 9)) 174 (by kernel_rfl) rfl (by kernel_rfl) (JC.start _ _ _) (fun HG HN => ⟨?_, ?_, ?_, ?_, ?_, ?_, ?_, ?_, ?_, ?_, ?_, ?_, ?_, ?_, trivial⟩) ?_
                · intro L vs a w' hJ hF hP hL
                  have q11 : (a.tmps[11]?).getD undef = .pointer (some ⟨rb, 0, none⟩) := hF.old 11 rfl
                  have cb := cell_later hJ.bel (S5.out.cel (rb) 0 (.slice a1 n1 c1))
                  have cc := cell_later hJ.bel (S5.out.cel (rb) 1 (.slice d1 m1 g1))
                  exact run_val (v := .agg #[.slice a1 n1 c1, .slice d1 m1 g1]) rfl (by simp [execOp, go_sem, q11, cb, cc]) ⟨_, rfl, hJ.step hL rfl (Below.refl _ _) (by exact ((S5.out.rfr (.agg #[.slice a1 n1 c1, .slice d1 m1 g1]) (R) (D)).mono hJ.bel))⟩
                · intro L vs a w' hJ hF hP hL
                  have q13 : (a.tmps[13]?).getD undef = .slice (some ⟨gt, 0, none⟩) c tc := hF.old 13 rfl
                  exact run_val (v := .slice (some ⟨gt, 0, none⟩) c tc) rfl (by simp [execOp, go_sem, q13]) ⟨_, rfl, hJ.step hL rfl (Below.refl _ _) (by exact rfl)⟩
                · intro L vs a w' hJ hF hP hL
                  have q13 : (a.tmps[13]?).getD undef = .slice (some ⟨gt, 0, none⟩) c tc := hF.old 13 rfl
                  exact run_val (v := .slice (some ⟨gt, 0, none⟩) c tc) rfl (by simp [execOp, go_sem, q13]) ⟨_, rfl, hJ.step hL rfl (Below.refl _ _) (by exact rfl)⟩
                · intro L vs a w' hJ hF hP hL
                  have p2 : L 2 = true := hP ⟨2, .data⟩ (by simp) rfl
                  have s2 : vs 2 = .slice (some ⟨gt, 0, none⟩) c tc := hJ.sp 2 p2
                  have q110 := hF.slot 2 110 rfl p2
                  exact run_val (v := .int .i64 (c : Int)) rfl (by simp [go_sem, q110, s2]) ⟨_, rfl, hJ.step hL rfl (Below.refl _ _) (by exact rfl)⟩
                · intro L vs a w' hJ hF hP hL
                  have p3 : L 3 = true := hP ⟨3, .data⟩ (by simp) rfl
                  have s3 : vs 3 = .int .i64 (c : Int) := hJ.sp 3 p3
                  have q111 := hF.slot 3 111 rfl p3
                  exact run_val (v := .int .i64 (cz : Int)) rfl (by simp [execOp, go_sem, q111, s3, rc]) ⟨_, rfl, hJ.step hL rfl (Below.refl _ _) (by exact rfl)⟩
                · intro L vs a w' hJ hF hP hL
                  have p1 : L 1 = true := hP ⟨1, .data⟩ (by simp) rfl
                  have s1 : vs 1 = .slice (some ⟨gt, 0, none⟩) c tc := hJ.sp 1 p1
                  have q109 := hF.slot 1 109 rfl p1
                  have p4 : L 4 = true := hP ⟨4, .data⟩ (by simp) rfl
                  have s4 : vs 4 = .int .i64 (cz : Int) := hJ.sp 4 p4
                  have q112 := hF.slot 4 112 rfl p4
                  exact run_val (v := .pointer (some ⟨gt, cz, none⟩)) rfl (by simp [execOp, go_sem, q109, s1, q112, s4, hcz]) ⟨_, rfl, hJ.step hL rfl (Below.refl _ _) (by exact rfl)⟩
                · intro L vs a w' hJ hF hP hL
                  have p5 : L 5 = true := hP ⟨5, .data⟩ (by simp) rfl
                  have s5 : vs 5 = .pointer (some ⟨gt, cz, none⟩) := hJ.sp 5 p5
                  have q113 := hF.slot 5 113 rfl p5
                  have cb := cell_later hJ.bel (S5.out.cel gt cz (.int .i64 (tz : Int)))
                  exact run_val (v := .int .i64 (tz : Int)) rfl (by simp [execOp, go_sem, q113, s5, cb]) ⟨_, rfl, hJ.step hL rfl (Below.refl _ _) (by exact rfl)⟩
                · intro L vs a w' hJ hF hP hL
                  have p0 : L 0 = true := hP ⟨0, .data⟩ (by simp) rfl
                  have s0 : RRt w' (vs 0) (R) (D) := hJ.sp 0 p0
                  have q108 := hF.slot 0 108 rfl p0
                  have p6 : L 6 = true := hP ⟨6, .data⟩ (by simp) rfl
                  have s6 : vs 6 = .int .i64 (tz : Int) := hJ.sp 6 p6
                  have q114 := hF.slot 6 114 rfl p6
                  refine run_call (f := 11) (args := #[vs 0, .int .i64 (tz : Int)]) rfl (by simp [go_sem, q108, q114, s6]) (MK.out _ _ s0) ?_
                  rintro e w2 ⟨v1, rfl, h1, hb⟩
                  exact ⟨_, rfl, _, rfl, hJ.step hL rfl hb (by exact ⟨v1, rfl, h1⟩)⟩
                · intro L vs a w' hJ hF hP hL
                  have p7 : L 7 = true := hP ⟨7, .data⟩ (by simp) rfl
                  have s7 : ∃ p, vs 7 = .tuple #[p, .bool true] ∧ RRt w' p (X0) (Y0) := hJ.sp 7 p7
                  have q115 := hF.slot 7 115 rfl p7
                  exact run_val (v := vs 7) rfl (by simp [execOp, go_sem, q115]) ⟨_, rfl, hJ.step hL rfl (Below.refl _ _) (by exact s7)⟩
                · intro L vs a w' hJ hF hP hL
                  have p8 : L 8 = true := hP ⟨8, .data⟩ (by simp) rfl
                  have s8 : ∃ p, vs 8 = .tuple #[p, .bool true] ∧ RRt w' p (X0) (Y0) := hJ.sp 8 p8
                  have q107 := hF.slot 8 107 rfl p8
                  obtain ⟨vp, e1, e2⟩ := s8
                  exact run_val (v := vp) rfl (by simp [execOp, go_sem, q107, e1]) ⟨_, rfl, hJ.step hL rfl (Below.refl _ _) (by exact e2)⟩
                · intro L vs a w' hJ hF hP hL
                  have p8 : L 8 = true := hP ⟨8, .data⟩ (by simp) rfl
                  have s8 : ∃ p, vs 8 = .tuple #[p, .bool true] ∧ RRt w' p (X0) (Y0) := hJ.sp 8 p8
                  have q107 := hF.slot 8 107 rfl p8
                  obtain ⟨vp, e1, e2⟩ := s8
                  exact run_val (v := .bool true) rfl (by simp [execOp, go_sem, q107, e1]) ⟨_, rfl, hJ.step hL rfl (Below.refl _ _) (by exact rfl)⟩
                · intro L vs a w' hJ hF hP hL
                  exact run_val (v := .pointer (some ⟨w'.heap.size, 0, none⟩)) (w' := w'.alloc (.cells #[.slice none 0 0, .slice none 0 0] 35)) rfl (by simp [execOp, go_sem]) ⟨_, rfl, hJ.alloc hL rfl (by decide) rfl _⟩
                · intro L vs a w' hJ hF hP hL
                  have p11 : L 11 = true := hP ⟨11, .data⟩ (by simp) rfl
                  have q20 := hF.slot 11 20 rfl p11
                  have p9 : L 9 = true := hP ⟨9, .data⟩ (by simp) rfl
                  have s9 : RRt w' (vs 9) (X0) (Y0) := hJ.sp 9 p9
                  have q116 := hF.slot 9 116 rfl p9
                  obtain ⟨bk, e1, e2, e3, e4, e4', e5, e6⟩ := hJ.bx p11
                  obtain ⟨e7, e7'⟩ := e5 hL
                  have s9' := s9
                  obtain ⟨aa, nn, cc, a2, n2, c2, e8, _, _⟩ := s9'
                  exact run_unit (w' := (w'.setCell ⟨bk, 0, none⟩ (.slice aa nn cc)).setCell ⟨bk, 1, none⟩ (.slice a2 n2 c2)) rfl (by simp [execOp, go_sem, q20, q116, e1, e8, e7, e4, e7', e4']) ⟨undef, rfl, hJ.store hL p11 p9 (by decide) rfl e1 e8⟩
                · intro L vs a w' hJ hF hP hL
                  have p10 : L 10 = true := hP ⟨10, .data⟩ (by simp) rfl
                  have s10 : vs 10 = .bool true := hJ.sp 10 p10
                  have q117 := hF.slot 10 117 rfl p10
                  exact run_val (v := .bool true) rfl (by simp [execOp, go_sem, q117, s10]) ⟨_, rfl, hJ.step hL rfl (Below.refl _ _) (by exact rfl)⟩
                intro L vs w' hA hJ
                have s9 : RRt w' (vs 9) (X0) (Y0) := hJ.sp 9 (hA 9 (by simp))
                have s13 : vs 13 = .bool true := hJ.sp 13 (hA 13 (by simp))
                obtain ⟨bk11, eb11, ge11, lt11, fz11, fz11', _, e6⟩ := hJ.bx (hA 11 (by simp))
                obtain ⟨_, u11, u11', eu11, ce11, ce11'⟩ := e6 (hA 12 (by simp))
                clear e6
                simp only [putL, Act.put, List.setIfInBounds_toArray, List.set_cons_zero, List.set_cons_succ, Nat.reduceAdd]
                obtain ⟨a20, n20, c20, d20, m20, g20, ev, _, _⟩ := id s9
                rw [ev] at s9 eu11
                obtain ⟨rfl, rfl⟩ : u11 = .slice a20 n20 c20 ∧ u11' = .slice d20 m20 g20 := by simpa [eq_comm] using eu11
                simp only [eb11, s13]
                have S6 : Hid _ := (((S5.out.go hJ.bel).addG s9).addC ce11').addC ce11
                have FZ20 : Hid (w'.frozen? ⟨bk11, 0, none⟩ = false ∧ w'.frozen? ⟨bk11, 1, none⟩ = false ∧ wr.heap.size ≤ bk11) := ⟨fz11, fz11', ge11⟩
                obtain ⟨w6, ew⟩ : ∃ w6, w6 = w' := ⟨_, rfl⟩
                obtain ⟨b20, eb⟩ : ∃ b20, b20 = bk11 := ⟨_, rfl⟩
                rw [← ew, ← eb] at S6 FZ20
                rw [← ew, ← eb]
                clear ew eb ev s9 s13 eu11 eb11 ce11 ce11' ge11 lt11 fz11 fz11' hJ hA
                have R2 : Hid _ := R1.out.go S6.out.bel
                have HBF2 : Hid (Below WF.heap.size WF w6) := HBF.out.trans (S6.out.bel.mono HBF.out.size)
                clear S5 R1 x1 rc FZ20 HBF
                have HBF : Hid _ := HBF2.out
                clear HBF2
                obtain ⟨w0', ew0⟩ : ∃ w0', w0' = w6 := ⟨_, rfl⟩
                have S6 : Hid (SY w6 w6 [] [] [] [(.agg #[.slice a20 n20 c20, .slice d20 m20 g20], X0, Y0)] [(b20, 0, .slice a20 n20 c20), (b20, 1, .slice d20 m20 g20)] []) := (((sy_start w6).addG (S6.out.rfr (.agg #[.slice a20 n20 c20, .slice d20 m20 g20]) X0 Y0)).addC (S6.out.cel b20 1 (.slice d20 m20 g20))).addC (S6.out.cel b20 0 (.slice a20 n20 c20))
                clear ew0 w0'
                go_wp2_with fail
                go_loopw [19, 23] (fun sv kv w4 => ∃ k : Nat, i ≤ k ∧ k ≤ c ∧ kv = .int .i64 (k : Int) ∧ sv = .int .u64 ((sm ν i (k - i) : Nat) : Int) ∧ Below w6.heap.size w6 w4) (fun _ k _ => c - (intOf k).toNat)
                case atStart => exact ⟨i, Nat.le_refl _, by omega, rfl, by rw [Nat.sub_self]; rfl, bel_refl _⟩
                case round =>
                  obtain ⟨k, hk1, hk2, rfl, rfl, hbl⟩ := hrel
                  have HBL : Hid (Below w6.heap.size w6 wr) := hbl
                  have HK : Hid (i ≤ k ∧ k ≤ c) := ⟨hk1, hk2⟩
                  clear hbl
                  by_cases hk : k < c
                  · obtain ⟨s, es⟩ : ∃ s, sm ν i (k - i) = s := ⟨_, rfl⟩
                    obtain ⟨s', es'⟩ : ∃ s', sm ν i (k + 1 - i) = s' := ⟨_, rfl⟩
                    obtain ⟨nk, enk⟩ : ∃ nk, ν k = nk := ⟨_, rfl⟩
                    obtain ⟨tk, etk⟩ : ∃ tk, τ k = tk := ⟨_, rfl⟩
                    have R3 : Hid _ := R2.out.go HBL.out
                    have x1 := R3.out.ns k hk
                    have x2 := R3.out.ts k hk
                    have x3 := R3.out.ts i HI.out.2
                    rw [enk] at x1
                    rw [etk] at x2
                    rw [HI.out.1] at x3
                    have bd : s' = s + nk ∧ s' < 18446744073709551616 ∧ nk ≤ 4398046511104 ∧ ti ≤ tk ∧ tk ≤ 4611686018427387904 ∧ D * s' ≤ B * D + R * (tk - ti) := by
                      have e1 : s' = s + nk := by rw [← es', ← es, ← enk, show k + 1 - i = (k - i) + 1 by omega, sm, show i + (k - i) = k by omega]
                      have q1 := HCap.out.few k hk
                      have q2 := sm_le (f := ν) (i := i) (n := k + 1 - i) (M := 4398046511104) fun j h1 h2 => HCap.out.few j (by omega)
                      have q3 := HCap.out.rise i k hk1 hk
                      have q4 := HCap.out.lo k hk
                      have q5 := HCap.out.pair i (k - i) (by omega)
                      rw [show k - i + 1 = k + 1 - i by omega, show i + (k - i) = k by omega, es', etk, HI.out.1] at q5
                      rw [enk] at q1
                      rw [es'] at q2
                      rw [etk, HI.out.1] at q3
                      rw [etk] at q4
                      have q6 : (k + 1 - i) * 4398046511104 ≤ 40 * 4398046511104 := Nat.mul_le_mul_right _ (by have := HL.out; omega)
                      exact ⟨e1, by omega, q1, q3, by have := HT.out.2.1; omega, q5⟩
                    have BD : Hid _ := bd
                    obtain ⟨dt, edt⟩ : ∃ dt : Nat, dt = tk - ti := ⟨_, rfl⟩
                    have r1 : IntKind.u64.wrap (nk : Int) = (nk : Int) := by rw [IntKind.wrap_u64]; omega
                    have R2' : Hid (IntKind.u64.wrap ((s : Int) + (nk : Int)) = (s' : Int)) := by show _ = _; rw [IntKind.wrap_u64]; omega
                    have r3 : IntKind.i64.wrap ((tk : Int) - (ti : Int)) = (dt : Int) := by rw [IntKind.wrap_i64]; omega
                    have hdt : dt ≤ 9223372036854775807 := by omega
                    obtain ⟨X1, Y1, f1, mk1⟩ := (FR.out).rmulInt (k := dt) (by omega) hdt
                    obtain ⟨X2, Y2, f2, ad2⟩ := f1.radd (whole_fc (x := B) (n := 1) (word_P (by have := HT.out.2.2; omega)) (by omega)) (by omega) (by omega)
                    obtain ⟨z, hz⟩ : ∃ z, cmpI (s' * (D * 1)) ((R * dt * 1 + B * D) * 1) = z := ⟨_, rfl⟩
                    have zle : z ≤ 0 := by
                      rw [← hz]
                      refine cmpI_leJ ?_
                      have := bd.2.2.2.2.2
                      rw [← edt] at this
                      rw [Nat.mul_one, Nat.mul_one, Nat.mul_one, Nat.mul_comm s' D, Nat.add_comm]
                      exact this
                    have CM : Hid _ := (whole_fc (x := s') (n := 1) (word_P bd.2.1) (by omega)).rcmp f2 (by omega) (by omega) hz
                    have zd : decide (0 < z) = false := decide_eq_false (by omega)
                    have MK : Hid _ := mk1
                    have AD : Hid _ := ad2
                    have HS : Hid (sm ν i (k - i) = s ∧ sm ν i (k + 1 - i) = s' ∧ s' < 18446744073709551616 ∧ B < 18446744073709551616 ∧ IntKind.u64.wrap (B : Int) = (B : Int)) := ⟨es, es', bd.2.1, by have := HT.out.2.2; omega, by rw [IntKind.wrap_u64]; have := HT.out.2.2; omega⟩
                    rw [es]
                    have r2 := R2'.out
                    clear bd f1 mk1 f2 ad2 hz zle hdt edt es es' enk etk
                    go_wp2_with fail
                    clear r2
                    have S9 : Hid _ := (((((sy_start wr).addG (R3.out.sy.rfr (.agg #[.slice a1 n1 c1, .slice d1 m1 g1]) R D)).addC (R3.out.sy.cel rb 1 (.slice d1 m1 g1))).addC (R3.out.sy.cel rb 0 (.slice a1 n1 c1))).addC x2).addC x3
                    refine wp_region_inv (JC wr [sRRt (R) (D), sEq (.slice (some ⟨gt, 0, none⟩) c tc), sEq (.int .i64 (k : Int)), sEq (.pointer (some ⟨gt, k, none⟩)), sEq (.int .i64 (tk : Int)), sEq (.slice (some ⟨gt, 0, none⟩) c tc), sEq (.int .i64 (i : Int)), sEq (.pointer (some ⟨gt, i, none⟩)), sEq (.int .i64 (ti : Int)), sEq (.int .i64 (dt : Int)), sRRtB (X1) (Y1) true, sRRtB (X1) (Y1) true, sRRt (X1) (Y1), sEq (.bool true), sAny, sAny, sEq (.bool true)] (14, 15, 12)) 174 (by kernel_rfl) rfl (by kernel_rfl) (JC.start _ _ _) (fun HG HN => ⟨?_, ?_, ?_, ?_, ?_, ?_, ?_, ?_, ?_, ?_, ?_, ?_, ?_, ?_, ?_, ?_, ?_, trivial⟩) ?_
                    · intro L vs a w' hJ hF hP hL
                      have q11 : (a.tmps[11]?).getD undef = .pointer (some ⟨rb, 0, none⟩) := hF.old 11 rfl
                      have cb := cell_later hJ.bel (S9.out.cel (rb) 0 (.slice a1 n1 c1))
                      have cc := cell_later hJ.bel (S9.out.cel (rb) 1 (.slice d1 m1 g1))
                      exact run_val (v := .agg #[.slice a1 n1 c1, .slice d1 m1 g1]) rfl (by simp [execOp, go_sem, q11, cb, cc]) ⟨_, rfl, hJ.step hL rfl (Below.refl _ _) (by exact ((S9.out.rfr (.agg #[.slice a1 n1 c1, .slice d1 m1 g1]) (R) (D)).mono hJ.bel))⟩
                    · intro L vs a w' hJ hF hP hL
                      have q13 : (a.tmps[13]?).getD undef = .slice (some ⟨gt, 0, none⟩) c tc := hF.old 13 rfl
                      exact run_val (v := .slice (some ⟨gt, 0, none⟩) c tc) rfl (by simp [execOp, go_sem, q13]) ⟨_, rfl, hJ.step hL rfl (Below.refl _ _) (by exact rfl)⟩
                    · intro L vs a w' hJ hF hP hL
                      have q23 : (a.tmps[23]?).getD undef = .int .i64 (k : Int) := hF.old 23 rfl
                      exact run_val (v := .int .i64 (k : Int)) rfl (by simp [execOp, go_sem, q23]) ⟨_, rfl, hJ.step hL rfl (Below.refl _ _) (by exact rfl)⟩
                    · intro L vs a w' hJ hF hP hL
                      have p1 : L 1 = true := hP ⟨1, .data⟩ (by simp) rfl
                      have s1 : vs 1 = .slice (some ⟨gt, 0, none⟩) c tc := hJ.sp 1 p1
                      have q134 := hF.slot 1 134 rfl p1
                      have p2 : L 2 = true := hP ⟨2, .data⟩ (by simp) rfl
                      have s2 : vs 2 = .int .i64 (k : Int) := hJ.sp 2 p2
                      have q135 := hF.slot 2 135 rfl p2
                      exact run_val (v := .pointer (some ⟨gt, k, none⟩)) rfl (by simp [execOp, go_sem, q134, s1, q135, s2, hk]) ⟨_, rfl, hJ.step hL rfl (Below.refl _ _) (by exact rfl)⟩
                    · intro L vs a w' hJ hF hP hL
                      have p3 : L 3 = true := hP ⟨3, .data⟩ (by simp) rfl
                      have s3 : vs 3 = .pointer (some ⟨gt, k, none⟩) := hJ.sp 3 p3
                      have q136 := hF.slot 3 136 rfl p3
                      have cb := cell_later hJ.bel (S9.out.cel gt k (.int .i64 (tk : Int)))
                      exact run_val (v := .int .i64 (tk : Int)) rfl (by simp [execOp, go_sem, q136, s3, cb]) ⟨_, rfl, hJ.step hL rfl (Below.refl _ _) (by exact rfl)⟩
                    · intro L vs a w' hJ hF hP hL
                      have q13 : (a.tmps[13]?).getD undef = .slice (some ⟨gt, 0, none⟩) c tc := hF.old 13 rfl
                      exact run_val (v := .slice (some ⟨gt, 0, none⟩) c tc) rfl (by simp [execOp, go_sem, q13]) ⟨_, rfl, hJ.step hL rfl (Below.refl _ _) (by exact rfl)⟩
                    · intro L vs a w' hJ hF hP hL
                      have q18 : (a.tmps[18]?).getD undef = .int .i64 (i : Int) := hF.old 18 rfl
                      exact run_val (v := .int .i64 (i : Int)) rfl (by simp [execOp, go_sem, q18]) ⟨_, rfl, hJ.step hL rfl (Below.refl _ _) (by exact rfl)⟩
                    · intro L vs a w' hJ hF hP hL
                      have p5 : L 5 = true := hP ⟨5, .data⟩ (by simp) rfl
                      have s5 : vs 5 = .slice (some ⟨gt, 0, none⟩) c tc := hJ.sp 5 p5
                      have q138 := hF.slot 5 138 rfl p5
                      have p6 : L 6 = true := hP ⟨6, .data⟩ (by simp) rfl
                      have s6 : vs 6 = .int .i64 (i : Int) := hJ.sp 6 p6
                      have q139 := hF.slot 6 139 rfl p6
                      exact run_val (v := .pointer (some ⟨gt, i, none⟩)) rfl (by simp [execOp, go_sem, q138, s5, q139, s6, hic]) ⟨_, rfl, hJ.step hL rfl (Below.refl _ _) (by exact rfl)⟩
                    · intro L vs a w' hJ hF hP hL
                      have p7 : L 7 = true := hP ⟨7, .data⟩ (by simp) rfl
                      have s7 : vs 7 = .pointer (some ⟨gt, i, none⟩) := hJ.sp 7 p7
                      have q140 := hF.slot 7 140 rfl p7
                      have cb := cell_later hJ.bel (S9.out.cel gt i (.int .i64 (ti : Int)))
                      exact run_val (v := .int .i64 (ti : Int)) rfl (by simp [execOp, go_sem, q140, s7, cb]) ⟨_, rfl, hJ.step hL rfl (Below.refl _ _) (by exact rfl)⟩
                    · intro L vs a w' hJ hF hP hL
                      have p4 : L 4 = true := hP ⟨4, .data⟩ (by simp) rfl
                      have s4 : vs 4 = .int .i64 (tk : Int) := hJ.sp 4 p4
                      have q137 := hF.slot 4 137 rfl p4
                      have p8 : L 8 = true := hP ⟨8, .data⟩ (by simp) rfl
                      have s8 : vs 8 = .int .i64 (ti : Int) := hJ.sp 8 p8
                      have q141 := hF.slot 8 141 rfl p8
                      exact run_val (v := .int .i64 (dt : Int)) rfl (by simp [execOp, go_sem, q137, s4, q141, s8, r3]) ⟨_, rfl, hJ.step hL rfl (Below.refl _ _) (by exact rfl)⟩
                    · intro L vs a w' hJ hF hP hL
                      have p0 : L 0 = true := hP ⟨0, .data⟩ (by simp) rfl
                      have s0 : RRt w' (vs 0) (R) (D) := hJ.sp 0 p0
                      have q133 := hF.slot 0 133 rfl p0
                      have p9 : L 9 = true := hP ⟨9, .data⟩ (by simp) rfl
                      have s9 : vs 9 = .int .i64 (dt : Int) := hJ.sp 9 p9
                      have q142 := hF.slot 9 142 rfl p9
                      refine run_call (f := 11) (args := #[vs 0, .int .i64 (dt : Int)]) rfl (by simp [go_sem, q133, q142, s9]) (MK.out _ _ s0) ?_
                      rintro e w2 ⟨v1, rfl, h1, hb⟩
                      exact ⟨_, rfl, _, rfl, hJ.step hL rfl hb (by exact ⟨v1, rfl, h1⟩)⟩
                    · intro L vs a w' hJ hF hP hL
                      have p10 : L 10 = true := hP ⟨10, .data⟩ (by simp) rfl
                      have s10 : ∃ p, vs 10 = .tuple #[p, .bool true] ∧ RRt w' p (X1) (Y1) := hJ.sp 10 p10
                      have q143 := hF.slot 10 143 rfl p10
                      exact run_val (v := vs 10) rfl (by simp [execOp, go_sem, q143]) ⟨_, rfl, hJ.step hL rfl (Below.refl _ _) (by exact s10)⟩
                    · intro L vs a w' hJ hF hP hL
                      have p11 : L 11 = true := hP ⟨11, .data⟩ (by simp) rfl
                      have s11 : ∃ p, vs 11 = .tuple #[p, .bool true] ∧ RRt w' p (X1) (Y1) := hJ.sp 11 p11
                      have q132 := hF.slot 11 132 rfl p11
                      obtain ⟨vp, e1, e2⟩ := s11
                      exact run_val (v := vp) rfl (by simp [execOp, go_sem, q132, e1]) ⟨_, rfl, hJ.step hL rfl (Below.refl _ _) (by exact e2)⟩
                    · intro L vs a w' hJ hF hP hL
                      have p11 : L 11 = true := hP ⟨11, .data⟩ (by simp) rfl
                      have s11 : ∃ p, vs 11 = .tuple #[p, .bool true] ∧ RRt w' p (X1) (Y1) := hJ.sp 11 p11
                      have q132 := hF.slot 11 132 rfl p11
                      obtain ⟨vp, e1, e2⟩ := s11
                      exact run_val (v := .bool true) rfl (by simp [execOp, go_sem, q132, e1]) ⟨_, rfl, hJ.step hL rfl (Below.refl _ _) (by exact rfl)⟩
                    · intro L vs a w' hJ hF hP hL
                      exact run_val (v := .pointer (some ⟨w'.heap.size, 0, none⟩)) (w' := w'.alloc (.cells #[.slice none 0 0, .slice none 0 0] 35)) rfl (by simp [execOp, go_sem]) ⟨_, rfl, hJ.alloc hL rfl (by decide) rfl _⟩
                    · intro L vs a w' hJ hF hP hL
                      have p14 : L 14 = true := hP ⟨14, .data⟩ (by simp) rfl
                      have q24 := hF.slot 14 24 rfl p14
                      have p12 : L 12 = true := hP ⟨12, .data⟩ (by simp) rfl
                      have s12 : RRt w' (vs 12) (X1) (Y1) := hJ.sp 12 p12
                      have q144 := hF.slot 12 144 rfl p12
                      obtain ⟨bk, e1, e2, e3, e4, e4', e5, e6⟩ := hJ.bx p14
                      obtain ⟨e7, e7'⟩ := e5 hL
                      have s12' := s12
                      obtain ⟨aa, nn, cc, a2, n2, c2, e8, _, _⟩ := s12'
                      exact run_unit (w' := (w'.setCell ⟨bk, 0, none⟩ (.slice aa nn cc)).setCell ⟨bk, 1, none⟩ (.slice a2 n2 c2)) rfl (by simp [execOp, go_sem, q24, q144, e1, e8, e7, e4, e7', e4']) ⟨undef, rfl, hJ.store hL p14 p12 (by decide) rfl e1 e8⟩
                    · intro L vs a w' hJ hF hP hL
                      have p13 : L 13 = true := hP ⟨13, .data⟩ (by simp) rfl
                      have s13 : vs 13 = .bool true := hJ.sp 13 p13
                      have q145 := hF.slot 13 145 rfl p13
                      exact run_val (v := .bool true) rfl (by simp [execOp, go_sem, q145, s13]) ⟨_, rfl, hJ.step hL rfl (Below.refl _ _) (by exact rfl)⟩
                    intro L vs w' hA hJ
                    have s12 : RRt w' (vs 12) (X1) (Y1) := hJ.sp 12 (hA 12 (by simp))
                    have s16 : vs 16 = .bool true := hJ.sp 16 (hA 16 (by simp))
                    obtain ⟨bk14, eb14, ge14, lt14, fz14, fz14', _, e6⟩ := hJ.bx (hA 14 (by simp))
                    obtain ⟨_, u14, u14', eu14, ce14, ce14'⟩ := e6 (hA 15 (by simp))
                    clear e6
                    simp only [putL, Act.put, List.setIfInBounds_toArray, List.set_cons_zero, List.set_cons_succ, Nat.reduceAdd]
                    obtain ⟨a24, n24, c24, d24, m24, g24, ev, _, _⟩ := id s12
                    rw [ev] at s12 eu14
                    obtain ⟨rfl, rfl⟩ : u14 = .slice a24 n24 c24 ∧ u14' = .slice d24 m24 g24 := by simpa [eq_comm] using eu14
                    simp only [eb14, s16]
                    have S10 : Hid _ := (((S9.out.go hJ.bel).addG s12).addC ce14').addC ce14
                    have FZ24 : Hid (w'.frozen? ⟨bk14, 0, none⟩ = false ∧ w'.frozen? ⟨bk14, 1, none⟩ = false ∧ wr.heap.size ≤ bk14) := ⟨fz14, fz14', ge14⟩
                    obtain ⟨w10, ew⟩ : ∃ w10, w10 = w' := ⟨_, rfl⟩
                    obtain ⟨b24, eb⟩ : ∃ b24, b24 = bk14 := ⟨_, rfl⟩
                    rw [← ew, ← eb] at S10 FZ24
                    rw [← ew, ← eb]
                    clear ew eb ev s12 s16 eu14 eb14 ce14 ce14' ge14 lt14 fz14 fz14' hJ hA
                    go_wp2_with fail
                    refine wp_region_inv (JD w10 [sRRt (X1) (Y1), sEq (.int .i64 (B : Int)), sEq (.int .u64 (B : Int)), sRRt (B) (1), sRRt (X2) (Y2), sAny] [[], [], [1], [2], [0, 3], [4]] 5 4 [0, 1, 2, 3, 4] (Sto2 (b24))) 174 (by kernel_rfl) rfl (by kernel_rfl) (JD.start _ _ _ _ _ _ _) (fun HG HN => ⟨?_, ?_, ?_, ?_, ?_, ?_, trivial⟩) ?_
                    · intro L vs a w' hJ hF hP hL
                      have hK := hJ
                      have hJ := hK.open hL (by decide)
                      have q24 : (a.tmps[24]?).getD undef = .pointer (some ⟨b24, 0, none⟩) := hF.old 24 rfl
                      have cb := cell_later hJ.bel (S10.out.cel (b24) 0 (.slice a24 n24 c24))
                      have cc := cell_later hJ.bel (S10.out.cel (b24) 1 (.slice d24 m24 g24))
                      exact run_val (v := .agg #[.slice a24 n24 c24, .slice d24 m24 g24]) rfl (by simp [execOp, go_sem, q24, cb, cc]) ⟨_, rfl, hK.step hL (by decide) (by decide) rfl (nd_nil) <| hJ.step hL rfl (Below.refl _ _) (by exact ((S10.out.rfr (.agg #[.slice a24 n24 c24, .slice d24 m24 g24]) (X1) (Y1)).mono hJ.bel))⟩
                    · intro L vs a w' hJ hF hP hL
                      have hK := hJ
                      have hJ := hK.open hL (by decide)
                      have q0 : (a.tmps[0]?).getD undef = .int .i64 (B : Int) := hF.old 0 rfl
                      exact run_val (v := .int .i64 (B : Int)) rfl (by simp [execOp, go_sem, q0]) ⟨_, rfl, hK.step hL (by decide) (by decide) rfl (nd_nil) <| hJ.step hL rfl (Below.refl _ _) (by exact rfl)⟩
                    · intro L vs a w' hJ hF hP hL
                      have hK := hJ
                      have hJ := hK.open hL (by decide)
                      have p1 : L 1 = true := hP ⟨1, .data⟩ (by simp) rfl
                      have s1 : vs 1 = .int .i64 (B : Int) := hJ.sp 1 p1
                      have q147 := hF.slot 1 147 rfl p1
                      exact run_val (v := .int .u64 (B : Int)) rfl (by simp [execOp, go_sem, q147, s1, HS.out.2.2.2.2]) ⟨_, rfl, hK.step hL (by decide) (by decide) rfl (nd_cons p1 (nd_nil)) <| hJ.step hL rfl (Below.refl _ _) (by exact rfl)⟩
                    · intro L vs a w' hJ hF hP hL
                      have hK := hJ
                      have hJ := hK.open hL (by decide)
                      have p2 : L 2 = true := hP ⟨2, .data⟩ (by simp) rfl
                      have s2 : vs 2 = .int .u64 (B : Int) := hJ.sp 2 p2
                      have q148 := hF.slot 2 148 rfl p2
                      refine run_call (f := 13) (args := #[.int .u64 (B : Int)]) rfl (by simp [go_sem, q148, s2]) (rwhole_any B _ HS.out.2.2.2.1) ?_
                      rintro e w2 ⟨v, rfl, hv, hb⟩
                      exact ⟨_, rfl, _, rfl, hK.step hL (by decide) (by decide) rfl (nd_cons p2 (nd_nil)) <| hJ.step hL rfl hb (by exact hv)⟩
                    · intro L vs a w' hJ hF hP hL
                      have hK := hJ
                      have hJ := hK.open hL (by decide)
                      have p0 : L 0 = true := hP ⟨0, .data⟩ (by simp) rfl
                      have s0 : RRt w' (vs 0) (X1) (Y1) := hJ.sp 0 p0
                      have q146 := hF.slot 0 146 rfl p0
                      have p3 : L 3 = true := hP ⟨3, .data⟩ (by simp) rfl
                      have s3 : RRt w' (vs 3) (B) (1) := hJ.sp 3 p3
                      have q149 := hF.slot 3 149 rfl p3
                      refine run_call (f := 12) (args := #[vs 0, vs 3]) rfl (by simp [go_sem, q146, q149]) (AD.out _ _ _ s0 s3) ?_
                      rintro e w2 ⟨v, rfl, hv, hb⟩
                      exact ⟨_, rfl, _, rfl, hK.step hL (by decide) (by decide) rfl (nd_cons p0 (nd_cons p3 (nd_nil))) <| hJ.step hL rfl hb (by exact hv)⟩
                    · intro L vs a w' hJ hF hP hL
                      have hK := hJ
                      have hJ := hK.core hL
                      have q24 : (a.tmps[24]?).getD undef = .pointer (some ⟨b24, 0, none⟩) := hF.old 24 rfl
                      have p4 : L 4 = true := hP ⟨4, .data⟩ (by simp) rfl
                      have s4 : RRt w' (vs 4) (X2) (Y2) := hJ.sp 4 p4
                      have q150 := hF.slot 4 150 rfl p4
                      have p0 : L 0 = true := hK.cl 4 p4 0 (by simp)
                      have p3 : L 3 = true := hK.cl 4 p4 3 (by simp)
                      have p2 : L 2 = true := hK.cl 3 p3 2 (by simp)
                      have p1 : L 1 = true := hK.cl 2 p2 1 (by simp)
                      have x0 := cell_later hJ.bel (S10.out.cel b24 0 (.slice a24 n24 c24))
                      have y0 := (hJ.bel.frozen (World.block_lt_of_cell? _ _ (S10.out.cel b24 0 (.slice a24 n24 c24)))).trans FZ24.out.1
                      have x1 := cell_later hJ.bel (S10.out.cel b24 1 (.slice d24 m24 g24))
                      have y1 := (hJ.bel.frozen (World.block_lt_of_cell? _ _ (S10.out.cel b24 1 (.slice d24 m24 g24)))).trans FZ24.out.2.1
                      have s4' := s4
                      obtain ⟨aa, nn, cc, a2, n2, c2, e8, _, _⟩ := s4'
                      exact run_unit (w' := ((w'.setCell ⟨b24, 0, none⟩ (.slice aa nn cc)).setCell ⟨b24, 1, none⟩ (.slice a2 n2 c2))) rfl (by simp [execOp, go_sem, q24, q150, e8, x0, y0, x1, y1]) ⟨undef, rfl, hK.put hL (by decide) rfl (nd_cons p4 (nd_nil)) (nd_cons p0 (nd_cons p1 (nd_cons p2 (nd_cons p3 (nd_cons p4 (nd_nil)))))) p4 ⟨_, _, e8, rfl⟩⟩
                    intro L vs w' hA hK
                    obtain ⟨_, w1, hb1, sv, u1, u2, ev, ew⟩ := hK.fin (hA 5 (by simp))
                    replace sv : RRt w1 (vs 4) (X2) (Y2) := sv
                    simp only [putL, Act.put, List.setIfInBounds_toArray, List.set_cons_zero, List.set_cons_succ, Nat.reduceAdd]
                    have sv' := sv
                    obtain ⟨a26, n26, c26, d26, m26, g26, e9, _, _⟩ := sv'
                    have SB : Hid _ := (S10.out.go hb1).addG sv
                    rw [e9] at SB ev
                    obtain ⟨rfl, rfl⟩ : u1 = .slice a26 n26 c26 ∧ u2 = .slice d26 m26 g26 := by simpa [eq_comm] using ev
                    have j0 := SB.out.cel b24 0 (.slice a24 n24 c24)
                    have j1 := SB.out.cel b24 1 (.slice d24 m24 g24)
                    have SC : Hid _ := SB.out.put2J (b := b24) j0 j1 FZ24.out.2.2 [] (by simp) (.slice a26 n26 c26) (.slice d26 m26 g26)
                    rw [← ew] at SC
                    obtain ⟨w11, ew1⟩ : ∃ w11, w11 = w' := ⟨_, rfl⟩
                    rw [← ew1] at SC
                    rw [← ew1]
                    clear SB sv e9 ev ew ew1 hb1 hK hA j0 j1
                    go_wp2_with fail
                    refine wp_region_inv (JB w11 [sEq (.int .u64 (s' : Int)), sRRt (s') (1), sRRt (X2) (Y2), sEq (.int .i64 z), sEq (.bool false)] []) 174 (by kernel_rfl) rfl (by kernel_rfl) (JB.start _ _ _) (fun HG HN => ⟨?_, ?_, ?_, ?_, ?_, trivial⟩) ?_
                    · intro L vs a w' hJ hF hP hL
                      have q19 : (a.tmps[19]?).getD undef = .int .u64 (s' : Int) := hF.old 19 rfl
                      exact run_val (v := .int .u64 (s' : Int)) rfl (by simp [execOp, go_sem, q19]) ⟨_, rfl, hJ.step hL rfl (Below.refl _ _) (by exact rfl)⟩
                    · intro L vs a w' hJ hF hP hL
                      have p0 : L 0 = true := hP ⟨0, .data⟩ (by simp) rfl
                      have s0 : vs 0 = .int .u64 (s' : Int) := hJ.sp 0 p0
                      have q151 := hF.slot 0 151 rfl p0
                      refine run_call (f := 13) (args := #[.int .u64 (s' : Int)]) rfl (by simp [go_sem, q151, s0]) (rwhole_any s' _ HS.out.2.2.1) ?_
                      rintro e w2 ⟨v, rfl, hv, hb⟩
                      exact ⟨_, rfl, _, rfl, hJ.step hL rfl hb (by exact hv)⟩
                    · intro L vs a w' hJ hF hP hL
                      have q24 : (a.tmps[24]?).getD undef = .pointer (some ⟨b24, 0, none⟩) := hF.old 24 rfl
                      have cb := cell_later hJ.bel (SC.out.cel (b24) 0 (.slice a26 n26 c26))
                      have cc := cell_later hJ.bel (SC.out.cel (b24) 1 (.slice d26 m26 g26))
                      exact run_val (v := .agg #[.slice a26 n26 c26, .slice d26 m26 g26]) rfl (by simp [execOp, go_sem, q24, cb, cc]) ⟨_, rfl, hJ.step hL rfl (Below.refl _ _) (by exact ((SC.out.rfr (.agg #[.slice a26 n26 c26, .slice d26 m26 g26]) (X2) (Y2)).mono hJ.bel))⟩
                    · intro L vs a w' hJ hF hP hL
                      have p1 : L 1 = true := hP ⟨1, .data⟩ (by simp) rfl
                      have s1 : RRt w' (vs 1) (s') (1) := hJ.sp 1 p1
                      have q152 := hF.slot 1 152 rfl p1
                      have p2 : L 2 = true := hP ⟨2, .data⟩ (by simp) rfl
                      have s2 : RRt w' (vs 2) (X2) (Y2) := hJ.sp 2 p2
                      have q153 := hF.slot 2 153 rfl p2
                      refine run_call (f := 14) (args := #[vs 1, vs 2]) rfl (by simp [go_sem, q152, q153]) (CM.out _ _ _ s1 s2) ?_
                      rintro e w2 ⟨rfl, hb⟩
                      exact ⟨_, rfl, _, rfl, hJ.step hL rfl hb (by exact rfl)⟩
                    · intro L vs a w' hJ hF hP hL
                      have p3 : L 3 = true := hP ⟨3, .data⟩ (by simp) rfl
                      have s3 : vs 3 = .int .i64 z := hJ.sp 3 p3
                      have q154 := hF.slot 3 154 rfl p3
                      exact run_val (v := .bool false) rfl (by simp [execOp, go_sem, q154, s3, zd]) ⟨_, rfl, hJ.step hL rfl (Below.refl _ _) (by exact rfl)⟩
                    intro L vs w' hA hJ
                    have s4 : vs 4 = .bool false := hJ.sp 4 (hA 4 (by simp))
                    simp only [putL, Act.put, List.setIfInBounds_toArray, List.set_cons_zero, List.set_cons_succ, Nat.reduceAdd]
                    simp only [s4]
                    obtain ⟨w12, ew⟩ : ∃ w12, w12 = w' := ⟨_, rfl⟩
                    have SD : Hid _ := SC.out.go hJ.bel
                    rw [← ew] at SD
                    rw [← ew]
                    clear ew s4 hJ hA
                    have NB : Hid (Below w6.heap.size w6 w12) := HBL.out.trans ((SD.out.bel).mono HBL.out.size)
                    clear S9 S10 SC SD R3 x1 x2 x3 FZ24
                    go_wp2_with fail
                    go_roundw
                    case rel => exact ⟨k + 1, by have := HK.out; omega, by omega, by go_num, by rw [HS.out.2.1], NB.out⟩
                    case measure => simp [intOf]; omega
                  · obtain rfl : c = k := by omega
                    clear hk1 hk2 HK
                    go_wp2_with fail
                    go_loopw [22, 26] (fun sv kv w4 => ∃ k : Nat, k ≤ c ∧ kv = .int .i64 (k : Int) ∧ sv = .int .u64 ((sm ν 0 k : Nat) : Int) ∧ Below w6.heap.size w6 w4) (fun _ k _ => c - (intOf k).toNat)
                    case atStart => exact ⟨0, by omega, rfl, rfl, HBL.out⟩
                    case round =>
                      clear HBL
                      obtain ⟨k, hk2, rfl, rfl, hbl⟩ := hrel
                      have HBL : Hid (Below w6.heap.size w6 wr) := hbl
                      clear hbl
                      by_cases hk : k < c
                      · obtain ⟨s, es⟩ : ∃ s, sm ν 0 k = s := ⟨_, rfl⟩
                        obtain ⟨s', es'⟩ : ∃ s', sm ν 0 (k + 1) = s' := ⟨_, rfl⟩
                        obtain ⟨nk, enk⟩ : ∃ nk, ν k = nk := ⟨_, rfl⟩
                        have x1 := (R2.out.go HBL.out).ns k hk
                        rw [enk] at x1
                        have q1 := HCap.out.few k hk
                        have q2 := sm_le (f := ν) (i := 0) (n := k + 1) (M := 4398046511104) fun j h1 h2 => HCap.out.few j (by omega)
                        have e1 : s' = s + nk := by rw [← es', ← es, ← enk, sm, Nat.zero_add]
                        rw [enk] at q1
                        rw [es'] at q2
                        have q3 : (k + 1) * 4398046511104 ≤ 40 * 4398046511104 := Nat.mul_le_mul_right _ (by have := HL.out; omega)
                        have R1' : Hid (IntKind.u64.wrap (nk : Int) = (nk : Int) ∧ IntKind.u64.wrap ((s : Int) + (nk : Int)) = (s' : Int)) := ⟨by rw [IntKind.wrap_u64]; omega, by rw [IntKind.wrap_u64]; omega⟩
                        have HS : Hid (sm ν 0 (k + 1) = s') := es'
                        rw [es]
                        obtain ⟨r1, r2⟩ := R1'.out
                        clear q1 q2 q3 e1 es es' enk
                        go_wp2_with fail
                        go_roundw
                        case rel => exact ⟨k + 1, by omega, by go_num, by rw [HS.out], HBL.out⟩
                        case measure => simp [intOf]; omega
                      · obtain rfl : c = k := by omega
                        obtain ⟨s, es⟩ : ∃ s, sm ν 0 c = s := ⟨_, rfl⟩
                        rw [es]
                        have q2 := sm_le (f := ν) (i := 0) (n := c) (M := 4398046511104) fun j h1 h2 => HCap.out.few j (by omega)
                        rw [es] at q2
                        have q3 : c * 4398046511104 ≤ 40 * 4398046511104 := Nat.mul_le_mul_right _ HL.out
                        have sl : s < 18446744073709551616 := by omega
                        have q5 := HCap.out.last (by have := HI.out.2; omega)
                        rw [es, HTL.out] at q5
                        obtain ⟨z, hz⟩ : ∃ z, cmpI (s * D) ((R * tz) * 1) = z := ⟨_, rfl⟩
                        have zle : z ≤ 0 := by
                          rw [← hz]
                          refine cmpI_leJ ?_
                          rw [Nat.mul_one, Nat.mul_comm s D]
                          exact q5
                        have CM : Hid _ := (whole_fc (x := s) (n := 1) (word_P sl) (by omega)).rcmp F0.out (by omega) (by omega) hz
                        have zd : decide (0 < z) = false := decide_eq_false (by omega)
                        have HS : Hid (s < 18446744073709551616) := sl
                        have S9 : Hid _ := S6.out.go HBL.out
                        clear q2 q3 q5 sl zle hz es
                        go_wp2_with fail
                        refine wp_region_inv (JB wr [sEq (.int .u64 (s : Int)), sRRt (s) (1), sRRt (X0) (Y0), sEq (.int .i64 z), sEq (.bool false)] []) 174 (by kernel_rfl) rfl (by kernel_rfl) (JB.start _ _ _) (fun HG HN => ⟨?_, ?_, ?_, ?_, ?_, trivial⟩) ?_
                        · intro L vs a w' hJ hF hP hL
                          have q22 : (a.tmps[22]?).getD undef = .int .u64 (s : Int) := hF.old 22 rfl
                          exact run_val (v := .int .u64 (s : Int)) rfl (by simp [execOp, go_sem, q22]) ⟨_, rfl, hJ.step hL rfl (Below.refl _ _) (by exact rfl)⟩
                        · intro L vs a w' hJ hF hP hL
                          have p0 : L 0 = true := hP ⟨0, .data⟩ (by simp) rfl
                          have s0 : vs 0 = .int .u64 (s : Int) := hJ.sp 0 p0
                          have q169 := hF.slot 0 169 rfl p0
                          refine run_call (f := 13) (args := #[.int .u64 (s : Int)]) rfl (by simp [go_sem, q169, s0]) (rwhole_any s _ HS.out) ?_
                          rintro e w2 ⟨v, rfl, hv, hb⟩
                          exact ⟨_, rfl, _, rfl, hJ.step hL rfl hb (by exact hv)⟩
                        · intro L vs a w' hJ hF hP hL
                          have q20 : (a.tmps[20]?).getD undef = .pointer (some ⟨b20, 0, none⟩) := hF.old 20 rfl
                          have cb := cell_later hJ.bel (S9.out.cel (b20) 0 (.slice a20 n20 c20))
                          have cc := cell_later hJ.bel (S9.out.cel (b20) 1 (.slice d20 m20 g20))
                          exact run_val (v := .agg #[.slice a20 n20 c20, .slice d20 m20 g20]) rfl (by simp [execOp, go_sem, q20, cb, cc]) ⟨_, rfl, hJ.step hL rfl (Below.refl _ _) (by exact ((S9.out.rfr (.agg #[.slice a20 n20 c20, .slice d20 m20 g20]) (X0) (Y0)).mono hJ.bel))⟩
                        · intro L vs a w' hJ hF hP hL
                          have p1 : L 1 = true := hP ⟨1, .data⟩ (by simp) rfl
                          have s1 : RRt w' (vs 1) (s) (1) := hJ.sp 1 p1
                          have q170 := hF.slot 1 170 rfl p1
                          have p2 : L 2 = true := hP ⟨2, .data⟩ (by simp) rfl
                          have s2 : RRt w' (vs 2) (X0) (Y0) := hJ.sp 2 p2
                          have q171 := hF.slot 2 171 rfl p2
                          refine run_call (f := 14) (args := #[vs 1, vs 2]) rfl (by simp [go_sem, q170, q171]) (CM.out _ _ _ s1 s2) ?_
                          rintro e w2 ⟨rfl, hb⟩
                          exact ⟨_, rfl, _, rfl, hJ.step hL rfl hb (by exact rfl)⟩
                        · intro L vs a w' hJ hF hP hL
                          have p3 : L 3 = true := hP ⟨3, .data⟩ (by simp) rfl
                          have s3 : vs 3 = .int .i64 z := hJ.sp 3 p3
                          have q172 := hF.slot 3 172 rfl p3
                          exact run_val (v := .bool false) rfl (by simp [execOp, go_sem, q172, s3, zd]) ⟨_, rfl, hJ.step hL rfl (Below.refl _ _) (by exact rfl)⟩
                        intro L vs w' hA hJ
                        have s4 : vs 4 = .bool false := hJ.sp 4 (hA 4 (by simp))
                        simp only [putL, Act.put, List.setIfInBounds_toArray, List.set_cons_zero, List.set_cons_succ, Nat.reduceAdd]
                        simp only [s4]
                        obtain ⟨w12, ew⟩ : ∃ w12, w12 = w' := ⟨_, rfl⟩
                        have SD : Hid _ := S9.out.go hJ.bel
                        rw [← ew] at SD
                        rw [← ew]
                        clear ew s4 hJ hA
                        have NB : Hid (Below WF.heap.size WF w12) := HBF.out.trans (SD.out.bel.mono HBF.out.size)
                        clear S9 SD
                        go_wp2_with fail
                        go_roundw
                        case rel => exact ⟨i + 1, by have := HI.out.2; omega, by go_num, NB.out⟩
                        case measure => simp [intOf]; have := HI.out.2; omega
              · have hci : ¬ i < c := hic
                go_wp2_with fail
                go_ret
                exact ⟨rfl, HW.out.trans (HBF.out.mono HW.out.size)⟩
  · refine (NN.out _ hr).mono ?_
    rintro e w2 ⟨rfl, hbl⟩
    have hnr : ¬ (isF u ∧ gtM u = false) := fun h => hr ⟨h.2, by have := HP.out; omega, by have := HP.out; omega, h.1⟩
    have HN : Hid _ := hnr
    have Z0 : Hid (Below W0.heap.size W0 w2) := hbl
    clear hbl hr hnr NY NN
    go_wp2_with fail
    refine (rrate_no u _ HU.out.1 HN.out).mono ?_
    rintro e w3 ⟨v3, rfl, hv, hb⟩
    obtain ⟨a1, n1, c1, d1, m1, g1, ev, _, _⟩ := hv
    subst ev
    have S1 : Hid _ := (((sy_start W0).go Z0.out).go hb).box (.slice a1 n1 c1) (.slice d1 m1 g1) 35 _ rfl
    clear hb Z0
    go_wp2_with fail
    obtain ⟨w4, ew⟩ : ∃ w4, w4 = w3.alloc (.cells #[.slice a1 n1 c1, .slice d1 m1 g1] 35) := ⟨_, rfl⟩
    rw [← ew] at S1
    rw [← ew]
    clear ew
    refine (btold_true _ (HU.out.2.1.go S1.out.bel)).mono ?_
    rintro e w5 ⟨rfl, hb⟩
    have HB2 : Hid (Below W0.heap.size W0 w5) := (S1.out.go hb).bel
    clear hb S1
    go_wp2_with fail
    go_ret
    exact ⟨rfl, HB2.out⟩
end Go.Proofs.YthogfecnbddfoaaGreatDoor

