/- Contracts of the program's functions, part 9: own work, joined in build order. -/
import Derived.Test.YtfkkomppfghagaaGreatDoorJ8
import Derived.ArgAppend
import Derived.Deep.LoopGhost
namespace Go.Proofs.YtfkkomppfghagaaGreatDoor
open Go.RowKit
set_option maxRecDepth 100000
set_option linter.unusedVariables false
def MakesRB (w : World) (p q : Nat) (ok : Bool) (e : Ending) (w' : World) : Prop := ∃ v, e = .returned (.tuple #[v, .bool ok]) ∧ Rt w' v p q ∧ Below w.heap.size w w'
theorem gcd_low {p q : Nat} (hq : 0 < q) : 0 < Nat.gcd p q ∧ Nat.gcd (p / Nat.gcd p q) (q / Nat.gcd p q) = 1 ∧ 0 < q / Nat.gcd p q := by
  have h0 : 0 < Nat.gcd p q := Nat.gcd_pos_of_pos_right _ hq
  refine ⟨h0, ?_, Nat.div_pos (Nat.gcd_le_right _ hq) h0⟩
  rw [Nat.gcd_div (Nat.gcd_dvd_left _ _) (Nat.gcd_dvd_right _ _), Nat.div_self h0]
set_option maxHeartbeats 4000000 in
theorem from_any (v u : Value) (p q : Nat) (w : World) (h : IsNat w v p) (k : IsNat w u q) (hp : RS p) (hq : RS q) (hq0 : 0 < q) (hT : Tab w) :
    Calls Tryz.prog 51 #[v, u] w (MakesRB w (p / Nat.gcd p q) (q / Nat.gcd p q) true) := by
  obtain ⟨a, n, c, rfl⟩ := h.isAgg
  obtain ⟨a', n', c', rfl⟩ := k.isAgg
  have HH : Hid (IsNat w (.agg #[.slice a n c]) p ∧ IsNat w (.agg #[.slice a' n' c']) q ∧ RS p ∧ RS q ∧ 0 < q ∧ Tab w) := ⟨h, k, hp, hq, hq0, hT⟩
  have ba : Hid (Below w.heap.size w (((w.alloc (.cells #[.slice a n c] 45)).alloc (.cells #[.slice a' n' c'] 45)).alloc (.cells #[.slice none 0 0, .slice none 0 0] 47))) := bel_al (bel_al (bel_al (bel_refl w)))
  have hz : decide (q = 0) = false := decide_eq_false (by omega)
  clear h k hp hq hq0 hT
  go_enter Tryz.func51, Tryz.ntmps51
  go_wp2_with fail
  refine (isZero_any _ q _ (HH.out.2.1.mono ba.out) HH.out.2.2.2.1.fits).mono ?_
  rintro e w1 ⟨rfl, hb1⟩
  have c0 : w1.cell? ⟨w.heap.size, 0, none⟩ = some (.slice a n c) := cell_later hb1 (by simp [go_sem])
  have c1 : w1.cell? ⟨w.heap.size + 1, 0, none⟩ = some (.slice a' n' c') := cell_later hb1 (by simp [go_sem])
  have c2 : w1.cell? ⟨w.heap.size + 1 + 1, 0, none⟩ = some (.slice none 0 0) := cell_later hb1 (by simp [go_sem])
  have c3 : w1.cell? ⟨w.heap.size + 1 + 1, 1, none⟩ = some (.slice none 0 0) := cell_later hb1 (by simp [go_sem])
  have f2 : w1.frozen? ⟨w.heap.size + 1 + 1, 0, none⟩ = false := (hb1.frozen (by simp)).trans (by simp [go_sem])
  have f3 : w1.frozen? ⟨w.heap.size + 1 + 1, 1, none⟩ = false := (hb1.frozen (by simp)).trans (by simp [go_sem])
  have B1 : Hid (Below w.heap.size w w1) := bel_go ba.out hb1
  clear hb1 ba
  go_wp2_with fail
  refine (gcd_any _ _ p q _ (HH.out.1.mono B1.out) (HH.out.2.1.mono B1.out) HH.out.2.2.1.p198 HH.out.2.2.2.1.p198 (HH.out.2.2.2.2.2.go B1.out)).mono ?_
  rintro e w2 ⟨v2, rfl, hv2, hb2⟩
  obtain ⟨a2, n2, k2, rfl⟩ := hv2.isAgg
  obtain ⟨g, eg⟩ : ∃ g, g = Nat.gcd p q := ⟨_, rfl⟩
  rw [← eg] at hv2 ⊢
  have HG : Hid (0 < g ∧ Nat.gcd (p / g) (q / g) = 1 ∧ 0 < q / g ∧ g < P 198) := by
    obtain ⟨g1, g2, g3⟩ := gcd_low (p := p) HH.out.2.2.2.2.1
    rw [← eg] at g1 g2 g3
    refine ⟨g1, g2, g3, Nat.lt_of_le_of_lt (eg ▸ Nat.gcd_le_right _ HH.out.2.2.2.2.1) HH.out.2.2.2.1.p198⟩
  obtain ⟨w3, hw3⟩ : ∃ w3, w3 = w2.alloc (.cells #[.slice a2 n2 k2] 45) := ⟨_, rfl⟩
  have b3 : Below w1.heap.size w1 w3 := by rw [hw3]; exact bel_go hb2 (bel_al (bel_refl w2))
  have b23 : Below w2.heap.size w2 w3 := by rw [hw3]; exact bel_al (bel_refl w2)
  have d0 := cell_later b3 c0
  have d1 := cell_later b3 c1
  have d2 := cell_later b3 c2
  have d3 := cell_later b3 c3
  have h2 : w3.frozen? ⟨w.heap.size + 1 + 1, 0, none⟩ = false := (b3.frozen (World.block_lt_of_cell? _ _ c2)).trans f2
  have h3 : w3.frozen? ⟨w.heap.size + 1 + 1, 1, none⟩ = false := (b3.frozen (World.block_lt_of_cell? _ _ c3)).trans f3
  have d4 : w3.cell? ⟨w2.heap.size, 0, none⟩ = some (.slice a2 n2 k2) := by rw [hw3]; simp [go_sem]
  have I3 : Hid (IsNat w3 (.agg #[.slice a n c]) p ∧ IsNat w3 (.agg #[.slice a' n' c']) q ∧ IsNat w3 (.agg #[.slice a2 n2 k2]) g ∧ Below w.heap.size w w3) := ⟨(HH.out.1.mono B1.out).mono b3, (HH.out.2.1.mono B1.out).mono b3, hv2.mono b23, bel_go B1.out b3⟩
  go_wp2_with fail
  rw [← hw3]
  obtain ⟨b6, hb6⟩ : ∃ b6, b6 = w2.heap.size := ⟨_, rfl⟩
  have nb : ¬ w.heap.size + 1 + 1 = b6 := by
    have : w.heap.size + 1 + 1 < w2.heap.size := World.block_lt_of_cell? _ _ (cell_later hb2 c2)
    omega
  have nb' : ¬ b6 = w.heap.size + 1 + 1 := fun e => nb e.symm
  rw [← hb6] at d4
  rw [← hb6]
  have EG : Hid (g = Nat.gcd p q) := eg
  clear hv2 hb2 b3 b23 c0 c1 c2 c3 f2 f3 hw3 hb6 hz eg
  go_region_held3 (fun w' => w'.cell? ⟨w.heap.size, 0, none⟩ = some (.slice a n c) ∧ w'.cell? ⟨w.heap.size + 1, 0, none⟩ = some (.slice a' n' c') ∧ w'.cell? ⟨b6, 0, none⟩ = some (.slice a2 n2 k2)) (first | (simp [go_sem, *]; done) | (trace_state; fail))
    (first
      | (go_at_call_of 70 (Value.agg #[Value.slice a n c]); refine Calls.mono (over_any _ _ p g _ (IsNat.mono I3.out.1 ?_) (IsNat.mono I3.out.2.2.1 ?_) HH.out.2.2.1.p198 HG.out.2.2.2 HG.out.1) ?_; (first | exact bel_refl _ | exact bel_dr (bel_refl _)); (first | exact bel_refl _ | exact bel_dr (bel_refl _)); rintro e w4 ⟨v4, rfl, hv4, hb4⟩; have hb4 : Below w3.heap.size w3 w4 := (by first | exact hb4 | exact bel_undrew hb4); obtain ⟨a4, n4, k4, rfl⟩ := hv4.isAgg; have x0 := cell_later hb4 d0; have x1 := cell_later hb4 d1; have x2 := cell_later hb4 d2; have x3 := cell_later hb4 d3; have x4 := cell_later hb4 d4; have y2 : w4.frozen? ⟨w.heap.size + 1 + 1, 0, none⟩ = false := (hb4.frozen (World.block_lt_of_cell? _ _ d2)).trans h2; have y3 : w4.frozen? ⟨w.heap.size + 1 + 1, 1, none⟩ = false := (hb4.frozen (World.block_lt_of_cell? _ _ d3)).trans h3; have I4 : Hid (IsNat w4 (.agg #[.slice a4 n4 k4]) (p / g) ∧ IsNat w4 (.agg #[.slice a' n' c']) q ∧ IsNat w4 (.agg #[.slice a2 n2 k2]) g ∧ Below w.heap.size w w4) := ⟨hv4, I3.out.2.1.mono hb4, I3.out.2.2.1.mono hb4, bel_go I3.out.2.2.2 hb4⟩; clear hv4 hb4)
      | (go_at_call 70; refine Calls.mono (over_any _ _ q g _ I4.out.2.1 I4.out.2.2.1 HH.out.2.2.2.1.p198 HG.out.2.2.2 HG.out.1) ?_; rintro e w5 ⟨v5, rfl, hv5, hb5⟩; obtain ⟨a5, n5, k5, rfl⟩ := hv5.isAgg; have x5 := cell_later hb5 x2; have x6 := cell_later hb5 x3; have y5 : w5.frozen? ⟨w.heap.size + 1 + 1, 0, none⟩ = false := (hb5.frozen (World.block_lt_of_cell? _ _ x2)).trans y2; have y6 : w5.frozen? ⟨w.heap.size + 1 + 1, 1, none⟩ = false := (hb5.frozen (World.block_lt_of_cell? _ _ x3)).trans y3; have x7 := cell_later hb5 x0; have x8 := cell_later hb5 x1; have x9 := cell_later hb5 x4; have I5 : Hid (IsNat w5 (.agg #[.slice a4 n4 k4]) (p / g) ∧ IsNat w5 (.agg #[.slice a5 n5 k5]) (q / g) ∧ Below w.heap.size w w5) := ⟨I4.out.1.mono hb5, hv5, bel_go I4.out.2.2.2 hb5⟩; clear hv5 hb5)
      | (go_at_call 71; refine Calls.mono (inLowest_any _ _ (p / g) (q / g) _ I5.out.1 I5.out.2.1 (HH.out.2.2.1.le (Nat.div_le_self _ _)).fits HG.out.2.2.1 HG.out.2.1) ?_; rintro e w6 ⟨v6, rfl, hv6, hb6⟩; have x10 := cell_later hb6 x5; have x11 := cell_later hb6 x6; have y10 : w6.frozen? ⟨w.heap.size + 1 + 1, 0, none⟩ = false := (hb6.frozen (World.block_lt_of_cell? _ _ x5)).trans y5; have y11 : w6.frozen? ⟨w.heap.size + 1 + 1, 1, none⟩ = false := (hb6.frozen (World.block_lt_of_cell? _ _ x6)).trans y6; obtain ⟨a6, n6, k6, a7, n7, k7, ev6, _, _⟩ := hv6.raw; subst ev6; have x12 := cell_later hb6 x7; have x13 := cell_later hb6 x8; have x14 := cell_later hb6 x9; have I6 : Hid (Rt w6 (.agg #[.slice a6 n6 k6, .slice a7 n7 k7]) (p / g) (q / g) ∧ Below w.heap.size w w6) := ⟨hv6, bel_go I5.out.2.2 hb6⟩; clear hv6 hb6))
  have Z : Hid _ := rat_put (v := .slice a6 n6 k6) (u := .slice a7 n7 k7) x10 x11 I6.out.1 I6.out.2 (by omega)
  rw [EG.out] at Z
  go_wp2_with fail
  exact bodyPost_ret (v := .tuple #[.agg #[.slice a6 n6 k6, .slice a7 n7 k7], .bool true]) (by simp [results, Tryz.results51, go_sem, x10, x11]) rfl ⟨_, rfl, Z.out.1, Z.out.2⟩
set_option maxHeartbeats 2000000 in
theorem from_none (v u : Value) (p : Nat) (w : World) (h : IsNat w v p) (k : IsNat w u 0) :
    Calls Tryz.prog 51 #[v, u] w (MakesRB w 0 1 false) := by
  obtain ⟨a, n, c, rfl⟩ := h.isAgg
  obtain ⟨a', n', c', rfl⟩ := k.isAgg
  have HH : Hid (IsNat w (.agg #[.slice a' n' c']) 0) := k
  have ba : Hid (Below w.heap.size w (((w.alloc (.cells #[.slice a n c] 45)).alloc (.cells #[.slice a' n' c'] 45)).alloc (.cells #[.slice none 0 0, .slice none 0 0] 47))) := bel_al (bel_al (bel_al (bel_refl w)))
  clear h k
  go_enter Tryz.func51, Tryz.ntmps51
  go_wp2_with fail
  refine (isZero_any _ 0 _ (HH.out.mono ba.out) (tx_word (by omega)).fits).mono ?_
  rintro e w1 ⟨rfl, hb1⟩
  have c2 : w1.cell? ⟨w.heap.size + 1 + 1, 0, none⟩ = some (.slice none 0 0) := cell_later hb1 (by simp [go_sem])
  have c3 : w1.cell? ⟨w.heap.size + 1 + 1, 1, none⟩ = some (.slice none 0 0) := cell_later hb1 (by simp [go_sem])
  have f2 : w1.frozen? ⟨w.heap.size + 1 + 1, 0, none⟩ = false := (hb1.frozen (by simp)).trans (by simp [go_sem])
  have f3 : w1.frozen? ⟨w.heap.size + 1 + 1, 1, none⟩ = false := (hb1.frozen (by simp)).trans (by simp [go_sem])
  have Z : Hid _ := rat_put (v := .slice none 0 0) (u := .slice none 0 0) c2 c3 (rt_zero w1) (bel_go ba.out hb1) (by omega)
  clear hb1 ba
  go_wp2_with fail
  exact bodyPost_ret (v := .tuple #[.agg #[.slice none 0 0, .slice none 0 0], .bool false]) (by simp [results, Tryz.results51, go_sem, c2, c3]) rfl ⟨_, rfl, Z.out.1, Z.out.2⟩
theorem rs_word {x : Nat} (h : x < 18446744073709551616) : RS x := ⟨Nat.lt_of_lt_of_le (by rw [← P_one] at h; exact h) (P_le (by omega))⟩
set_option maxHeartbeats 2000000 in
theorem ratOf_yes (p q : Nat) (w : World) (hp : p ≤ 9223372036854775807) (hq : q ≤ 9223372036854775807) (hq0 : 0 < q) (hT : Tab w) :
    Calls Tryz.prog 20 #[.int .i64 (p : Int), .int .i64 (q : Int)] w (MakesRB w (p / Nat.gcd p q) (q / Nat.gcd p q) true) := by
  have d1 : decide ((p : Int) < 0) = false := decide_eq_false (by omega)
  have d2 : decide ((q : Int) < 1) = false := decide_eq_false (by omega)
  have m1 : IntKind.u64.wrap (p : Int) = (p : Int) := by rw [IntKind.wrap_u64]; omega
  have m2 : IntKind.u64.wrap (q : Int) = (q : Int) := by rw [IntKind.wrap_u64]; omega
  have HT : Hid (Tab w) := hT
  have ba : Hid (Below w.heap.size w (w.alloc (.cells #[.slice none 0 0, .slice none 0 0] 47))) := bel_al (bel_refl w)
  clear hT
  go_enter Tryz.func20, Tryz.ntmps20
  go_wp2_with fail
  refine (of_any p _ (by omega)).mono ?_
  rintro e w1 ⟨v1, rfl, hv1, hb1⟩
  have c0 : w1.cell? ⟨w.heap.size, 0, none⟩ = some (.slice none 0 0) := cell_later hb1 (by simp [go_sem])
  have c1 : w1.cell? ⟨w.heap.size, 1, none⟩ = some (.slice none 0 0) := cell_later hb1 (by simp [go_sem])
  have f0 : w1.frozen? ⟨w.heap.size, 0, none⟩ = false := (hb1.frozen (by simp)).trans (by simp [go_sem])
  have f1 : w1.frozen? ⟨w.heap.size, 1, none⟩ = false := (hb1.frozen (by simp)).trans (by simp [go_sem])
  have I1 : Hid (IsNat w1 v1 p ∧ Below w.heap.size w w1) := ⟨hv1, bel_go ba.out hb1⟩
  clear hv1 hb1 ba
  go_wp2_with fail
  refine (of_any q _ (by omega)).mono ?_
  rintro e w2 ⟨v2, rfl, hv2, hb2⟩
  have I2 : Hid (IsNat w2 v1 p ∧ IsNat w2 v2 q ∧ Below w.heap.size w w2) := ⟨I1.out.1.mono hb2, hv2, bel_go I1.out.2 hb2⟩
  have x0 := cell_later hb2 c0
  have x1 := cell_later hb2 c1
  have y0 := (hb2.frozen (World.block_lt_of_cell? _ _ c0)).trans f0
  have y1 := (hb2.frozen (World.block_lt_of_cell? _ _ c1)).trans f1
  clear hv2 hb2 I1 c0 c1 f0 f1
  go_wp2_with fail
  refine (from_any _ _ p q _ I2.out.1 I2.out.2.1 (rs_word (by omega)) (rs_word (by omega)) hq0 (HT.out.go I2.out.2.2)).mono ?_
  rintro e w3 ⟨v3, rfl, hv3, hb3⟩
  obtain ⟨a6, n6, k6, a7, n7, k7, ev6, _, _⟩ := hv3.raw
  subst ev6
  have z0 := cell_later hb3 x0
  have z1 := cell_later hb3 x1
  have u0 := (hb3.frozen (World.block_lt_of_cell? _ _ x0)).trans y0
  have u1 := (hb3.frozen (World.block_lt_of_cell? _ _ x1)).trans y1
  have Z : Hid _ := rat_put (v := .slice a6 n6 k6) (u := .slice a7 n7 k7) z0 z1 hv3 (bel_go I2.out.2.2 hb3) (Nat.le_refl _)
  clear hv3 hb3 I2 x0 x1 y0 y1
  go_wp2_with fail
  exact bodyPost_ret (v := .tuple #[.agg #[.slice a6 n6 k6, .slice a7 n7 k7], .bool true]) (by simp [results, Tryz.results20, go_sem, z0, z1]) rfl ⟨_, rfl, Z.out.1, Z.out.2⟩
set_option maxHeartbeats 2000000 in
theorem ratOf_no (p q : Int) (w : World) (h : p < 0 ∨ q < 1) :
    Calls Tryz.prog 20 #[.int .i64 p, .int .i64 q] w (MakesRB w 0 1 false) := by
  by_cases hp : p < 0
  · have d1 : decide (p < 0) = true := decide_eq_true hp
    clear h
    go_enter Tryz.func20, Tryz.ntmps20
    go_wp2_with fail
    exact bodyPost_ret (v := .tuple #[.agg #[.slice none 0 0, .slice none 0 0], .bool false]) (by simp [results, Tryz.results20, go_sem]) rfl ⟨_, rfl, rt_zero _, bel_al (bel_refl w)⟩
  have d1 : decide (p < 0) = false := decide_eq_false hp
  have d2 : decide (q < 1) = true := decide_eq_true (by omega)
  clear h
  go_enter Tryz.func20, Tryz.ntmps20
  go_wp2_with fail
  exact bodyPost_ret (v := .tuple #[.agg #[.slice none 0 0, .slice none 0 0], .bool false]) (by simp [results, Tryz.results20, go_sem]) rfl ⟨_, rfl, rt_zero _, bel_al (bel_refl w)⟩
theorem OR.blk {w : World} {e : TypeId} {base n : Nat} {v : Value} {G : Nat → Value} (h : OR w e base v n G) : ∀ j, v.ownBlock = some j → base ≤ j := by
  intro j hj
  rcases h with ⟨rfl, rfl⟩ | ⟨g, cap, f, rfl, h1, _⟩
  · simp [Value.ownBlock] at hj
  simp only [Value.ownBlock, Option.some.injEq] at hj
  omega
theorem RNat.stay {w w' : World} {b o k c x g : Nat} (h : RNat w (.agg #[.slice (some ⟨b, o, none⟩) k c]) x) (hg : w.grownBy w' (some g)) (hne : b ≠ g) : RNat w' (.agg #[.slice (some ⟨b, o, none⟩) k c]) x := by
  obtain ⟨F, ⟨s1, s2, s3, s4⟩, hd, h1, hv⟩ := h.open
  refine ⟨_, k, c, F, rfl, ⟨s1, s2, s3, ?_⟩, hd, h1, hv⟩
  rcases s4 with e | ⟨b', o', e, hw⟩
  · exact .inl e
  cases e
  exact .inr ⟨b, o, rfl, fun i hi => hg.cell (hw i hi) (by simp only [ne_eq, Option.some.injEq]; exact hne)⟩
def bd (D : Nat → Nat) : Nat → Value := fun j => .int .u8 ((D j : Nat) : Int)
def lenOf (v : Value) : Nat := match v with
  | .slice _ k _ => k
  | _ => 0
theorem OR.len {w : World} {e : TypeId} {base n : Nat} {v : Value} {G : Nat → Value} (h : OR w e base v n G) : lenOf v = n := by
  rcases h with ⟨rfl, rfl⟩ | ⟨g, cap, f, rfl, _⟩
  · rfl
  rfl
theorem OR.at {w : World} {e : TypeId} {base n : Nat} {v : Value} {G : Nat → Value} (h : OR w e base v n G) (hn : n ≠ 0) : ∃ g c, v = .slice (some ⟨g, 0, none⟩) n c ∧ ∀ i, i < n → w.cell? ⟨g, i, none⟩ = some (G i) := by
  rcases h with ⟨_, e⟩ | ⟨g, cap, f, rfl, _, hc, _, hr, hf⟩
  · exact absurd e hn
  exact ⟨g, cap, rfl, fun i hi => by rw [hr.cell (show i < cap by omega), hf i hi]⟩
def RRt (w : World) (v : Value) (p q : Nat) : Prop := ∃ a n c a' n' c', v = .agg #[.slice a n c, .slice a' n' c'] ∧ RNat w (.agg #[.slice a n c]) p ∧ RNat w (.agg #[.slice a' n' c']) q
theorem RRt.mono {w w' : World} {v : Value} {p q : Nat} (h : RRt w v p q) (hb : Below w.heap.size w w') : RRt w' v p q := by
  obtain ⟨a, n, c, a', n', c', e, h1, h2⟩ := h
  exact ⟨a, n, c, a', n', c', e, h1.mono hb, h2.mono hb⟩
theorem RRt.setCell {w : World} {v : Value} {p q : Nat} (h : RRt w v p q) {x : Addr} (hp : ∀ k q, w.cell? x ≠ some (.int k q)) (u : Value) : RRt (w.setCell x u) v p q := by
  obtain ⟨a, n, c, a', n', c', e, h1, h2⟩ := h
  exact ⟨a, n, c, a', n', c', e, h1.setCell hp u, h2.setCell hp u⟩
theorem add_gcd {p q x y : Nat} (hq : 0 < q) (hy : 0 < y) (h1 : Nat.gcd p q = 1) (h2 : Nat.gcd x y = 1) :
    Nat.gcd (p * (y / Nat.gcd q y) + x * (q / Nat.gcd q y)) (q / Nat.gcd q y * y) = Nat.gcd (p * (y / Nat.gcd q y) + x * (q / Nat.gcd q y)) (Nat.gcd q y) := by
  obtain ⟨g, hg⟩ : ∃ g, g = Nat.gcd q y := ⟨_, rfl⟩
  have g0 : 0 < g := by rw [hg]; exact Nat.gcd_pos_of_pos_left _ hq
  obtain ⟨a, ha⟩ : g ∣ q := by rw [hg]; exact Nat.gcd_dvd_left _ _
  obtain ⟨b, hb⟩ : g ∣ y := by rw [hg]; exact Nat.gcd_dvd_right _ _
  have e1 : q / g = a := by rw [ha, Nat.mul_div_cancel_left _ g0]
  have e2 : y / g = b := by rw [hb, Nat.mul_div_cancel_left _ g0]
  have hab : Nat.Coprime a b := by
    have h3 := Nat.gcd_div (Nat.gcd_dvd_left q y) (Nat.gcd_dvd_right q y)
    rw [← hg, e1, e2, Nat.div_self g0] at h3
    exact h3
  have hpa : Nat.Coprime p a := Nat.Coprime.coprime_dvd_right ⟨g, by rw [ha, Nat.mul_comm]⟩ h1
  have hxb : Nat.Coprime x b := Nat.Coprime.coprime_dvd_right ⟨g, by rw [hb, Nat.mul_comm]⟩ h2
  rw [← hg, e1, e2]
  have c1 : Nat.Coprime (p * b + x * a) a := by
    show Nat.gcd (p * b + x * a) a = 1
    rw [Nat.gcd_add_mul_right_left]
    exact Nat.Coprime.mul_left hpa hab.symm
  have c2 : Nat.Coprime (p * b + x * a) b := by
    show Nat.gcd (p * b + x * a) b = 1
    rw [Nat.add_comm, Nat.gcd_add_mul_right_left]
    exact Nat.Coprime.mul_left hxb hab
  rw [hb, show a * (g * b) = a * b * g by grind]
  exact Nat.Coprime.gcd_mul_left_cancel_right _ (Nat.Coprime.mul_right c1 c2).symm
theorem add_low {p q x y A d : Nat} (hq : 0 < q) (hy : 0 < y) (h1 : Nat.gcd p q = 1) (h2 : Nat.gcd x y = 1) (hA : A = p * (y / Nat.gcd q y) + x * (q / Nat.gcd q y)) (hd : d = Nat.gcd A (Nat.gcd q y)) :
    0 < d ∧ Nat.gcd (A / d) (q / Nat.gcd q y * (y / d)) = 1 ∧ 0 < q / Nat.gcd q y * (y / d) := by
  have g0 : 0 < Nat.gcd q y := Nat.gcd_pos_of_pos_left _ hq
  have d0 : 0 < d := by rw [hd]; exact Nat.gcd_pos_of_pos_right _ g0
  have hdy : d ∣ y := Nat.dvd_trans (by rw [hd]; exact Nat.gcd_dvd_right _ _) (Nat.gcd_dvd_right q y)
  have hdA : d ∣ A := by rw [hd]; exact Nat.gcd_dvd_left _ _
  have hk := add_gcd hq hy h1 h2
  rw [← hA, ← hd] at hk
  have e : q / Nat.gcd q y * (y / d) = q / Nat.gcd q y * y / d := (Nat.mul_div_assoc _ hdy).symm
  refine ⟨d0, ?_, Nat.mul_pos (Nat.div_pos (Nat.gcd_le_left _ hq) g0) (Nat.div_pos (Nat.le_of_dvd hy hdy) d0)⟩
  rw [e, Nat.gcd_div hdA (Nat.dvd_trans hdy (Nat.dvd_mul_left _ _)), hk, Nat.div_self d0]
def IsCom (w : World) (v : Value) (x1 x2 x3 x4 x5 : Nat) : Prop := ∃ a1 n1 c1 a2 n2 c2 a3 n3 c3 a4 n4 c4 a5 n5 c5, v = .agg #[.slice a1 n1 c1, .slice a2 n2 c2, .slice a3 n3 c3, .slice a4 n4 c4, .slice a5 n5 c5] ∧ IsNat w (.agg #[.slice a1 n1 c1]) x1 ∧ IsNat w (.agg #[.slice a2 n2 c2]) x2 ∧ IsNat w (.agg #[.slice a3 n3 c3]) x3 ∧ IsNat w (.agg #[.slice a4 n4 c4]) x4 ∧ IsNat w (.agg #[.slice a5 n5 c5]) x5
theorem IsCom.mono {w w' : World} {v : Value} {x1 x2 x3 x4 x5 : Nat} (h : IsCom w v x1 x2 x3 x4 x5) (hb : Below w.heap.size w w') : IsCom w' v x1 x2 x3 x4 x5 := by
  obtain ⟨a1, n1, c1, a2, n2, c2, a3, n3, c3, a4, n4, c4, a5, n5, c5, e, h1, h2, h3, h4, h5⟩ := h
  exact ⟨_, _, _, _, _, _, _, _, _, _, _, _, _, _, _, e, h1.mono hb, h2.mono hb, h3.mono hb, h4.mono hb, h5.mono hb⟩
theorem IsCom.setCell {w : World} {v : Value} {x1 x2 x3 x4 x5 : Nat} (h : IsCom w v x1 x2 x3 x4 x5) {x : Addr} (hp : ∀ k q, w.cell? x ≠ some (.int k q)) (u : Value) : IsCom (w.setCell x u) v x1 x2 x3 x4 x5 := by
  obtain ⟨a1, n1, c1, a2, n2, c2, a3, n3, c3, a4, n4, c4, a5, n5, c5, e, h1, h2, h3, h4, h5⟩ := h
  exact ⟨_, _, _, _, _, _, _, _, _, _, _, _, _, _, _, e, h1.setCell hp u, h2.setCell hp u, h3.setCell hp u, h4.setCell hp u, h5.setCell hp u⟩
def Five (w : World) (r : Nat) : Prop := ∀ i, i < 5 → w.cell? ⟨r, i, none⟩ = some (.slice none 0 0) ∧ w.frozen? ⟨r, i, none⟩ = false
theorem Five.go {w w' : World} {r : Nat} (h : Five w r) (hb : Below w.heap.size w w') : Five w' r := fun i hi =>
  ⟨cell_later hb (h i hi).1, (hb.frozen (World.block_lt_of_cell? _ _ (h i hi).1)).trans (h i hi).2⟩
theorem com_put {w0 w : World} {r : Nat} (h5 : Five w r) {s0 s1 s2 s3 s4 V : Value} {x1 x2 x3 x4 x5 : Nat} (h : IsCom w V x1 x2 x3 x4 x5) (hb : Below w0.heap.size w0 w) (hr : w0.heap.size ≤ r) :
    IsCom (((((w.setCell ⟨r, 0, none⟩ s0).setCell ⟨r, 1, none⟩ s1).setCell ⟨r, 2, none⟩ s2).setCell ⟨r, 3, none⟩ s3).setCell ⟨r, 4, none⟩ s4) V x1 x2 x3 x4 x5 ∧ Below w0.heap.size w0 (((((w.setCell ⟨r, 0, none⟩ s0).setCell ⟨r, 1, none⟩ s1).setCell ⟨r, 2, none⟩ s2).setCell ⟨r, 3, none⟩ s3).setCell ⟨r, 4, none⟩ s4) := by
  have k0 := (h5 0 (by omega)).1
  have k1 : (w.setCell ⟨r, 0, none⟩ s0).cell? ⟨r, 1, none⟩ = some (.slice none 0 0) := (World.cell?_setCell_other (h := by simp) ..).trans (h5 1 (by omega)).1
  have k2 : ((w.setCell ⟨r, 0, none⟩ s0).setCell ⟨r, 1, none⟩ s1).cell? ⟨r, 2, none⟩ = some (.slice none 0 0) := (World.cell?_setCell_other (h := by simp) ..).trans ((World.cell?_setCell_other (h := by simp) ..).trans (h5 2 (by omega)).1)
  have k3 : (((w.setCell ⟨r, 0, none⟩ s0).setCell ⟨r, 1, none⟩ s1).setCell ⟨r, 2, none⟩ s2).cell? ⟨r, 3, none⟩ = some (.slice none 0 0) := (World.cell?_setCell_other (h := by simp) ..).trans ((World.cell?_setCell_other (h := by simp) ..).trans ((World.cell?_setCell_other (h := by simp) ..).trans (h5 3 (by omega)).1))
  have k4 : ((((w.setCell ⟨r, 0, none⟩ s0).setCell ⟨r, 1, none⟩ s1).setCell ⟨r, 2, none⟩ s2).setCell ⟨r, 3, none⟩ s3).cell? ⟨r, 4, none⟩ = some (.slice none 0 0) := (World.cell?_setCell_other (h := by simp) ..).trans ((World.cell?_setCell_other (h := by simp) ..).trans ((World.cell?_setCell_other (h := by simp) ..).trans ((World.cell?_setCell_other (h := by simp) ..).trans (h5 4 (by omega)).1)))
  exact ⟨((((h.setCell (no_int_slice k0) _).setCell (no_int_slice k1) _).setCell (no_int_slice k2) _).setCell (no_int_slice k3) _).setCell (no_int_slice k4) _, ((((hb.setCell hr _).setCell hr _).setCell hr _).setCell hr _).setCell hr _⟩
def MakesC (w : World) (x1 x2 x3 x4 x5 : Nat) (e : Ending) (w' : World) : Prop := ∃ v, e = .returned v ∧ IsCom w' v x1 x2 x3 x4 x5 ∧ Below w.heap.size w w'
structure RL (x : Nat) : Prop where
  lt : x < P 97
theorem RL.p198 {x : Nat} (h : RL x) : x < P 198 := Nat.lt_trans h.lt (P_lt (by omega))
theorem RL.p99 {x : Nat} (h : RL x) : x < P 99 := Nat.lt_trans h.lt (P_lt (by omega))
theorem RL.fits {x : Nat} (h : RL x) : Fits x := (small_198 h.p198).fits
theorem RL.le {x y : Nat} (h : RL x) (hy : y ≤ x) : RL y := ⟨Nat.lt_of_le_of_lt hy h.lt⟩
theorem RS.l {x : Nat} (h : RS x) : RL x := ⟨Nat.lt_trans h.lt (P_lt (by omega))⟩
set_option maxHeartbeats 8000000 in
theorem broughtL_any (v u : Value) (p q x y : Nat) (w : World) (h : Rt w v p q) (k : Rt w u x y) (hp : RL p) (hq : RL q) (hr : RL x) (hs : RL y) (hT : Tab w) :
    Calls Tryz.prog 67 #[v, u] w (MakesC w (p * (y / Nat.gcd q y)) (x * (q / Nat.gcd q y)) (q / Nat.gcd q y) y (Nat.gcd q y)) := by
  obtain ⟨a, n, c, a', n', c', e0, _, _⟩ := h.raw
  subst e0
  obtain ⟨b, m, d, b', m', d', e1, _, _⟩ := k.raw
  subst e1
  have HH : Hid (Rt w (.agg #[.slice a n c, .slice a' n' c']) p q ∧ Rt w (.agg #[.slice b m d, .slice b' m' d']) x y ∧ RL p ∧ RL q ∧ RL x ∧ RL y ∧ Tab w) := ⟨h, k, hp, hq, hr, hs, hT⟩
  have ba : Hid (Below w.heap.size w (((w.alloc (.cells #[.slice a n c, .slice a' n' c'] 47)).alloc (.cells #[.slice b m d, .slice b' m' d'] 47)).alloc (.cells #[.slice none 0 0, .slice none 0 0, .slice none 0 0, .slice none 0 0, .slice none 0 0] 123))) := bel_al (bel_al (bel_al (bel_refl w)))
  have F0 : Five (((w.alloc (.cells #[.slice a n c, .slice a' n' c'] 47)).alloc (.cells #[.slice b m d, .slice b' m' d'] 47)).alloc (.cells #[.slice none 0 0, .slice none 0 0, .slice none 0 0, .slice none 0 0, .slice none 0 0] 123)) (w.heap.size + 1 + 1) := by
    intro i hi
    match i, hi with
    | 0, _ => simp [go_sem]
    | 1, _ => simp [go_sem]
    | 2, _ => simp [go_sem]
    | 3, _ => simp [go_sem]
    | 4, _ => simp [go_sem]
  have HF : Hid _ := F0
  clear F0
  clear h k hp hq hr hs hT
  go_enter Tryz.func67, Tryz.ntmps67
  go_wp2_with fail
  refine (parts_any _ p q _ (HH.out.1.mono ba.out) HH.out.2.2.2.1.fits).mono ?_
  rintro e w1 ⟨v1, u1, rfl, hv1, hu1, hb1⟩
  obtain ⟨a1, n1, k1, rfl⟩ := hv1.isAgg
  obtain ⟨a2, n2, k2, rfl⟩ := hu1.isAgg
  have c0 : w1.cell? ⟨w.heap.size + 1, 0, none⟩ = some (.slice b m d) := cell_later hb1 (by simp [go_sem])
  have c1 : w1.cell? ⟨w.heap.size + 1, 1, none⟩ = some (.slice b' m' d') := cell_later hb1 (by simp [go_sem])
  have S1 : Hid (SR w1 ((w1.alloc (.cells #[.slice a1 n1 k1] 45)).alloc (.cells #[.slice a2 n2 k2] 45)) [(.agg #[.slice a2 n2 k2], q), (.agg #[.slice a1 n1 k1], p)] [] [(w1.heap.size + 1, .slice a2 n2 k2), (w1.heap.size, .slice a1 n1 k1)]) := by
    have := ((((sr_start w1).nat hv1).nat hu1).box (.slice a1 n1 k1) 45 _ rfl).box (.slice a2 n2 k2) 45 _ rfl
    simp only [World.size_alloc] at this
    exact this
  have x0 := cell_later S1.out.bel c0
  have x1 := cell_later S1.out.bel c1
  have B1 : Hid (Below w.heap.size w w1) := bel_go ba.out hb1
  have F1 : Hid (Five w1 (w.heap.size + 1 + 1)) := Five.go HF.out hb1
  clear hv1 hu1 hb1 ba c0 c1 HF
  go_wp2_with fail
  obtain ⟨w2, hw2⟩ : ∃ w2, w2 = (w1.alloc (.cells #[.slice a1 n1 k1] 45)).alloc (.cells #[.slice a2 n2 k2] 45) := ⟨_, rfl⟩
  obtain ⟨b1, hb1⟩ : ∃ b1, b1 = w1.heap.size := ⟨_, rfl⟩
  have N1 : w.heap.size + 1 + 1 < b1 := by rw [hb1]; exact World.block_lt_of_cell? _ _ (F1.out 0 (by omega)).1
  rw [← hw2, ← hb1] at S1
  rw [← hw2, ← hb1]
  clear hw2 hb1 x0 x1
  refine (parts_any _ x y _ (HH.out.2.1.mono (bel_go B1.out S1.out.bel)) HH.out.2.2.2.2.2.1.fits).mono ?_
  rintro e w3 ⟨v3, u3, rfl, hv3, hu3, hb3⟩
  obtain ⟨a3, n3, k3, rfl⟩ := hv3.isAgg
  obtain ⟨a4, n4, k4, rfl⟩ := hu3.isAgg
  have B13 : Hid (b1 < w3.heap.size) := World.block_lt_of_cell? _ _ ((S1.out.go hb3).cell b1 (.slice a1 n1 k1))
  have S3 : Hid _ := ((((S1.out.go hb3).nat hv3).nat hu3).box (.slice a3 n3 k3) 45 _ rfl).box (.slice a4 n4 k4) 45 _ rfl
  simp only [World.size_alloc] at S3
  clear hv3 hu3 hb3 S1
  have d6 := S3.out.cell (b1 + 1) (.slice a2 n2 k2)
  have d8 := S3.out.cell (w3.heap.size + 1) (.slice a4 n4 k4)
  go_wp2_with fail
  obtain ⟨w4, hw4⟩ : ∃ w4, w4 = (w3.alloc (.cells #[.slice a3 n3 k3] 45)).alloc (.cells #[.slice a4 n4 k4] 45) := ⟨_, rfl⟩
  obtain ⟨b3, hb3⟩ : ∃ b3, b3 = w3.heap.size := ⟨_, rfl⟩
  have N3 : w.heap.size + 1 + 1 < b3 := by
    rw [hb3]
    have := B13.out
    omega
  rw [← hw4, ← hb3] at S3
  rw [← hw4, ← hb3]
  clear hw4 hb3 d6 d8
  have F4 : Hid (Five w4 (w.heap.size + 1 + 1) ∧ Tab w4 ∧ Below w.heap.size w w4) := ⟨F1.out.go S3.out.bel, HH.out.2.2.2.2.2.2.go (bel_go B1.out S3.out.bel), bel_go B1.out S3.out.bel⟩
  clear F1
  refine (gcd_any _ _ q y _ (S3.out.at (.agg #[.slice a2 n2 k2]) q) (S3.out.at (.agg #[.slice a4 n4 k4]) y) HH.out.2.2.2.1.p198 HH.out.2.2.2.2.2.1.p198 F4.out.2.1).mono ?_
  rintro e w5 ⟨v5, rfl, hv5, hb5⟩
  obtain ⟨a5, n5, k5, rfl⟩ := hv5.isAgg
  obtain ⟨g, eg⟩ : ∃ g, g = Nat.gcd q y := ⟨_, rfl⟩
  rw [← eg] at hv5
  have EG : Hid (g = Nat.gcd q y) := eg
  have HG : Hid (0 < g ∧ g < P 198 ∧ RL (q / g) ∧ RL (y / g)) := by
    have h0 : 0 < Nat.gcd q y := Nat.gcd_pos_of_pos_left _ HH.out.1.pos
    exact ⟨by omega, Nat.lt_of_le_of_lt (eg ▸ Nat.gcd_le_left _ HH.out.1.pos) HH.out.2.2.2.1.p198, HH.out.2.2.2.1.le (Nat.div_le_self _ _), HH.out.2.2.2.2.2.1.le (Nat.div_le_self _ _)⟩
  have N9 : b1 < w5.heap.size := World.block_lt_of_cell? _ _ ((S3.out.go hb5).cell b1 (.slice a1 n1 k1))
  have S5 : Hid _ := ((S3.out.go hb5).nat hv5).box (.slice a5 n5 k5) 45 _ rfl
  have b5 : Below w4.heap.size w4 (w5.alloc (.cells #[.slice a5 n5 k5] 45)) := bel_go hb5 (bel_al (bel_refl w5))
  have F5 : Hid (Five (w5.alloc (.cells #[.slice a5 n5 k5] 45)) (w.heap.size + 1 + 1) ∧ Below w.heap.size w (w5.alloc (.cells #[.slice a5 n5 k5] 45))) := ⟨F4.out.1.go b5, bel_go F4.out.2.2 b5⟩
  clear hv5 hb5 S3 b5 F4 eg
  have d6 := S5.out.cell (b1 + 1) (.slice a2 n2 k2)
  have d9 := S5.out.cell w5.heap.size (.slice a5 n5 k5)
  go_wp2_with fail
  obtain ⟨w6, hw6⟩ : ∃ w6, w6 = w5.alloc (.cells #[.slice a5 n5 k5] 45) := ⟨_, rfl⟩
  obtain ⟨b9, hb9⟩ : ∃ b9, b9 = w5.heap.size := ⟨_, rfl⟩
  rw [← hw6] at F5
  rw [← hw6, ← hb9] at S5
  rw [← hw6, ← hb9]
  have N9' : b1 < b9 := by rw [hb9]; exact N9
  clear hw6 hb9 d6 d9 N9
  refine (over_any _ _ q g _ (S5.out.at (.agg #[.slice a2 n2 k2]) q) (S5.out.at (.agg #[.slice a5 n5 k5]) g) HH.out.2.2.2.1.p198 HG.out.2.1 HG.out.1).mono ?_
  rintro e w7 ⟨v7, rfl, hv7, hb7⟩
  obtain ⟨a7, n7, k7, rfl⟩ := hv7.isAgg
  have N10 : b1 < w7.heap.size := World.block_lt_of_cell? _ _ ((S5.out.go hb7).cell b1 (.slice a1 n1 k1))
  have S7 : Hid _ := ((S5.out.go hb7).nat hv7).box (.slice a7 n7 k7) 45 _ rfl
  have b7 : Below w6.heap.size w6 (w7.alloc (.cells #[.slice a7 n7 k7] 45)) := bel_go hb7 (bel_al (bel_refl w7))
  have F7 : Hid (Five (w7.alloc (.cells #[.slice a7 n7 k7] 45)) (w.heap.size + 1 + 1) ∧ Below w.heap.size w (w7.alloc (.cells #[.slice a7 n7 k7] 45))) := ⟨F5.out.1.go b7, bel_go F5.out.2 b7⟩
  clear hv7 hb7 S5 b7 F5
  go_wp2_with fail
  obtain ⟨w8, hw8⟩ : ∃ w8, w8 = w7.alloc (.cells #[.slice a7 n7 k7] 45) := ⟨_, rfl⟩
  obtain ⟨b10, hb10⟩ : ∃ b10, b10 = w7.heap.size := ⟨_, rfl⟩
  rw [← hw8] at F7
  rw [← hw8, ← hb10] at S7
  rw [← hw8, ← hb10]
  have NBS : Hid (w.heap.size + 1 + 1 < b1 ∧ w.heap.size + 1 + 1 < b3 ∧ w.heap.size + 1 + 1 < b9 ∧ w.heap.size + 1 + 1 < b10) := ⟨N1, N3, by omega, by rw [hb10]; omega⟩
  clear hw8 hb10 N1 N3 N9' N10
  have d5 := S7.out.cell b1 (.slice a1 n1 k1)
  have d7 := S7.out.cell b3 (.slice a3 n3 k3)
  have d8 := S7.out.cell (b3 + 1) (.slice a4 n4 k4)
  have d9 := S7.out.cell b9 (.slice a5 n5 k5)
  have d10 := S7.out.cell b10 (.slice a7 n7 k7)
  have hR : w.heap.size + 1 + 1 < w8.heap.size := World.block_lt_of_cell? _ _ (F7.out.1 0 (by omega)).1
  have HL : Hid (w.heap.size + 1 + 1 < b1 ∧ w.heap.size + 1 + 1 < b3 ∧ w.heap.size + 1 + 1 < b9 ∧ w.heap.size + 1 + 1 < b10) := NBS.out
  have r1 : ¬ w.heap.size + 1 + 1 = b1 := by have := HL.out; omega
  have r2 : ¬ w.heap.size + 1 + 1 = b3 := by have := HL.out; omega
  have r3 : ¬ w.heap.size + 1 + 1 = b3 + 1 := by have := HL.out; omega
  have r4 : ¬ w.heap.size + 1 + 1 = b9 := by have := HL.out; omega
  have r5 : ¬ w.heap.size + 1 + 1 = b10 := by have := HL.out; omega
  clear hR
  have HM : Hid (IsNat w8 (.agg #[.slice a1 n1 k1]) p ∧ IsNat w8 (.agg #[.slice a3 n3 k3]) x ∧ IsNat w8 (.agg #[.slice a4 n4 k4]) y ∧ IsNat w8 (.agg #[.slice a5 n5 k5]) g ∧ IsNat w8 (.agg #[.slice a7 n7 k7]) (q / g)) := ⟨S7.out.at (.agg #[.slice a1 n1 k1]) p, S7.out.at (.agg #[.slice a3 n3 k3]) x, S7.out.at (.agg #[.slice a4 n4 k4]) y, S7.out.at (.agg #[.slice a5 n5 k5]) g, S7.out.at (.agg #[.slice a7 n7 k7]) (q / g)⟩
  clear S7
  go_region_held3 (fun w' => w'.cell? ⟨b1, 0, none⟩ = some (.slice a1 n1 k1) ∧ w'.cell? ⟨b3, 0, none⟩ = some (.slice a3 n3 k3) ∧ w'.cell? ⟨b3 + 1, 0, none⟩ = some (.slice a4 n4 k4) ∧ w'.cell? ⟨b9, 0, none⟩ = some (.slice a5 n5 k5) ∧ w'.cell? ⟨b10, 0, none⟩ = some (.slice a7 n7 k7)) (first | (simp [go_sem, *]; done) | (trace_state; fail))
    (first
      | (go_at_call 70; refine Calls.mono (over_any _ _ y g _ (IsNat.mono HM.out.2.2.1 ?_) (IsNat.mono HM.out.2.2.2.1 ?_) HH.out.2.2.2.2.2.1.p198 HG.out.2.1 HG.out.1) ?_; (first | exact bel_refl _ | exact bel_dr (bel_refl _)); (first | exact bel_refl _ | exact bel_dr (bel_refl _)); rintro e w10 ⟨v10, rfl, hv10, hb10⟩; have hb10 : Below w8.heap.size w8 w10 := (by first | exact hb10 | exact bel_undrew hb10); obtain ⟨a10, n10, k10, rfl⟩ := hv10.isAgg; have x5 := cell_later hb10 d5; have x7 := cell_later hb10 d7; have x8 := cell_later hb10 d8; have x9 := cell_later hb10 d9; have x10 := cell_later hb10 d10; have F10 : Hid (Five w10 (w.heap.size + 1 + 1) ∧ Below w.heap.size w w10 ∧ Below w8.heap.size w8 w10 ∧ IsNat w10 (.agg #[.slice a10 n10 k10]) (y / g)) := ⟨F7.out.1.go hb10, bel_go F7.out.2 hb10, hb10, hv10⟩; clear hv10 hb10)
      | (go_at_call_of 52 (Value.agg #[Value.slice a1 n1 k1]); refine Calls.mono (mul_short _ _ p (y / g) _ (IsNat.mono HM.out.1 F10.out.2.2.1) F10.out.2.2.2 HH.out.2.2.1.fits HG.out.2.2.2.fits (.inl HH.out.2.2.1.p99)) ?_; rintro e w11 ⟨v11, rfl, hv11, hb11⟩; obtain ⟨a11, n11, k11, rfl⟩ := hv11.isAgg; have y5 := cell_later hb11 x5; have y7 := cell_later hb11 x7; have y8 := cell_later hb11 x8; have y9 := cell_later hb11 x9; have y10 := cell_later hb11 x10; have F11 : Hid (Five w11 (w.heap.size + 1 + 1) ∧ Below w.heap.size w w11 ∧ Below w8.heap.size w8 w11 ∧ IsNat w11 (.agg #[.slice a11 n11 k11]) (p * (y / g))) := ⟨F10.out.1.go hb11, bel_go F10.out.2.1 hb11, bel_go F10.out.2.2.1 hb11, hv11⟩; clear hv11 hb11)
      | (go_at_call 52; refine Calls.mono (mul_short _ _ x (q / g) _ (IsNat.mono HM.out.2.1 F11.out.2.2.1) (IsNat.mono HM.out.2.2.2.2 F11.out.2.2.1) HH.out.2.2.2.2.1.fits HG.out.2.2.1.fits (.inl HH.out.2.2.2.2.1.p99)) ?_; rintro e w12 ⟨v12, rfl, hv12, hb12⟩; obtain ⟨a12, n12, k12, rfl⟩ := hv12.isAgg; have z5 := cell_later hb12 y5; have z7 := cell_later hb12 y7; have z8 := cell_later hb12 y8; have z9 := cell_later hb12 y9; have z10 := cell_later hb12 y10; have F12 : Hid (Five w12 (w.heap.size + 1 + 1) ∧ Below w.heap.size w w12 ∧ Below w8.heap.size w8 w12 ∧ IsNat w12 (.agg #[.slice a11 n11 k11]) (p * (y / g)) ∧ IsNat w12 (.agg #[.slice a12 n12 k12]) (x * (q / g))) := ⟨F11.out.1.go hb12, bel_go F11.out.2.1 hb12, bel_go F11.out.2.2.1 hb12, F11.out.2.2.2.mono hb12, hv12⟩; have t0 := (F12.out.1 0 (by omega)).1; have t1 := (F12.out.1 1 (by omega)).1; have t2 := (F12.out.1 2 (by omega)).1; have t3 := (F12.out.1 3 (by omega)).1; have t4 := (F12.out.1 4 (by omega)).1; have s0 := (F12.out.1 0 (by omega)).2; have s1 := (F12.out.1 1 (by omega)).2; have s2 := (F12.out.1 2 (by omega)).2; have s3 := (F12.out.1 3 (by omega)).2; have s4 := (F12.out.1 4 (by omega)).2; clear hv12 hb12))
  have Z : Hid _ := com_put (w0 := w) F12.out.1 (s0 := .slice a11 n11 k11) (s1 := .slice a12 n12 k12) (s2 := .slice a7 n7 k7) (s3 := .slice a4 n4 k4) (s4 := .slice a5 n5 k5) (V := .agg #[.slice a11 n11 k11, .slice a12 n12 k12, .slice a7 n7 k7, .slice a4 n4 k4, .slice a5 n5 k5]) ⟨_, _, _, _, _, _, _, _, _, _, _, _, _, _, _, rfl, F12.out.2.2.2.1, F12.out.2.2.2.2, IsNat.mono HM.out.2.2.2.2 F12.out.2.2.1, IsNat.mono HM.out.2.2.1 F12.out.2.2.1, IsNat.mono HM.out.2.2.2.1 F12.out.2.2.1⟩ F12.out.2.1 (by omega)
  rw [EG.out] at Z
  go_wp2_with fail
  exact bodyPost_ret (v := .agg #[.slice a11 n11 k11, .slice a12 n12 k12, .slice a7 n7 k7, .slice a4 n4 k4, .slice a5 n5 k5]) (by simp [results, Tryz.results67, go_sem, t0, t1, t2, t3, t4]) rfl ⟨_, rfl, Z.out.1, Z.out.2⟩
set_option maxHeartbeats 8000000 in
theorem fraction_any (v u : Value) (f s o t g A : Nat) (w : World) (h : IsCom w v f s o t g) (k : IsNat w u A) (hA : A < P 198) (hg : g < P 198) (hg0 : 0 < g) (ho : o < P 99) (ht : t < P 198) (hl : Nat.gcd (A / Nat.gcd A g) (o * (t / Nat.gcd A g)) = 1) (hl0 : 0 < o * (t / Nat.gcd A g)) (hT : Tab w) :
    Calls Tryz.prog 68 #[v, u] w (MakesR w (A / Nat.gcd A g) (o * (t / Nat.gcd A g))) := by
  obtain ⟨a1, n1, c1, a2, n2, c2, a3, n3, c3, a4, n4, c4, a5, n5, c5, ev, h1, h2, h3, h4, h5⟩ := h
  subst ev
  obtain ⟨b, m, d, rfl⟩ := k.isAgg
  obtain ⟨w0, hw0⟩ : ∃ w0, w0 = ((w.alloc (.cells #[.slice a1 n1 c1, .slice a2 n2 c2, .slice a3 n3 c3, .slice a4 n4 c4, .slice a5 n5 c5] 123)).alloc (.cells #[.slice b m d] 45)).alloc (.cells #[.slice none 0 0, .slice none 0 0] 47) := ⟨_, rfl⟩
  have ba : Below w.heap.size w w0 := by rw [hw0]; exact bel_al (bel_al (bel_al (bel_refl w)))
  have e2 : w0.cell? ⟨w.heap.size, 2, none⟩ = some (.slice a3 n3 c3) := by rw [hw0]; simp [go_sem]
  have e3 : w0.cell? ⟨w.heap.size, 3, none⟩ = some (.slice a4 n4 c4) := by rw [hw0]; simp [go_sem]
  have e4 : w0.cell? ⟨w.heap.size, 4, none⟩ = some (.slice a5 n5 c5) := by rw [hw0]; simp [go_sem]
  have e5 : w0.cell? ⟨w.heap.size + 1, 0, none⟩ = some (.slice b m d) := by rw [hw0]; simp [go_sem]
  have e6 : w0.cell? ⟨w.heap.size + 1 + 1, 0, none⟩ = some (.slice none 0 0) := by rw [hw0]; simp [go_sem]
  have e7 : w0.cell? ⟨w.heap.size + 1 + 1, 1, none⟩ = some (.slice none 0 0) := by rw [hw0]; simp [go_sem]
  have f6 : w0.frozen? ⟨w.heap.size + 1 + 1, 0, none⟩ = false := by rw [hw0]; simp [go_sem]
  have f7 : w0.frozen? ⟨w.heap.size + 1 + 1, 1, none⟩ = false := by rw [hw0]; simp [go_sem]
  have HH : Hid (IsNat w0 (.agg #[.slice b m d]) A ∧ IsNat w0 (.agg #[.slice a3 n3 c3]) o ∧ IsNat w0 (.agg #[.slice a4 n4 c4]) t ∧ IsNat w0 (.agg #[.slice a5 n5 c5]) g ∧ Below w.heap.size w w0) := ⟨k.mono ba, h3.mono ba, h4.mono ba, h5.mono ba, ba⟩
  have HS : Hid (A < P 198 ∧ g < P 198 ∧ 0 < g ∧ o < P 99 ∧ t < P 198 ∧ Tab w0) := ⟨hA, hg, hg0, ho, ht, hT.go ba⟩
  obtain ⟨q, eq⟩ : ∃ q, q = Nat.gcd A g := ⟨_, rfl⟩
  have HL : Hid (Nat.gcd (A / q) (o * (t / q)) = 1 ∧ 0 < o * (t / q) ∧ 0 < q ∧ q < P 198) := ⟨by rw [eq]; exact hl, by rw [eq]; exact hl0, by rw [eq]; exact Nat.gcd_pos_of_pos_right _ hg0, by rw [eq]; exact Nat.lt_of_le_of_lt (Nat.gcd_le_right _ hg0) hg⟩
  have EQ : Hid (q = Nat.gcd A g) := eq
  clear h1 h2 h3 h4 h5 k hA hg hg0 ho ht hl hl0 hT ba eq
  go_enter Tryz.func68, Tryz.ntmps68
  go_wp2_with fail
  rw [← hw0]
  clear hw0
  refine (gcd_any _ _ A g _ HH.out.1 HH.out.2.2.2.1 HS.out.1 HS.out.2.1 HS.out.2.2.2.2.2).mono ?_
  rintro e w1 ⟨v1, rfl, hv1, hb1⟩
  obtain ⟨b1, m1, d1, rfl⟩ := hv1.isAgg
  rw [← EQ.out] at hv1
  obtain ⟨w3, hw3⟩ : ∃ w3, w3 = w1.alloc (.cells #[.slice b1 m1 d1] 45) := ⟨_, rfl⟩
  have b3 : Below w0.heap.size w0 w3 := by rw [hw3]; exact bel_go hb1 (bel_al (bel_refl w1))
  have d2 := cell_later b3 e2
  have d3 := cell_later b3 e3
  have d5 := cell_later b3 e5
  have d6 := cell_later b3 e6
  have d7 := cell_later b3 e7
  have g6 : w3.frozen? ⟨w.heap.size + 1 + 1, 0, none⟩ = false := (b3.frozen (World.block_lt_of_cell? _ _ e6)).trans f6
  have g7 : w3.frozen? ⟨w.heap.size + 1 + 1, 1, none⟩ = false := (b3.frozen (World.block_lt_of_cell? _ _ e7)).trans f7
  have d9 : w3.cell? ⟨w1.heap.size, 0, none⟩ = some (.slice b1 m1 d1) := by rw [hw3]; simp [go_sem]
  have I3 : Hid (IsNat w3 (.agg #[.slice b m d]) A ∧ IsNat w3 (.agg #[.slice a3 n3 c3]) o ∧ IsNat w3 (.agg #[.slice a4 n4 c4]) t ∧ IsNat w3 (.agg #[.slice b1 m1 d1]) q ∧ Below w.heap.size w w3) := ⟨HH.out.1.mono b3, HH.out.2.1.mono b3, HH.out.2.2.1.mono b3, by rw [hw3]; exact hv1.mono (bel_al (bel_refl w1)), bel_go HH.out.2.2.2.2 b3⟩
  have nb0 : w.heap.size + 1 + 1 < w1.heap.size := World.block_lt_of_cell? _ _ (cell_later hb1 e6)
  go_wp2_with fail
  rw [← hw3]
  obtain ⟨b6, hb6⟩ : ∃ b6, b6 = w1.heap.size := ⟨_, rfl⟩
  rw [← hb6] at d9 nb0
  rw [← hb6]
  have nb : ¬ w.heap.size + 1 + 1 = b6 := by omega
  have nb' : ¬ b6 = w.heap.size + 1 + 1 := by omega
  clear hv1 hb1 b3 e2 e3 e4 e5 e6 e7 f6 f7 hw3 hb6 nb0 HH
  go_region_held3 (fun w' => w'.cell? ⟨w.heap.size, 2, none⟩ = some (.slice a3 n3 c3) ∧ w'.cell? ⟨w.heap.size, 3, none⟩ = some (.slice a4 n4 c4) ∧ w'.cell? ⟨w.heap.size + 1, 0, none⟩ = some (.slice b m d) ∧ w'.cell? ⟨b6, 0, none⟩ = some (.slice b1 m1 d1)) (first | (simp [go_sem, *]; done) | (trace_state; fail))
    (first
      | (go_at_call_of 70 (Value.agg #[Value.slice b m d]); refine Calls.mono (over_any _ _ A q _ (IsNat.mono I3.out.1 ?_) (IsNat.mono I3.out.2.2.2.1 ?_) HS.out.1 HL.out.2.2.2 HL.out.2.2.1) ?_; (first | exact bel_refl _ | exact bel_dr (bel_refl _)); (first | exact bel_refl _ | exact bel_dr (bel_refl _)); rintro e w4 ⟨v4, rfl, hv4, hb4⟩; have hb4 : Below w3.heap.size w3 w4 := (by first | exact hb4 | exact bel_undrew hb4); obtain ⟨p4, q4, r4, rfl⟩ := hv4.isAgg; have x2 := cell_later hb4 d2; have x3 := cell_later hb4 d3; have x5 := cell_later hb4 d5; have x6 := cell_later hb4 d6; have x7 := cell_later hb4 d7; have x9 := cell_later hb4 d9; have y6 : w4.frozen? ⟨w.heap.size + 1 + 1, 0, none⟩ = false := (hb4.frozen (World.block_lt_of_cell? _ _ d6)).trans g6; have y7 : w4.frozen? ⟨w.heap.size + 1 + 1, 1, none⟩ = false := (hb4.frozen (World.block_lt_of_cell? _ _ d7)).trans g7; have I4 : Hid (IsNat w4 (.agg #[.slice p4 q4 r4]) (A / q) ∧ IsNat w4 (.agg #[.slice a3 n3 c3]) o ∧ IsNat w4 (.agg #[.slice a4 n4 c4]) t ∧ IsNat w4 (.agg #[.slice b1 m1 d1]) q ∧ Below w.heap.size w w4) := ⟨hv4, I3.out.2.1.mono hb4, I3.out.2.2.1.mono hb4, I3.out.2.2.2.1.mono hb4, bel_go I3.out.2.2.2.2 hb4⟩; clear hv4 hb4)
      | (go_at_call 70; refine Calls.mono (over_any _ _ t q _ I4.out.2.2.1 I4.out.2.2.2.1 HS.out.2.2.2.2.1 HL.out.2.2.2 HL.out.2.2.1) ?_; rintro e w5 ⟨v5, rfl, hv5, hb5⟩; obtain ⟨p5, q5, r5, rfl⟩ := hv5.isAgg; have z2 := cell_later hb5 x2; have z3 := cell_later hb5 x3; have z5 := cell_later hb5 x5; have z6 := cell_later hb5 x6; have z7 := cell_later hb5 x7; have z9 := cell_later hb5 x9; have u6 : w5.frozen? ⟨w.heap.size + 1 + 1, 0, none⟩ = false := (hb5.frozen (World.block_lt_of_cell? _ _ x6)).trans y6; have u7 : w5.frozen? ⟨w.heap.size + 1 + 1, 1, none⟩ = false := (hb5.frozen (World.block_lt_of_cell? _ _ x7)).trans y7; have I5 : Hid (IsNat w5 (.agg #[.slice p4 q4 r4]) (A / q) ∧ IsNat w5 (.agg #[.slice a3 n3 c3]) o ∧ IsNat w5 (.agg #[.slice p5 q5 r5]) (t / q) ∧ Below w.heap.size w w5) := ⟨I4.out.1.mono hb5, I4.out.2.1.mono hb5, hv5, bel_go I4.out.2.2.2.2 hb5⟩; clear hv5 hb5)
      | (go_at_call 52; refine Calls.mono (mul_short _ _ o (t / q) _ I5.out.2.1 I5.out.2.2.1 (fits_P HS.out.2.2.2.1 (by omega)) (fits_P (Nat.lt_of_le_of_lt (Nat.div_le_self _ _) HS.out.2.2.2.2.1) (by omega)) (.inl HS.out.2.2.2.1)) ?_; rintro e w6 ⟨v6, rfl, hv6, hb6⟩; obtain ⟨p6, q6, r6, rfl⟩ := hv6.isAgg; have k2 := cell_later hb6 z2; have k3 := cell_later hb6 z3; have k5 := cell_later hb6 z5; have k6 := cell_later hb6 z6; have k7 := cell_later hb6 z7; have k9 := cell_later hb6 z9; have j6 : w6.frozen? ⟨w.heap.size + 1 + 1, 0, none⟩ = false := (hb6.frozen (World.block_lt_of_cell? _ _ z6)).trans u6; have j7 : w6.frozen? ⟨w.heap.size + 1 + 1, 1, none⟩ = false := (hb6.frozen (World.block_lt_of_cell? _ _ z7)).trans u7; have I6 : Hid (IsNat w6 (.agg #[.slice p4 q4 r4]) (A / q) ∧ IsNat w6 (.agg #[.slice p6 q6 r6]) (o * (t / q)) ∧ Below w.heap.size w w6) := ⟨I5.out.1.mono hb6, hv6, bel_go I5.out.2.2.2 hb6⟩; clear hv6 hb6)
      | (go_at_call 71; refine Calls.mono (inLowest_any _ _ (A / q) (o * (t / q)) _ I6.out.1 I6.out.2.1 (fits_P (Nat.lt_of_le_of_lt (Nat.div_le_self _ _) HS.out.1) (by omega)) HL.out.2.1 HL.out.1) ?_; rintro e w7 ⟨v7, rfl, hv7, hb7⟩; have l2 := cell_later hb7 k2; have l3 := cell_later hb7 k3; have l5 := cell_later hb7 k5; have l6 := cell_later hb7 k6; have l7 := cell_later hb7 k7; have l9 := cell_later hb7 k9; have i6 : w7.frozen? ⟨w.heap.size + 1 + 1, 0, none⟩ = false := (hb7.frozen (World.block_lt_of_cell? _ _ k6)).trans j6; have i7 : w7.frozen? ⟨w.heap.size + 1 + 1, 1, none⟩ = false := (hb7.frozen (World.block_lt_of_cell? _ _ k7)).trans j7; obtain ⟨p7, q7, r7, p8, q8, r8, ev7, _, _⟩ := hv7.raw; subst ev7; have I7 : Hid (Rt w7 (.agg #[.slice p7 q7 r7, .slice p8 q8 r8]) (A / q) (o * (t / q)) ∧ Below w.heap.size w w7) := ⟨hv7, bel_go I6.out.2.2 hb7⟩; clear hv7 hb7))
  have Z : Hid _ := rat_put (w0 := w) (v := .slice p7 q7 r7) (u := .slice p8 q8 r8) l6 l7 I7.out.1 I7.out.2 (by omega)
  rw [EQ.out] at Z
  go_wp2_with fail
  exact bodyPost_ret (v := .agg #[.slice p7 q7 r7, .slice p8 q8 r8]) (by simp [results, Tryz.results68, go_sem, l6, l7]) rfl ⟨_, rfl, Z.out.1, Z.out.2⟩
def addA (p q x y : Nat) : Nat := p * (y / Nat.gcd q y) + x * (q / Nat.gcd q y)
def addP (p q x y : Nat) : Nat := addA p q x y / Nat.gcd (addA p q x y) (Nat.gcd q y)
def addQ (p q x y : Nat) : Nat := q / Nat.gcd q y * (y / Nat.gcd (addA p q x y) (Nat.gcd q y))
theorem RS.mul {x y : Nat} (h : RS x) (k : RS y) : x * y < P 180 := by
  rw [show 180 = 90 + 90 from rfl, P_add]
  exact Nat.mul_lt_mul'' h.lt k.lt
theorem P_twice {x y n : Nat} (h : x < P n) (k : y < P n) : x + y < P (n + 1) := by
  rw [P_succ]
  omega
theorem RL.mul {x y : Nat} (h : RL x) (k : RL y) : x * y < P 194 := by
  rw [show 194 = 97 + 97 from rfl, P_add]
  exact Nat.mul_lt_mul'' h.lt k.lt
set_option maxHeartbeats 8000000 in
theorem ratAddL_any (v u : Value) (p q x y : Nat) (w : World) (h : Rt w v p q) (k : Rt w u x y) (hp : RL p) (hq : RL q) (hr : RL x) (hs : RL y) (hT : Tab w) :
    Calls Tryz.prog 35 #[v, u] w (MakesR w (addP p q x y) (addQ p q x y)) := by
  obtain ⟨a, n, c, a', n', c', e0, _, _⟩ := h.raw
  subst e0
  obtain ⟨b, m, d, b', m', d', e1, _, _⟩ := k.raw
  subst e1
  obtain ⟨w0, hw0⟩ : ∃ w0, w0 = ((w.alloc (.cells #[.slice a n c, .slice a' n' c'] 47)).alloc (.cells #[.slice b m d, .slice b' m' d'] 47)).alloc (.cells #[.slice none 0 0, .slice none 0 0] 47) := ⟨_, rfl⟩
  have ba : Below w.heap.size w w0 := by rw [hw0]; exact bel_al (bel_al (bel_al (bel_refl w)))
  have e6 : w0.cell? ⟨w.heap.size + 1 + 1, 0, none⟩ = some (.slice none 0 0) := by rw [hw0]; simp [go_sem]
  have e7 : w0.cell? ⟨w.heap.size + 1 + 1, 1, none⟩ = some (.slice none 0 0) := by rw [hw0]; simp [go_sem]
  have f6 : w0.frozen? ⟨w.heap.size + 1 + 1, 0, none⟩ = false := by rw [hw0]; simp [go_sem]
  have f7 : w0.frozen? ⟨w.heap.size + 1 + 1, 1, none⟩ = false := by rw [hw0]; simp [go_sem]
  have g0 : 0 < Nat.gcd q y := Nat.gcd_pos_of_pos_left _ h.pos
  have hg : RL (Nat.gcd q y) := hq.le (Nat.gcd_le_left _ h.pos)
  have ho : RL (q / Nat.gcd q y) := hq.le (Nat.div_le_self _ _)
  have hy' : RL (y / Nat.gcd q y) := hs.le (Nat.div_le_self _ _)
  have low := add_low h.pos k.pos h.low k.low (A := addA p q x y) rfl rfl
  have HH : Hid (Rt w0 (.agg #[.slice a n c, .slice a' n' c']) p q ∧ Rt w0 (.agg #[.slice b m d, .slice b' m' d']) x y ∧ RL p ∧ RL q ∧ RL x ∧ RL y ∧ Tab w0 ∧ Below w.heap.size w w0) := ⟨h.mono ba, k.mono ba, hp, hq, hr, hs, hT.go ba, ba⟩
  have HS : Hid (Fits (p * (y / Nat.gcd q y)) ∧ Fits (x * (q / Nat.gcd q y)) ∧ addA p q x y < P 198 ∧ Nat.gcd q y < P 198 ∧ 0 < Nat.gcd q y ∧ q / Nat.gcd q y < P 99 ∧ y < P 198) := ⟨fits_P (hp.mul hy') (by omega), fits_P (hr.mul ho) (by omega), Nat.lt_trans (P_twice (hp.mul hy') (hr.mul ho)) (P_lt (by omega)), hg.p198, g0, ho.p99, hs.p198⟩
  have HL : Hid _ := low
  clear h k hp hq hr hs hT ba g0 hg ho hy' low
  go_enter Tryz.func35, Tryz.ntmps35
  go_wp2_with fail
  rw [← hw0]
  clear hw0
  refine (broughtL_any _ _ p q x y _ HH.out.1 HH.out.2.1 HH.out.2.2.1 HH.out.2.2.2.1 HH.out.2.2.2.2.1 HH.out.2.2.2.2.2.1 HH.out.2.2.2.2.2.2.1).mono ?_
  rintro e w1 ⟨v1, rfl, hv1, hb1⟩
  obtain ⟨a1, n1, c1, a2, n2, c2, a3, n3, c3, a4, n4, c4, a5, n5, c5, ev, h1, h2, h3, h4, h5⟩ := hv1
  subst ev
  obtain ⟨w3, hw3⟩ : ∃ w3, w3 = w1.alloc (.cells #[.slice a1 n1 c1, .slice a2 n2 c2, .slice a3 n3 c3, .slice a4 n4 c4, .slice a5 n5 c5] 123) := ⟨_, rfl⟩
  have b13 : Below w1.heap.size w1 w3 := by rw [hw3]; exact bel_al (bel_refl w1)
  have b3 : Below w0.heap.size w0 w3 := bel_go hb1 b13
  have d6 := cell_later b3 e6
  have d7 := cell_later b3 e7
  have g6 : w3.frozen? ⟨w.heap.size + 1 + 1, 0, none⟩ = false := (b3.frozen (World.block_lt_of_cell? _ _ e6)).trans f6
  have g7 : w3.frozen? ⟨w.heap.size + 1 + 1, 1, none⟩ = false := (b3.frozen (World.block_lt_of_cell? _ _ e7)).trans f7
  have s0 : w3.cell? ⟨w1.heap.size, 0, none⟩ = some (.slice a1 n1 c1) := by rw [hw3]; simp [go_sem]
  have s1 : w3.cell? ⟨w1.heap.size, 1, none⟩ = some (.slice a2 n2 c2) := by rw [hw3]; simp [go_sem]
  have s2 : w3.cell? ⟨w1.heap.size, 2, none⟩ = some (.slice a3 n3 c3) := by rw [hw3]; simp [go_sem]
  have s3 : w3.cell? ⟨w1.heap.size, 3, none⟩ = some (.slice a4 n4 c4) := by rw [hw3]; simp [go_sem]
  have s4 : w3.cell? ⟨w1.heap.size, 4, none⟩ = some (.slice a5 n5 c5) := by rw [hw3]; simp [go_sem]
  have I3 : Hid (IsNat w3 (.agg #[.slice a1 n1 c1]) (p * (y / Nat.gcd q y)) ∧ IsNat w3 (.agg #[.slice a2 n2 c2]) (x * (q / Nat.gcd q y)) ∧ IsCom w3 (.agg #[.slice a1 n1 c1, .slice a2 n2 c2, .slice a3 n3 c3, .slice a4 n4 c4, .slice a5 n5 c5]) (p * (y / Nat.gcd q y)) (x * (q / Nat.gcd q y)) (q / Nat.gcd q y) y (Nat.gcd q y) ∧ Tab w3 ∧ Below w.heap.size w w3) := ⟨h1.mono b13, h2.mono b13, ⟨_, _, _, _, _, _, _, _, _, _, _, _, _, _, _, rfl, h1.mono b13, h2.mono b13, h3.mono b13, h4.mono b13, h5.mono b13⟩, HH.out.2.2.2.2.2.2.1.go b3, bel_go HH.out.2.2.2.2.2.2.2 b3⟩
  have nb0 : w.heap.size + 1 + 1 < w1.heap.size := World.block_lt_of_cell? _ _ (cell_later hb1 e6)
  go_wp2_with fail
  rw [← hw3]
  obtain ⟨b6, hb6⟩ : ∃ b6, b6 = w1.heap.size := ⟨_, rfl⟩
  rw [← hb6] at s0 s1 s2 s3 s4 nb0
  rw [← hb6]
  have nb : ¬ w.heap.size + 1 + 1 = b6 := by omega
  have nb' : ¬ b6 = w.heap.size + 1 + 1 := by omega
  clear h1 h2 h3 h4 h5 hb1 b13 b3 e6 e7 f6 f7 hw3 hb6 nb0 HH
  go_region_held3 (fun w' => w'.cell? ⟨b6, 0, none⟩ = some (.slice a1 n1 c1) ∧ w'.cell? ⟨b6, 1, none⟩ = some (.slice a2 n2 c2) ∧ w'.cell? ⟨b6, 2, none⟩ = some (.slice a3 n3 c3) ∧ w'.cell? ⟨b6, 3, none⟩ = some (.slice a4 n4 c4) ∧ w'.cell? ⟨b6, 4, none⟩ = some (.slice a5 n5 c5)) (first | (simp [go_sem, *]; done) | (trace_state; fail))
    (first
      | (go_at_call 26; refine Calls.mono (add_any _ _ (p * (y / Nat.gcd q y)) (x * (q / Nat.gcd q y)) _ (IsNat.mono I3.out.1 ?_) (IsNat.mono I3.out.2.1 ?_) HS.out.1 HS.out.2.1) ?_; (first | exact bel_refl _ | exact bel_dr (bel_refl _)); (first | exact bel_refl _ | exact bel_dr (bel_refl _)); rintro e w4 ⟨v4, rfl, hv4, hb4⟩; have hb4 : Below w3.heap.size w3 w4 := (by first | exact hb4 | exact bel_undrew hb4); obtain ⟨p4, q4, r4, rfl⟩ := hv4.isAgg; have x0 := cell_later hb4 s0; have x1 := cell_later hb4 s1; have x2 := cell_later hb4 s2; have x3 := cell_later hb4 s3; have x4 := cell_later hb4 s4; have x6 := cell_later hb4 d6; have x7 := cell_later hb4 d7; have y6 : w4.frozen? ⟨w.heap.size + 1 + 1, 0, none⟩ = false := (hb4.frozen (World.block_lt_of_cell? _ _ d6)).trans g6; have y7 : w4.frozen? ⟨w.heap.size + 1 + 1, 1, none⟩ = false := (hb4.frozen (World.block_lt_of_cell? _ _ d7)).trans g7; have I4 : Hid (IsNat w4 (.agg #[.slice p4 q4 r4]) (addA p q x y) ∧ IsCom w4 (.agg #[.slice a1 n1 c1, .slice a2 n2 c2, .slice a3 n3 c3, .slice a4 n4 c4, .slice a5 n5 c5]) (p * (y / Nat.gcd q y)) (x * (q / Nat.gcd q y)) (q / Nat.gcd q y) y (Nat.gcd q y) ∧ Tab w4 ∧ Below w.heap.size w w4) := ⟨hv4, I3.out.2.2.1.mono hb4, I3.out.2.2.2.1.go hb4, bel_go I3.out.2.2.2.2 hb4⟩; clear hv4 hb4)
      | (go_at_call 68; refine Calls.mono (fraction_any _ _ _ _ _ _ _ (addA p q x y) _ I4.out.2.1 I4.out.1 HS.out.2.2.1 HS.out.2.2.2.1 HS.out.2.2.2.2.1 HS.out.2.2.2.2.2.1 HS.out.2.2.2.2.2.2 HL.out.2.1 HL.out.2.2 I4.out.2.2.1) ?_; rintro e w7 ⟨v7, rfl, hv7, hb7⟩; have l0 := cell_later hb7 x0; have l1 := cell_later hb7 x1; have l2 := cell_later hb7 x2; have l3 := cell_later hb7 x3; have l4 := cell_later hb7 x4; have l6 := cell_later hb7 x6; have l7 := cell_later hb7 x7; have i6 : w7.frozen? ⟨w.heap.size + 1 + 1, 0, none⟩ = false := (hb7.frozen (World.block_lt_of_cell? _ _ x6)).trans y6; have i7 : w7.frozen? ⟨w.heap.size + 1 + 1, 1, none⟩ = false := (hb7.frozen (World.block_lt_of_cell? _ _ x7)).trans y7; obtain ⟨p7, q7, r7, p8, q8, r8, ev7, _, _⟩ := hv7.raw; subst ev7; have I7 : Hid (Rt w7 (.agg #[.slice p7 q7 r7, .slice p8 q8 r8]) (addP p q x y) (addQ p q x y) ∧ Below w.heap.size w w7) := ⟨hv7, bel_go I4.out.2.2.2 hb7⟩; clear hv7 hb7))
  have Z : Hid _ := rat_put (w0 := w) (v := .slice p7 q7 r7) (u := .slice p8 q8 r8) l6 l7 I7.out.1 I7.out.2 (by omega)
  go_wp2_with fail
  exact bodyPost_ret (v := .agg #[.slice p7 q7 r7, .slice p8 q8 r8]) (by simp [results, Tryz.results35, go_sem, l6, l7]) rfl ⟨_, rfl, Z.out.1, Z.out.2⟩
theorem ratAdd_any (v u : Value) (p q x y : Nat) (w : World) (h : Rt w v p q) (k : Rt w u x y) (hp : RS p) (hq : RS q) (hr : RS x) (hs : RS y) (hT : Tab w) :
    Calls Tryz.prog 35 #[v, u] w (MakesR w (addP p q x y) (addQ p q x y)) := ratAddL_any v u p q x y w h k hp.l hq.l hr.l hs.l hT
end Go.Proofs.YtfkkomppfghagaaGreatDoor
