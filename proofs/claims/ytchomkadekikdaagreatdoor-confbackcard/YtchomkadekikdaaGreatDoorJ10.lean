/- Contracts of the program's functions, part 10: own work, joined in build order. -/
import Derived.Test.YtchomkadekikdaaGreatDoorJ9
import Derived.ArgAppend
namespace Go.Proofs.YtchomkadekikdaaGreatDoor
open Go.RowKit
set_option maxRecDepth 100000
set_option linter.unusedVariables false
def MakesRB (w : World) (p q : Nat) (ok : Bool) (e : Ending) (w' : World) : Prop := ∃ v, e = .returned (.tuple #[v, .bool ok]) ∧ Rt w' v p q ∧ Below w.heap.size w w'
theorem gcd_low {p q : Nat} (hq : 0 < q) : 0 < Nat.gcd p q ∧ Nat.gcd (p / Nat.gcd p q) (q / Nat.gcd p q) = 1 ∧ 0 < q / Nat.gcd p q := by
  have h0 : 0 < Nat.gcd p q := Nat.gcd_pos_of_pos_right _ hq
  refine ⟨h0, ?_, Nat.div_pos (Nat.gcd_le_right _ hq) h0⟩
  rw [Nat.gcd_div (Nat.gcd_dvd_left _ _) (Nat.gcd_dvd_right _ _), Nat.div_self h0]
set_option maxHeartbeats 4000000 in
theorem from_any (v u : Value) (p q : Nat) (w : World) (h : IsNat w v p) (k : IsNat w u q) (hp : RS p) (hq : RS q) (hq0 : 0 < q) (hT : Tab w) :
    Calls Tryz.prog 68 #[v, u] w (MakesRB w (p / Nat.gcd p q) (q / Nat.gcd p q) true) := by
  obtain ⟨a, n, c, rfl⟩ := h.isAgg
  obtain ⟨a', n', c', rfl⟩ := k.isAgg
  have HH : Hid (IsNat w (.agg #[.slice a n c]) p ∧ IsNat w (.agg #[.slice a' n' c']) q ∧ RS p ∧ RS q ∧ 0 < q ∧ Tab w) := ⟨h, k, hp, hq, hq0, hT⟩
  have ba : Hid (Below w.heap.size w (((w.alloc (.cells #[.slice a n c] 66)).alloc (.cells #[.slice a' n' c'] 66)).alloc (.cells #[.slice none 0 0, .slice none 0 0] 68))) := bel_al (bel_al (bel_al (bel_refl w)))
  have hz : decide (q = 0) = false := decide_eq_false (by omega)
  clear h k hp hq hq0 hT
  go_enter Tryz.func68, Tryz.ntmps68
  go_wp2_with fail
  refine (isZero_any _ q _ (HH.out.2.1.mono ba.out) HH.out.2.2.2.1.fits).mono ?_
  rintro e w1 ⟨rfl, hb1⟩
  have c0 : w1.cell? ⟨w.heap.size, 0, none⟩ = some (.slice a n c) := cell_later hb1 (by simp [go_sem])
  have c1 : w1.cell? ⟨w.heap.size + 1, 0, none⟩ = some (.slice a' n' c') := cell_later hb1 (by simp [go_sem])
  have c2 : w1.cell? ⟨w.heap.size + 1 + 1, 0, none⟩ = some (.slice none 0 0) := cell_later hb1 (by simp [go_sem])
  have c3 : w1.cell? ⟨w.heap.size + 1 + 1, 1, none⟩ = some (.slice none 0 0) := cell_later hb1 (by simp [go_sem])
  have f2 : w1.frozen? ⟨w.heap.size + 1 + 1, 0, none⟩ = false := (hb1.frozen (by simp)).trans (by simp [go_sem])
  have f3 : w1.frozen? ⟨w.heap.size + 1 + 1, 1, none⟩ = false := (hb1.frozen (by simp)).trans (by simp [go_sem])
  have B1 : Hid (Below w.heap.size w w1) := bel_go ba.out hb1
  clear hb1 ba
  go_wp2_with fail
  refine (gcd_any _ _ p q _ (HH.out.1.mono B1.out) (HH.out.2.1.mono B1.out) HH.out.2.2.1.p198 HH.out.2.2.2.1.p198 (HH.out.2.2.2.2.2.go B1.out)).mono ?_
  rintro e w2 ⟨v2, rfl, hv2, hb2⟩
  obtain ⟨a2, n2, k2, rfl⟩ := hv2.isAgg
  obtain ⟨g, eg⟩ : ∃ g, g = Nat.gcd p q := ⟨_, rfl⟩
  rw [← eg] at hv2 ⊢
  have HG : Hid (0 < g ∧ Nat.gcd (p / g) (q / g) = 1 ∧ 0 < q / g ∧ g < P 198) := by
    obtain ⟨g1, g2, g3⟩ := gcd_low (p := p) HH.out.2.2.2.2.1
    rw [← eg] at g1 g2 g3
    refine ⟨g1, g2, g3, Nat.lt_of_le_of_lt (eg ▸ Nat.gcd_le_right _ HH.out.2.2.2.2.1) HH.out.2.2.2.1.p198⟩
  obtain ⟨w3, hw3⟩ : ∃ w3, w3 = w2.alloc (.cells #[.slice a2 n2 k2] 66) := ⟨_, rfl⟩
  have b3 : Below w1.heap.size w1 w3 := by rw [hw3]; exact bel_go hb2 (bel_al (bel_refl w2))
  have b23 : Below w2.heap.size w2 w3 := by rw [hw3]; exact bel_al (bel_refl w2)
  have d0 := cell_later b3 c0
  have d1 := cell_later b3 c1
  have d2 := cell_later b3 c2
  have d3 := cell_later b3 c3
  have h2 : w3.frozen? ⟨w.heap.size + 1 + 1, 0, none⟩ = false := (b3.frozen (World.block_lt_of_cell? _ _ c2)).trans f2
  have h3 : w3.frozen? ⟨w.heap.size + 1 + 1, 1, none⟩ = false := (b3.frozen (World.block_lt_of_cell? _ _ c3)).trans f3
  have d4 : w3.cell? ⟨w2.heap.size, 0, none⟩ = some (.slice a2 n2 k2) := by rw [hw3]; simp [go_sem]
  have I3 : Hid (IsNat w3 (.agg #[.slice a n c]) p ∧ IsNat w3 (.agg #[.slice a' n' c']) q ∧ IsNat w3 (.agg #[.slice a2 n2 k2]) g ∧ Below w.heap.size w w3) := ⟨(HH.out.1.mono B1.out).mono b3, (HH.out.2.1.mono B1.out).mono b3, hv2.mono b23, bel_go B1.out b3⟩
  go_wp2_with fail
  rw [← hw3]
  obtain ⟨b6, hb6⟩ : ∃ b6, b6 = w2.heap.size := ⟨_, rfl⟩
  have nb : ¬ w.heap.size + 1 + 1 = b6 := by
    have : w.heap.size + 1 + 1 < w2.heap.size := World.block_lt_of_cell? _ _ (cell_later hb2 c2)
    omega
  have nb' : ¬ b6 = w.heap.size + 1 + 1 := fun e => nb e.symm
  rw [← hb6] at d4
  rw [← hb6]
  have EG : Hid (g = Nat.gcd p q) := eg
  clear hv2 hb2 b3 b23 c0 c1 c2 c3 f2 f3 hw3 hb6 hz eg
  go_region_held3 (fun w' => w'.cell? ⟨w.heap.size, 0, none⟩ = some (.slice a n c) ∧ w'.cell? ⟨w.heap.size + 1, 0, none⟩ = some (.slice a' n' c') ∧ w'.cell? ⟨b6, 0, none⟩ = some (.slice a2 n2 k2)) (first | (simp [go_sem, *]; done) | (trace_state; fail))
    (first
      | (go_at_call_of 110 (Value.agg #[Value.slice a n c]); refine Calls.mono (over_any _ _ p g _ (IsNat.mono I3.out.1 ?_) (IsNat.mono I3.out.2.2.1 ?_) HH.out.2.2.1.p198 HG.out.2.2.2 HG.out.1) ?_; (first | exact bel_refl _ | exact bel_dr (bel_refl _)); (first | exact bel_refl _ | exact bel_dr (bel_refl _)); rintro e w4 ⟨v4, rfl, hv4, hb4⟩; have hb4 : Below w3.heap.size w3 w4 := (by first | exact hb4 | exact bel_undrew hb4); obtain ⟨a4, n4, k4, rfl⟩ := hv4.isAgg; have x0 := cell_later hb4 d0; have x1 := cell_later hb4 d1; have x2 := cell_later hb4 d2; have x3 := cell_later hb4 d3; have x4 := cell_later hb4 d4; have y2 : w4.frozen? ⟨w.heap.size + 1 + 1, 0, none⟩ = false := (hb4.frozen (World.block_lt_of_cell? _ _ d2)).trans h2; have y3 : w4.frozen? ⟨w.heap.size + 1 + 1, 1, none⟩ = false := (hb4.frozen (World.block_lt_of_cell? _ _ d3)).trans h3; have I4 : Hid (IsNat w4 (.agg #[.slice a4 n4 k4]) (p / g) ∧ IsNat w4 (.agg #[.slice a' n' c']) q ∧ IsNat w4 (.agg #[.slice a2 n2 k2]) g ∧ Below w.heap.size w w4) := ⟨hv4, I3.out.2.1.mono hb4, I3.out.2.2.1.mono hb4, bel_go I3.out.2.2.2 hb4⟩; clear hv4 hb4)
      | (go_at_call 110; refine Calls.mono (over_any _ _ q g _ I4.out.2.1 I4.out.2.2.1 HH.out.2.2.2.1.p198 HG.out.2.2.2 HG.out.1) ?_; rintro e w5 ⟨v5, rfl, hv5, hb5⟩; obtain ⟨a5, n5, k5, rfl⟩ := hv5.isAgg; have x5 := cell_later hb5 x2; have x6 := cell_later hb5 x3; have y5 : w5.frozen? ⟨w.heap.size + 1 + 1, 0, none⟩ = false := (hb5.frozen (World.block_lt_of_cell? _ _ x2)).trans y2; have y6 : w5.frozen? ⟨w.heap.size + 1 + 1, 1, none⟩ = false := (hb5.frozen (World.block_lt_of_cell? _ _ x3)).trans y3; have x7 := cell_later hb5 x0; have x8 := cell_later hb5 x1; have x9 := cell_later hb5 x4; have I5 : Hid (IsNat w5 (.agg #[.slice a4 n4 k4]) (p / g) ∧ IsNat w5 (.agg #[.slice a5 n5 k5]) (q / g) ∧ Below w.heap.size w w5) := ⟨I4.out.1.mono hb5, hv5, bel_go I4.out.2.2.2 hb5⟩; clear hv5 hb5)
      | (go_at_call 109; refine Calls.mono (inLowest_any _ _ (p / g) (q / g) _ I5.out.1 I5.out.2.1 (HH.out.2.2.1.le (Nat.div_le_self _ _)).fits HG.out.2.2.1 HG.out.2.1) ?_; rintro e w6 ⟨v6, rfl, hv6, hb6⟩; have x10 := cell_later hb6 x5; have x11 := cell_later hb6 x6; have y10 : w6.frozen? ⟨w.heap.size + 1 + 1, 0, none⟩ = false := (hb6.frozen (World.block_lt_of_cell? _ _ x5)).trans y5; have y11 : w6.frozen? ⟨w.heap.size + 1 + 1, 1, none⟩ = false := (hb6.frozen (World.block_lt_of_cell? _ _ x6)).trans y6; obtain ⟨a6, n6, k6, a7, n7, k7, ev6, _, _⟩ := hv6.raw; subst ev6; have x12 := cell_later hb6 x7; have x13 := cell_later hb6 x8; have x14 := cell_later hb6 x9; have I6 : Hid (Rt w6 (.agg #[.slice a6 n6 k6, .slice a7 n7 k7]) (p / g) (q / g) ∧ Below w.heap.size w w6) := ⟨hv6, bel_go I5.out.2.2 hb6⟩; clear hv6 hb6))
  have Z : Hid _ := rat_put (v := .slice a6 n6 k6) (u := .slice a7 n7 k7) x10 x11 I6.out.1 I6.out.2 (by omega)
  rw [EG.out] at Z
  go_wp2_with fail
  exact bodyPost_ret (v := .tuple #[.agg #[.slice a6 n6 k6, .slice a7 n7 k7], .bool true]) (by simp [results, Tryz.results68, go_sem, x10, x11]) rfl ⟨_, rfl, Z.out.1, Z.out.2⟩
set_option maxHeartbeats 2000000 in
theorem from_none (v u : Value) (p : Nat) (w : World) (h : IsNat w v p) (k : IsNat w u 0) :
    Calls Tryz.prog 68 #[v, u] w (MakesRB w 0 1 false) := by
  obtain ⟨a, n, c, rfl⟩ := h.isAgg
  obtain ⟨a', n', c', rfl⟩ := k.isAgg
  have HH : Hid (IsNat w (.agg #[.slice a' n' c']) 0) := k
  have ba : Hid (Below w.heap.size w (((w.alloc (.cells #[.slice a n c] 66)).alloc (.cells #[.slice a' n' c'] 66)).alloc (.cells #[.slice none 0 0, .slice none 0 0] 68))) := bel_al (bel_al (bel_al (bel_refl w)))
  clear h k
  go_enter Tryz.func68, Tryz.ntmps68
  go_wp2_with fail
  refine (isZero_any _ 0 _ (HH.out.mono ba.out) (tx_word (by omega)).fits).mono ?_
  rintro e w1 ⟨rfl, hb1⟩
  have c2 : w1.cell? ⟨w.heap.size + 1 + 1, 0, none⟩ = some (.slice none 0 0) := cell_later hb1 (by simp [go_sem])
  have c3 : w1.cell? ⟨w.heap.size + 1 + 1, 1, none⟩ = some (.slice none 0 0) := cell_later hb1 (by simp [go_sem])
  have f2 : w1.frozen? ⟨w.heap.size + 1 + 1, 0, none⟩ = false := (hb1.frozen (by simp)).trans (by simp [go_sem])
  have f3 : w1.frozen? ⟨w.heap.size + 1 + 1, 1, none⟩ = false := (hb1.frozen (by simp)).trans (by simp [go_sem])
  have Z : Hid _ := rat_put (v := .slice none 0 0) (u := .slice none 0 0) c2 c3 (rt_zero w1) (bel_go ba.out hb1) (by omega)
  clear hb1 ba
  go_wp2_with fail
  exact bodyPost_ret (v := .tuple #[.agg #[.slice none 0 0, .slice none 0 0], .bool false]) (by simp [results, Tryz.results68, go_sem, c2, c3]) rfl ⟨_, rfl, Z.out.1, Z.out.2⟩
theorem rs_word {x : Nat} (h : x < 18446744073709551616) : RS x := ⟨Nat.lt_of_lt_of_le (by rw [← P_one] at h; exact h) (P_le (by omega))⟩
end Go.Proofs.YtchomkadekikdaaGreatDoor

namespace Go.Proofs.YtchomkadekikdaaGreatDoor
open Go.RowKit
set_option maxRecDepth 100000
set_option linter.unusedVariables false
theorem U_cut {G : Nat → Nat} {m n : Nat} (h : m ≤ n) : U (cutU G m 0) n = U G m := by
  rw [U_top h fun i h1 h2 => cutU_out (by omega)]
  exact U_congr fun i hi => by rw [cutU_in (by omega), Nat.zero_add]
theorem dg_cut {G : Nat → Nat} {m : Nat} (hG : Dg G m) (i : Nat) : cutU G m 0 i < 4294967296 := by
  by_cases h : 0 + i < m
  · rw [cutU_in h]; exact hG _ h
  · rw [cutU_out h]; omega
/-- i digits of a sum are made, c is carried. -/
structure Pl (w0 wr : World) (v : Value) (F : Nat → Nat) (n : Nat) (G : Nat → Nat) (m i c : Nat) (H : Nat → Nat) : Prop where
  own : OR wr 78 w0.heap.size v i (wd H)
  dg : Dg H i
  sum : U H i + c * B i = U (cutU F n 0) i + U (cutU G m 0) i
  car : c ≤ 1
  bel : Below w0.heap.size w0 wr
theorem pl_sum {H : Nat → Nat} {F G i c s f g b : Nat} (hs : s = f + g + c) (h : H i = s % 4294967296) (e : F + c * b = G) : F + s % 4294967296 * b + s / 4294967296 * (b * 4294967296) = G + f * b + g * b := by
  have h1 := Nat.div_add_mod s 4294967296
  have h2 : s * b = (4294967296 * (s / 4294967296) + s % 4294967296) * b := by rw [h1]
  rw [hs] at h2 ⊢
  grind
theorem OR.blk {w : World} {e : TypeId} {base n : Nat} {v : Value} {G : Nat → Value} (h : OR w e base v n G) : ∀ j, v.ownBlock = some j → base ≤ j := by
  intro j hj
  rcases h with ⟨rfl, rfl⟩ | ⟨g, cap, f, rfl, h1, _⟩
  · simp [Value.ownBlock] at hj
  · simp only [Value.ownBlock, Option.some.injEq] at hj
    omega
theorem Pl.step {w0 wr w2 : World} {v v2 : Value} {F G H : Nat → Nat} {n m i c f g : Nat} (h : Pl w0 wr v F n G m i c H) (hf : f = cutU F n 0 i ∧ g = cutU G m 0 i) (lf : f < 4294967296) (lg : g < 4294967296)
    (ho : OR w2 78 w0.heap.size v2 (i + 1) (fun j => if j = i then .int .u64 (((f : Int) + g + c) % 4294967296) else wd H j)) (hb : Below w0.heap.size w0 w2) :
    Pl w0 w2 v2 F n G m (i + 1) ((f + g + c) / 4294967296) (put H i ((f + g + c) % 4294967296)) := by
  refine ⟨OR.congr ho fun j hj => ?_, fun j hj => ?_, ?_, ?_, hb⟩
  · unfold wd put
    split
    · congr 1
    · rfl
  · unfold put
    split
    · exact Nat.mod_lt _ (by decide)
    · exact h.dg j (by omega)
  · rw [U_succ, U_succ, U_succ, put_same, U_congr (F := put H i _) (G := H) fun j hj => put_other _ _ (by omega), ← hf.1, ← hf.2, B_succ]
    have := pl_sum (H := fun _ => (f + g + c) % 4294967296) (i := 0) (s := f + g + c) (f := f) (g := g) rfl rfl h.sum
    omega
  · have := h.car
    omega
theorem Pl.done {w0 wr : World} {v : Value} {F G H : Nat → Nat} {n m mx c : Nat} (h : Pl w0 wr v F n G m (mx + 1) c H) (hn : n ≤ mx) (hm : m ≤ mx) (dF : Dg F n) (dG : Dg G m) : U H (mx + 1) = U F n + U G m := by
  have h1 := h.sum
  rw [U_cut (by omega), U_cut (by omega)] at h1
  have h2 := Nat.lt_of_lt_of_le (U_lt dF) (B_le hn)
  have h3 := Nat.lt_of_lt_of_le (U_lt dG) (B_le hm)
  have h4 := B_succ mx
  have h5 : c = 0 ∨ c = 1 := by have := h.car; omega
  rcases h5 with rfl | rfl <;> omega
end Go.Proofs.YtchomkadekikdaaGreatDoor

namespace Go.Proofs.YtchomkadekikdaaGreatDoor
open Go.RowKit
set_option maxRecDepth 100000
set_option linter.unusedVariables false
/-- A number stays where another block is written. -/
theorem RNat.stay {w w' : World} {b o k c x g : Nat} (h : RNat w (.agg #[.slice (some ⟨b, o, none⟩) k c]) x) (hg : w.grownBy w' (some g)) (hne : b ≠ g) : RNat w' (.agg #[.slice (some ⟨b, o, none⟩) k c]) x := by
  obtain ⟨F, ⟨s1, s2, s3, s4⟩, hd, h1, hv⟩ := h.open
  refine ⟨_, k, c, F, rfl, ⟨s1, s2, s3, ?_⟩, hd, h1, hv⟩
  rcases s4 with e | ⟨b', o', e, hw⟩
  · exact .inl e
  · cases e
    exact .inr ⟨b, o, rfl, fun i hi => hg.cell (hw i hi) (by simp only [ne_eq, Option.some.injEq]; exact hne)⟩
end Go.Proofs.YtchomkadekikdaaGreatDoor

namespace Go.Proofs.YtchomkadekikdaaGreatDoor
open Go.RowKit
set_option maxRecDepth 100000
set_option linter.unusedVariables false
/-- The number of the digits from the i-th on. -/
def Tp (F : Nat → Nat) (n i : Nat) : Nat := U (fun j => F (i + j)) (n - i)
theorem Tp_all (F : Nat → Nat) (n : Nat) : Tp F n 0 = U F n := by
  rw [Tp, Nat.sub_zero]
  exact U_congr fun j hj => by rw [Nat.zero_add]
theorem Tp_step (F : Nat → Nat) {n i : Nat} (h : i < n) : Tp F n i = F i + 4294967296 * Tp F n (i + 1) := by
  unfold Tp
  rw [show n - i = 1 + (n - (i + 1)) by omega, U_split, B_one, U_succ, U_zero, B_zero, Nat.zero_add, Nat.mul_one, Nat.add_zero]
  congr 2
  exact U_congr fun j hj => by rw [show i + (1 + j) = i + 1 + j by omega]
theorem Tp_congr {F G : Nat → Nat} {n i : Nat} (h : ∀ j, i ≤ j → j < n → F j = G j) : Tp F n i = Tp G n i := U_congr fun j hj => h _ (by omega) (by omega)
theorem small_lt {r f d : Nat} (hr : r < d) (hf : f < 4294967296) : (r * 4294967296 + f) / d < 4294967296 := by
  refine (Nat.div_lt_iff_lt_mul (by omega)).2 ?_
  have : (r + 1) * 4294967296 ≤ d * 4294967296 := Nat.mul_le_mul_right _ hr
  omega
theorem small_eq {f T Q r d s : Nat} (h : T = Q * d + r) (hs : s = r * 4294967296 + f) : f + 4294967296 * T = (s / d + 4294967296 * Q) * d + s % d := by
  have h1 := Nat.div_add_mod s d
  have h2 : 4294967296 * T = 4294967296 * (Q * d + r) := by rw [h]
  grind
/-- The digits from the i-th on are divided. -/
structure Sm (F : Nat → Nat) (n d i r : Nat) (H : Nat → Nat) : Prop where
  eq : Tp F n i = Tp H n i * d + r
  lt : r < d
  dg : ∀ j, i ≤ j → j < n → H j < 4294967296
theorem Sm.step {F H : Nat → Nat} {n d i r : Nat} (h : Sm F n d (i + 1) r H) (hi : i < n) (hf : F i < 4294967296) : Sm F n d i ((r * 4294967296 + F i) % d) (put H i ((r * 4294967296 + F i) / d)) := by
  refine ⟨?_, Nat.mod_lt _ (Nat.lt_of_le_of_lt (Nat.zero_le _) h.lt), fun j h1 h2 => ?_⟩
  · rw [Tp_step F hi, Tp_step _ hi, put_same, Tp_congr (F := put H i _) (G := H) fun j h1 h2 => put_other _ _ (by omega)]
    exact small_eq h.eq rfl
  · unfold put
    split
    · exact small_lt h.lt hf
    · exact h.dg j (by omega) h2
theorem Sm.done {F H : Nat → Nat} {n d r : Nat} (h : Sm F n d 0 r H) : U H n = U F n / d ∧ r = U F n % d := by
  have h1 := h.eq
  rw [Tp_all, Tp_all] at h1
  have h2 := h.lt
  have h3 : 0 < d := by omega
  rw [h1, Nat.mul_comm (U H n) d]
  constructor
  · rw [Nat.mul_add_div h3, Nat.div_eq_of_lt h2, Nat.add_zero]
  · rw [Nat.mul_add_mod, Nat.mod_eq_of_lt h2]
end Go.Proofs.YtchomkadekikdaaGreatDoor

namespace Go.Proofs.YtchomkadekikdaaGreatDoor
open Go.RowKit
set_option maxRecDepth 100000
set_option linter.unusedVariables false
end Go.Proofs.YtchomkadekikdaaGreatDoor

namespace Go.Proofs.YtchomkadekikdaaGreatDoor
open Go.RowKit
set_option maxRecDepth 100000
set_option linter.unusedVariables false
theorem U_put (H : Nat → Nat) (q N e : Nat) (hq : q < N) : U (put H q e) N + H q * B q = U H N + e * B q := by
  obtain ⟨t, rfl⟩ : ∃ t, N = q + 1 + t := ⟨N - (q + 1), by omega⟩
  rw [U_split _ (q + 1), U_split H (q + 1), U_succ, U_succ, put_same, U_congr (F := put H q e) (G := H) (n := q) fun i hi => put_other _ _ (by omega),
    U_congr (F := fun i => put H q e (q + 1 + i)) (G := fun i => H (q + 1 + i)) fun i hi => put_other _ _ (by omega)]
  omega
theorem tm_le {f g h c : Nat} (hf : f < 4294967296) (hg : g < 4294967296) (hh : h < 4294967296) (hc : c < 4294967296) : f * g + h + c < 18446744073709551616 := by
  have : f * g ≤ 4294967295 * 4294967295 := Nat.mul_le_mul (by omega) (by omega)
  omega
theorem tm_eq {u' u h b s f g c T fb : Nat} (e1 : u' + h * b = u + s % 4294967296 * b) (hs : s = f * g + h + c) (e2 : u + c * b = T) (hfb : f * b * g = fb) : u' + s / 4294967296 * (b * 4294967296) = T + fb := by
  have h1 := Nat.div_add_mod s 4294967296
  have h2 : s * b = (4294967296 * (s / 4294967296) + s % 4294967296) * b := by rw [h1]
  have h3 : s * b = (f * g + h + c) * b := by rw [hs]
  grind
/-- i rows of a product are laid, and k digits of the next one; c is carried. -/
structure Tm (F : Nat → Nat) (n : Nat) (G : Nat → Nat) (m i k c : Nat) (H : Nat → Nat) : Prop where
  eq : U H (n + m) + c * B (i + k) = U F i * U G m + F i * B i * U G k
  dg : Dg H (n + m)
  top : ∀ j, i + m ≤ j → H j = 0
  car : c < 4294967296
theorem Tm.step {F G H : Nat → Nat} {n m i k c : Nat} (h : Tm F n G m i k c H) (hi : i < n) (hk : k < m) (hf : F i < 4294967296) (hg : G k < 4294967296) :
    Tm F n G m i (k + 1) ((F i * G k + H (i + k) + c) / 4294967296) (put H (i + k) ((F i * G k + H (i + k) + c) % 4294967296)) := by
  have hl := tm_le hf hg (h.dg (i + k) (by omega)) h.car
  refine ⟨?_, fun j hj => ?_, fun j hj => ?_, by omega⟩
  · rw [show i + (k + 1) = i + k + 1 by omega, B_succ, U_succ, Nat.mul_add, ← Nat.add_assoc]
    refine tm_eq (U_put H (i + k) (n + m) _ (by omega)) rfl h.eq ?_
    rw [B_add]
    grind
  · unfold put
    split
    · exact Nat.mod_lt _ (by decide)
    · exact h.dg j hj
  · rw [put_other _ _ (by omega)]
    exact h.top j hj
theorem Tm.next {F G H : Nat → Nat} {n m i c : Nat} (h : Tm F n G m i m c H) (hi : i < n) : Tm F n G m (i + 1) 0 0 (put H (i + m) c) := by
  refine ⟨?_, fun j hj => ?_, fun j hj => ?_, by omega⟩
  · have h1 := U_put H (i + m) (n + m) c (by omega)
    rw [h.top (i + m) (by omega)] at h1
    have h2 := h.eq
    rw [U_succ, U_zero]
    grind
  · unfold put
    split
    · exact h.car
    · exact h.dg j hj
  · rw [put_other _ _ (by omega)]
    exact h.top j (by omega)
theorem Tm.again {F G H : Nat → Nat} {n m i : Nat} (h : Tm F n G m i 0 0 H) : Tm F n G m i 0 0 H := h
end Go.Proofs.YtchomkadekikdaaGreatDoor

namespace Go.Proofs.YtchomkadekikdaaGreatDoor
open Go.RowKit
set_option maxRecDepth 100000
set_option linter.unusedVariables false
/-- What a guess stands on: two upper digits A, the third u, the divisor's upper two, the right digit Q. -/
structure RgD (A u y1 y0 Q : Nat) : Prop where
  hi : Q < 4294967296
  le3 : Q ≤ (A * 4294967296 + u) / (y1 * 4294967296 + y0)
  top : A ≤ y1 * 4294967296 + y0
  norm : 2147483648 ≤ y1
  near : ∀ q, q * (y1 * 4294967296 + y0) ≤ A * 4294967296 + u → q < 4294967296 → q ≤ Q + 1
  lu : u < 4294967296
  l1 : y1 < 4294967296
  l0 : y0 < 4294967296
/-- q is not below the digit, and r is what it leaves. -/
structure Gs (A y1 Q q r : Nat) : Prop where
  eq : q * y1 + r = A
  ge : Q ≤ q
theorem Gs.step {A u y1 y0 Q q r : Nat} (h : Gs A y1 Q q r) (g : RgD A u y1 y0 Q) (hc : 4294967296 ≤ q ∨ r * 4294967296 + u < q * y0) : 0 < q ∧ Gs A y1 Q (q - 1) (r + y1) := by
  have hT : 0 < y1 * 4294967296 + y0 := by have := g.norm; omega
  have hlt : Q < q := by
    rcases hc with hc | hc
    · have := g.hi
      omega
    · refine Nat.lt_of_le_of_lt g.le3 ?_
      rw [Nat.div_lt_iff_lt_mul hT]
      have e := dig_id y1 y0 q r u
      rw [h.eq] at e
      exact lin_lt e hc
  refine ⟨by omega, ?_, by omega⟩
  have h1 := h.eq
  obtain ⟨t, rfl⟩ : ∃ t, q = t + 1 := ⟨q - 1, by omega⟩
  rw [Nat.add_mul] at h1
  simp only [Nat.add_sub_cancel]
  omega
theorem Gs.done {A u y1 y0 Q q r : Nat} (h : Gs A y1 Q q r) (g : RgD A u y1 y0 Q) (hq : q < 4294967296) (hc : q * y0 ≤ r * 4294967296 + u) : q ≤ Q + 1 := by
  refine g.near q ?_ hq
  have e := dig_id y1 y0 q r u
  rw [h.eq] at e
  exact lin_le e hc
theorem Gs.broke {A u y1 y0 Q q r : Nat} (h : Gs A y1 Q q r) (g : RgD A u y1 y0 Q) (hr : 4294967296 ≤ r) : q < 4294967296 ∧ q ≤ Q + 1 := by
  have h0 := g.l0
  have hq : q < 4294967296 := by
    rcases Nat.lt_or_ge q 4294967296 with hq | hq
    · exact hq
    · have h1 : 4294967296 * y1 ≤ q * y1 := Nat.mul_le_mul_right _ hq
      have h2 := h.eq
      have h3 := g.top
      omega
  refine ⟨hq, h.done g hq ?_⟩
  have h4 : q * y0 ≤ 4294967296 * 4294967296 := Nat.mul_le_mul (by omega) (by omega)
  have h5 : 4294967296 * 4294967296 ≤ r * 4294967296 := Nat.mul_le_mul_right _ hr
  omega
/-- i digits of q times the divisor are taken away. -/
structure Ls (F Y : Nat → Nat) (N n j q i c b : Nat) (H : Nat → Nat) : Prop where
  eq : U (fro H j) i + q * U (cutU Y n 0) i = U (fro F j) i + (c + b) * B i
  out : ∀ t, t < j ∨ j + i ≤ t → H t = F t
  dg : Dg H N
  lc : c < 4294967296
  lb : b ≤ 1
  fin : n < i → c = 0
theorem ls_p {q d c : Nat} (hq : q < 4294967296) (hd : d < 4294967296) (hc : c < 4294967296) : q * d + c < 18446744073709551616 ∧ (q * d + c) / 4294967296 < 4294967296 := by
  have h : q * d ≤ 4294967295 * 4294967295 := Nat.mul_le_mul (by omega) (by omega)
  omega
theorem ls_id {h q u f cb i s p qd c b : Nat} {Bi : Nat} (e : h + q * u = f + (c + b) * Bi) (hp : p = qd + c) (hs : s + p % 4294967296 + b = 4294967296 + i) (hl : s < 8589934592) :
    h + s % 4294967296 * Bi + (q * u + qd * Bi) = f + i * Bi + (p / 4294967296 + (1 - s / 4294967296)) * (Bi * 4294967296) := by
  have hd := Nat.div_add_mod p 4294967296
  generalize p / 4294967296 = pd at *
  generalize p % 4294967296 = pm at *
  have hc : c + qd = 4294967296 * pd + pm := by omega
  rcases Nat.lt_or_ge s 4294967296 with h1 | h1
  · rw [Nat.mod_eq_of_lt h1, Nat.div_eq_of_lt h1]
    have h2 : (c + qd) * Bi = (4294967296 * pd + pm) * Bi := by rw [hc]
    have h3 : (s + pm + b) * Bi = (4294967296 + i) * Bi := by rw [hs]
    grind
  · obtain ⟨z, rfl⟩ : ∃ z, s = 4294967296 + z := ⟨s - 4294967296, by omega⟩
    rw [show (4294967296 + z) % 4294967296 = z by omega, show (4294967296 + z) / 4294967296 = 1 by omega]
    have h2 : (c + qd) * Bi = (4294967296 * pd + pm) * Bi := by rw [hc]
    have h3 : (4294967296 + z + pm + b) * Bi = (4294967296 + i) * Bi := by rw [hs]
    grind
theorem fro_put_lt (H : Nat → Nat) (j i v : Nat) : U (fro (put H (j + i) v) j) (i + 1) = U (fro H j) i + v * B i := by
  rw [U_succ]
  congr 1
  · exact U_congr fun t ht => put_other _ _ (by omega)
  · show put H (j + i) v (j + i) * B i = _
    rw [put_same]
theorem Ls.step {F Y H : Nat → Nat} {N n j q i c b d p s : Nat} (h : Ls F Y N n j q i c b H) (hd : d = cutU Y n 0 i) (hY : Dg Y n) (hq : q < 4294967296) (hp : p = q * d + c) (hs : s = 4294967296 + F (j + i) - p % 4294967296 - b) (hF : F (j + i) < 4294967296) :
    Ls F Y N n j q (i + 1) (p / 4294967296) (1 - s / 4294967296) (put H (j + i) (s % 4294967296)) := by
  have ld := dg_cut hY i
  rw [← hd] at ld
  have lb := h.lb
  have hsl : s < 8589934592 := by omega
  have hse : s + p % 4294967296 + b = 4294967296 + F (j + i) := by omega
  refine ⟨?_, fun t ht => ?_, fun t ht => ?_, ?_, by omega, fun hn => ?_⟩
  · rw [fro_put_lt, U_succ, U_succ, Nat.mul_add, B_succ, ← hd, ← Nat.mul_assoc]
    exact ls_id (cb := 0) h.eq hp hse hsl
  · rw [put_other _ _ (by omega)]
    exact h.out t (by omega)
  · unfold put
    split
    · exact Nat.mod_lt _ (by decide)
    · exact h.dg t ht
  · rw [hp]
    exact (ls_p hq ld h.lc).2
  · rw [hp, hd, cutU_out (by omega), Nat.mul_zero, Nat.zero_add]
    exact Nat.div_eq_of_lt h.lc
theorem Ls.done {F Y H : Nat → Nat} {N n j q c b : Nat} (h : Ls F Y N n j q (n + 1) c b H) : U (fro H j) (n + 1) + U Y n * q = U (fro F j) (n + 1) + b * B (n + 1) := by
  have e := h.eq
  rw [h.fin (by omega), U_cut (by omega), Nat.zero_add, Nat.mul_comm q] at e
  exact e
/-- i digits of the divisor are given back. -/
structure Bk (F Y : Nat → Nat) (N n j i c : Nat) (H : Nat → Nat) : Prop where
  eq : U (fro H j) i + c * B i = U (fro F j) i + U (cutU Y n 0) i
  out : ∀ t, t < j ∨ j + i ≤ t → H t = F t
  dg : Dg H N
  lc : c ≤ 1
theorem bk_id {h c f u Bi s a d : Nat} (e : h + c * Bi = f + u) (hs : s = a + d + c) : h + s % 4294967296 * Bi + s / 4294967296 * (Bi * 4294967296) = f + a * Bi + (u + d * Bi) := by
  have hd := Nat.div_add_mod s 4294967296
  generalize s / 4294967296 = sd at *
  generalize s % 4294967296 = sm at *
  have h2 : (4294967296 * sd + sm) * Bi = (a + d + c) * Bi := by rw [hd, hs]
  grind
theorem Bk.step {F Y H : Nat → Nat} {N n j i c d s : Nat} (h : Bk F Y N n j i c H) (hd : d = cutU Y n 0 i) (hY : Dg Y n) (hs : s = F (j + i) + d + c) (hF : F (j + i) < 4294967296) :
    Bk F Y N n j (i + 1) (s / 4294967296) (put H (j + i) (s % 4294967296)) := by
  have ld := dg_cut hY i
  rw [← hd] at ld
  have lc := h.lc
  refine ⟨?_, fun t ht => ?_, fun t ht => ?_, by omega⟩
  · rw [fro_put_lt, U_succ, U_succ, B_succ, ← hd]
    exact bk_id h.eq hs
  · rw [put_other _ _ (by omega)]
    exact h.out t (by omega)
  · unfold put
    split
    · exact Nat.mod_lt _ (by decide)
    · exact h.dg t ht
theorem Bk.done {F Y H : Nat → Nat} {N n j c : Nat} (h : Bk F Y N n j (n + 1) c H) : U (fro H j) (n + 1) + c * B (n + 1) = U (fro F j) (n + 1) + U Y n := by
  have e := h.eq
  rw [U_cut (by omega)] at e
  exact e
/-- The digits from jj on of the quotient are known. -/
structure RvD (X Yv : Nat) (N n jj : Nat) (F Q : Nat → Nat) : Prop where
  eq : X = Yv * U Q (N - n) + U F N
  lt : U (fro F jj) n < Yv
  zero : ∀ t, jj + n ≤ t → t < N → F t = 0
  none : ∀ t, t < jj → Q t = 0
  dF : Dg F N
  dQ : Dg Q (N - n)
theorem fro_cons (F : Nat → Nat) (j n : Nat) : U (fro F j) (n + 1) = F j + 4294967296 * U (fro F (j + 1)) n := by
  rw [show n + 1 = 1 + n by omega, U_split, B_one, U_succ, U_zero, B_zero, Nat.zero_add, Nat.mul_one]
  congr 2
  exact U_congr fun t ht => by show F (j + (1 + t)) = F (j + 1 + t); rw [show j + (1 + t) = j + 1 + t by omega]
theorem RvD.small {X Yv N n j : Nat} {F Q : Nat → Nat} (h : RvD X Yv N n (j + 1) F Q) (hj : j < N) : U (fro F j) (n + 1) < Yv * 4294967296 := by
  rw [fro_cons]
  have h1 := h.lt
  have h2 := h.dF j hj
  have h3 : (U (fro F (j + 1)) n + 1) * 4294967296 ≤ Yv * 4294967296 := Nat.mul_le_mul_right _ h1
  omega
theorem U_mid {F : Nat → Nat} {N j m : Nat} (h : j + m ≤ N) (hz : ∀ t, j + m ≤ t → t < N → F t = 0) : U F N = U F j + B j * U (fro F j) m := by
  rw [U_top h hz, U_split]
  rfl
theorem RvD.step {X Yv N n j d : Nat} {F Q H : Nat → Nat} (h : RvD X Yv N n (j + 1) F Q) (hj : j + n < N) (hd : d = U (fro F j) (n + 1) / Yv) (hr : U (fro H j) (n + 1) = U (fro F j) (n + 1) % Yv) (hYn : Yv < B n)
    (hout : ∀ t, t < j ∨ j + n + 1 ≤ t → H t = F t) (dH : Dg H N) (ld : d < 4294967296) : RvD X Yv N n j H (put Q j d) := by
  have hYv : 0 < Yv := Nat.lt_of_le_of_lt (Nat.zero_le _) h.lt
  have hrl : U (fro H j) (n + 1) < Yv := by rw [hr]; exact Nat.mod_lt _ hYv
  have htop : H (j + n) = 0 := by
    rcases Nat.eq_zero_or_pos (H (j + n)) with h0 | h0
    · exact h0
    · have h1 : 1 * B n ≤ H (j + n) * B n := Nat.mul_le_mul_right _ h0
      have h2 : U (fro H j) (n + 1) = U (fro H j) n + H (j + n) * B n := U_succ ..
      omega
  have eF := U_mid (F := F) (N := N) (j := j) (m := n + 1) (by omega) fun t h1 h2 => h.zero t (by omega) h2
  have eH := U_mid (F := H) (N := N) (j := j) (m := n + 1) (by omega) fun t h1 h2 => by rw [hout t (by omega)]; exact h.zero t (by omega) h2
  have eL : U H j = U F j := U_congr fun t ht => hout t (by omega)
  have eQ := U_put Q j (N - n) d (by omega)
  rw [h.none j (by omega), Nat.zero_mul, Nat.add_zero] at eQ
  have hdm := Nat.div_add_mod (U (fro F j) (n + 1)) Yv
  rw [← hd, ← hr] at hdm
  refine ⟨?_, ?_, fun t h1 h2 => ?_, fun t ht => ?_, dH, fun t ht => ?_⟩
  · rw [h.eq, eQ, eF, eH, eL, ← hdm]
    grind
  · have h2 : U (fro H j) (n + 1) = U (fro H j) n + H (j + n) * B n := U_succ ..
    rw [htop] at h2
    omega
  · by_cases e : t = j + n
    · rw [e]; exact htop
    · rw [hout t (by omega)]
      exact h.zero t (by omega) h2
  · rw [put_other _ _ (by omega)]
    exact h.none t (by omega)
  · unfold put
    split
    · exact ld
    · exact h.dQ t ht
theorem RvD.done {X Yv N n : Nat} {F Q : Nat → Nat} (h : RvD X Yv N n 0 F Q) (hn : n ≤ N) : U Q (N - n) = X / Yv ∧ U F N = X % Yv := by
  have h1 := h.lt
  rw [fro_zero] at h1
  have h2 : U F N = U F n := U_top hn fun t a b => h.zero t (by omega) b
  have h3 := h.eq
  rw [h2] at h3
  rw [h2, h3]
  have hY : 0 < Yv := by omega
  constructor
  · rw [Nat.mul_add_div hY, Nat.div_eq_of_lt h1, Nat.add_zero]
  · rw [Nat.mul_add_mod, Nat.mod_eq_of_lt h1]
/-- One digit was taken, or mended. -/
theorem dv_exact {R Yv d V' p : Nat} (h : V' + Yv * d = R) (hV : V' < p) (hYp : Yv ≤ p) (hY : 0 < Yv) (hlo : R / Yv ≤ d) : d = R / Yv ∧ V' = R % Yv := by
  have := take_exact (F := R) (Y := Yv) (d := d) (bor := 0) (top := 0) (p := p) (V' := V') (by omega) hV hYp hY (by rw [Nat.zero_mul, Nat.add_zero]; exact hlo) (Nat.le_refl _)
  rw [Nat.zero_mul, Nat.add_zero] at this
  exact this
theorem dv_mend {R Yv d V' V'' c p : Nat} (h : V' + Yv * d = R + p) (hV : V' < p) (hV2 : V'' < p) (hYp : Yv ≤ p) (hY : 0 < Yv) (hhi : d ≤ R / Yv + 1) (h2 : V'' + c * p = V' + Yv) (hc : c ≤ 1) (hR : R < Yv * p) : 0 < d ∧ d - 1 = R / Yv ∧ V'' = R % Yv := by
  have := take_mend (F := R) (Y := Yv) (d := d) (bor := 1) (top := 0) (p := p) (V' := V') (V'' := V'') (c := c) (by omega) hV hV2 hYp hY (by rw [Nat.zero_mul, Nat.add_zero]; exact hhi) (by omega) h2 hc (by rw [Nat.zero_mul, Nat.add_zero]; exact hR)
  rw [Nat.zero_mul, Nat.add_zero] at this
  exact this
/-- A quotient of two numbers that were shifted alike. -/
theorem dv_shift (x y s : Nat) : x * 2 ^ s / (y * 2 ^ s) = x / y ∧ x * 2 ^ s % (y * 2 ^ s) / 2 ^ s = x % y := by
  have hp : 0 < 2 ^ s := Nat.pow_pos (by decide)
  refine ⟨Nat.mul_div_mul_right _ _ hp, ?_⟩
  rw [Nat.mul_mod_mul_right, Nat.mul_div_cancel _ hp]
end Go.Proofs.YtchomkadekikdaaGreatDoor

namespace Go.Proofs.YtchomkadekikdaaGreatDoor
open Go.RowKit
set_option maxRecDepth 100000
set_option linter.unusedVariables false
/-- The first n cells of block g are words that may be written. -/
def DRow (w : World) (g c n : Nat) (F : Nat → Nat) : Prop := (∃ f, w.rowIs g 78 c f ∧ ∀ i, i < n → f i = wd F i) ∧ n ≤ c ∧ c ≤ 9223372036854775807 ∧ Ok F n
theorem DRow.cell {w : World} {g c n : Nat} {F : Nat → Nat} (h : DRow w g c n F) {i : Nat} (hi : i < n) : w.cell? ⟨g, i, none⟩ = some (.int .u64 (F i : Nat)) := by
  obtain ⟨⟨f, h1, h2⟩, h3, _⟩ := h
  rw [h1.cell (show i < c by omega), h2 i hi]
  rfl
theorem DRow.frozen {w : World} {g c n : Nat} {F : Nat → Nat} (h : DRow w g c n F) (i : Nat) : w.frozen? ⟨g, i, none⟩ = false := by
  obtain ⟨⟨f, h1, h2⟩, h3⟩ := h
  exact h1.frozen i
theorem DRow.lt {w : World} {g c n : Nat} {F : Nat → Nat} (h : DRow w g c n F) : g < w.heap.size := by
  obtain ⟨⟨f, h1, h2⟩, h3⟩ := h
  exact h1.lt
theorem DRow.set {w : World} {g c n : Nat} {F : Nat → Nat} (h : DRow w g c n F) (i : Nat) {d : Nat} (hd : d < 18446744073709551616) : DRow (w.setCell ⟨g, i, none⟩ (.int .u64 (d : Int))) g c n (put F i d) := by
  obtain ⟨⟨f, h1, h2⟩, h3, h4, h5⟩ := h
  refine ⟨⟨_, h1.set i _, fun j hj => ?_⟩, h3, h4, fun j hj => ?_⟩
  · show (if j = i then _ else f j) = Value.int .u64 ((put F i d j : Nat) : Int)
    by_cases e : j = i
    · subst e
      rw [if_pos rfl, put_same]
    · rw [if_neg e, put_other _ _ e, h2 j hj]
      rfl
  · unfold put
    split
    · exact hd
    · exact h5 j hj
theorem DRow.below {w w' : World} {g c n : Nat} {F : Nat → Nat} (h : DRow w g c n F) (hb : Below w.heap.size w w') : DRow w' g c n F := by
  obtain ⟨⟨f, h1, h2⟩, h3⟩ := h
  exact ⟨⟨f, h1.of_block (hb.block g h1.lt), h2⟩, h3⟩
theorem DRow.drewN {w : World} {g c n : Nat} {F : Nat → Nat} (h : DRow w g c n F) (k : Nat) : DRow (w.drewN k) g c n F := h.below (bel_drewN (bel_refl w) k)
theorem DRow.apart {w w' : World} {g c n b : Nat} {F : Nat → Nat} (h : DRow w g c n F) (hg : w.grownBy w' (some b)) (hne : g ≠ b) : DRow w' g c n F := by
  obtain ⟨⟨f, h1, h2⟩, h3⟩ := h
  exact ⟨⟨f, h1.of_block (hg.block g h1.lt (by simpa using hne)), h2⟩, h3⟩
theorem DRow.sl {w : World} {g c n : Nat} {F : Nat → Nat} (h : DRow w g c n F) : Sl w (some ⟨g, 0, none⟩) n c F :=
  ⟨h.2.1, h.2.2.1, h.2.2.2, .inr ⟨g, 0, rfl, fun i hi => by rw [Nat.zero_add]; exact h.cell hi⟩⟩
theorem Sl.apart {w w' : World} {a : Option Addr} {n cap b : Nat} {F : Nat → Nat} (h : Sl w a n cap F) (hg : w.grownBy w' (some b)) (hne : ∀ b' o', a = some ⟨b', o', none⟩ → b' ≠ b) : Sl w' a n cap F := by
  obtain ⟨s1, s2, s3, s4⟩ := h
  refine ⟨s1, s2, s3, s4.imp id ?_⟩
  rintro ⟨b', o', rfl, hw⟩
  exact ⟨b', o', rfl, hw.kept hg (by simpa using hne b' o' rfl)⟩
end Go.Proofs.YtchomkadekikdaaGreatDoor

namespace Go.Proofs.YtchomkadekikdaaGreatDoor
open Go.RowKit
set_option maxRecDepth 100000
set_option linter.unusedVariables false
/-- A guess is the digit, or one more. -/
structure Near (Q G : Nat) : Prop where
  ge : Q ≤ G
  le : G ≤ Q + 1
  lt : G < 4294967296
end Go.Proofs.YtchomkadekikdaaGreatDoor

namespace Go.Proofs.YtchomkadekikdaaGreatDoor
open Go.RowKit
set_option maxRecDepth 100000
set_option linter.unusedVariables false
end Go.Proofs.YtchomkadekikdaaGreatDoor

namespace Go.Proofs.YtchomkadekikdaaGreatDoor
open Go.RowKit
set_option linter.unusedVariables false
theorem strOf_size (D : Nat → Nat) (n : Nat) : (strOf D n).size = n := by simp [strOf, strOfNums, ByteArray.size]
theorem sb_strOf {D : Nat → Nat} {n i : Nat} (hi : i < n) (hD : D i < 256) : sb (strOf D n) i = D i := by
  have hs : i < (strOf D n).size := by rw [strOf_size]; exact hi
  rw [← sb_at hs]
  have : (strOf D n)[i]'hs = UInt8.ofNat (D i) := by
    show (strOf D n).data[i]'_ = _
    simp [strOf, strOfNums]
  rw [this]
  simp
  omega
theorem decVal_eq {s : ByteArray} {x k : Nat} (h : ∀ i, i < k → sb s i = decAt x (k - 1 - i)) : ∀ j, j ≤ k → decVal s j = x / 10 ^ (k - j) % 10 ^ j
  | 0, _ => by simp [decVal, Nat.mod_one]
  | j + 1, hj => by
    have h1 := decVal_eq h j (by omega)
    have h2 := h j (by omega)
    rw [decVal, h1, h2, decAt]
    have e1 : k - 1 - j = k - (j + 1) := by omega
    have e2 : k - j = (k - (j + 1)) + 1 := by omega
    rw [e1, e2, Nat.pow_succ, ← Nat.div_div_eq_div_mul]
    generalize x / 10 ^ (k - (j + 1)) = y
    rw [Nat.pow_succ, Nat.mul_comm (10 ^ j) 10, Nat.mod_mul]
    omega
theorem sb_text {x k i : Nat} (hi : i < k) : sb (decText x k) i = decAt x (k - 1 - i) := sb_strOf (D := fun i => decAt x (k - 1 - i)) hi (decAt_lt _ _)
theorem decVal_text {x k : Nat} (h : DecLen x k) : decVal (decText x k) k = x := by
  rw [decVal_eq (x := x) (k := k) (fun i hi => sb_text hi) k (Nat.le_refl _), Nat.sub_self, Nat.pow_zero, Nat.div_one]
  exact Nat.mod_eq_of_lt h.2.1
theorem digits_text (x k : Nat) : Digits (decText x k) k := by
  intro i hi
  rw [sb_text hi]
  unfold decAt
  omega
theorem text_size (x k : Nat) : (decText x k).size = k := strOf_size _ _
end Go.Proofs.YtchomkadekikdaaGreatDoor

namespace Go.Proofs.YtchomkadekikdaaGreatDoor
open Go.RowKit
set_option linter.unusedVariables false
end Go.Proofs.YtchomkadekikdaaGreatDoor

namespace Go.Proofs.YtchomkadekikdaaGreatDoor
open Go.RowKit
set_option maxRecDepth 100000
set_option linter.unusedVariables false
/-- i digits of a number shifted up are made, behind q noughts; c is carried. -/
structure Le (w0 wr : World) (v : Value) (F : Nat → Nat) (q r i c : Nat) (H : Nat → Nat) : Prop where
  own : OR wr 78 w0.heap.size v (q + i) (wd H)
  dg : Dg H (q + i)
  sum : U H (q + i) + c * B (q + i) = U F i * 2 ^ r * B q
  car : c < 4294967296
  bel : Below w0.heap.size w0 wr
theorem le_sum {u c b s f t T Bq bi : Nat} (hs : s = f * t + c) (e : u + c * b = T) (hb : b = Bq * bi) : u + s % 4294967296 * b + s / 4294967296 * (b * 4294967296) = T + f * bi * t * Bq := by
  have h1 := Nat.div_add_mod s 4294967296
  have h2 : s * b = (4294967296 * (s / 4294967296) + s % 4294967296) * b := by rw [h1]
  have h3 : s * b = (f * t + c) * b := by rw [hs]
  subst hb
  grind
theorem Le.step {w0 wr w2 : World} {v v2 : Value} {F H : Nat → Nat} {q r i c s : Nat} (h : Le w0 wr v F q r i c H) (hs : s = F i * 2 ^ r + c) (hl : s < 18446744073709551616)
    (ho : OR w2 78 w0.heap.size v2 (q + i + 1) (fun j => if j = q + i then .int .u64 (((s : Nat) : Int) % 4294967296) else wd H j)) (hb : Below w0.heap.size w0 w2) :
    Le w0 w2 v2 F q r (i + 1) (s / 4294967296) (put H (q + i) (s % 4294967296)) := by
  refine ⟨OR.congr ho fun j hj => ?_, fun j hj => ?_, ?_, by omega, hb⟩
  · unfold wd put
    split
    · congr 1
    · rfl
  · unfold put
    split
    · exact Nat.mod_lt _ (by decide)
    · exact h.dg j (by omega)
  · rw [show q + (i + 1) = q + i + 1 by omega, U_succ, put_same, U_congr (F := put H (q + i) _) (G := H) fun j hj => put_other _ _ (by omega), B_succ, U_succ]
    have := le_sum (t := 2 ^ r) hs h.sum (B_add q i)
    rw [this]
    grind
end Go.Proofs.YtchomkadekikdaaGreatDoor

namespace Go.Proofs.YtchomkadekikdaaGreatDoor
open Go.RowKit
set_option maxRecDepth 100000
set_option linter.unusedVariables false
/-- j digits of a number shifted down are made. -/
structure Ri (w0 wr : World) (v : Value) (F : Nat → Nat) (n q r j : Nat) (H : Nat → Nat) : Prop where
  own : OR wr 78 w0.heap.size v j (wd H)
  dig : ∀ t, t < j → H t = (F (q + t) + cutU F n 0 (q + t + 1) * 4294967296) / 2 ^ r % 4294967296
  bel : Below w0.heap.size w0 wr
theorem Ri.step {w0 wr w2 : World} {v v2 : Value} {F H : Nat → Nat} {n q r j s : Nat} (h : Ri w0 wr v F n q r j H) (hs : s = F (q + j) + cutU F n 0 (q + j + 1) * 4294967296)
    (ho : OR w2 78 w0.heap.size v2 (j + 1) (fun t => if t = j then .int .u64 (((s : Nat) : Int) / 2 ^ r % 4294967296) else wd H t)) (hb : Below w0.heap.size w0 w2) :
    Ri w0 w2 v2 F n q r (j + 1) (put H j (s / 2 ^ r % 4294967296)) := by
  refine ⟨OR.congr ho fun t ht => ?_, fun t ht => ?_, hb⟩
  · unfold wd put
    split
    · congr 1
    · rfl
  · unfold put
    split
    · next e => rw [e, hs]
    · exact h.dig t (by omega)
end Go.Proofs.YtchomkadekikdaaGreatDoor

namespace Go.Proofs.YtchomkadekikdaaGreatDoor
open Go.RowKit
set_option maxRecDepth 100000
set_option linter.unusedVariables false
end Go.Proofs.YtchomkadekikdaaGreatDoor

namespace Go.Proofs.YtchomkadekikdaaGreatDoor
open Go.RowKit
set_option maxRecDepth 100000
set_option linter.unusedVariables false
/-- K digits of x are told; what is left is y. -/
structure TD (x K y : Nat) : Prop where
  left : x / 10 ^ K = y
  some : K = 0 ∨ 10 ^ (K - 1) ≤ x
theorem TD.next {x K y : Nat} (h : TD x K y) (hy : y ≠ 0) : TD x (K + 1) (y / 10) ∧ 48 + y % 10 = decAt x K := by
  have h1 : 10 ^ K ≤ x := by
    rcases Nat.lt_or_ge x (10 ^ K) with hh | hh
    · exact absurd (h.left.symm.trans (Nat.div_eq_of_lt hh)) hy
    · exact hh
  refine ⟨⟨?_, .inr (by simpa using h1)⟩, ?_⟩
  · rw [Nat.pow_succ, ← Nat.div_div_eq_div_mul, h.left]
  · rw [decAt, h.left]
theorem TD.short {x K y : Nat} (h : TD x K y) (hx : RFits x) : K ≤ 137438953473 := by
  rcases h.some with rfl | h1
  · omega
  · have h2 : 2 ^ (K - 1) ≤ 10 ^ (K - 1) := Nat.pow_le_pow_left (by decide) _
    have h3 := Nat.lt_of_le_of_lt (Nat.le_trans h2 h1) hx.lt
    rw [B_two] at h3
    have h4 := (Nat.pow_lt_pow_iff_right (show 1 < 2 by decide)).1 h3
    have h5 : lim ≤ 4294967296 := le_lim (Nat.le_refl _)
    omega
theorem TD.done {x K : Nat} (h : TD x K 0) (hx : x ≠ 0) : DecLen x K := by
  have h1 : x < 10 ^ K := by
    have := h.left
    rcases Nat.lt_or_ge x (10 ^ K) with hh | hh
    · exact hh
    · have := Nat.div_pos hh (Nat.pow_pos (show 0 < 10 by decide))
      omega
  have h2 : K ≠ 0 := fun e => by subst e; simp at h1; omega
  refine ⟨by omega, h1, .inr (h.some.resolve_left h2)⟩
theorem split9 {q r k : Nat} (hk : k < 9) : (q * 10 ^ (9 - k) + r) / 10 = q * 10 ^ (9 - (k + 1)) + r / 10 ∧ (q * 10 ^ (9 - k) + r) % 10 = r % 10 := by
  rw [show 9 - k = (9 - (k + 1)) + 1 by omega, Nat.pow_succ]
  generalize 10 ^ (9 - (k + 1)) = t
  have : q * (t * 10) = 10 * (q * t) := by grind
  omega
end Go.Proofs.YtchomkadekikdaaGreatDoor

namespace Go.Proofs.YtchomkadekikdaaGreatDoor
open Go.RowKit
set_option maxRecDepth 100000
set_option linter.unusedVariables false
/-- Bytes as cells. -/
def bd (D : Nat → Nat) : Nat → Value := fun j => .int .u8 ((D j : Nat) : Int)
/-- A number that lies apart from a row stays, where the row grows. -/
theorem RNat.apart {w w' : World} {b o k c x : Nat} {row : Option Nat} (h : RNat w (.agg #[.slice (some ⟨b, o, none⟩) k c]) x) (hg : w.grownBy w' row) (hne : k ≠ 0 → ∀ g, row = some g → b ≠ g) : RNat w' (.agg #[.slice (some ⟨b, o, none⟩) k c]) x := by
  obtain ⟨F, ⟨s1, s2, s3, s4⟩, hd, h1, hv⟩ := h.open
  refine ⟨_, k, c, F, rfl, ⟨s1, s2, s3, ?_⟩, hd, h1, hv⟩
  rcases s4 with e | ⟨b', o', e, hw⟩
  · exact .inl e
  · cases e
    exact .inr ⟨b, o, rfl, fun i hi => hg.cell (hw i hi) (fun e => hne (by omega) b e.symm rfl)⟩
/-- The outer loop: K digits are told, y is left. -/
structure TO (w wr : World) (x : Nat) (l : Value) (gb o n cap K y : Nat) : Prop where
  cx : wr.cell? ⟨w.heap.size, 0, none⟩ = some (.slice (some ⟨gb, o, none⟩) n cap)
  fx : wr.frozen? ⟨w.heap.size, 0, none⟩ = false
  num : RNat wr (.agg #[.slice (some ⟨gb, o, none⟩) n cap]) y
  td : TD x K y
  own : OR wr 5 (w.heap.size + 1) l K (bd (decAt x))
  bel : Below w.heap.size w wr
/-- The inner loop: k digits more are told; q and r are left. -/
structure TI (w wr : World) (x : Nat) (l : Value) (bq gq nq cq K k q r : Nat) : Prop where
  cx : ∃ (u : Option Addr × Nat × Nat), wr.cell? ⟨w.heap.size, 0, none⟩ = some (.slice u.1 u.2.1 u.2.2)
  fx : wr.frozen? ⟨w.heap.size, 0, none⟩ = false
  cb : wr.cell? ⟨bq, 0, none⟩ = some (.slice (some ⟨gq, 0, none⟩) nq cq)
  num : RNat wr (.agg #[.slice (some ⟨gq, 0, none⟩) nq cq]) q
  td : TD x (K + k) (q * 10 ^ (9 - k) + r)
  lt : r < 10 ^ (9 - k)
  own : OR wr 5 (w.heap.size + 1) l (K + k) (bd (decAt x))
  ne : ∀ g, l.ownBlock = some g → (nq ≠ 0 → gq ≠ g) ∧ bq ≠ g
  bel : Below w.heap.size w wr
theorem TI.go {w wr w' : World} {x : Nat} {l : Value} {bq gq nq cq K k q r : Nat} (h : TI w wr x l bq gq nq cq K k q r) (hb : Below wr.heap.size wr w') : TI w w' x l bq gq nq cq K k q r := by
  obtain ⟨u, hu⟩ := h.cx
  exact ⟨⟨u, cell_later hb hu⟩, (hb.frozen (World.block_lt_of_cell? _ _ hu)).trans h.fx, cell_later hb h.cb, h.num.mono hb, h.td, h.lt, h.own.below hb, h.ne, bel_go h.bel hb⟩
theorem pow9 {k : Nat} (hk : k < 9) : 10 ^ (9 - k) = 10 * 10 ^ (9 - (k + 1)) := by
  rw [show 9 - k = (9 - (k + 1)) + 1 by omega, Nat.pow_succ, Nat.mul_comm]
theorem TI.step {w wr w2 : World} {x : Nat} {l : Value} {bq gq nq cq K k q r g2 cap2 : Nat} (h : TI w wr x l bq gq nq cq K k q r) (hk : k < 9) (h0 : r ≠ 0 ∨ q ≠ 0)
    (ho : OR w2 5 (w.heap.size + 1) (.slice (some ⟨g2, 0, none⟩) (K + k + 1) cap2) (K + k + 1) (fun j => if j = K + k then .int .u8 ((48 + r % 10 : Nat) : Int) else bd (decAt x) j)) (hg : wr.grownBy w2 l.ownBlock) (hw : l.ownBlock = some g2 ∨ wr.heap.size ≤ g2) :
    TI w w2 x (.slice (some ⟨g2, 0, none⟩) (K + k + 1) cap2) bq gq nq cq K (k + 1) q (r / 10) := by
  obtain ⟨u, hu⟩ := h.cx
  have hb := h.own.blk
  have hy : q * 10 ^ (9 - k) + r ≠ 0 := by
    have := Nat.pow_pos (n := 9 - k) (show 0 < 10 by decide)
    rcases h0 with h0 | h0
    · omega
    · have : 1 * 1 ≤ q * 10 ^ (9 - k) := Nat.mul_le_mul (by omega) this
      omega
  obtain ⟨n1, n2⟩ := h.td.next hy
  obtain ⟨s1, s2⟩ := split9 (q := q) (r := r) hk
  rw [s1] at n1
  rw [s2] at n2
  have hlq : gq < wr.heap.size ∨ nq = 0 := by
    obtain ⟨F, ⟨_, _, _, s4⟩, _⟩ := h.num.open
    rcases s4 with e | ⟨b', o', e, hw⟩
    · exact .inr e
    · cases e
      rcases Nat.eq_zero_or_pos nq with e | e
      · exact .inr e
      · exact .inl (World.block_lt_of_cell? _ _ (hw 0 e))
  have hlb : bq < wr.heap.size := World.block_lt_of_cell? _ _ h.cb
  have hbx : ∀ g, l.ownBlock = some g → w.heap.size ≠ g := fun g hg => by have := hb g hg; omega
  refine ⟨⟨u, hg.cell hu fun e => hbx _ e.symm rfl⟩, ?_, hg.cell h.cb fun e => (h.ne _ e.symm).2 rfl, h.num.apart hg fun h0 g e => (h.ne g e).1 h0, n1, ?_, ?_, ?_, ?_⟩
  · exact (World.frozen?_of_block (hg.block _ (World.block_lt_of_cell? _ _ hu) fun e => hbx _ e.symm rfl)).trans h.fx
  · have := h.lt
    rw [pow9 hk] at this
    exact Nat.div_lt_of_lt_mul this
  · refine OR.congr ho fun j hj => ?_
    split
    · rename_i e
      rw [e]
      show _ = Value.int .u8 ((decAt x (K + k) : Nat) : Int)
      rw [n2]
    · rfl
  · intro g e
    have e' : g2 = g := by simpa [Value.ownBlock] using e
    subst e'
    rcases hw with e | e
    · exact h.ne _ e
    · exact ⟨fun h0 => by omega, by omega⟩
  · exact h.bel.grown hg h.bel.size (fun g e => by have := hb g e; omega)
def lenOf (v : Value) : Nat := match v with
  | .slice _ k _ => k
  | _ => 0
theorem OR.len {w : World} {e : TypeId} {base n : Nat} {v : Value} {G : Nat → Value} (h : OR w e base v n G) : lenOf v = n := by
  rcases h with ⟨rfl, rfl⟩ | ⟨g, cap, f, rfl, _⟩
  · rfl
  · rfl
theorem RFits.le {x y : Nat} (h : RFits x) (hy : y ≤ x) : RFits y := ⟨Nat.lt_of_le_of_lt hy h.lt⟩
theorem TD.le {x K y : Nat} (h : TD x K y) : y ≤ x := by rw [← h.left]; exact Nat.div_le_self _ _
theorem TI.size {w wr : World} {x : Nat} {l : Value} {bq gq nq cq K k q r : Nat} (h : TI w wr x l bq gq nq cq K k q r) : w.heap.size + 1 ≤ wr.heap.size := by
  obtain ⟨u, hu⟩ := h.cx
  exact World.block_lt_of_cell? _ _ hu
theorem TI.out {w wr : World} {x : Nat} {l : Value} {bq gq nq cq K k q r : Nat} (h : TI w wr x l bq gq nq cq K k q r) {u1 : Option Addr} {u2 u3 : Nat} (hu : wr.cell? ⟨w.heap.size, 0, none⟩ = some (.slice u1 u2 u3)) (hq : TD x (K + k) q) :
    TO w (wr.setCell ⟨w.heap.size, 0, none⟩ (.slice (some ⟨gq, 0, none⟩) nq cq)) x l gq 0 nq cq (K + k) q := by
  refine ⟨by simp [go_sem, hu], by simp [World.frozen?_setCell, h.fx], h.num.setCell (no_int_slice hu) _, hq, ?_, h.bel.setCell (Nat.le_refl _) _⟩
  refine h.own.kept (grown_set wr (World.grownBy.refl wr _) 0 _) (.inr fun e => ?_)
  have := h.own.blk _ e
  omega
theorem TO.go {w wr w' : World} {x : Nat} {l : Value} {gb o n cap K y : Nat} (h : TO w wr x l gb o n cap K y) (hb : Below wr.heap.size wr w') : TO w w' x l gb o n cap K y :=
  ⟨cell_later hb h.cx, (hb.frozen (World.block_lt_of_cell? _ _ h.cx)).trans h.fx, h.num.mono hb, h.td, h.own.below hb, bel_go h.bel hb⟩
/-- The inner loop begins. -/
theorem TO.start {w w2 w3 : World} {x : Nat} {l : Value} {gb o n cap K y k3 : Nat} (h : TO w w2 x l gb o n cap K y) (hb : Below w2.heap.size w2 w3) (hv : RNat w3 (.agg #[.slice (some ⟨w2.heap.size + 1 + 1, 0, none⟩) k3 n]) (y / 1000000000)) (t : TypeId) :
    TI w (w3.alloc (.cells #[.slice (some ⟨w2.heap.size + 1 + 1, 0, none⟩) k3 n] t)) x l w3.heap.size (w2.heap.size + 1 + 1) k3 n K 0 (y / 1000000000) (y % 1000000000) := by
  have h3 := h.go hb
  have h4 := h3.go (bel_al (bel_refl w3) (o := .cells #[.slice (some ⟨w2.heap.size + 1 + 1, 0, none⟩) k3 n] t))
  have own2 : ∀ g, l.ownBlock = some g → g < w2.heap.size := fun g e => by
    rcases h.own with ⟨rfl, _⟩ | ⟨g', cap', f, rfl, _, _, _, hr, _⟩
    · cases e
    · cases e
      exact hr.lt
  have hs2 := hb.size
  refine ⟨⟨(some ⟨gb, o, none⟩, n, cap), h4.cx⟩, h4.fx, by simp [go_sem], hv.mono (bel_al (bel_refl w3)), ?_, Nat.mod_lt _ (by decide), h4.own, fun g e => ?_, h4.bel⟩
  · show TD x (K + 0) (y / 1000000000 * 10 ^ 9 + y % 1000000000)
    rw [show y / 1000000000 * 10 ^ 9 + y % 1000000000 = y by have := Nat.div_add_mod y 1000000000; omega]
    exact h.td
  · have := own2 g e
    exact ⟨fun _ => by omega, by omega⟩
theorem OR.at {w : World} {e : TypeId} {base n : Nat} {v : Value} {G : Nat → Value} (h : OR w e base v n G) (hn : n ≠ 0) : ∃ g c, v = .slice (some ⟨g, 0, none⟩) n c ∧ ∀ i, i < n → w.cell? ⟨g, i, none⟩ = some (G i) := by
  rcases h with ⟨_, e⟩ | ⟨g, cap, f, rfl, _, hc, _, hr, hf⟩
  · exact absurd e hn
  · exact ⟨g, cap, rfl, fun i hi => by rw [hr.cell (show i < cap by omega), hf i hi]⟩
end Go.Proofs.YtchomkadekikdaaGreatDoor

namespace Go.Proofs.YtchomkadekikdaaGreatDoor
open Go.RowKit
set_option maxRecDepth 100000
set_option linter.unusedVariables false
/-- A number of at most a million digits. -/
structure RSome (x : Nat) : Prop where
  lt : x < B 1000000
theorem RSome.fits {x : Nat} (h : RSome x) : RFits x := rfits_of h.lt (by omega)
theorem RSome.len {F : Nat → Nat} {n : Nat} (h : RSome (U F n)) (h1 : 0 < n → F (n - 1) ≠ 0) : n ≤ 1000000 := U_len_le h.lt h1
/-- What stands through DivMod's call. -/
structure DS (w wr : World) (ax : Option Addr) (lx cap : Nat) (ay : Option Addr) (n cap' : Nat) : Prop where
  cx : wr.cell? ⟨w.heap.size, 0, none⟩ = some (.slice ax lx cap)
  cy : wr.cell? ⟨w.heap.size + 1, 0, none⟩ = some (.slice ay n cap')
  c3 : wr.cell? ⟨w.heap.size + 1 + 1, 0, none⟩ = some (.slice none 0 0)
  c4 : wr.cell? ⟨w.heap.size + 1 + 1 + 1, 0, none⟩ = some (.slice none 0 0)
  f3 : wr.frozen? ⟨w.heap.size + 1 + 1, 0, none⟩ = false
  f4 : wr.frozen? ⟨w.heap.size + 1 + 1 + 1, 0, none⟩ = false
  bel : Below w.heap.size w wr
theorem DS.go {w wr w' : World} {ax : Option Addr} {lx cap : Nat} {ay : Option Addr} {n cap' : Nat} (h : DS w wr ax lx cap ay n cap') (hb : Below wr.heap.size wr w') : DS w w' ax lx cap ay n cap' :=
  ⟨cell_later hb h.cx, cell_later hb h.cy, cell_later hb h.c3, cell_later hb h.c4, (hb.frozen (World.block_lt_of_cell? _ _ h.c3)).trans h.f3, (hb.frozen (World.block_lt_of_cell? _ _ h.c4)).trans h.f4, bel_go h.bel hb⟩
theorem DS.lt {w wr : World} {ax : Option Addr} {lx cap : Nat} {ay : Option Addr} {n cap' : Nat} (h : DS w wr ax lx cap ay n cap') : w.heap.size + 4 ≤ wr.heap.size := by
  have : w.heap.size + 1 + 1 + 1 < wr.heap.size := World.block_lt_of_cell? _ _ h.c4
  omega
theorem DS.grown {w wr w' : World} {ax : Option Addr} {lx cap : Nat} {ay : Option Addr} {n cap' : Nat} {row : Option Nat} (h : DS w wr ax lx cap ay n cap') (hg : wr.grownBy w' row) (hr : ∀ g, row = some g → w.heap.size + 4 ≤ g) : DS w w' ax lx cap ay n cap' := by
  have ne : ∀ i, i < w.heap.size + 4 → some i ≠ row := fun i hi e => by
    have := hr i e.symm
    omega
  exact ⟨hg.cell h.cx (ne _ (by show w.heap.size < _; omega)), hg.cell h.cy (ne _ (by show w.heap.size + 1 < _; omega)), hg.cell h.c3 (ne _ (by show w.heap.size + 1 + 1 < _; omega)), hg.cell h.c4 (ne _ (by show w.heap.size + 1 + 1 + 1 < _; omega)), (World.frozen?_of_block (hg.block _ (World.block_lt_of_cell? _ _ h.c3) (ne _ (by show w.heap.size + 1 + 1 < _; omega)))).trans h.f3, (World.frozen?_of_block (hg.block _ (World.block_lt_of_cell? _ _ h.c4) (ne _ (by show w.heap.size + 1 + 1 + 1 < _; omega)))).trans h.f4, h.bel.grown hg h.bel.size (fun g e => by have := hr g e; omega)⟩
/-- What the main loop of DivMod keeps. -/
structure DI (w wr : World) (C : Option Addr × Nat × Nat × Option Addr × Nat) (k g c t gq M b3 o3 cap3 : Nat) (Y : Nat → Nat) (X jj : Nat) (F Q : Nat → Nat) : Prop where
  u : DRow wr g c t F
  q : DRow wr gq M M Q
  dv : RvD X (U Y (k + 2)) t (k + 2) jj F Q
  v : Sl wr (some ⟨b3, o3, none⟩) (k + 2) cap3 Y
  ds : DS w wr C.1 C.2.1 C.2.2.1 C.2.2.2.1 (k + 2) C.2.2.2.2
  dY : Dg Y (k + 2)
  top : 2147483648 ≤ Y (k + 1)
  ht : t = M + (k + 2)
  n1 : g ≠ gq
  n2 : b3 ≠ g
  n3 : b3 ≠ gq
  n4 : w.heap.size + 4 ≤ g
  n5 : w.heap.size + 4 ≤ gq
theorem DI.sep {w wr : World} {C : Option Addr × Nat × Nat × Option Addr × Nat} {k g c t gq M b3 o3 cap3 : Nat} {Y : Nat → Nat} {X jj : Nat} {F Q : Nat → Nat} (h : DI w wr C k g c t gq M b3 o3 cap3 Y X jj F Q) : ∀ b' o', some (⟨b3, o3, none⟩ : Addr) = some ⟨b', o', none⟩ → b' ≠ g := fun b' o' e => by cases e; exact h.n2
/-- The digit was guessed and taken away. -/
structure DL (w w8 : World) (C : Option Addr × Nat × Nat × Option Addr × Nat) (k g c t gq M b3 o3 cap3 : Nat) (Y : Nat → Nat) (X j : Nat) (F Q : Nat → Nat) (G bo : Nat) (H : Nat → Nat) : Prop where
  di : ∃ wr, DI w wr C k g c t gq M b3 o3 cap3 Y X (j + 1) F Q
  u : DRow w8 g c t H
  q : DRow w8 gq M M Q
  v : Sl w8 (some ⟨b3, o3, none⟩) (k + 2) cap3 Y
  ds : DS w w8 C.1 C.2.1 C.2.2.1 C.2.2.2.1 (k + 2) C.2.2.2.2
  near : Near (U (fro F j) (k + 3) / U Y (k + 2)) G
  ls : ∃ cc, Ls F Y t (k + 2) j G (k + 3) cc bo H
  hj : j + k + 2 < t
theorem DL.nums {w w8 : World} {C : Option Addr × Nat × Nat × Option Addr × Nat} {k g c t gq M b3 o3 cap3 : Nat} {Y : Nat → Nat} {X j : Nat} {F Q H : Nat → Nat} {G bo : Nat} (h : DL w w8 C k g c t gq M b3 o3 cap3 Y X j F Q G bo H) :
    U (fro H j) (k + 3) + U Y (k + 2) * G = U (fro F j) (k + 3) + bo * B (k + 3) ∧ U (fro H j) (k + 3) < B (k + 3) ∧ U (fro F j) (k + 3) < U Y (k + 2) * B (k + 3) ∧ U Y (k + 2) < B (k + 2) ∧ U Y (k + 2) ≤ B (k + 3) ∧ 0 < U Y (k + 2) ∧ bo ≤ 1 := by
  obtain ⟨wr, hI⟩ := h.di
  obtain ⟨cc, hL⟩ := h.ls
  have hj := h.hj
  have h1 := hI.dv.small (show j < t by omega)
  have h2 : U Y (k + 2) < B (k + 2) := U_lt hI.dY
  refine ⟨hL.done, U_lt fun i hi => hL.dg _ (by omega), Nat.lt_of_lt_of_le h1 (Nat.mul_le_mul_left _ (by rw [← B_one]; exact B_le (by omega))), h2, Nat.le_trans (Nat.le_of_lt h2) (B_le (by omega)), Nat.lt_of_le_of_lt (Nat.zero_le _) hI.dv.lt, hL.lb⟩
theorem DI.put {w w9 wr : World} {C : Option Addr × Nat × Nat × Option Addr × Nat} {k g c t gq M b3 o3 cap3 : Nat} {Y : Nat → Nat} {X jj j d : Nat} {Q F0 Q0 H : Nat → Nat} (h : DI w wr C k g c t gq M b3 o3 cap3 Y X jj F0 Q0) (h1 : DRow w9 g c t H) (h2 : DRow w9 gq M M Q) (h3 : Sl w9 (some ⟨b3, o3, none⟩) (k + 2) cap3 Y) (h4 : DS w w9 C.1 C.2.1 C.2.2.1 C.2.2.2.1 (k + 2) C.2.2.2.2) (hd : d < 18446744073709551616) (hdv : RvD X (U Y (k + 2)) t (k + 2) j H (put Q j d)) :
    DI w (w9.setCell ⟨gq, j, none⟩ (.int .u64 (d : Int))) C k g c t gq M b3 o3 cap3 Y X j H (put Q j d) := by
  have hg : w9.grownBy (w9.setCell ⟨gq, j, none⟩ (.int .u64 (d : Int))) (some gq) := grown_set w9 (World.grownBy.refl w9 _) j _
  exact ⟨h1.apart hg h.n1, h2.set j hd, hdv, h3.apart hg (fun b' o' e => by cases e; exact h.n3), h4.grown hg (fun g' e => by cases e; exact h.n5), h.dY, h.top, h.ht, h.n1, h.n2, h.n3, h.n4, h.n5⟩
theorem DL.keep {w w8 : World} {C : Option Addr × Nat × Nat × Option Addr × Nat} {k g c t gq M b3 o3 cap3 : Nat} {Y : Nat → Nat} {X j : Nat} {F Q H : Nat → Nat} {G bo : Nat} (h : DL w w8 C k g c t gq M b3 o3 cap3 Y X j F Q G bo H) (hb : bo = 0) :
    DI w (w8.setCell ⟨gq, j, none⟩ (.int .u64 (G : Int))) C k g c t gq M b3 o3 cap3 Y X j H (put Q j G) := by
  obtain ⟨n1, n2, n3, n4, n5, n6, n7⟩ := h.nums
  obtain ⟨wr, hI⟩ := h.di
  obtain ⟨cc, hL⟩ := h.ls
  have hj := h.hj
  have n0 : U (fro H j) (k + 3) + U Y (k + 2) * G = U (fro F j) (k + 3) := by
    rw [hb] at n1
    omega
  obtain ⟨q1, q2⟩ := dv_exact n0 n2 n5 n6 h.near.ge
  have hl := h.near.lt
  clear n1
  exact hI.put h.u h.q h.v h.ds (Nat.lt_trans hl (by decide)) (hI.dv.step (show j + (k + 2) < t by omega) q1 q2 n4 (fun t' ht' => hL.out t' ht') hL.dg h.near.lt)
theorem DL.pos {w w8 : World} {C : Option Addr × Nat × Nat × Option Addr × Nat} {k g c t gq M b3 o3 cap3 : Nat} {Y : Nat → Nat} {X j : Nat} {F Q H : Nat → Nat} {G : Nat} (h : DL w w8 C k g c t gq M b3 o3 cap3 Y X j F Q G 1 H) : 0 < G := by
  obtain ⟨n1, n2, n3, n4, n5, n6, n7⟩ := h.nums
  rcases Nat.eq_zero_or_pos G with e | e
  · exfalso
    rw [e, Nat.mul_zero] at n1
    omega
  · exact e
theorem DL.back {w w8 w9 : World} {C : Option Addr × Nat × Nat × Option Addr × Nat} {k g c t gq M b3 o3 cap3 : Nat} {Y : Nat → Nat} {X j : Nat} {F Q H H2 : Nat → Nat} {G d c2 : Nat} (h : DL w w8 C k g c t gq M b3 o3 cap3 Y X j F Q G 1 H) (hd : G = d + 1) (hH2 : DRow w9 g c t H2) (hB : Bk H Y t (k + 2) j (k + 2 + 1) c2 H2) (hg : w8.grownBy w9 (some g)) :
    DI w (w9.setCell ⟨gq, j, none⟩ (.int .u64 (d : Int))) C k g c t gq M b3 o3 cap3 Y X j H2 (put Q j d) ∧ DRow w9 gq M M Q := by
  obtain ⟨n1, n2, n3, n4, n5, n6, n7⟩ := h.nums
  obtain ⟨wr, hI⟩ := h.di
  obtain ⟨cc, hL⟩ := h.ls
  have hj := h.hj
  have hl := h.near.lt
  have hH2l : U (fro H2 j) (k + 3) < B (k + 3) := U_lt fun i hi => hB.dg _ (by omega)
  obtain ⟨q1, q2, q3⟩ := dv_mend (p := B (k + 3)) (by rw [Nat.one_mul] at n1; exact n1) n2 hH2l n5 n6 h.near.le hB.done hB.lc n3
  have hq9 := h.q.apart hg (Ne.symm hI.n1)
  refine ⟨hI.put hH2 hq9 (h.v.apart hg hI.sep) (h.ds.grown hg (fun g' e => by cases e; exact hI.n4)) (by omega) (hI.dv.step (show j + (k + 2) < t by omega) (by rw [← q2, hd]; rfl) q3 n4 (fun t' ht' => by rw [hB.out t' ht', hL.out t' ht']) hB.dg (by omega)), hq9⟩
/-- What is known behind the main loop. -/
theorem DI.fin {w wr : World} {C : Option Addr × Nat × Nat × Option Addr × Nat} {k g c t gq M b3 o3 cap3 : Nat} {Y : Nat → Nat} {x y s : Nat} {F Q : Nat → Nat} (h : DI w wr C k g c t gq M b3 o3 cap3 Y (x * 2 ^ s) 0 F Q) (hY : U Y (k + 2) = y * 2 ^ s) (hk : k ≤ 1000000) : U Q M = x / y ∧ U F t / 2 ^ s = x % y ∧ RFits (U F t) ∧ Dg Q M ∧ Dg F t := by
  have ht := h.ht
  have hM : t - (k + 2) = M := by omega
  obtain ⟨z1, z2⟩ := h.dv.done (by omega)
  have dQ := h.dv.dQ
  have hl := h.dv.lt
  rw [hM] at z1 dQ
  have hb : U Y (k + 2) < B (k + 2) := U_lt h.dY
  obtain ⟨y1, y2⟩ := dv_shift x y s
  refine ⟨by rw [z1, hY, y1], by rw [z2, hY, y2], rfits_of (n := k + 2) (by rw [z2]; exact Nat.lt_trans (Nat.mod_lt _ (by omega)) hb) (by omega), dQ, h.dv.dF⟩
end Go.Proofs.YtchomkadekikdaaGreatDoor

namespace Go.Proofs.YtchomkadekikdaaGreatDoor
open Go.RowKit
set_option maxRecDepth 100000
set_option linter.unusedVariables false
end Go.Proofs.YtchomkadekikdaaGreatDoor

