/- Contracts of the program's functions, part 10: own work, joined in build order. -/
import Derived.Test.YtchomkadekikdaaGreatDoorR9
import Derived.ArgAppend
import Derived.Deep.LoopGhost
namespace Go.Proofs.YtchomkadekikdaaGreatDoor
open Go.RowKit
set_option maxRecDepth 100000
set_option linter.unusedVariables false
def MakesRB (w : World) (p q : Nat) (ok : Bool) (e : Ending) (w' : World) : Prop := ∃ v, e = .returned (.tuple #[v, .bool ok]) ∧ Rt w' v p q ∧ Below w.heap.size w w'
theorem gcd_low {p q : Nat} (hq : 0 < q) : 0 < Nat.gcd p q ∧ Nat.gcd (p / Nat.gcd p q) (q / Nat.gcd p q) = 1 ∧ 0 < q / Nat.gcd p q := by
  have h0 : 0 < Nat.gcd p q := Nat.gcd_pos_of_pos_right _ hq
  refine ⟨h0, ?_, Nat.div_pos (Nat.gcd_le_right _ hq) h0⟩
  rw [Nat.gcd_div (Nat.gcd_dvd_left _ _) (Nat.gcd_dvd_right _ _), Nat.div_self h0]
set_option maxHeartbeats 4000000 in
theorem from_any (v u : Value) (p q : Nat) (w : World) (h : IsNat w v p) (k : IsNat w u q) (hp : RS p) (hq : RS q) (hq0 : 0 < q) (hT : Tab w) :
    Calls Tryz.prog 68 #[v, u] w (MakesRB w (p / Nat.gcd p q) (q / Nat.gcd p q) true) := by
  obtain ⟨a, n, c, rfl⟩ := h.isAgg
  obtain ⟨a', n', c', rfl⟩ := k.isAgg
  have HH : Hid (IsNat w (.agg #[.slice a n c]) p ∧ IsNat w (.agg #[.slice a' n' c']) q ∧ RS p ∧ RS q ∧ 0 < q ∧ Tab w) := ⟨h, k, hp, hq, hq0, hT⟩
  have ba : Hid (Below w.heap.size w (((w.alloc (.cells #[.slice a n c] 66)).alloc (.cells #[.slice a' n' c'] 66)).alloc (.cells #[.slice none 0 0, .slice none 0 0] 68))) := bel_al (bel_al (bel_al (bel_refl w)))
  have hz : decide (q = 0) = false := decide_eq_false (by omega)
  clear h k hp hq hq0 hT
  go_enter Tryz.func68, Tryz.ntmps68
  go_wp2_with fail
  refine (isZero_any _ q _ (HH.out.2.1.mono ba.out) HH.out.2.2.2.1.fits).mono ?_
  rintro e w1 ⟨rfl, hb1⟩
  have c0 : w1.cell? ⟨w.heap.size, 0, none⟩ = some (.slice a n c) := cell_later hb1 (by simp [go_sem])
  have c1 : w1.cell? ⟨w.heap.size + 1, 0, none⟩ = some (.slice a' n' c') := cell_later hb1 (by simp [go_sem])
  have c2 : w1.cell? ⟨w.heap.size + 1 + 1, 0, none⟩ = some (.slice none 0 0) := cell_later hb1 (by simp [go_sem])
  have c3 : w1.cell? ⟨w.heap.size + 1 + 1, 1, none⟩ = some (.slice none 0 0) := cell_later hb1 (by simp [go_sem])
  have f2 : w1.frozen? ⟨w.heap.size + 1 + 1, 0, none⟩ = false := (hb1.frozen (by simp)).trans (by simp [go_sem])
  have f3 : w1.frozen? ⟨w.heap.size + 1 + 1, 1, none⟩ = false := (hb1.frozen (by simp)).trans (by simp [go_sem])
  have B1 : Hid (Below w.heap.size w w1) := bel_go ba.out hb1
  clear hb1 ba
  go_wp2_with fail
  refine (gcd_any _ _ p q _ (HH.out.1.mono B1.out) (HH.out.2.1.mono B1.out) HH.out.2.2.1.p198 HH.out.2.2.2.1.p198 (HH.out.2.2.2.2.2.go B1.out)).mono ?_
  rintro e w2 ⟨v2, rfl, hv2, hb2⟩
  obtain ⟨a2, n2, k2, rfl⟩ := hv2.isAgg
  obtain ⟨g, eg⟩ : ∃ g, g = Nat.gcd p q := ⟨_, rfl⟩
  rw [← eg] at hv2 ⊢
  have HG : Hid (0 < g ∧ Nat.gcd (p / g) (q / g) = 1 ∧ 0 < q / g ∧ g < P 198) := by
    obtain ⟨g1, g2, g3⟩ := gcd_low (p := p) HH.out.2.2.2.2.1
    rw [← eg] at g1 g2 g3
    refine ⟨g1, g2, g3, Nat.lt_of_le_of_lt (eg ▸ Nat.gcd_le_right _ HH.out.2.2.2.2.1) HH.out.2.2.2.1.p198⟩
  obtain ⟨w3, hw3⟩ : ∃ w3, w3 = w2.alloc (.cells #[.slice a2 n2 k2] 66) := ⟨_, rfl⟩
  have b3 : Below w1.heap.size w1 w3 := by rw [hw3]; exact bel_go hb2 (bel_al (bel_refl w2))
  have b23 : Below w2.heap.size w2 w3 := by rw [hw3]; exact bel_al (bel_refl w2)
  have d0 := cell_later b3 c0
  have d1 := cell_later b3 c1
  have d2 := cell_later b3 c2
  have d3 := cell_later b3 c3
  have h2 : w3.frozen? ⟨w.heap.size + 1 + 1, 0, none⟩ = false := (b3.frozen (World.block_lt_of_cell? _ _ c2)).trans f2
  have h3 : w3.frozen? ⟨w.heap.size + 1 + 1, 1, none⟩ = false := (b3.frozen (World.block_lt_of_cell? _ _ c3)).trans f3
  have d4 : w3.cell? ⟨w2.heap.size, 0, none⟩ = some (.slice a2 n2 k2) := by rw [hw3]; simp [go_sem]
  have I3 : Hid (IsNat w3 (.agg #[.slice a n c]) p ∧ IsNat w3 (.agg #[.slice a' n' c']) q ∧ IsNat w3 (.agg #[.slice a2 n2 k2]) g ∧ Below w.heap.size w w3) := ⟨(HH.out.1.mono B1.out).mono b3, (HH.out.2.1.mono B1.out).mono b3, hv2.mono b23, bel_go B1.out b3⟩
  go_wp2_with fail
  rw [← hw3]
  obtain ⟨b6, hb6⟩ : ∃ b6, b6 = w2.heap.size := ⟨_, rfl⟩
  have nb : ¬ w.heap.size + 1 + 1 = b6 := by
    have : w.heap.size + 1 + 1 < w2.heap.size := World.block_lt_of_cell? _ _ (cell_later hb2 c2)
    omega
  have nb' : ¬ b6 = w.heap.size + 1 + 1 := fun e => nb e.symm
  rw [← hb6] at d4
  rw [← hb6]
  have EG : Hid (g = Nat.gcd p q) := eg
  clear hv2 hb2 b3 b23 c0 c1 c2 c3 f2 f3 hw3 hb6 hz eg
  go_region_held3 (fun w' => w'.cell? ⟨w.heap.size, 0, none⟩ = some (.slice a n c) ∧ w'.cell? ⟨w.heap.size + 1, 0, none⟩ = some (.slice a' n' c') ∧ w'.cell? ⟨b6, 0, none⟩ = some (.slice a2 n2 k2)) (first | (simp [go_sem, *]; done) | (trace_state; fail))
    (first
      | (go_at_call_of 110 (Value.agg #[Value.slice a n c]); refine Calls.mono (over_any _ _ p g _ (IsNat.mono I3.out.1 ?_) (IsNat.mono I3.out.2.2.1 ?_) HH.out.2.2.1.p198 HG.out.2.2.2 HG.out.1) ?_; (first | exact bel_refl _ | exact bel_dr (bel_refl _)); (first | exact bel_refl _ | exact bel_dr (bel_refl _)); rintro e w4 ⟨v4, rfl, hv4, hb4⟩; have hb4 : Below w3.heap.size w3 w4 := (by first | exact hb4 | exact bel_undrew hb4); obtain ⟨a4, n4, k4, rfl⟩ := hv4.isAgg; have x0 := cell_later hb4 d0; have x1 := cell_later hb4 d1; have x2 := cell_later hb4 d2; have x3 := cell_later hb4 d3; have x4 := cell_later hb4 d4; have y2 : w4.frozen? ⟨w.heap.size + 1 + 1, 0, none⟩ = false := (hb4.frozen (World.block_lt_of_cell? _ _ d2)).trans h2; have y3 : w4.frozen? ⟨w.heap.size + 1 + 1, 1, none⟩ = false := (hb4.frozen (World.block_lt_of_cell? _ _ d3)).trans h3; have I4 : Hid (IsNat w4 (.agg #[.slice a4 n4 k4]) (p / g) ∧ IsNat w4 (.agg #[.slice a' n' c']) q ∧ IsNat w4 (.agg #[.slice a2 n2 k2]) g ∧ Below w.heap.size w w4) := ⟨hv4, I3.out.2.1.mono hb4, I3.out.2.2.1.mono hb4, bel_go I3.out.2.2.2 hb4⟩; clear hv4 hb4)
      | (go_at_call 110; refine Calls.mono (over_any _ _ q g _ I4.out.2.1 I4.out.2.2.1 HH.out.2.2.2.1.p198 HG.out.2.2.2 HG.out.1) ?_; rintro e w5 ⟨v5, rfl, hv5, hb5⟩; obtain ⟨a5, n5, k5, rfl⟩ := hv5.isAgg; have x5 := cell_later hb5 x2; have x6 := cell_later hb5 x3; have y5 : w5.frozen? ⟨w.heap.size + 1 + 1, 0, none⟩ = false := (hb5.frozen (World.block_lt_of_cell? _ _ x2)).trans y2; have y6 : w5.frozen? ⟨w.heap.size + 1 + 1, 1, none⟩ = false := (hb5.frozen (World.block_lt_of_cell? _ _ x3)).trans y3; have x7 := cell_later hb5 x0; have x8 := cell_later hb5 x1; have x9 := cell_later hb5 x4; have I5 : Hid (IsNat w5 (.agg #[.slice a4 n4 k4]) (p / g) ∧ IsNat w5 (.agg #[.slice a5 n5 k5]) (q / g) ∧ Below w.heap.size w w5) := ⟨I4.out.1.mono hb5, hv5, bel_go I4.out.2.2.2 hb5⟩; clear hv5 hb5)
      | (go_at_call 109; refine Calls.mono (inLowest_any _ _ (p / g) (q / g) _ I5.out.1 I5.out.2.1 (HH.out.2.2.1.le (Nat.div_le_self _ _)).fits HG.out.2.2.1 HG.out.2.1) ?_; rintro e w6 ⟨v6, rfl, hv6, hb6⟩; have x10 := cell_later hb6 x5; have x11 := cell_later hb6 x6; have y10 : w6.frozen? ⟨w.heap.size + 1 + 1, 0, none⟩ = false := (hb6.frozen (World.block_lt_of_cell? _ _ x5)).trans y5; have y11 : w6.frozen? ⟨w.heap.size + 1 + 1, 1, none⟩ = false := (hb6.frozen (World.block_lt_of_cell? _ _ x6)).trans y6; obtain ⟨a6, n6, k6, a7, n7, k7, ev6, _, _⟩ := hv6.raw; subst ev6; have x12 := cell_later hb6 x7; have x13 := cell_later hb6 x8; have x14 := cell_later hb6 x9; have I6 : Hid (Rt w6 (.agg #[.slice a6 n6 k6, .slice a7 n7 k7]) (p / g) (q / g) ∧ Below w.heap.size w w6) := ⟨hv6, bel_go I5.out.2.2 hb6⟩; clear hv6 hb6))
  have Z : Hid _ := rat_put (v := .slice a6 n6 k6) (u := .slice a7 n7 k7) x10 x11 I6.out.1 I6.out.2 (by omega)
  rw [EG.out] at Z
  go_wp2_with fail
  exact bodyPost_ret (v := .tuple #[.agg #[.slice a6 n6 k6, .slice a7 n7 k7], .bool true]) (by simp [results, Tryz.results68, go_sem, x10, x11]) rfl ⟨_, rfl, Z.out.1, Z.out.2⟩
set_option maxHeartbeats 2000000 in
theorem from_none (v u : Value) (p : Nat) (w : World) (h : IsNat w v p) (k : IsNat w u 0) :
    Calls Tryz.prog 68 #[v, u] w (MakesRB w 0 1 false) := by
  obtain ⟨a, n, c, rfl⟩ := h.isAgg
  obtain ⟨a', n', c', rfl⟩ := k.isAgg
  have HH : Hid (IsNat w (.agg #[.slice a' n' c']) 0) := k
  have ba : Hid (Below w.heap.size w (((w.alloc (.cells #[.slice a n c] 66)).alloc (.cells #[.slice a' n' c'] 66)).alloc (.cells #[.slice none 0 0, .slice none 0 0] 68))) := bel_al (bel_al (bel_al (bel_refl w)))
  clear h k
  go_enter Tryz.func68, Tryz.ntmps68
  go_wp2_with fail
  refine (isZero_any _ 0 _ (HH.out.mono ba.out) (tx_word (by omega)).fits).mono ?_
  rintro e w1 ⟨rfl, hb1⟩
  have c2 : w1.cell? ⟨w.heap.size + 1 + 1, 0, none⟩ = some (.slice none 0 0) := cell_later hb1 (by simp [go_sem])
  have c3 : w1.cell? ⟨w.heap.size + 1 + 1, 1, none⟩ = some (.slice none 0 0) := cell_later hb1 (by simp [go_sem])
  have f2 : w1.frozen? ⟨w.heap.size + 1 + 1, 0, none⟩ = false := (hb1.frozen (by simp)).trans (by simp [go_sem])
  have f3 : w1.frozen? ⟨w.heap.size + 1 + 1, 1, none⟩ = false := (hb1.frozen (by simp)).trans (by simp [go_sem])
  have Z : Hid _ := rat_put (v := .slice none 0 0) (u := .slice none 0 0) c2 c3 (rt_zero w1) (bel_go ba.out hb1) (by omega)
  clear hb1 ba
  go_wp2_with fail
  exact bodyPost_ret (v := .tuple #[.agg #[.slice none 0 0, .slice none 0 0], .bool false]) (by simp [results, Tryz.results68, go_sem, c2, c3]) rfl ⟨_, rfl, Z.out.1, Z.out.2⟩
theorem rs_word {x : Nat} (h : x < 18446744073709551616) : RS x := ⟨Nat.lt_of_lt_of_le (by rw [← P_one] at h; exact h) (P_le (by omega))⟩
theorem U_cut {G : Nat → Nat} {m n : Nat} (h : m ≤ n) : U (cutU G m 0) n = U G m := by
  rw [U_top h fun i h1 h2 => cutU_out (by omega)]
  exact U_congr fun i hi => by rw [cutU_in (by omega), Nat.zero_add]
structure Pl (w0 wr : World) (v : Value) (F : Nat → Nat) (n : Nat) (G : Nat → Nat) (m i c : Nat) (H : Nat → Nat) : Prop where
  own : OR wr 78 w0.heap.size v i (wd H)
  dg : Dg H i
  sum : U H i + c * B i = U (cutU F n 0) i + U (cutU G m 0) i
  car : c ≤ 1
  bel : Below w0.heap.size w0 wr
theorem pl_sum {H : Nat → Nat} {F G i c s f g b : Nat} (hs : s = f + g + c) (h : H i = s % 4294967296) (e : F + c * b = G) : F + s % 4294967296 * b + s / 4294967296 * (b * 4294967296) = G + f * b + g * b := by
  have h1 := Nat.div_add_mod s 4294967296
  have h2 : s * b = (4294967296 * (s / 4294967296) + s % 4294967296) * b := by rw [h1]
  rw [hs] at h2 ⊢
  grind
theorem OR.blk {w : World} {e : TypeId} {base n : Nat} {v : Value} {G : Nat → Value} (h : OR w e base v n G) : ∀ j, v.ownBlock = some j → base ≤ j := by
  intro j hj
  rcases h with ⟨rfl, rfl⟩ | ⟨g, cap, f, rfl, h1, _⟩
  · simp [Value.ownBlock] at hj
  simp only [Value.ownBlock, Option.some.injEq] at hj
  omega
theorem Pl.step {w0 wr w2 : World} {v v2 : Value} {F G H : Nat → Nat} {n m i c f g : Nat} (h : Pl w0 wr v F n G m i c H) (hf : f = cutU F n 0 i ∧ g = cutU G m 0 i) (lf : f < 4294967296) (lg : g < 4294967296)
    (ho : OR w2 78 w0.heap.size v2 (i + 1) (fun j => if j = i then .int .u64 (((f : Int) + g + c) % 4294967296) else wd H j)) (hb : Below w0.heap.size w0 w2) :
    Pl w0 w2 v2 F n G m (i + 1) ((f + g + c) / 4294967296) (put H i ((f + g + c) % 4294967296)) := by
  refine ⟨OR.congr ho fun j hj => ?_, fun j hj => ?_, ?_, ?_, hb⟩
  · unfold wd put
    split
    · congr 1
    rfl
  · unfold put
    split
    · exact Nat.mod_lt _ (by decide)
    exact h.dg j (by omega)
  · rw [U_succ, U_succ, U_succ, put_same, U_congr (F := put H i _) (G := H) fun j hj => put_other _ _ (by omega), ← hf.1, ← hf.2, B_succ]
    have := pl_sum (H := fun _ => (f + g + c) % 4294967296) (i := 0) (s := f + g + c) (f := f) (g := g) rfl rfl h.sum
    omega
  have := h.car
  omega
theorem Pl.done {w0 wr : World} {v : Value} {F G H : Nat → Nat} {n m mx c : Nat} (h : Pl w0 wr v F n G m (mx + 1) c H) (hn : n ≤ mx) (hm : m ≤ mx) (dF : Dg F n) (dG : Dg G m) : U H (mx + 1) = U F n + U G m := by
  have h1 := h.sum
  rw [U_cut (by omega), U_cut (by omega)] at h1
  have h2 := Nat.lt_of_lt_of_le (U_lt dF) (B_le hn)
  have h3 := Nat.lt_of_lt_of_le (U_lt dG) (B_le hm)
  have h4 := B_succ mx
  have h5 : c = 0 ∨ c = 1 := by have := h.car; omega
  rcases h5 with rfl | rfl <;> omega
theorem RNat.stay {w w' : World} {b o k c x g : Nat} (h : RNat w (.agg #[.slice (some ⟨b, o, none⟩) k c]) x) (hg : w.grownBy w' (some g)) (hne : b ≠ g) : RNat w' (.agg #[.slice (some ⟨b, o, none⟩) k c]) x := by
  obtain ⟨F, ⟨s1, s2, s3, s4⟩, hd, h1, hv⟩ := h.open
  refine ⟨_, k, c, F, rfl, ⟨s1, s2, s3, ?_⟩, hd, h1, hv⟩
  rcases s4 with e | ⟨b', o', e, hw⟩
  · exact .inl e
  cases e
  exact .inr ⟨b, o, rfl, fun i hi => hg.cell (hw i hi) (by simp only [ne_eq, Option.some.injEq]; exact hne)⟩
theorem strOf_size (D : Nat → Nat) (n : Nat) : (strOf D n).size = n := by simp [strOf, strOfNums, ByteArray.size]
theorem sb_strOf {D : Nat → Nat} {n i : Nat} (hi : i < n) (hD : D i < 256) : sb (strOf D n) i = D i := by
  have hs : i < (strOf D n).size := by rw [strOf_size]; exact hi
  rw [← sb_at hs]
  have : (strOf D n)[i]'hs = UInt8.ofNat (D i) := by
    show (strOf D n).data[i]'_ = _
    simp [strOf, strOfNums]
  rw [this]
  simp
  omega
theorem decVal_eq {s : ByteArray} {x k : Nat} (h : ∀ i, i < k → sb s i = decAt x (k - 1 - i)) : ∀ j, j ≤ k → decVal s j = x / 10 ^ (k - j) % 10 ^ j
  | 0, _ => by simp [decVal, Nat.mod_one]
  | j + 1, hj => by
    have h1 := decVal_eq h j (by omega)
    have h2 := h j (by omega)
    rw [decVal, h1, h2, decAt]
    have e1 : k - 1 - j = k - (j + 1) := by omega
    have e2 : k - j = (k - (j + 1)) + 1 := by omega
    rw [e1, e2, Nat.pow_succ, ← Nat.div_div_eq_div_mul]
    generalize x / 10 ^ (k - (j + 1)) = y
    rw [Nat.pow_succ, Nat.mul_comm (10 ^ j) 10, Nat.mod_mul]
    omega
theorem sb_text {x k i : Nat} (hi : i < k) : sb (decText x k) i = decAt x (k - 1 - i) := sb_strOf (D := fun i => decAt x (k - 1 - i)) hi (decAt_lt _ _)
theorem decVal_text {x k : Nat} (h : DecLen x k) : decVal (decText x k) k = x := by
  rw [decVal_eq (x := x) (k := k) (fun i hi => sb_text hi) k (Nat.le_refl _), Nat.sub_self, Nat.pow_zero, Nat.div_one]
  exact Nat.mod_eq_of_lt h.2.1
theorem digits_text (x k : Nat) : Digits (decText x k) k := by
  intro i hi
  rw [sb_text hi]
  unfold decAt
  omega
theorem text_size (x k : Nat) : (decText x k).size = k := strOf_size _ _
def bd (D : Nat → Nat) : Nat → Value := fun j => .int .u8 ((D j : Nat) : Int)
def lenOf (v : Value) : Nat := match v with
  | .slice _ k _ => k
  | _ => 0
theorem OR.len {w : World} {e : TypeId} {base n : Nat} {v : Value} {G : Nat → Value} (h : OR w e base v n G) : lenOf v = n := by
  rcases h with ⟨rfl, rfl⟩ | ⟨g, cap, f, rfl, _⟩
  · rfl
  rfl
theorem RFits.le {x y : Nat} (h : RFits x) (hy : y ≤ x) : RFits y := ⟨Nat.lt_of_le_of_lt hy h.lt⟩
theorem OR.at {w : World} {e : TypeId} {base n : Nat} {v : Value} {G : Nat → Value} (h : OR w e base v n G) (hn : n ≠ 0) : ∃ g c, v = .slice (some ⟨g, 0, none⟩) n c ∧ ∀ i, i < n → w.cell? ⟨g, i, none⟩ = some (G i) := by
  rcases h with ⟨_, e⟩ | ⟨g, cap, f, rfl, _, hc, _, hr, hf⟩
  · exact absurd e hn
  exact ⟨g, cap, rfl, fun i hi => by rw [hr.cell (show i < cap by omega), hf i hi]⟩
structure RSome (x : Nat) : Prop where
  lt : x < B 1000000
theorem RSome.fits {x : Nat} (h : RSome x) : RFits x := rfits_of h.lt (by omega)
theorem RSome.len {F : Nat → Nat} {n : Nat} (h : RSome (U F n)) (h1 : 0 < n → F (n - 1) ≠ 0) : n ≤ 1000000 := U_len_le h.lt h1
structure GC (w wr : World) (d : Nat) (ax : Option Addr) (lx cx : Nat) (ay : Option Addr) (ly cy : Nat) (x y : Nat) : Prop where
  c0 : wr.cell? ⟨w.heap.size, 0, none⟩ = some (.slice ax lx cx)
  c1 : wr.cell? ⟨w.heap.size + 1, 0, none⟩ = some (.slice ay ly cy)
  c2 : wr.cell? ⟨w.heap.size + 1 + 1, 0, none⟩ = some (.slice none 0 0)
  f0 : wr.frozen? ⟨w.heap.size, 0, none⟩ = false
  f1 : wr.frozen? ⟨w.heap.size + 1, 0, none⟩ = false
  f2 : wr.frozen? ⟨w.heap.size + 1 + 1, 0, none⟩ = false
  nx : RNat wr (.agg #[.slice ax lx cx]) x
  ny : RNat wr (.agg #[.slice ay ly cy]) y
  sx : RSome x
  sy : RSome y
  gcd : Nat.gcd x y = d
  bel : Below w.heap.size w wr
theorem GC.go {w wr w' : World} {d : Nat} {ax : Option Addr} {lx cx : Nat} {ay : Option Addr} {ly cy x y : Nat} (h : GC w wr d ax lx cx ay ly cy x y) (hb : Below wr.heap.size wr w') : GC w w' d ax lx cx ay ly cy x y :=
  ⟨cell_later hb h.c0, cell_later hb h.c1, cell_later hb h.c2, (hb.frozen (World.block_lt_of_cell? _ _ h.c0)).trans h.f0, (hb.frozen (World.block_lt_of_cell? _ _ h.c1)).trans h.f1, (hb.frozen (World.block_lt_of_cell? _ _ h.c2)).trans h.f2, h.nx.mono hb, h.ny.mono hb, h.sx, h.sy, h.gcd, bel_go h.bel hb⟩
theorem GC.step {w wr : World} {d : Nat} {ax : Option Addr} {lx cx : Nat} {ay : Option Addr} {ly cy x y : Nat} (h : GC w wr d ax lx cx ay ly cy x y) {ar : Option Addr} {lr cr : Nat} (hr : RNat wr (.agg #[.slice ar lr cr]) (x % y)) (hy : y ≠ 0) :
    GC w ((wr.setCell ⟨w.heap.size, 0, none⟩ (.slice ay ly cy)).setCell ⟨w.heap.size + 1, 0, none⟩ (.slice ar lr cr)) d ay ly cy ar lr cr y (x % y) := by
  have n0 := no_int_slice h.c0
  have k1 : (wr.setCell ⟨w.heap.size, 0, none⟩ (.slice ay ly cy)).cell? ⟨w.heap.size + 1, 0, none⟩ = some (.slice ay ly cy) := (World.cell?_setCell_far _ _ _ _ (by show w.heap.size ≠ w.heap.size + 1; omega)).trans h.c1
  have n1 := no_int_slice k1
  have k0 : (wr.setCell ⟨w.heap.size, 0, none⟩ (.slice ay ly cy)).cell? ⟨w.heap.size, 0, none⟩ = some (.slice ay ly cy) := by simp [go_sem, h.c0]
  refine ⟨?_, by simp [go_sem, k1], ?_, by simp [World.frozen?_setCell, h.f0], by simp [World.frozen?_setCell, h.f1], by simp [World.frozen?_setCell, h.f2], (h.ny.setCell n0 _).setCell n1 _, (hr.setCell n0 _).setCell n1 _, h.sy, ⟨Nat.lt_of_lt_of_le (Nat.mod_lt _ (by omega)) (Nat.le_of_lt h.sy.lt)⟩, ?_, (h.bel.setCell (Nat.le_refl _) _).setCell (by show _ ≤ _ + 1; omega) _⟩
  · rw [World.cell?_setCell_far _ _ _ _ (by show w.heap.size + 1 ≠ w.heap.size; omega)]
    exact k0
  · rw [World.cell?_setCell_far _ _ _ _ (by show w.heap.size + 1 ≠ w.heap.size + 1 + 1; omega), World.cell?_setCell_far _ _ _ _ (by show w.heap.size ≠ w.heap.size + 1 + 1; omega)]
    exact h.c2
  rw [← h.gcd, Nat.gcd_comm x y, Nat.gcd_rec y x, Nat.gcd_comm]
def RRt (w : World) (v : Value) (p q : Nat) : Prop := ∃ a n c a' n' c', v = .agg #[.slice a n c, .slice a' n' c'] ∧ RNat w (.agg #[.slice a n c]) p ∧ RNat w (.agg #[.slice a' n' c']) q
theorem RRt.mono {w w' : World} {v : Value} {p q : Nat} (h : RRt w v p q) (hb : Below w.heap.size w w') : RRt w' v p q := by
  obtain ⟨a, n, c, a', n', c', e, h1, h2⟩ := h
  exact ⟨a, n, c, a', n', c', e, h1.mono hb, h2.mono hb⟩
theorem RRt.setCell {w : World} {v : Value} {p q : Nat} (h : RRt w v p q) {x : Addr} (hp : ∀ k q, w.cell? x ≠ some (.int k q)) (u : Value) : RRt (w.setCell x u) v p q := by
  obtain ⟨a, n, c, a', n', c', e, h1, h2⟩ := h
  exact ⟨a, n, c, a', n', c', e, h1.setCell hp u, h2.setCell hp u⟩
theorem RSome.le {x y : Nat} (h : RSome x) (hy : y ≤ x) : RSome y := ⟨Nat.lt_of_le_of_lt hy h.lt⟩
set_option maxHeartbeats 4000000 in
theorem ratCmp_any (v u : Value) (p q r s : Nat) (w : World) (h : Rt w v p q) (k : Rt w u r s) (hp : RS p) (hq : RS q) (hr : RS r) (hs : RS s) :
    Calls Tryz.prog 92 #[v, u] w fun e w' => e = .returned (.int .i64 (cmpI (p * s) (r * q))) ∧ Below w.heap.size w w' := by
  obtain ⟨a, n, c, a', n', c', e0, _, _⟩ := h.raw
  subst e0
  obtain ⟨b, m, d, b', m', d', e1, _, _⟩ := k.raw
  subst e1
  have HH : Hid (Rt w (.agg #[.slice a n c, .slice a' n' c']) p q ∧ Rt w (.agg #[.slice b m d, .slice b' m' d']) r s ∧ RS p ∧ RS q ∧ RS r ∧ RS s) := ⟨h, k, hp, hq, hr, hs⟩
  have ba : Hid (Below w.heap.size w ((w.alloc (.cells #[.slice a n c, .slice a' n' c'] 68)).alloc (.cells #[.slice b m d, .slice b' m' d'] 68))) := bel_al (bel_al (bel_refl w))
  have HM : Hid (Fits (p * s) ∧ Fits (r * q)) := by
    refine ⟨fits_P (n := 180) ?_ (by omega), fits_P (n := 180) ?_ (by omega)⟩
    · rw [show 180 = 90 + 90 from rfl, P_add]; exact Nat.mul_lt_mul'' hp.lt hs.lt
    rw [show 180 = 90 + 90 from rfl, P_add]; exact Nat.mul_lt_mul'' hr.lt hq.lt
  clear h k hp hq hr hs
  go_enter Tryz.func92, Tryz.ntmps92
  go_wp2_with fail
  refine (parts_any _ p q _ (HH.out.1.mono ba.out) HH.out.2.2.2.1.fits).mono ?_
  rintro e w1 ⟨v1, u1, rfl, hv1, hu1, hb1⟩
  obtain ⟨a1, n1, k1, rfl⟩ := hv1.isAgg
  obtain ⟨a2, n2, k2, rfl⟩ := hu1.isAgg
  have c0 : w1.cell? ⟨w.heap.size + 1, 0, none⟩ = some (.slice b m d) := cell_later hb1 (by simp [go_sem])
  have c1 : w1.cell? ⟨w.heap.size + 1, 1, none⟩ = some (.slice b' m' d') := cell_later hb1 (by simp [go_sem])
  have S1 : Hid (SR w1 ((w1.alloc (.cells #[.slice a1 n1 k1] 66)).alloc (.cells #[.slice a2 n2 k2] 66)) [(.agg #[.slice a2 n2 k2], q), (.agg #[.slice a1 n1 k1], p)] [] [(w1.heap.size + 1, .slice a2 n2 k2), (w1.heap.size, .slice a1 n1 k1)]) := by
    have := ((((sr_start w1).nat hv1).nat hu1).box (.slice a1 n1 k1) 66 _ rfl).box (.slice a2 n2 k2) 66 _ rfl
    simp only [World.size_alloc] at this
    exact this
  have x0 := cell_later S1.out.bel c0
  have x1 := cell_later S1.out.bel c1
  have B1 : Hid (Below w.heap.size w w1) := bel_go ba.out hb1
  clear hv1 hu1 hb1 ba c0 c1
  go_wp2_with fail
  obtain ⟨w2, hw2⟩ : ∃ w2, w2 = (w1.alloc (.cells #[.slice a1 n1 k1] 66)).alloc (.cells #[.slice a2 n2 k2] 66) := ⟨_, rfl⟩
  obtain ⟨b1, hb1⟩ : ∃ b1, b1 = w1.heap.size := ⟨_, rfl⟩
  rw [← hw2, ← hb1] at S1
  rw [← hw2, ← hb1]
  clear hw2 hb1 x0 x1
  refine (parts_any _ r s _ (HH.out.2.1.mono (bel_go B1.out S1.out.bel)) HH.out.2.2.2.2.2.fits).mono ?_
  rintro e w3 ⟨v3, u3, rfl, hv3, hu3, hb3⟩
  obtain ⟨a3, n3, k3, rfl⟩ := hv3.isAgg
  obtain ⟨a4, n4, k4, rfl⟩ := hu3.isAgg
  have S3 : Hid _ := ((((S1.out.go hb3).nat hv3).nat hu3).box (.slice a3 n3 k3) 66 _ rfl).box (.slice a4 n4 k4) 66 _ rfl
  simp only [World.size_alloc] at S3
  clear hv3 hu3 hb3 S1
  go_wp2_with fail
  obtain ⟨w4, hw4⟩ : ∃ w4, w4 = (w3.alloc (.cells #[.slice a3 n3 k3] 66)).alloc (.cells #[.slice a4 n4 k4] 66) := ⟨_, rfl⟩
  obtain ⟨b3, hb3⟩ : ∃ b3, b3 = w3.heap.size := ⟨_, rfl⟩
  rw [← hw4, ← hb3] at S3
  rw [← hw4, ← hb3]
  clear hw4 hb3
  refine wp_region_inv (JB w4 [sNat (p), sNat (s), sNat (p * s), sNat (r), sNat (q), sNat (r * q), sEq (.int .i64 (cmpI (p * s) (r * q))), sEq (.int .i64 (cmpI (p * s) (r * q)))] []) 26 (by kernel_rfl) rfl (by kernel_rfl) (JB.start _ _ _) (fun HG HN => ⟨?_, ?_, ?_, ?_, ?_, ?_, ?_, ?_, trivial⟩) ?_
  · intro L vs a w' hJ hF hP hL
    have q5 : (a.tmps[5]?).getD undef = .pointer (some ⟨b1, 0, none⟩) := hF.old 5 rfl
    have cb := cell_later hJ.bel (S3.out.cell (b1) (.slice a1 n1 k1))
    exact run_val (v := .agg #[.slice a1 n1 k1]) rfl (by simp [execOp, go_sem, q5, cb]) ⟨_, rfl, hJ.step hL rfl (Below.refl _ _) (by exact ((S3.out.at (.agg #[.slice a1 n1 k1]) (p)).mono hJ.bel))⟩
  · intro L vs a w' hJ hF hP hL
    have q8 : (a.tmps[8]?).getD undef = .pointer (some ⟨b3 + 1, 0, none⟩) := hF.old 8 rfl
    have cb := cell_later hJ.bel (S3.out.cell (b3 + 1) (.slice a4 n4 k4))
    exact run_val (v := .agg #[.slice a4 n4 k4]) rfl (by simp [execOp, go_sem, q8, cb]) ⟨_, rfl, hJ.step hL rfl (Below.refl _ _) (by exact ((S3.out.at (.agg #[.slice a4 n4 k4]) (s)).mono hJ.bel))⟩
  · intro L vs a w' hJ hF hP hL
    have p0 : L 0 = true := hP ⟨0, .data⟩ (by simp) rfl
    have s0 : IsNat w' (vs 0) (p) := hJ.sp 0 p0
    have q19 := hF.slot 0 19 rfl p0
    have p1 : L 1 = true := hP ⟨1, .data⟩ (by simp) rfl
    have s1 : IsNat w' (vs 1) (s) := hJ.sp 1 p1
    have q20 := hF.slot 1 20 rfl p1
    refine run_call (f := 128) (args := #[vs 0, vs 1]) rfl (by simp [go_sem, q19, q20]) (mul_short _ _ p s _ s0 s1 HH.out.2.2.1.fits HH.out.2.2.2.2.2.fits (.inl HH.out.2.2.1.p99)) ?_
    rintro e w2 ⟨v, rfl, hv, hb⟩
    exact ⟨_, rfl, _, rfl, hJ.step hL rfl hb (by exact hv)⟩
  · intro L vs a w' hJ hF hP hL
    have q7 : (a.tmps[7]?).getD undef = .pointer (some ⟨b3, 0, none⟩) := hF.old 7 rfl
    have cb := cell_later hJ.bel (S3.out.cell (b3) (.slice a3 n3 k3))
    exact run_val (v := .agg #[.slice a3 n3 k3]) rfl (by simp [execOp, go_sem, q7, cb]) ⟨_, rfl, hJ.step hL rfl (Below.refl _ _) (by exact ((S3.out.at (.agg #[.slice a3 n3 k3]) (r)).mono hJ.bel))⟩
  · intro L vs a w' hJ hF hP hL
    have q6 : (a.tmps[6]?).getD undef = .pointer (some ⟨b1 + 1, 0, none⟩) := hF.old 6 rfl
    have cb := cell_later hJ.bel (S3.out.cell (b1 + 1) (.slice a2 n2 k2))
    exact run_val (v := .agg #[.slice a2 n2 k2]) rfl (by simp [execOp, go_sem, q6, cb]) ⟨_, rfl, hJ.step hL rfl (Below.refl _ _) (by exact ((S3.out.at (.agg #[.slice a2 n2 k2]) (q)).mono hJ.bel))⟩
  · intro L vs a w' hJ hF hP hL
    have p3 : L 3 = true := hP ⟨3, .data⟩ (by simp) rfl
    have s3 : IsNat w' (vs 3) (r) := hJ.sp 3 p3
    have q22 := hF.slot 3 22 rfl p3
    have p4 : L 4 = true := hP ⟨4, .data⟩ (by simp) rfl
    have s4 : IsNat w' (vs 4) (q) := hJ.sp 4 p4
    have q23 := hF.slot 4 23 rfl p4
    refine run_call (f := 128) (args := #[vs 3, vs 4]) rfl (by simp [go_sem, q22, q23]) (mul_short _ _ r q _ s3 s4 HH.out.2.2.2.2.1.fits HH.out.2.2.2.1.fits (.inl HH.out.2.2.2.2.1.p99)) ?_
    rintro e w2 ⟨v, rfl, hv, hb⟩
    exact ⟨_, rfl, _, rfl, hJ.step hL rfl hb (by exact hv)⟩
  · intro L vs a w' hJ hF hP hL
    have p2 : L 2 = true := hP ⟨2, .data⟩ (by simp) rfl
    have s2 : IsNat w' (vs 2) (p * s) := hJ.sp 2 p2
    have q21 := hF.slot 2 21 rfl p2
    have p5 : L 5 = true := hP ⟨5, .data⟩ (by simp) rfl
    have s5 : IsNat w' (vs 5) (r * q) := hJ.sp 5 p5
    have q24 := hF.slot 5 24 rfl p5
    refine run_call (f := 125) (args := #[vs 2, vs 5]) rfl (by simp [go_sem, q21, q24]) (cmp_any _ _ (p * s) (r * q) _ s2 s5 HM.out.1 HM.out.2) ?_
    rintro e w2 ⟨rfl, hb⟩
    exact ⟨_, rfl, _, rfl, hJ.step hL rfl hb (by exact rfl)⟩
  · intro L vs a w' hJ hF hP hL
    have p6 : L 6 = true := hP ⟨6, .data⟩ (by simp) rfl
    have s6 : vs 6 = .int .i64 (cmpI (p * s) (r * q)) := hJ.sp 6 p6
    have q25 := hF.slot 6 25 rfl p6
    exact run_val (v := .int .i64 (cmpI (p * s) (r * q))) rfl (by simp [execOp, go_sem, q25, s6]) ⟨_, rfl, hJ.step hL rfl (Below.refl _ _) (by exact rfl)⟩
  intro L vs w' hA hJ
  have s7 : vs 7 = .int .i64 (cmpI (p * s) (r * q)) := hJ.sp 7 (hA 7 (by simp))
  simp only [putL, Act.put, List.setIfInBounds_toArray, List.set_cons_zero, List.set_cons_succ, Nat.reduceAdd]
  simp only [s7]
  go_wp2_with fail
  go_ret
  exact ⟨rfl, bel_go B1.out (S3.out.go hJ.bel).bel⟩
structure SX (w0 w : World) (N M : List (Value × Nat)) (F G : List (Value × Nat × Nat)) (C : List (Nat × Nat × Value)) : Prop where
  nats : ∀ p ∈ N, IsNat w p.1 p.2
  rnats : ∀ p ∈ M, RNat w p.1 p.2
  frs : ∀ p ∈ F, Rt w p.1 p.2.1 p.2.2
  rfrs : ∀ p ∈ G, RRt w p.1 p.2.1 p.2.2
  cells : ∀ p ∈ C, w.cell? ⟨p.1, p.2.1, none⟩ = some p.2.2
  bel : Below w0.heap.size w0 w
theorem SX.go {w0 w : World} {N M : List (Value × Nat)} {F G : List (Value × Nat × Nat)} {C : List (Nat × Nat × Value)} (h : SX w0 w N M F G C) {w' : World} (hb : Below w.heap.size w w') : SX w0 w' N M F G C :=
  ⟨fun p hp => (h.nats p hp).mono hb, fun p hp => (h.rnats p hp).mono hb, fun p hp => (h.frs p hp).mono hb, fun p hp => (h.rfrs p hp).mono hb, fun p hp => cell_later hb (h.cells p hp), bel_go h.bel hb⟩
theorem SX.at {w0 w : World} {N M : List (Value × Nat)} {F G : List (Value × Nat × Nat)} {C : List (Nat × Nat × Value)} (h : SX w0 w N M F G C) (v : Value) (x : Nat) (hm : (v, x) ∈ N := by simp) : IsNat w v x := h.nats _ hm
theorem SX.rat {w0 w : World} {N M : List (Value × Nat)} {F G : List (Value × Nat × Nat)} {C : List (Nat × Nat × Value)} (h : SX w0 w N M F G C) (v : Value) (x : Nat) (hm : (v, x) ∈ M := by simp) : RNat w v x := h.rnats _ hm
theorem SX.fr {w0 w : World} {N M : List (Value × Nat)} {F G : List (Value × Nat × Nat)} {C : List (Nat × Nat × Value)} (h : SX w0 w N M F G C) (v : Value) (p q : Nat) (hm : (v, p, q) ∈ F := by simp) : Rt w v p q := h.frs _ hm
theorem SX.cel {w0 w : World} {N M : List (Value × Nat)} {F G : List (Value × Nat × Nat)} {C : List (Nat × Nat × Value)} (h : SX w0 w N M F G C) (b i : Nat) (u : Value) (hm : (b, i, u) ∈ C := by simp) : w.cell? ⟨b, i, none⟩ = some u := h.cells _ hm
theorem SX.cell {w0 w : World} {N M : List (Value × Nat)} {F G : List (Value × Nat × Nat)} {C : List (Nat × Nat × Value)} (h : SX w0 w N M F G C) (b : Nat) (u : Value) (hm : (b, 0, u) ∈ C := by simp) : w.cell? ⟨b, 0, none⟩ = some u := h.cells _ hm
theorem SX.addN {w0 w : World} {N M : List (Value × Nat)} {F G : List (Value × Nat × Nat)} {C : List (Nat × Nat × Value)} (h : SX w0 w N M F G C) {v : Value} {x : Nat} (hv : IsNat w v x) : SX w0 w ((v, x) :: N) M F G C :=
  ⟨fun p hp => by
    rcases List.mem_cons.1 hp with e | e
    · subst e; exact hv
    exact h.nats p e, h.rnats, h.frs, h.rfrs, h.cells, h.bel⟩
theorem SX.addF {w0 w : World} {N M : List (Value × Nat)} {F G : List (Value × Nat × Nat)} {C : List (Nat × Nat × Value)} (h : SX w0 w N M F G C) {v : Value} {x y : Nat} (hv : Rt w v x y) : SX w0 w N M ((v, x, y) :: F) G C :=
  ⟨h.nats, h.rnats, fun p hp => by
    rcases List.mem_cons.1 hp with e | e
    · subst e; exact hv
    exact h.frs p e, h.rfrs, h.cells, h.bel⟩
theorem SX.addC {w0 w : World} {N M : List (Value × Nat)} {F G : List (Value × Nat × Nat)} {C : List (Nat × Nat × Value)} (h : SX w0 w N M F G C) {b i : Nat} {v : Value} (hv : w.cell? ⟨b, i, none⟩ = some v) : SX w0 w N M F G ((b, i, v) :: C) :=
  ⟨h.nats, h.rnats, h.frs, h.rfrs, fun p hp => by
    rcases List.mem_cons.1 hp with e | e
    · subst e; exact hv
    exact h.cells p e, h.bel⟩
theorem SX.box1 {w0 w : World} {N M : List (Value × Nat)} {F G : List (Value × Nat × Nat)} {C : List (Nat × Nat × Value)} (h : SX w0 w N M F G C) (u : Value) (t : TypeId) (g : Nat) (hg : g = w.heap.size) : SX w0 (w.alloc (.cells #[u] t)) N M F G ((g, 0, u) :: C) := by
  subst hg
  exact (h.go (w' := w.alloc (.cells #[u] t)) (bel_al (Below.refl _ _))).addC (by simp)
theorem SX.box {w0 w : World} {N M : List (Value × Nat)} {F G : List (Value × Nat × Nat)} {C : List (Nat × Nat × Value)} (h : SX w0 w N M F G C) (u u' : Value) (t : TypeId) (g : Nat) (hg : g = w.heap.size) : SX w0 (w.alloc (.cells #[u, u'] t)) N M F G ((g, 0, u) :: (g, 1, u') :: C) := by
  subst hg
  have h' := h.go (w' := w.alloc (.cells #[u, u'] t)) (bel_al (Below.refl _ _))
  exact (h'.addC (b := w.heap.size) (i := 1) (v := u') (by simp)).addC (by simp)
theorem SX.set {w0 w : World} {N M : List (Value × Nat)} {F G : List (Value × Nat × Nat)} {C : List (Nat × Nat × Value)} (h : SX w0 w N M F G C) {b i : Nat} {a : Option Addr} {n c : Nat} (hc : w.cell? ⟨b, i, none⟩ = some (.slice a n c)) (hlo : w0.heap.size ≤ b) (C' : List (Nat × Nat × Value)) (hC : ∀ p ∈ C', p ∈ C ∧ p.1 ≠ b) (u : Value) : SX w0 (w.setCell ⟨b, i, none⟩ u) N M F G C' :=
  ⟨fun p hp => (h.nats p hp).setCell (no_int_slice hc) u, fun p hp => (h.rnats p hp).setCell (no_int_slice hc) u, fun p hp => (h.frs p hp).setCell (no_int_slice hc) u, fun p hp => (h.rfrs p hp).setCell (no_int_slice hc) u,
    fun p hp => by
      rw [World.cell?_setCell_far _ _ _ _ (by simpa using Ne.symm (hC p hp).2)]
      exact h.cells p (hC p hp).1,
    h.bel.setCell (p := ⟨b, i, none⟩) hlo u⟩
theorem sx_start (w : World) : SX w w [] [] [] [] [] := ⟨(fun _ h => by cases h), (fun _ h => by cases h), (fun _ h => by cases h), (fun _ h => by cases h), (fun _ h => by cases h), Below.refl _ _⟩
structure JD (w0 : World) (specs : List Spec) (needs : List (List Nat)) (st val : Nat) (oth : List Nat) (Sto : World → Value → World → Prop) (L : Nat → Bool) (vs : Nat → Value) (w : World) : Prop where
  core : L st = false → JB w0 specs [] L vs w
  cl : ∀ j, L j = true → ∀ k ∈ needs.getD j [], L k = true
  fin : L st = true → (∀ j ∈ oth, L j = true) ∧ ∃ w1, Below w0.heap.size w0 w1 ∧ (specs.getD val sAny).1 w1 (vs val) ∧ Sto w1 (vs val) w
theorem JD.start (w : World) (specs : List Spec) (needs : List (List Nat)) (st val : Nat) (oth : List Nat) (Sto : World → Value → World → Prop) : JD w specs needs st val oth Sto (fun _ => false) (fun _ => undef) w.drew :=
  ⟨fun _ => JB.start _ _ _, (fun _ h => by cases h), (fun h => by cases h)⟩
theorem nd_nil {L : Nat → Bool} : ∀ k ∈ ([] : List Nat), L k = true := fun _ h => by cases h
theorem nd_cons {L : Nat → Bool} {a : Nat} {l : List Nat} (h : L a = true) (k : ∀ j ∈ l, L j = true) : ∀ j ∈ a :: l, L j = true := fun j hj => by
  rcases List.mem_cons.1 hj with e | e
  · rw [e]; exact h
  exact k j e
theorem JD.open {w0 : World} {specs : List Spec} {needs : List (List Nat)} {st val : Nat} {oth : List Nat} {Sto : World → Value → World → Prop} {L : Nat → Bool} {vs : Nat → Value} {w : World} (h : JD w0 specs needs st val oth Sto L vs w) {i : Nat} (hL : L i = false) (hi : i ∈ oth) : JB w0 specs [] L vs w :=
  h.core (by
    cases e : L st
    · rfl
    have := (h.fin e).1 i hi
    rw [hL] at this
    cases this)
theorem JD.step {w0 : World} {specs : List Spec} {needs : List (List Nat)} {st val : Nat} {oth : List Nat} {Sto : World → Value → World → Prop} {L : Nat → Bool} {vs : Nat → Value} {w : World} (h : JD w0 specs needs st val oth Sto L vs w) {i : Nat} (hL : L i = false) (hi : i ∈ oth) (hne : i ≠ st) {nd : List Nat} (he : needs.getD i [] = nd) (hn : ∀ k ∈ nd, L k = true) {v : Value} {w' : World} (k : JB w0 specs [] (updB L i) (updV vs i v) w') : JD w0 specs needs st val oth Sto (updB L i) (updV vs i v) w' := by
  refine ⟨fun _ => k, fun j hj m hm => ?_, fun hs => ?_⟩
  · by_cases e : j = i
    · subst e
      rw [he] at hm
      have := hn m hm
      unfold updB; split <;> simp_all
    have := h.cl j (by simpa [updB, e] using hj) m hm
    unfold updB; split <;> simp_all
  have hs' : L st = true := by simpa [updB, hne.symm] using hs
  have := (h.fin hs').1 i hi
  rw [hL] at this
  cases this
theorem JD.put {w0 : World} {specs : List Spec} {needs : List (List Nat)} {st val : Nat} {oth : List Nat} {Sto : World → Value → World → Prop} {L : Nat → Bool} {vs : Nat → Value} {w : World} (h : JD w0 specs needs st val oth Sto L vs w) (hL : L st = false) (hv : val ≠ st) {nd : List Nat} (he : needs.getD st [] = nd) (hn : ∀ k ∈ nd, L k = true) (ho : ∀ j ∈ oth, L j = true) (hV : L val = true) {w' : World} (hs : Sto w (vs val) w') : JD w0 specs needs st val oth Sto (updB L st) (updV vs st undef) w' := by
  have J := h.core hL
  refine ⟨fun e => ?_, fun j hj m hm => ?_, fun _ => ⟨fun j hj => ?_, w, J.bel, ?_, ?_⟩⟩
  · simp [updB] at e
  · by_cases e : j = st
    · subst e
      rw [he] at hm
      have := hn m hm
      unfold updB; split <;> simp_all
    have := h.cl j (by simpa [updB, e] using hj) m hm
    unfold updB; split <;> simp_all
  · have := ho j hj
    unfold updB; split <;> simp_all
  · have : updV vs st undef val = vs val := by simp [updV, hv]
    rw [this]
    exact J.sp val hV
  have : updV vs st undef val = vs val := by simp [updV, hv]
  rw [this]
  exact hs
end Go.Proofs.YtchomkadekikdaaGreatDoor
namespace Go.Proofs.YtchomkadekikdaaGreatDoor
open Go.RowKit
set_option maxRecDepth 100000
set_option linter.unusedVariables false
structure SY (w0 w : World) (N M : List (Value × Nat)) (F G : List (Value × Nat × Nat)) (C : List (Nat × Nat × Value)) (Z : List Nat) : Prop where
  sx : SX w0 w N M F G C
  fzs : ∀ b ∈ Z, (∀ i, w.frozen? ⟨b, i, none⟩ = false) ∧ w0.heap.size ≤ b ∧ b < w.heap.size
def Sto1 (R : Nat) (w : World) (v : Value) (w' : World) : Prop := ∃ u, v = .agg #[u] ∧ w' = w.setCell ⟨R, 0, none⟩ u
section
variable {w0 w : World} {N M : List (Value × Nat)} {F G : List (Value × Nat × Nat)} {C : List (Nat × Nat × Value)} {Z : List Nat}
theorem sy_start (w : World) : SY w w [] [] [] [] [] [] := ⟨sx_start w, fun _ h => by cases h⟩
theorem SY.bel (h : SY w0 w N M F G C Z) : Below w0.heap.size w0 w := h.sx.bel
theorem SY.go (h : SY w0 w N M F G C Z) {w' : World} (hb : Below w.heap.size w w') : SY w0 w' N M F G C Z :=
  ⟨h.sx.go hb, fun b hz => ⟨fun i => (hb.frozen (p := ⟨b, i, none⟩) (h.fzs b hz).2.2).trans ((h.fzs b hz).1 i), (h.fzs b hz).2.1, Nat.lt_of_lt_of_le (h.fzs b hz).2.2 hb.size⟩⟩
theorem SY.at (h : SY w0 w N M F G C Z) (v : Value) (x : Nat) (hm : (v, x) ∈ N := by simp) : IsNat w v x := h.sx.nats _ hm
theorem SY.rat (h : SY w0 w N M F G C Z) (v : Value) (x : Nat) (hm : (v, x) ∈ M := by simp) : RNat w v x := h.sx.rnats _ hm
theorem SY.fr (h : SY w0 w N M F G C Z) (v : Value) (p q : Nat) (hm : (v, p, q) ∈ F := by simp) : Rt w v p q := h.sx.frs _ hm
theorem SY.cel (h : SY w0 w N M F G C Z) (b i : Nat) (u : Value) (hm : (b, i, u) ∈ C := by simp) : w.cell? ⟨b, i, none⟩ = some u := h.sx.cells _ hm
theorem SY.cell (h : SY w0 w N M F G C Z) (b : Nat) (u : Value) (hm : (b, 0, u) ∈ C := by simp) : w.cell? ⟨b, 0, none⟩ = some u := h.sx.cells _ hm
theorem SY.fz (h : SY w0 w N M F G C Z) (b i : Nat) (hm : b ∈ Z := by simp) : w.frozen? ⟨b, i, none⟩ = false := (h.fzs b hm).1 i
theorem SY.lo (h : SY w0 w N M F G C Z) (b : Nat) (hm : b ∈ Z := by simp) : w0.heap.size ≤ b := (h.fzs b hm).2.1
theorem SY.lt (h : SY w0 w N M F G C Z) (b : Nat) (hm : b ∈ Z := by simp) : b < w.heap.size := (h.fzs b hm).2.2
theorem SY.addN (h : SY w0 w N M F G C Z) {v : Value} {x : Nat} (hv : IsNat w v x) : SY w0 w ((v, x) :: N) M F G C Z := ⟨h.sx.addN hv, h.fzs⟩
theorem SY.addF (h : SY w0 w N M F G C Z) {v : Value} {x y : Nat} (hv : Rt w v x y) : SY w0 w N M ((v, x, y) :: F) G C Z := ⟨h.sx.addF hv, h.fzs⟩
theorem SY.addC (h : SY w0 w N M F G C Z) {b i : Nat} {v : Value} (hv : w.cell? ⟨b, i, none⟩ = some v) : SY w0 w N M F G ((b, i, v) :: C) Z := ⟨h.sx.addC hv, h.fzs⟩
theorem SY.addZ (h : SY w0 w N M F G C Z) {b : Nat} (hv : ∀ i, w.frozen? ⟨b, i, none⟩ = false) (h1 : w0.heap.size ≤ b) (h2 : b < w.heap.size) : SY w0 w N M F G C (b :: Z) :=
  ⟨h.sx, fun x hx => by
    rcases List.mem_cons.1 hx with e | e
    · subst e; exact ⟨hv, h1, h2⟩
    exact h.fzs x e⟩
theorem SY.box1 (h : SY w0 w N M F G C Z) (u : Value) (t : TypeId) (g : Nat) (hg : g = w.heap.size) : SY w0 (w.alloc (.cells #[u] t)) N M F G ((g, 0, u) :: C) (g :: Z) := by
  subst hg
  have k := h.go (w' := w.alloc (.cells #[u] t)) (bel_al (Below.refl _ _))
  exact SY.addZ ⟨h.sx.box1 u t _ rfl, k.fzs⟩ (fun i => by simp [go_sem]) h.bel.size (by simp)
theorem SY.box (h : SY w0 w N M F G C Z) (u u' : Value) (t : TypeId) (g : Nat) (hg : g = w.heap.size) : SY w0 (w.alloc (.cells #[u, u'] t)) N M F G ((g, 0, u) :: (g, 1, u') :: C) (g :: Z) := by
  subst hg
  have k := h.go (w' := w.alloc (.cells #[u, u'] t)) (bel_al (Below.refl _ _))
  exact SY.addZ ⟨h.sx.box u u' t _ rfl, k.fzs⟩ (fun i => by simp [go_sem]) h.bel.size (by simp)
theorem SY.set (h : SY w0 w N M F G C Z) {b i : Nat} {a : Option Addr} {n c : Nat} (hc : w.cell? ⟨b, i, none⟩ = some (.slice a n c)) (hlo : w0.heap.size ≤ b) (C' : List (Nat × Nat × Value)) (hC : ∀ p ∈ C', p ∈ C ∧ p.1 ≠ b) (u : Value) : SY w0 (w.setCell ⟨b, i, none⟩ u) N M F G C' Z :=
  ⟨h.sx.set hc hlo C' hC u, fun x hx => ⟨fun j => by rw [World.frozen?_setCell]; exact (h.fzs x hx).1 j, (h.fzs x hx).2.1, by simpa [go_sem] using (h.fzs x hx).2.2⟩⟩
theorem SY.sub (h : SY w0 w N M F G C Z) (N' M' : List (Value × Nat)) (F' G' : List (Value × Nat × Nat)) (C' : List (Nat × Nat × Value)) (Z' : List Nat) (h1 : ∀ p ∈ N', p ∈ N) (h2 : ∀ p ∈ M', p ∈ M) (h3 : ∀ p ∈ F', p ∈ F) (h4 : ∀ p ∈ G', p ∈ G) (h5 : ∀ p ∈ C', p ∈ C) (h6 : ∀ p ∈ Z', p ∈ Z) : SY w0 w N' M' F' G' C' Z' :=
  ⟨⟨fun p hp => h.sx.nats p (h1 p hp), fun p hp => h.sx.rnats p (h2 p hp), fun p hp => h.sx.frs p (h3 p hp), fun p hp => h.sx.rfrs p (h4 p hp), fun p hp => h.sx.cells p (h5 p hp), h.sx.bel⟩, fun b hb => h.fzs b (h6 b hb)⟩
theorem SY.ret1 (h : SY w0 w N M F G C Z) {r : Nat} {v : Value} {x : Nat} (hc : w.cell? ⟨r, 0, none⟩ = some (.slice none 0 0)) (hz : r ∈ Z) (hv : IsNat w v x) (u : Value) : IsNat (w.setCell ⟨r, 0, none⟩ u) v x ∧ Below w0.heap.size w0 (w.setCell ⟨r, 0, none⟩ u) :=
  ⟨hv.setCell (no_int_slice hc) u, h.bel.setCell (p := ⟨r, 0, none⟩) (h.lo r hz) u⟩
end
end Go.Proofs.YtchomkadekikdaaGreatDoor
namespace Go.Proofs.YtchomkadekikdaaGreatDoor
open Go.RowKit
set_option linter.unusedVariables false
def nearN (p q : Nat) : Nat := if 2 * (p % q) < q then p / q else if 2 * (p % q) = q ∧ p / q % 2 = 0 then p / q else p / q + 1
theorem nearN_le {p q c : Nat} (hq : 0 < q) (h : p < c * q) : nearN p q ≤ c := by
  have h1 : p / q < c := (Nat.div_lt_iff_lt_mul hq).2 h
  unfold nearN
  split
  · omega
  split <;> omega
theorem nearN_ge {p q c : Nat} (hq : 0 < q) (h : c * q ≤ p) : c ≤ nearN p q := by
  have h1 : c ≤ p / q := (Nat.le_div_iff_mul_le hq).2 h
  unfold nearN
  split
  · omega
  split <;> omega
def upN (p : Nat) (u : Int) : Nat := p * 2 ^ (-u).toNat
def dnN (q : Nat) (u : Int) : Nat := q * 2 ^ u.toNat
theorem dnN_pos {q : Nat} (h : 0 < q) (u : Int) : 0 < dnN q u := Nat.mul_pos h (Nat.two_pow_pos _)
theorem unit_up (p q : Nat) (u : Int) (k : Nat) : upN p u * dnN q (u + k) = upN p (u + k) * dnN q u * 2 ^ k := by
  unfold upN dnN
  have e : 2 ^ (-u).toNat * 2 ^ (u + k).toNat = 2 ^ (-(u + k)).toNat * 2 ^ u.toNat * 2 ^ k := by
    rw [← Nat.pow_add, ← Nat.pow_add, ← Nat.pow_add]
    congr 1
    omega
  calc p * 2 ^ (-u).toNat * (q * 2 ^ (u + k).toNat) = p * q * (2 ^ (-u).toNat * 2 ^ (u + k).toNat) := by grind
    _ = p * q * (2 ^ (-(u + k)).toNat * 2 ^ u.toNat * 2 ^ k) := by rw [e]
    _ = p * 2 ^ (-(u + k)).toNat * (q * 2 ^ u.toNat) * 2 ^ k := by grind
theorem unit_lt {p q : Nat} (hq : 0 < q) (u : Int) (k c : Nat) : upN p (u + k) < c * dnN q (u + k) ↔ upN p u < c * 2 ^ k * dnN q u := by
  have h := unit_up p q u k
  have h1 := dnN_pos hq u
  have h2 := dnN_pos hq (u + k)
  have h3 : 0 < 2 ^ k := Nat.two_pow_pos k
  have h4 : 0 < dnN q u * 2 ^ k := Nat.mul_pos h1 h3
  constructor
  · intro hh
    have a : upN p (u + k) * (dnN q u * 2 ^ k) < c * dnN q (u + k) * (dnN q u * 2 ^ k) := Nat.mul_lt_mul_of_pos_right hh h4
    refine Nat.lt_of_mul_lt_mul_right (a := dnN q (u + k)) ?_
    rw [h]
    calc upN p (u + k) * dnN q u * 2 ^ k = upN p (u + k) * (dnN q u * 2 ^ k) := by grind
      _ < c * dnN q (u + k) * (dnN q u * 2 ^ k) := a
      _ = c * 2 ^ k * dnN q u * dnN q (u + k) := by grind
  intro hh
  have a : upN p u * dnN q (u + k) < c * 2 ^ k * dnN q u * dnN q (u + k) := Nat.mul_lt_mul_of_pos_right hh h2
  rw [h] at a
  refine Nat.lt_of_mul_lt_mul_right (a := dnN q u * 2 ^ k) ?_
  calc upN p (u + k) * (dnN q u * 2 ^ k) = upN p (u + k) * dnN q u * 2 ^ k := by grind
    _ < c * 2 ^ k * dnN q u * dnN q (u + k) := a
    _ = c * dnN q (u + k) * (dnN q u * 2 ^ k) := by grind
theorem unit_le {p q : Nat} (hq : 0 < q) (u : Int) (k c : Nat) : c * dnN q (u + k) ≤ upN p (u + k) ↔ c * 2 ^ k * dnN q u ≤ upN p u := by
  rw [← Nat.not_lt, ← Nat.not_lt, unit_lt hq u k c]
def At (p q : Nat) (e : Int) : Prop := dnN q e ≤ upN p e ∧ upN p e < 2 * dnN q e
def flI (p q : Nat) (s : Int) : Int := if upN p s < dnN q s then s - 1 else s
theorem flI_at {p q a b : Nat} (hp : 2 ^ a ≤ p) (hp2 : p < 2 ^ (a + 1)) (hq : 2 ^ b ≤ q) (hq2 : q < 2 ^ (b + 1)) : At p q (flI p q ((a : Int) - b)) := by
  have q0 : 0 < q := Nat.lt_of_lt_of_le (Nat.two_pow_pos b) hq
  obtain ⟨s, hs⟩ : ∃ s : Int, s = (a : Int) - b := ⟨_, rfl⟩
  rw [← hs]
  have hup : upN p s < 2 * dnN q s := by
    unfold upN dnN
    have e1 : p * 2 ^ (-s).toNat < 2 ^ (a + 1) * 2 ^ (-s).toNat := Nat.mul_lt_mul_of_pos_right hp2 (Nat.two_pow_pos _)
    have e2 : 2 ^ b * 2 ^ s.toNat ≤ q * 2 ^ s.toNat := Nat.mul_le_mul_right _ hq
    have e3 : 2 ^ (a + 1) * 2 ^ (-s).toNat = 2 * (2 ^ b * 2 ^ s.toNat) := by
      rw [← Nat.pow_add, ← Nat.pow_add, ← Nat.pow_succ']
      congr 1
      omega
    omega
  have hlo : dnN q s < 2 * upN p s := by
    unfold upN dnN
    have e1 : q * 2 ^ s.toNat < 2 ^ (b + 1) * 2 ^ s.toNat := Nat.mul_lt_mul_of_pos_right hq2 (Nat.two_pow_pos _)
    have e2 : 2 ^ a * 2 ^ (-s).toNat ≤ p * 2 ^ (-s).toNat := Nat.mul_le_mul_right _ hp
    have e3 : 2 ^ (b + 1) * 2 ^ s.toNat = 2 * (2 ^ a * 2 ^ (-s).toNat) := by
      rw [← Nat.pow_add, ← Nat.pow_add, ← Nat.pow_succ']
      congr 1
      omega
    omega
  unfold flI
  split
  · rename_i h
    have k1 := unit_lt (p := p) q0 (s - 1) 1 1
    have e : s - 1 + ((1 : Nat) : Int) = s := by omega
    rw [e] at k1
    have h' : upN p s < 1 * dnN q s := by omega
    have k2 := k1.1 h'
    have k3 := unit_up p q (s - 1) 1
    rw [e] at k3
    refine ⟨?_, by simpa using k2⟩
    have p1 := dnN_pos q0 (s - 1)
    have p2 := dnN_pos q0 s
    refine Nat.le_of_mul_le_mul_right (c := dnN q s) ?_ p2
    rw [k3]
    have : dnN q s * dnN q (s - 1) ≤ 2 * upN p s * dnN q (s - 1) := Nat.mul_le_mul_right _ (Nat.le_of_lt hlo)
    grind
  exact ⟨by omega, hup⟩
def unI (e : Int) : Int := if e - 52 < -1074 then -1074 else e - 52
def ctN (p q : Nat) (u : Int) : Nat := nearN (upN p u) (dnN q u)
theorem At.lt {p q : Nat} {e : Int} (h : At p q e) (hq : 0 < q) : upN p (unI e) < 9007199254740992 * dnN q (unI e) := by
  obtain ⟨k, hk⟩ : ∃ k : Nat, unI e = e - 52 + k := ⟨(unI e - (e - 52)).toNat, by unfold unI; split <;> omega⟩
  have h1 := (unit_lt (p := p) hq (e - 52) 52 2)
  rw [show e - 52 + ((52 : Nat) : Int) = e by omega] at h1
  have h2 := h1.1 h.2
  rw [hk, unit_lt hq]
  have : 1 ≤ 2 ^ k := Nat.one_le_two_pow
  have h3 : 9007199254740992 * 1 * dnN q (e - 52) ≤ 9007199254740992 * 2 ^ k * dnN q (e - 52) := Nat.mul_le_mul_right _ (Nat.mul_le_mul_left _ this)
  omega
theorem At.ct {p q : Nat} {e : Int} (h : At p q e) (hq : 0 < q) : ctN p q (unI e) ≤ 9007199254740992 := nearN_le (dnN_pos hq _) (h.lt hq)
theorem At.ge {p q : Nat} {e : Int} (h : At p q e) (hq : 0 < q) (hu : unI e = e - 52) : 4503599627370496 * dnN q (unI e) ≤ upN p (unI e) := by
  have h1 := (unit_le (p := p) hq (e - 52) 52 1)
  rw [show e - 52 + ((52 : Nat) : Int) = e by omega] at h1
  have := h1.1 (by have := h.1; omega)
  rw [hu]
  omega
theorem At.ct_ge {p q : Nat} {e : Int} (h : At p q e) (hq : 0 < q) (hu : unI e = e - 52) : 4503599627370496 ≤ ctN p q (unI e) := nearN_ge (dnN_pos hq _) (h.ge hq hu)
theorem At.one {p q : Nat} {e f : Int} (h : At p q e) (k : At p q f) (hq : 0 < q) : e = f := by
  have key : ∀ {e f : Int}, At p q e → At p q f → e ≤ f := by
    intro e f h k
    rcases Int.lt_or_le f e with hh | hh
    · exfalso
      obtain ⟨j, hj⟩ : ∃ j : Nat, e = f + j := ⟨(e - f).toNat, by omega⟩
      have h1 := (unit_le (p := p) hq f j 1)
      rw [← hj] at h1
      have h2 := h1.1 (by have := h.1; omega)
      have h3 : 2 ^ 1 ≤ 2 ^ j := Nat.pow_le_pow_right (by omega) (by omega)
      have h4 : 1 * 2 * dnN q f ≤ 1 * 2 ^ j * dnN q f := Nat.mul_le_mul_right _ (by omega)
      have := k.2
      omega
    exact hh
  have := key h k
  have := key k h
  omega
theorem nearN_zero {p q : Nat} (h : 2 * p < q) : nearN p q = 0 := by
  have h1 : p / q = 0 := Nat.div_eq_of_lt (by omega)
  have h2 : p % q = p := Nat.mod_eq_of_lt (by omega)
  unfold nearN
  rw [h1, h2, if_pos h]
theorem At.low {p q : Nat} {e : Int} (h : At p q e) (hq : 0 < q) (he : e ≤ -1076) : unI e = -1074 ∧ ctN p q (unI e) = 0 := by
  have hu : unI e = -1074 := by unfold unI; split <;> omega
  refine ⟨hu, ?_⟩
  rw [hu]
  obtain ⟨k, hk⟩ : ∃ k : Nat, (-1075 : Int) = e + (k + 1 : Nat) := ⟨(-1076 - e).toNat, by omega⟩
  have h1 := unit_lt (p := p) hq e (k + 1) 1
  rw [← hk] at h1
  have h2 : upN p (-1075) < 1 * dnN q (-1075) := by
    rw [h1]
    have h3 : 2 ^ 1 ≤ 2 ^ (k + 1) := Nat.pow_le_pow_right (by omega) (by omega)
    have h4 : 1 * 2 * dnN q e ≤ 1 * 2 ^ (k + 1) * dnN q e := Nat.mul_le_mul_right _ (by omega)
    have := h.2
    omega
  refine nearN_zero ?_
  have e1 : upN p (-1075) = 2 * upN p (-1074) := by
    obtain ⟨m, hm⟩ : ∃ m : Nat, m = 1074 := ⟨_, rfl⟩
    unfold upN
    rw [show (-(-1075 : Int)).toNat = m + 1 by omega, show (-(-1074 : Int)).toNat = m by omega, Nat.pow_succ]
    grind
  have e2 : dnN q (-1075) = dnN q (-1074) := by
    unfold dnN
    rw [show (-1075 : Int).toNat = (-1074 : Int).toNat by decide]
  omega
def bitsAt (p q : Nat) (e : Int) : Nat := (unI e + 1074).toNat * 4503599627370496 + ctN p q (unI e)
theorem At.high {p q : Nat} {e : Int} (h : At p q e) (hq : 0 < q) (he : 1024 ≤ e) : 9218868437227405312 ≤ bitsAt p q e := by
  have hu : unI e = e - 52 := by unfold unI; split <;> omega
  have := h.ct_ge hq hu
  unfold bitsAt
  have : 2046 ≤ (unI e + 1074).toNat := by omega
  have : 2046 * 4503599627370496 ≤ (unI e + 1074).toNat * 4503599627370496 := Nat.mul_le_mul_right _ this
  omega
theorem At.bits_low {p q : Nat} {e : Int} (h : At p q e) (hq : 0 < q) (he : e ≤ -1076) : bitsAt p q e = 0 := by
  obtain ⟨h1, h2⟩ := h.low hq he
  unfold bitsAt
  rw [h2, h1]
  rfl
theorem unit_cross {p q r s : Nat} (u : Int) (h : p * s ≤ r * q) : upN p u * dnN s u ≤ upN r u * dnN q u := by
  unfold upN dnN
  have : p * s * (2 ^ (-u).toNat * 2 ^ u.toNat) ≤ r * q * (2 ^ (-u).toNat * 2 ^ u.toNat) := Nat.mul_le_mul_right _ h
  grind
theorem At.mono {p q r s : Nat} {e f : Int} (h : At p q e) (k : At r s f) (hq : 0 < q) (hs : 0 < s) (hle : p * s ≤ r * q) : e ≤ f := by
  rcases Int.lt_or_le f e with hh | hh
  · exfalso
    obtain ⟨j, hj⟩ : ∃ j : Nat, e = f + (j + 1 : Nat) := ⟨(e - f - 1).toNat, by omega⟩
    have h1 := unit_le (p := p) hq f (j + 1) 1
    rw [← hj] at h1
    have h2 := h1.1 (by have := h.1; omega)
    have h3 : 2 ^ 1 ≤ 2 ^ (j + 1) := Nat.pow_le_pow_right (by omega) (by omega)
    have h4 : 1 * 2 * dnN q f ≤ 1 * 2 ^ (j + 1) * dnN q f := Nat.mul_le_mul_right _ (by omega)
    have h5 : 2 * dnN q f ≤ upN p f := by omega
    have h6 := unit_cross f hle
    have h7 := k.2
    have p1 := dnN_pos hq f
    have p2 := dnN_pos hs f
    have h8 : 2 * dnN q f * dnN s f ≤ upN p f * dnN s f := Nat.mul_le_mul_right _ h5
    have h9 : upN r f * dnN q f < 2 * dnN s f * dnN q f := Nat.mul_lt_mul_of_pos_right h7 p1
    grind
  exact hh
set_option maxRecDepth 100000
def bt (D : Nat → Nat) : Nat → Value := fun j => .int .u8 ((D j : Nat) : Int)
theorem OR.lower {w : World} {e : TypeId} {base base' n : Nat} {v : Value} {G : Nat → Value} (h : OR w e base v n G) (hb : base' ≤ base) : OR w e base' v n G := by
  rcases h with h | ⟨g, cap, f, rfl, h1, h2⟩
  · exact .inl h
  exact .inr ⟨g, cap, f, rfl, by omega, h2⟩
def five (j : Nat) : Nat := 201 + j
end Go.Proofs.YtchomkadekikdaaGreatDoor
