/- Contracts of the program's functions, part 11: own work, joined in build order. -/
import Derived.Test.YtchomkadekikdaaGreatDoorR10
import Derived.Laws.AppendOwnNone
import Derived.Handy
namespace Go.Proofs.YtchomkadekikdaaGreatDoor
open Go.RowKit
set_option maxRecDepth 100000
set_option linter.unusedVariables false
theorem IsNat.byte {w : World} {v : Value} {x : Nat} (h : IsNat w v x) {p : Addr} {z : Int} (hp : w.cell? p = some (.int .u8 z)) (u : Value) : IsNat (w.setCell p u) v x := by
  obtain ⟨a, n, cap, F, rfl, ⟨s1, s2, s3, s4⟩, h0, h1, hv⟩ := h
  refine ⟨a, n, cap, F, rfl, ⟨s1, s2, s3, s4.imp id ?_⟩, h0, h1, hv⟩
  rintro ⟨b, o, rfl, hw⟩
  refine ⟨b, o, rfl, fun i hi => ?_⟩
  have hne : (⟨b, o + i, none⟩ : Addr) ≠ p := fun e => by
    have h2 := hw i hi
    rw [e, hp] at h2
    simp at h2
  exact (World.cell?_setCell_other (h := hne.symm) ..).trans (hw i hi)
theorem RNat.byte {w : World} {v : Value} {x : Nat} (h : RNat w v x) {p : Addr} {z : Int} (hp : w.cell? p = some (.int .u8 z)) (u : Value) : RNat (w.setCell p u) v x := by
  obtain ⟨a, n, cap, F, rfl, ⟨s1, s2, s3, s4⟩, h0, h1, hv⟩ := h
  refine ⟨a, n, cap, F, rfl, ⟨s1, s2, s3, s4.imp id ?_⟩, h0, h1, hv⟩
  rintro ⟨b, o, rfl, hw⟩
  refine ⟨b, o, rfl, fun i hi => ?_⟩
  have hne : (⟨b, o + i, none⟩ : Addr) ≠ p := fun e => by
    have h2 := hw i hi
    rw [e, hp] at h2
    simp at h2
  exact (World.cell?_setCell_other (h := hne.symm) ..).trans (hw i hi)
theorem Rt.byte {w : World} {v : Value} {x y : Nat} (h : Rt w v x y) {p : Addr} {z : Int} (hp : w.cell? p = some (.int .u8 z)) (u : Value) : Rt (w.setCell p u) v x y := by
  obtain ⟨⟨a, n, c, a', n', c', e, h1, h2⟩, h3, h4⟩ := h
  exact ⟨⟨a, n, c, a', n', c', e, h1.byte hp u, h2.byte hp u⟩, h3, h4⟩
theorem RRt.byte {w : World} {v : Value} {x y : Nat} (h : RRt w v x y) {p : Addr} {z : Int} (hp : w.cell? p = some (.int .u8 z)) (u : Value) : RRt (w.setCell p u) v x y := by
  obtain ⟨a, n, c, a', n', c', e, h1, h2⟩ := h
  exact ⟨a, n, c, a', n', c', e, h1.byte hp u, h2.byte hp u⟩
theorem SX.byte {w0 w : World} {F G : List (Value × Nat × Nat)} {C : List (Nat × Nat × Value)} (h : SX w0 w [] [] F G C) {p : Addr} {z : Int} (hp : w.cell? p = some (.int .u8 z)) (hlo : w0.heap.size ≤ p.block) (hC : ∀ q ∈ C, ∃ a n c, q.2.2 = .slice a n c) (u : Value) : SX w0 (w.setCell p u) [] [] F G C :=
  ⟨(fun _ h => by cases h), (fun _ h => by cases h), fun q hq => (h.frs q hq).byte hp u, fun q hq => (h.rfrs q hq).byte hp u, (fun q hq => by
    obtain ⟨a, n, c, e⟩ := hC q hq
    have h2 := h.cells q hq
    have hne : p ≠ ⟨q.1, q.2.1, none⟩ := fun e2 => by
      rw [← e2, hp, e] at h2
      simp at h2
    exact (World.cell?_setCell_other (h := hne) ..).trans h2), h.bel.setCell hlo u⟩
theorem SX.sub {w0 w : World} {N M : List (Value × Nat)} {F G : List (Value × Nat × Nat)} {C : List (Nat × Nat × Value)} (h : SX w0 w N M F G C) {F' G' : List (Value × Nat × Nat)} {C' : List (Nat × Nat × Value)} (hF : ∀ p ∈ F', p ∈ F) (hG : ∀ p ∈ G', p ∈ G) (hC : ∀ p ∈ C', p ∈ C) : SX w0 w [] [] F' G' C' :=
  ⟨(fun _ h => by cases h), (fun _ h => by cases h), fun p hp => h.frs p (hF p hp), fun p hp => h.rfrs p (hG p hp), fun p hp => h.cells p (hC p hp), h.bel⟩
def ahead (D : Nat → Nat) : Nat → Nat := fun j => if j < 1 then 0 else D (j - 1)
theorem or_zero (w : World) (base : Nat) (h : base ≤ w.heap.size) (D : Nat → Nat) : OR (w.alloc (.cells #[.int .u8 0] 5)) 5 base (.slice (some ⟨w.heap.size, 0, none⟩) 1 1) 1 (bt (ahead D)) :=
  .inr ⟨w.heap.size, 1, _, rfl, h, Nat.le_refl _, by simp only [maxLen]; omega, World.rowIs_alloc w #[.int .u8 0] 5 (fun _ => .int .u8 0) (fun i hi => by
    obtain rfl : i = 0 := by simpa using hi
    rfl), fun i hi => by
    obtain rfl : i = 0 := by omega
    rfl⟩
theorem mulP_lt {x y n m : Nat} (h : x < P n) (k : y < P m) : x * y < P (n + m) := by
  rw [P_add]
  exact Nat.mul_lt_mul'' h k
theorem P_up {x n m : Nat} (h : x < P n) (hm : n ≤ m) : x < P m := Nat.lt_of_lt_of_le h (P_le hm)
theorem cmpI_same {x y : Nat} (h : x = y) : cmpI x y = 0 := by unfold cmpI; rw [if_neg (by omega), if_pos h]
def Three (w : World) (v : Value) (X Y : Nat → Nat) : Prop := ∃ (g : Nat) (E E' : Nat → Value), v = .slice (some ⟨g, 0, none⟩) 3 3 ∧ g < w.heap.size ∧ ∀ i, i < 3 → w.cell? ⟨g, i * 2, none⟩ = some (E i) ∧ w.cell? ⟨g, i * 2 + 1, none⟩ = some (E' i) ∧ Rt w (.agg #[E i, E' i]) (X i) (Y i)
theorem Three.mono {w w' : World} {v : Value} {X Y : Nat → Nat} (h : Three w v X Y) (hb : Below w.heap.size w w') : Three w' v X Y := by
  obtain ⟨g, E, E', e, hg, he⟩ := h
  exact ⟨g, E, E', e, Nat.lt_of_lt_of_le hg hb.size, fun i hi => ⟨cell_later hb (he i hi).1, cell_later hb (he i hi).2.1, (he i hi).2.2.mono hb⟩⟩
def MSpec : Type := { R : World → Value → Prop // ∀ {w w' : World} {v : Value}, R w v → Below w.heap.size w w' → R w' v }
def Spec.m (s : Spec) : MSpec := ⟨s.1, fun h hb => s.2.mono h hb⟩
def isSl (v : Value) : Prop := ∃ a n c, v = .slice a n c
theorem Rt.sl {W : World} {u1 u2 : Value} {p q : Nat} (h : Rt W (.agg #[u1, u2]) p q) : isSl u1 ∧ isSl u2 := by
  obtain ⟨a, n, c, a', n', c', e, _, _⟩ := h.raw
  injection e with e
  injection e with e
  injection e with e1 e
  injection e with e2 e
  exact ⟨⟨_, _, _, e1⟩, ⟨_, _, _, e2⟩⟩
set_option maxHeartbeats 4000000 in
theorem inUnits_neg (v u : Value) (p q t : Nat) (s : Int) (w : World) (h : IsNat w v p) (k : IsNat w u q) (hp : Fits p) (hs : s = -(t : Int)) (ht0 : 0 < t) (ht : t ≤ 16777216) :
    Calls Tryz.prog 69 #[v, u, .int .i64 s] w (Makes2N w (p * 2 ^ t) q) := by
  obtain ⟨a, n, c, rfl⟩ := h.isAgg
  obtain ⟨a', n', c', rfl⟩ := k.isAgg
  have S1 : Hid _ := (((((((sx_start w).addN h).addN k).box1 (.slice a n c) 66 _ rfl).box1 (.slice a' n' c') 66 _ rfl).box1 (.slice none 0 0) 66 _ rfl).box1 (.slice none 0 0) 66 _ rfl)
  simp only [World.size_alloc] at S1
  obtain ⟨w0, hw0⟩ : ∃ w0, w0 = (((w.alloc (.cells #[.slice a n c] 66)).alloc (.cells #[.slice a' n' c'] 66)).alloc (.cells #[.slice none 0 0] 66)).alloc (.cells #[.slice none 0 0] 66) := ⟨_, rfl⟩
  have f0 : w0.frozen? ⟨w.heap.size, 0, none⟩ = false := by rw [hw0]; simp [go_sem]
  have f1 : w0.frozen? ⟨w.heap.size + 1 + 1, 0, none⟩ = false := by rw [hw0]; simp [go_sem]
  have f2 : w0.frozen? ⟨w.heap.size + 1 + 1 + 1, 0, none⟩ = false := by rw [hw0]; simp [go_sem]
  have HH : Hid (Fits p ∧ t ≤ 16777216) := ⟨hp, ht⟩
  have d1 : decide (s < 0) = true := decide_eq_true (by omega)
  have m1 : IntKind.i64.wrap (-s) = (t : Int) := by rw [IntKind.wrap_i64]; omega
  clear h k hp hs ht0 ht
  go_enter Tryz.func69, Tryz.ntmps69
  go_wp2_with fail
  rw [← hw0] at S1
  rw [← hw0]
  obtain ⟨b2, hb2⟩ : ∃ b2, b2 = w.heap.size := ⟨_, rfl⟩
  have HB : Hid (w.heap.size ≤ b2) := by show _ ≤ _; omega
  rw [← hb2] at S1 f0 f1 f2
  rw [← hb2]
  clear hw0 hb2
  refine (left_yes _ p t _ (S1.out.at (.agg #[.slice a n c]) p) HH.out.1 HH.out.2).mono ?_
  rintro e w1 ⟨v1, rfl, hv1, hb1⟩
  obtain ⟨a1, n1, k1, rfl⟩ := hv1.isAgg
  have z0 := cell_later hb1 (S1.out.cel b2 0 (.slice a n c))
  have z1 := cell_later hb1 (S1.out.cel (b2 + 1) 0 (.slice a' n' c'))
  have z2 := cell_later hb1 (S1.out.cel (b2 + 1 + 1) 0 (.slice none 0 0))
  have z3 := cell_later hb1 (S1.out.cel (b2 + 1 + 1 + 1) 0 (.slice none 0 0))
  have g0 := (hb1.frozen (World.block_lt_of_cell? _ _ (S1.out.cel b2 0 (.slice a n c)))).trans f0
  have g1 := (hb1.frozen (World.block_lt_of_cell? _ _ (S1.out.cel (b2 + 1 + 1) 0 (.slice none 0 0)))).trans f1
  have g2 := (hb1.frozen (World.block_lt_of_cell? _ _ (S1.out.cel (b2 + 1 + 1 + 1) 0 (.slice none 0 0)))).trans f2
  have I1 : Hid (IsNat w1 (.agg #[.slice a1 n1 k1]) (p * 2 ^ t) ∧ IsNat w1 (.agg #[.slice a' n' c']) q ∧ Below w.heap.size w w1) := ⟨hv1, (S1.out.at (.agg #[.slice a' n' c']) q).mono hb1, bel_go S1.out.bel hb1⟩
  clear hv1 hb1 S1 f0 f1 f2
  go_wp2_with fail
  obtain ⟨W, hW⟩ : ∃ W, W = w1.setCell ⟨b2, 0, none⟩ (.slice a1 n1 k1) := ⟨_, rfl⟩
  have y0 : W.cell? ⟨b2, 0, none⟩ = some (.slice a1 n1 k1) := by rw [hW]; simp [go_sem, z0]
  have y1 : W.cell? ⟨b2 + 1, 0, none⟩ = some (.slice a' n' c') := by rw [hW]; simp [go_sem, z1]
  have y2 : W.cell? ⟨b2 + 1 + 1, 0, none⟩ = some (.slice none 0 0) := by rw [hW]; simp [go_sem, z2]
  have y3 : W.cell? ⟨b2 + 1 + 1 + 1, 0, none⟩ = some (.slice none 0 0) := by rw [hW]; simp [go_sem, z3]
  have h1 : W.frozen? ⟨b2 + 1 + 1, 0, none⟩ = false := by rw [hW]; simp [World.frozen?_setCell, g1]
  have h2 : W.frozen? ⟨b2 + 1 + 1 + 1, 0, none⟩ = false := by rw [hW]; simp [World.frozen?_setCell, g2]
  have I2 : Hid (IsNat W (.agg #[.slice a1 n1 k1]) (p * 2 ^ t) ∧ IsNat W (.agg #[.slice a' n' c']) q ∧ Below w.heap.size w W) := by
    rw [hW]
    exact ⟨I1.out.1.setCell (no_int_slice z0) _, I1.out.2.1.setCell (no_int_slice z0) _, I1.out.2.2.setCell HB.out _⟩
  rw [← hW]
  clear hW I1 z0 z1 z2 z3 g0 g1 g2
  have Z : Hid _ := nat_put2 (r := b2 + 1 + 1) (x := .slice a1 n1 k1) (y := .slice a' n' c') y2 y3 I2.out.1 I2.out.2.1 I2.out.2.2 (by have := HB.out; omega)
  go_region
  go_wp2_with fail
  refine bodyPost_ret (v := .tuple #[.agg #[.slice a1 n1 k1], .agg #[.slice a' n' c']]) (by simp [results, Tryz.results69, go_sem, y2, y3]) rfl ⟨_, _, rfl, Z.out.1.mono (bel_dr (bel_refl _)), Z.out.2.1.mono (bel_dr (bel_refl _)), bel_dr Z.out.2.2⟩
set_option maxHeartbeats 4000000 in
theorem inUnits_pos (v u : Value) (p q t : Nat) (s : Int) (w : World) (h : IsNat w v p) (k : IsNat w u q) (hp : Fits q) (hs : s = (t : Int)) (ht : t ≤ 16777216) :
    Calls Tryz.prog 69 #[v, u, .int .i64 s] w (Makes2N w p (q * 2 ^ t)) := by
  obtain ⟨a, n, c, rfl⟩ := h.isAgg
  obtain ⟨a', n', c', rfl⟩ := k.isAgg
  have S1 : Hid _ := (((((((sx_start w).addN h).addN k).box1 (.slice a n c) 66 _ rfl).box1 (.slice a' n' c') 66 _ rfl).box1 (.slice none 0 0) 66 _ rfl).box1 (.slice none 0 0) 66 _ rfl)
  simp only [World.size_alloc] at S1
  obtain ⟨w0, hw0⟩ : ∃ w0, w0 = (((w.alloc (.cells #[.slice a n c] 66)).alloc (.cells #[.slice a' n' c'] 66)).alloc (.cells #[.slice none 0 0] 66)).alloc (.cells #[.slice none 0 0] 66) := ⟨_, rfl⟩
  have f0 : w0.frozen? ⟨w.heap.size + 1, 0, none⟩ = false := by rw [hw0]; simp [go_sem]
  have f1 : w0.frozen? ⟨w.heap.size + 1 + 1, 0, none⟩ = false := by rw [hw0]; simp [go_sem]
  have f2 : w0.frozen? ⟨w.heap.size + 1 + 1 + 1, 0, none⟩ = false := by rw [hw0]; simp [go_sem]
  have HH : Hid (Fits q ∧ t ≤ 16777216) := ⟨hp, ht⟩
  have d1 : decide ((t : Int) < 0) = false := decide_eq_false (by omega)
  subst hs
  clear h k hp ht
  go_enter Tryz.func69, Tryz.ntmps69
  go_wp2_with fail
  rw [← hw0] at S1
  rw [← hw0]
  obtain ⟨b2, hb2⟩ : ∃ b2, b2 = w.heap.size := ⟨_, rfl⟩
  have HB : Hid (w.heap.size ≤ b2) := by show _ ≤ _; omega
  rw [← hb2] at S1 f0 f1 f2
  rw [← hb2]
  clear hw0 hb2
  refine (left_yes _ q t _ (S1.out.at (.agg #[.slice a' n' c']) q) HH.out.1 HH.out.2).mono ?_
  rintro e w1 ⟨v1, rfl, hv1, hb1⟩
  obtain ⟨a1, n1, k1, rfl⟩ := hv1.isAgg
  have z0 := cell_later hb1 (S1.out.cel b2 0 (.slice a n c))
  have z1 := cell_later hb1 (S1.out.cel (b2 + 1) 0 (.slice a' n' c'))
  have z2 := cell_later hb1 (S1.out.cel (b2 + 1 + 1) 0 (.slice none 0 0))
  have z3 := cell_later hb1 (S1.out.cel (b2 + 1 + 1 + 1) 0 (.slice none 0 0))
  have g0 := (hb1.frozen (World.block_lt_of_cell? _ _ (S1.out.cel (b2 + 1) 0 (.slice a' n' c')))).trans f0
  have g1 := (hb1.frozen (World.block_lt_of_cell? _ _ (S1.out.cel (b2 + 1 + 1) 0 (.slice none 0 0)))).trans f1
  have g2 := (hb1.frozen (World.block_lt_of_cell? _ _ (S1.out.cel (b2 + 1 + 1 + 1) 0 (.slice none 0 0)))).trans f2
  have I1 : Hid (IsNat w1 (.agg #[.slice a n c]) p ∧ IsNat w1 (.agg #[.slice a1 n1 k1]) (q * 2 ^ t) ∧ Below w.heap.size w w1) := ⟨(S1.out.at (.agg #[.slice a n c]) p).mono hb1, hv1, bel_go S1.out.bel hb1⟩
  clear hv1 hb1 S1 f0 f1 f2
  go_wp2_with fail
  obtain ⟨W, hW⟩ : ∃ W, W = w1.setCell ⟨b2 + 1, 0, none⟩ (.slice a1 n1 k1) := ⟨_, rfl⟩
  have y0 : W.cell? ⟨b2, 0, none⟩ = some (.slice a n c) := by rw [hW]; simp [go_sem, z0]
  have y1 : W.cell? ⟨b2 + 1, 0, none⟩ = some (.slice a1 n1 k1) := by rw [hW]; simp [go_sem, z1]
  have y2 : W.cell? ⟨b2 + 1 + 1, 0, none⟩ = some (.slice none 0 0) := by rw [hW]; simp [go_sem, z2]
  have y3 : W.cell? ⟨b2 + 1 + 1 + 1, 0, none⟩ = some (.slice none 0 0) := by rw [hW]; simp [go_sem, z3]
  have h1 : W.frozen? ⟨b2 + 1 + 1, 0, none⟩ = false := by rw [hW]; simp [World.frozen?_setCell, g1]
  have h2 : W.frozen? ⟨b2 + 1 + 1 + 1, 0, none⟩ = false := by rw [hW]; simp [World.frozen?_setCell, g2]
  have I2 : Hid (IsNat W (.agg #[.slice a n c]) p ∧ IsNat W (.agg #[.slice a1 n1 k1]) (q * 2 ^ t) ∧ Below w.heap.size w W) := by
    rw [hW]
    exact ⟨I1.out.1.setCell (no_int_slice z1) _, I1.out.2.1.setCell (no_int_slice z1) _, I1.out.2.2.setCell (by have := HB.out; show _ ≤ b2 + 1; omega) _⟩
  rw [← hW]
  clear hW I1 z0 z1 z2 z3 g0 g1 g2
  have Z : Hid _ := nat_put2 (r := b2 + 1 + 1) (x := .slice a n c) (y := .slice a1 n1 k1) y2 y3 I2.out.1 I2.out.2.1 I2.out.2.2 (by have := HB.out; omega)
  go_region
  go_wp2_with fail
  refine bodyPost_ret (v := .tuple #[.agg #[.slice a n c], .agg #[.slice a1 n1 k1]]) (by simp [results, Tryz.results69, go_sem, y2, y3]) rfl ⟨_, _, rfl, Z.out.1.mono (bel_dr (bel_refl _)), Z.out.2.1.mono (bel_dr (bel_refl _)), bel_dr Z.out.2.2⟩
theorem cmp_z (v u : Value) (x y : Nat) (z : Int) (w : World) (h : IsNat w v x) (k : IsNat w u y) (hx : Fits x) (hy : Fits y) (hz : cmpI x y = z) :
    Calls Tryz.prog 125 #[v, u] w fun e w' => e = .returned (.int .i64 z) ∧ Below w.heap.size w w' := by
  rw [← hz]
  exact cmp_any v u x y w h k hx hy
theorem bitOf_zero (x : Nat) : bitOf x 0 = decide (x % 2 = 1) := by
  unfold bitOf
  rw [Nat.pow_zero, Nat.div_one]
  by_cases h : x % 2 = 1 <;> simp [h]
set_option maxHeartbeats 8000000 in
theorem nearest_any (v u : Value) (p q : Nat) (w : World) (h : IsNat w v p) (k : IsNat w u q) (hp : p < P 198) (hq : q < P 198) (hq0 : 0 < q) :
    Calls Tryz.prog 126 #[v, u] w (Makes w (nearN p q)) := by
  obtain ⟨a, n, c, rfl⟩ := h.isAgg
  obtain ⟨a', n', c', rfl⟩ := k.isAgg
  have S1 : Hid _ := ((((((sy_start w).addN h).addN k).box1 (.slice a n c) 66 _ rfl).box1 (.slice a' n' c') 66 _ rfl).box1 (.slice none 0 0) 66 _ rfl)
  simp only [World.size_alloc] at S1
  obtain ⟨w0, hw0⟩ : ∃ w0, w0 = ((w.alloc (.cells #[.slice a n c] 66)).alloc (.cells #[.slice a' n' c'] 66)).alloc (.cells #[.slice none 0 0] 66) := ⟨_, rfl⟩
  obtain ⟨d, hd⟩ : ∃ d, d = p / q := ⟨_, rfl⟩
  obtain ⟨r, hr⟩ : ∃ r, r = p % q := ⟨_, rfl⟩
  have hrq : r < q := by rw [hr]; exact Nat.mod_lt _ hq0
  have hdp : d ≤ p := by rw [hd]; exact Nat.div_le_self _ _
  have sr : r < P 198 := Nat.lt_trans hrq hq
  have sd : d < P 198 := Nat.lt_of_le_of_lt hdp hp
  have s2 : r + r < P 199 := by
    have h1 : P 199 = P 198 * 18446744073709551616 := P_succ 198
    rw [h1]
    omega
  have HH : Hid (p < P 198 ∧ q < P 198 ∧ 0 < q ∧ Fits r ∧ Fits d ∧ Fits (r + r) ∧ Fits q ∧ d = p / q ∧ r = p % q) := ⟨hp, hq, hq0, fits_P sr (by omega), fits_P sd (by omega), fits_P s2 (by omega), fits_P hq (by omega), hd, hr⟩
  have HN : Hid (nearN p q = if 2 * r < q then d else if 2 * r = q ∧ d % 2 = 0 then d else d + 1) := by show _ = _; unfold nearN; rw [← hd, ← hr]
  clear h k hp hq hq0 hd hr hrq hdp sr sd s2
  go_enter Tryz.func126, Tryz.ntmps126
  go_wp2_with fail
  rw [← hw0] at S1
  rw [← hw0]
  obtain ⟨b, hb⟩ : ∃ b, b = w.heap.size := ⟨_, rfl⟩
  rw [← hb] at S1
  rw [← hb]
  clear hw0 hb
  refine (divMod_198 _ _ p q _ (S1.out.at (.agg #[.slice a n c]) p) (S1.out.at (.agg #[.slice a' n' c']) q) (small_198 HH.out.2.1) HH.out.2.2.1 HH.out.1 (small_198 HH.out.1)).mono ?_
  rintro e w1 ⟨v1, u1, rfl, hv1, hu1, hb1⟩
  rw [← HH.out.2.2.2.2.2.2.2.1] at hv1
  rw [← HH.out.2.2.2.2.2.2.2.2] at hu1
  obtain ⟨a1, n1, c1, rfl⟩ := hv1.isAgg
  obtain ⟨a2, n2, c2, rfl⟩ := hu1.isAgg
  have S2 : Hid _ := ((((S1.out.go hb1).addN hv1).addN hu1).box1 (.slice a1 n1 c1) 66 _ rfl).box1 (.slice a2 n2 c2) 66 _ rfl
  simp only [World.size_alloc] at S2
  clear hv1 hu1 hb1 S1
  go_wp2_with fail
  obtain ⟨w2, hw2⟩ : ∃ w2, w2 = (w1.alloc (.cells #[.slice a1 n1 c1] 66)).alloc (.cells #[.slice a2 n2 c2] 66) := ⟨_, rfl⟩
  obtain ⟨g, hg⟩ : ∃ g, g = w1.heap.size := ⟨_, rfl⟩
  rw [← hw2, ← hg] at S2
  rw [← hw2, ← hg]
  clear hw2 hg
  obtain ⟨z, hz⟩ : ∃ z, cmpI (r + r) q = z := ⟨_, rfl⟩
  have HZ : Hid (cmpI (r + r) q = z) := hz
  clear hz
  refine wp_region_inv (JB w2 [sNat (r), sNat (r), sNat (r + r), sNat (q), sEq (.int .i64 z)] []) 32 (by kernel_rfl) rfl (by kernel_rfl) (JB.start _ _ _) (fun HG HN => ⟨?_, ?_, ?_, ?_, ?_, trivial⟩) ?_
  · intro L vs a w' hJ hF hP hL
    have q6 : (a.tmps[6]?).getD undef = .pointer (some ⟨g + 1, 0, none⟩) := hF.old 6 rfl
    have cb := cell_later hJ.bel (S2.out.cell (g + 1) (.slice a2 n2 c2))
    exact run_val (v := .agg #[.slice a2 n2 c2]) rfl (by simp [execOp, go_sem, q6, cb]) ⟨_, rfl, hJ.step hL rfl (Below.refl _ _) (by exact ((S2.out.at (.agg #[.slice a2 n2 c2]) (r)).mono hJ.bel))⟩
  · intro L vs a w' hJ hF hP hL
    have q6 : (a.tmps[6]?).getD undef = .pointer (some ⟨g + 1, 0, none⟩) := hF.old 6 rfl
    have cb := cell_later hJ.bel (S2.out.cell (g + 1) (.slice a2 n2 c2))
    exact run_val (v := .agg #[.slice a2 n2 c2]) rfl (by simp [execOp, go_sem, q6, cb]) ⟨_, rfl, hJ.step hL rfl (Below.refl _ _) (by exact ((S2.out.at (.agg #[.slice a2 n2 c2]) (r)).mono hJ.bel))⟩
  · intro L vs a w' hJ hF hP hL
    have p0 : L 0 = true := hP ⟨0, .data⟩ (by simp) rfl
    have s0 : IsNat w' (vs 0) (r) := hJ.sp 0 p0
    have q15 := hF.slot 0 15 rfl p0
    have p1 : L 1 = true := hP ⟨1, .data⟩ (by simp) rfl
    have s1 : IsNat w' (vs 1) (r) := hJ.sp 1 p1
    have q16 := hF.slot 1 16 rfl p1
    refine run_call (f := 150) (args := #[vs 0, vs 1]) rfl (by simp [go_sem, q15, q16]) (add_any _ _ r r _ s0 s1 HH.out.2.2.2.1 HH.out.2.2.2.1) ?_
    rintro e w2 ⟨v, rfl, hv, hb⟩
    exact ⟨_, rfl, _, rfl, hJ.step hL rfl hb (by exact hv)⟩
  · intro L vs a w' hJ hF hP hL
    have q3 : (a.tmps[3]?).getD undef = .pointer (some ⟨b + 1, 0, none⟩) := hF.old 3 rfl
    have cb := cell_later hJ.bel (S2.out.cell (b + 1) (.slice a' n' c'))
    exact run_val (v := .agg #[.slice a' n' c']) rfl (by simp [execOp, go_sem, q3, cb]) ⟨_, rfl, hJ.step hL rfl (Below.refl _ _) (by exact ((S2.out.at (.agg #[.slice a' n' c']) (q)).mono hJ.bel))⟩
  · intro L vs a w' hJ hF hP hL
    have p2 : L 2 = true := hP ⟨2, .data⟩ (by simp) rfl
    have s2 : IsNat w' (vs 2) (r + r) := hJ.sp 2 p2
    have q17 := hF.slot 2 17 rfl p2
    have p3 : L 3 = true := hP ⟨3, .data⟩ (by simp) rfl
    have s3 : IsNat w' (vs 3) (q) := hJ.sp 3 p3
    have q18 := hF.slot 3 18 rfl p3
    refine run_call (f := 125) (args := #[vs 2, vs 3]) rfl (by simp [go_sem, q17, q18]) (cmp_z _ _ (r + r) q z _ s2 s3 HH.out.2.2.2.2.2.1 HH.out.2.2.2.2.2.2.1 HZ.out) ?_
    rintro e w2 ⟨rfl, hb⟩
    exact ⟨_, rfl, _, rfl, hJ.step hL rfl hb (by exact rfl)⟩
  intro L vs w' hA hJ
  have s4 : vs 4 = .int .i64 z := hJ.sp 4 (hA 4 (by simp))
  simp only [putL, Act.put, List.setIfInBounds_toArray, List.set_cons_zero, List.set_cons_succ, Nat.reduceAdd]
  simp only [s4]
  obtain ⟨w3, ew3⟩ : ∃ w3, w3 = w' := ⟨_, rfl⟩
  have S3 : Hid _ := S2.out.go (ew3 ▸ hJ.bel : Below w2.heap.size w2 w3)
  rw [← ew3]
  clear ew3 hJ hA s4 S2
  rcases Nat.lt_trichotomy (r + r) q with h1 | h1 | h1
  · obtain rfl : z = -1 := by rw [← HZ.out]; exact cmpI_lt h1
    have HV : Hid (nearN p q = d) := by show _ = _; rw [HN.out, if_pos (by omega)]
    clear h1 HZ HN
    have k1 := S3.out.cel (g) 0 (.slice a1 n1 c1)
    have k2 := S3.out.cel (b + 1 + 1) 0 (.slice none 0 0)
    have k3 := S3.out.fz (b + 1 + 1) 0
    have Z : Hid _ := S3.out.ret1 (r := b + 1 + 1) k2 (by simp) (S3.out.at (.agg #[.slice a1 n1 c1]) d) (.slice a1 n1 c1)
    go_wp2_with fail
    exact bodyPost_ret (v := .agg #[.slice a1 n1 c1]) (by simp [results, Tryz.results126, go_sem, k2]) rfl ⟨_, rfl, by rw [HV.out]; exact Z.out.1, Z.out.2⟩
  · obtain rfl : z = 0 := by rw [← HZ.out]; exact cmpI_same h1
    have k1 := S3.out.cel (g) 0 (.slice a1 n1 c1)
    go_wp2_with fail
    refine (bit_any _ d 0 _ (S3.out.at (.agg #[.slice a1 n1 c1]) d) HH.out.2.2.2.2.1 (by omega) (by omega)).mono ?_
    rintro e w4 ⟨rfl, hb4⟩
    have S4 : Hid _ := S3.out.go hb4
    clear hb4 S3 k1
    by_cases ho : d % 2 = 0
    · have t1 : (decide ((0 : Int) ≤ 0) && bitOf d (0 : Int).toNat) = false := by rw [show (0 : Int).toNat = 0 from rfl, bitOf_zero]; simp; omega
      have HV : Hid (nearN p q = d) := by show _ = _; rw [HN.out, if_neg (by omega), if_pos ⟨by omega, ho⟩]
      rw [t1]
      clear h1 HZ HN ho t1
      have k1 := S4.out.cel (g) 0 (.slice a1 n1 c1)
      have k2 := S4.out.cel (b + 1 + 1) 0 (.slice none 0 0)
      have k3 := S4.out.fz (b + 1 + 1) 0
      have Z : Hid _ := S4.out.ret1 (r := b + 1 + 1) k2 (by simp) (S4.out.at (.agg #[.slice a1 n1 c1]) d) (.slice a1 n1 c1)
      go_wp2_with fail
      exact bodyPost_ret (v := .agg #[.slice a1 n1 c1]) (by simp [results, Tryz.results126, go_sem, k2]) rfl ⟨_, rfl, by rw [HV.out]; exact Z.out.1, Z.out.2⟩
    have t1 : (decide ((0 : Int) ≤ 0) && bitOf d (0 : Int).toNat) = true := by rw [show (0 : Int).toNat = 0 from rfl, bitOf_zero]; simp; omega
    have HV : Hid (nearN p q = d + 1) := by show _ = _; rw [HN.out, if_neg (by omega), if_neg (fun hh => ho hh.2)]
    rw [t1]
    clear h1 HZ HN ho t1
    go_wp2_with fail
    refine wp_region_inv (JD w4 [sNat (d), sNat (1), sNat (d + 1), sAny] [[], [], [0, 1], [2]] 3 2 [0, 1, 2] (Sto1 (b + 1 + 1))) 32 (by kernel_rfl) rfl (by kernel_rfl) (JD.start _ _ _ _ _ _ _) (fun HG HN => ⟨?_, ?_, ?_, ?_, trivial⟩) ?_
    · intro L vs a w' hJ hF hP hL
      have hK := hJ
      have hJ := hK.open hL (by decide)
      have q5 : (a.tmps[5]?).getD undef = .pointer (some ⟨g, 0, none⟩) := hF.old 5 rfl
      have cb := cell_later hJ.bel (S4.out.cell (g) (.slice a1 n1 c1))
      exact run_val (v := .agg #[.slice a1 n1 c1]) rfl (by simp [execOp, go_sem, q5, cb]) ⟨_, rfl, hK.step hL (by decide) (by decide) rfl (nd_nil) <| hJ.step hL rfl (Below.refl _ _) (by exact ((S4.out.at (.agg #[.slice a1 n1 c1]) (d)).mono hJ.bel))⟩
    · intro L vs a w' hJ hF hP hL
      have hK := hJ
      have hJ := hK.open hL (by decide)
      refine run_call (f := 70) (args := #[.int .u64 1]) rfl (by simp [go_sem]) (of_any 1 _ (by omega)) ?_
      rintro e w2 ⟨v, rfl, hv, hb⟩
      exact ⟨_, rfl, _, rfl, hK.step hL (by decide) (by decide) rfl (nd_nil) <| hJ.step hL rfl hb (by exact hv)⟩
    · intro L vs a w' hJ hF hP hL
      have hK := hJ
      have hJ := hK.open hL (by decide)
      have p0 : L 0 = true := hP ⟨0, .data⟩ (by simp) rfl
      have s0 : IsNat w' (vs 0) (d) := hJ.sp 0 p0
      have q29 := hF.slot 0 29 rfl p0
      have p1 : L 1 = true := hP ⟨1, .data⟩ (by simp) rfl
      have s1 : IsNat w' (vs 1) (1) := hJ.sp 1 p1
      have q30 := hF.slot 1 30 rfl p1
      refine run_call (f := 150) (args := #[vs 0, vs 1]) rfl (by simp [go_sem, q29, q30]) (add_any _ _ d 1 _ s0 s1 HH.out.2.2.2.2.1 (fits_P (n := 1) (by rw [P_one]; omega) (by omega))) ?_
      rintro e w2 ⟨v, rfl, hv, hb⟩
      exact ⟨_, rfl, _, rfl, hK.step hL (by decide) (by decide) rfl (nd_cons p0 (nd_cons p1 (nd_nil))) <| hJ.step hL rfl hb (by exact hv)⟩
    · intro L vs a w' hJ hF hP hL
      have hK := hJ
      have hJ := hK.core hL
      have q4 : (a.tmps[4]?).getD undef = .pointer (some ⟨b + 1 + 1, 0, none⟩) := hF.old 4 rfl
      have p2 : L 2 = true := hP ⟨2, .data⟩ (by simp) rfl
      have s2 : IsNat w' (vs 2) (d + 1) := hJ.sp 2 p2
      have q31 := hF.slot 2 31 rfl p2
      have p0 : L 0 = true := hK.cl 2 p2 0 (by simp)
      have p1 : L 1 = true := hK.cl 2 p2 1 (by simp)
      have x0 := cell_later hJ.bel (S4.out.cel (b + 1 + 1) 0 (.slice none 0 0))
      have y0 := (hJ.bel.frozen (World.block_lt_of_cell? _ _ (S4.out.cel (b + 1 + 1) 0 (.slice none 0 0)))).trans (S4.out.fz (b + 1 + 1) 0)
      obtain ⟨aa, nn, cc, e8⟩ := s2.isAgg
      exact run_unit (w' := (w'.setCell ⟨b + 1 + 1, 0, none⟩ (.slice aa nn cc))) rfl (by simp [execOp, go_sem, q4, q31, e8, x0, y0]) ⟨undef, rfl, hK.put hL (by decide) rfl (nd_cons p2 (nd_nil)) (nd_cons p0 (nd_cons p1 (nd_cons p2 (nd_nil)))) p2 ⟨_, e8, rfl⟩⟩
    intro L vs w' hA hK
    obtain ⟨_, w1, hb1, sv, u1, ev, ew⟩ := hK.fin (hA 3 (by simp))
    replace sv : IsNat w1 (vs 2) (d + 1) := sv
    simp only [putL, Act.put, List.setIfInBounds_toArray, List.set_cons_zero, List.set_cons_succ, Nat.reduceAdd]
    obtain ⟨aa, nn, cc, e9⟩ := sv.isAgg
    have S9 : Hid _ := S4.out.go hb1
    have k2 := S9.out.cel (b + 1 + 1) 0 (.slice none 0 0)
    have Z : Hid _ := S9.out.ret1 (r := b + 1 + 1) k2 (by simp) sv u1
    clear S4
    rw [ew]
    rw [ev] at Z sv
    go_wp2_with fail
    exact bodyPost_ret (v := .agg #[u1]) (by simp [results, Tryz.results126, go_sem, k2]) rfl ⟨_, rfl, by rw [HV.out]; exact Z.out.1, Z.out.2⟩
  obtain rfl : z = 1 := by rw [← HZ.out]; exact cmpI_gt h1
  have HV : Hid (nearN p q = d + 1) := by show _ = _; rw [HN.out, if_neg (by omega), if_neg (fun hh => by omega)]
  clear h1 HZ HN
  go_wp2_with fail
  refine wp_region_inv (JD w3 [sNat (d), sNat (1), sNat (d + 1), sAny] [[], [], [0, 1], [2]] 3 2 [0, 1, 2] (Sto1 (b + 1 + 1))) 32 (by kernel_rfl) rfl (by kernel_rfl) (JD.start _ _ _ _ _ _ _) (fun HG HN => ⟨?_, ?_, ?_, ?_, trivial⟩) ?_
  · intro L vs a w' hJ hF hP hL
    have hK := hJ
    have hJ := hK.open hL (by decide)
    have q5 : (a.tmps[5]?).getD undef = .pointer (some ⟨g, 0, none⟩) := hF.old 5 rfl
    have cb := cell_later hJ.bel (S3.out.cell (g) (.slice a1 n1 c1))
    exact run_val (v := .agg #[.slice a1 n1 c1]) rfl (by simp [execOp, go_sem, q5, cb]) ⟨_, rfl, hK.step hL (by decide) (by decide) rfl (nd_nil) <| hJ.step hL rfl (Below.refl _ _) (by exact ((S3.out.at (.agg #[.slice a1 n1 c1]) (d)).mono hJ.bel))⟩
  · intro L vs a w' hJ hF hP hL
    have hK := hJ
    have hJ := hK.open hL (by decide)
    refine run_call (f := 70) (args := #[.int .u64 1]) rfl (by simp [go_sem]) (of_any 1 _ (by omega)) ?_
    rintro e w2 ⟨v, rfl, hv, hb⟩
    exact ⟨_, rfl, _, rfl, hK.step hL (by decide) (by decide) rfl (nd_nil) <| hJ.step hL rfl hb (by exact hv)⟩
  · intro L vs a w' hJ hF hP hL
    have hK := hJ
    have hJ := hK.open hL (by decide)
    have p0 : L 0 = true := hP ⟨0, .data⟩ (by simp) rfl
    have s0 : IsNat w' (vs 0) (d) := hJ.sp 0 p0
    have q29 := hF.slot 0 29 rfl p0
    have p1 : L 1 = true := hP ⟨1, .data⟩ (by simp) rfl
    have s1 : IsNat w' (vs 1) (1) := hJ.sp 1 p1
    have q30 := hF.slot 1 30 rfl p1
    refine run_call (f := 150) (args := #[vs 0, vs 1]) rfl (by simp [go_sem, q29, q30]) (add_any _ _ d 1 _ s0 s1 HH.out.2.2.2.2.1 (fits_P (n := 1) (by rw [P_one]; omega) (by omega))) ?_
    rintro e w2 ⟨v, rfl, hv, hb⟩
    exact ⟨_, rfl, _, rfl, hK.step hL (by decide) (by decide) rfl (nd_cons p0 (nd_cons p1 (nd_nil))) <| hJ.step hL rfl hb (by exact hv)⟩
  · intro L vs a w' hJ hF hP hL
    have hK := hJ
    have hJ := hK.core hL
    have q4 : (a.tmps[4]?).getD undef = .pointer (some ⟨b + 1 + 1, 0, none⟩) := hF.old 4 rfl
    have p2 : L 2 = true := hP ⟨2, .data⟩ (by simp) rfl
    have s2 : IsNat w' (vs 2) (d + 1) := hJ.sp 2 p2
    have q31 := hF.slot 2 31 rfl p2
    have p0 : L 0 = true := hK.cl 2 p2 0 (by simp)
    have p1 : L 1 = true := hK.cl 2 p2 1 (by simp)
    have x0 := cell_later hJ.bel (S3.out.cel (b + 1 + 1) 0 (.slice none 0 0))
    have y0 := (hJ.bel.frozen (World.block_lt_of_cell? _ _ (S3.out.cel (b + 1 + 1) 0 (.slice none 0 0)))).trans (S3.out.fz (b + 1 + 1) 0)
    obtain ⟨aa, nn, cc, e8⟩ := s2.isAgg
    exact run_unit (w' := (w'.setCell ⟨b + 1 + 1, 0, none⟩ (.slice aa nn cc))) rfl (by simp [execOp, go_sem, q4, q31, e8, x0, y0]) ⟨undef, rfl, hK.put hL (by decide) rfl (nd_cons p2 (nd_nil)) (nd_cons p0 (nd_cons p1 (nd_cons p2 (nd_nil)))) p2 ⟨_, e8, rfl⟩⟩
  intro L vs w' hA hK
  obtain ⟨_, w1, hb1, sv, u1, ev, ew⟩ := hK.fin (hA 3 (by simp))
  replace sv : IsNat w1 (vs 2) (d + 1) := sv
  simp only [putL, Act.put, List.setIfInBounds_toArray, List.set_cons_zero, List.set_cons_succ, Nat.reduceAdd]
  obtain ⟨aa, nn, cc, e9⟩ := sv.isAgg
  have S9 : Hid _ := S3.out.go hb1
  have k2 := S9.out.cel (b + 1 + 1) 0 (.slice none 0 0)
  have Z : Hid _ := S9.out.ret1 (r := b + 1 + 1) k2 (by simp) sv u1
  clear S3
  rw [ew]
  rw [ev] at Z sv
  go_wp2_with fail
  exact bodyPost_ret (v := .agg #[u1]) (by simp [results, Tryz.results126, go_sem, k2]) rfl ⟨_, rfl, by rw [HV.out]; exact Z.out.1, Z.out.2⟩
def fm (u : Nat) : Nat := if u / 4503599627370496 = 0 then u % 4503599627370496 else u % 4503599627370496 + 4503599627370496
def fe (u : Nat) : Nat := u / 4503599627370496 - 1
def fN (u : Nat) : Nat := fm u * 2 ^ (fe u - 1074)
def fD (u : Nat) : Nat := 2 ^ (1074 - fe u)
def nz (u : Nat) : Nat := if u = 9223372036854775808 then 0 else u
theorem fm_lt (u : Nat) : fm u < 2 ^ 53 := by unfold fm; split <;> omega
theorem fe_le {u : Nat} (h : u < 9218868437227405312) : fe u ≤ 2045 := by unfold fe; omega
theorem two_lt {a b : Nat} (h : a < b) : 2 ^ a < 2 ^ b := Nat.pow_lt_pow_right (by omega) h
theorem two_P {a n : Nat} (h : a < 64 * n) : 2 ^ a < P n := by
  rw [P_two]
  exact two_lt h
theorem fN_gen {m e n : Nat} (hm : m < 2 ^ 53) (he : 53 + e ≤ 64 * n) : m * 2 ^ e < P n := by
  rw [P_two]
  refine Nat.lt_of_lt_of_le (Nat.mul_lt_mul_of_pos_right hm (Nat.two_pow_pos e)) ?_
  rw [← Nat.pow_add]
  exact Nat.pow_le_pow_right (by omega) he
theorem fN_lt {u : Nat} (h : u < 9218868437227405312) : fN u < P 16 := fN_gen (fm_lt u) (by have := fe_le h; omega)
theorem fD_lt (u : Nat) : fD u < P 17 := two_P (by omega)
theorem fD_pos (u : Nat) : 0 < fD u := Nat.two_pow_pos _
theorem f64bits (u : Nat) (w : World) : (callFunc 78 #[.float .f64 u]).run Tryz.prog w = .ok (.value (.int .u64 (u : Int))) w := by
  rw [run_callFunc_extern Tryz.func78 (by kernel_rfl) (by kernel_rfl) (by kernel_rfl) (e := Extern.MathFloatBits.float64bits) (by kernel_rfl)]
  rfl
theorem f64frombits (u : Nat) (w : World) : (callFunc 103 #[.int .u64 (u : Int)]).run Tryz.prog w = .ok (.value (.float .f64 u)) w := by
  rw [run_callFunc_extern Tryz.func103 (by kernel_rfl) (by kernel_rfl) (by kernel_rfl) (e := Extern.MathFloatBits.float64frombits) (by kernel_rfl)]
  rfl
set_option maxHeartbeats 400000 in
theorem bits_any (u : Nat) (w : World) : Calls Tryz.prog 33 #[.float .f64 u] w fun e w' => e = .returned (.int .u64 (u : Int)) ∧ w' = w := by
  have h1 := f64bits u
  go_enter Tryz.func33, Tryz.ntmps33
  go_wp2_with fail
  go_ret
  exact ⟨rfl, rfl⟩
set_option maxHeartbeats 400000 in
theorem float_any (u : Nat) (w : World) : Calls Tryz.prog 62 #[.int .u64 (u : Int)] w fun e w' => e = .returned (.float .f64 u) ∧ w' = w := by
  have h1 := f64frombits u
  go_enter Tryz.func62, Tryz.ntmps62
  go_wp2_with fail
  go_ret
  exact ⟨rfl, rfl⟩
def isF (u : Nat) : Prop := u = 9223372036854775808 ∨ u < 9218868437227405312
set_option maxHeartbeats 4000000 in
theorem fromFloat_no (u : Nat) (w : World) (h : ¬ isF u) (hu : u < 18446744073709551616) : Calls Tryz.prog 30 #[.float .f64 u] w (MakesRB w 0 1 false) := by
  have a1 : ¬ u = 9223372036854775808 := fun e => h (.inl e)
  have a2 : ¬ u < 9218868437227405312 := fun e => h (.inr e)
  have d1 : decide (u = 9223372036854775808) = false := decide_eq_false a1
  have d1' : ((u : Int) == 9223372036854775808) = false := by simp; omega
  have d2 : decide (9218868437227405312 ≤ u) = true := decide_eq_true (by omega)
  have d2' : decide ((9218868437227405312 : Int) ≤ (u : Int)) = true := decide_eq_true (by omega)
  clear h a1 a2
  go_enter Tryz.func30, Tryz.ntmps30
  go_wp2_with fail
  refine (bits_any u _).mono ?_
  rintro e w1 ⟨rfl, rfl⟩
  go_wp2_with fail
  exact bodyPost_ret (v := .tuple #[.agg #[.slice none 0 0, .slice none 0 0], .bool false]) (by simp [results, Tryz.results30, go_sem]) rfl ⟨_, rfl, rt_zero _, bel_al (bel_refl w)⟩
set_option maxHeartbeats 4000000 in
theorem fromFloat_zero (w : World) : Calls Tryz.prog 30 #[.float .f64 9223372036854775808] w (MakesRB w 0 1 true) := by
  go_enter Tryz.func30, Tryz.ntmps30
  go_wp2_with fail
  refine (bits_any 9223372036854775808 _).mono ?_
  rintro e w1 ⟨rfl, rfl⟩
  go_wp2_with fail
  exact bodyPost_ret (v := .tuple #[.agg #[.slice none 0 0, .slice none 0 0], .bool true]) (by simp [results, Tryz.results30, go_sem]) rfl ⟨_, rfl, rt_zero _, bel_al (bel_refl w)⟩
theorem inUnits_at (v u : Value) (m f : Nat) (s : Int) (w : World) (h : IsNat w v m) (k : IsNat w u 1) (hm : Fits m) (hf : f ≤ 2045) (hs : s = 1074 - (f : Int)) :
    Calls Tryz.prog 69 #[v, u, .int .i64 s] w (Makes2N w (m * 2 ^ (f - 1074)) (2 ^ (1074 - f))) := by
  by_cases h1 : 1074 < f
  · have := inUnits_neg v u m 1 (f - 1074) s w h k hm (by omega) (by omega) (by omega)
    rw [show 1074 - f = 0 by omega]
    exact this
  have := inUnits_pos v u m 1 (1074 - f) s w h k (fits_P (n := 1) (by rw [P_one]; omega) (by omega)) (by omega) (by omega)
  rw [show f - 1074 = 0 by omega, Nat.pow_zero, Nat.mul_one]
  rw [Nat.one_mul] at this
  exact this
set_option maxHeartbeats 4000000 in
theorem fromFloat_yes (u : Nat) (w : World) (h : u < 9218868437227405312) (hT : Tab w) : Calls Tryz.prog 30 #[.float .f64 u] w (MakesRB w (fN u / Nat.gcd (fN u) (fD u)) (fD u / Nat.gcd (fN u) (fD u)) true) := by
  have d1 : decide (u = 9223372036854775808) = false := decide_eq_false (by omega)
  have d1' : ((u : Int) == 9223372036854775808) = false := by simp; omega
  have d2 : decide (9218868437227405312 ≤ u) = false := decide_eq_false (by omega)
  have d2' : decide ((9218868437227405312 : Int) ≤ (u : Int)) = false := decide_eq_false (by omega)
  have HT : Hid (Tab w ∧ u < 9218868437227405312) := ⟨hT, h⟩
  have S1 : Hid _ := (sx_start w).box (.slice none 0 0) (.slice none 0 0) 68 _ rfl
  have f6 : (w.alloc (.cells #[.slice none 0 0, .slice none 0 0] 68)).frozen? ⟨w.heap.size, 0, none⟩ = false := by simp [go_sem]
  have f7 : (w.alloc (.cells #[.slice none 0 0, .slice none 0 0] 68)).frozen? ⟨w.heap.size, 1, none⟩ = false := by simp [go_sem]
  have FZ : Hid _ := And.intro f6 f7
  obtain ⟨m0, e0⟩ : ∃ m0 : Nat, m0 = u % 4503599627370496 := ⟨_, rfl⟩
  obtain ⟨x0, ex⟩ : ∃ x0 : Nat, x0 = u / 4503599627370496 := ⟨_, rfl⟩
  have r1 : (u : Int) % 4503599627370496 = (m0 : Int) := by omega
  have r2 : (u : Int) / 4503599627370496 = (x0 : Int) := by omega
  have r3 : IntKind.i64.wrap (x0 : Int) = (x0 : Int) := by rw [IntKind.wrap_i64]; omega
  have hfm : fm u = if x0 = 0 then m0 else m0 + 4503599627370496 := by unfold fm; rw [← e0, ← ex]
  have hfe : fe u = x0 - 1 := by unfold fe; rw [← ex]
  have sN : RS (fN u) := ⟨P_up (fN_lt h) (by omega)⟩
  have sD : RS (fD u) := ⟨P_up (fD_lt u) (by omega)⟩
  have hm0 : m0 < 4503599627370496 := by omega
  have hx0 : x0 ≤ 2046 := by omega
  clear hT f6 f7 e0 ex
  go_enter Tryz.func30, Tryz.ntmps30
  go_wp2_with fail
  refine (bits_any u _).mono ?_
  rintro e w1 ⟨rfl, rfl⟩
  clear h
  by_cases h0 : 0 < x0
  · obtain ⟨m, em⟩ : ∃ m : Nat, m = m0 + 4503599627370496 := ⟨_, rfl⟩
    obtain ⟨f, ef⟩ : ∃ f : Nat, f = x0 - 1 := ⟨_, rfl⟩
    have r4 : (m0 : Int) + 4503599627370496 = (m : Int) := by omega
    have r5 : wrap64 ((x0 : Int) - 1) = (f : Int) := by rw [IntWalk.wrap64_in _ ⟨by omega, by omega⟩]; omega
    obtain ⟨s, es⟩ : ∃ s : Int, s = -1074 + (f : Int) := ⟨_, rfl⟩
    have r6 : wrap64 (-1074 + (f : Int)) = s := by rw [IntWalk.wrap64_in _ ⟨by omega, by omega⟩]; omega
    obtain ⟨s2, es2⟩ : ∃ s2 : Int, s2 = -s := ⟨_, rfl⟩
    have r7 : wrap64 (-s) = s2 := by rw [IntWalk.wrap64_in _ ⟨by omega, by omega⟩]; omega
    have r8 : IntKind.i64.wrap (-s) = s2 := by rw [IntKind.wrap_i64]; omega
    have eN : m * 2 ^ (f - 1074) = fN u := by unfold fN; rw [hfm, hfe, if_neg (by omega), ← em, ← ef]
    have eD : 2 ^ (1074 - f) = fD u := by unfold fD; rw [hfe, ← ef]
    have HF : Hid (m < 9007199254740992 ∧ f ≤ 2045 ∧ s2 = 1074 - (f : Int) ∧ (m * 2 ^ (f - 1074) = fN u ∧ 2 ^ (1074 - f) = fD u) ∧ RS (m * 2 ^ (f - 1074)) ∧ RS (2 ^ (1074 - f))) := ⟨by omega, by omega, by omega, ⟨eN, eD⟩, by rw [eN]; exact sN, by rw [eD]; exact sD⟩
    clear em ef es es2 eN eD hfm hfe sN sD hm0 hx0
    go_wp2_with fail
    refine (of_any m _ (by have := HF.out; omega)).mono ?_
    rintro e w2 ⟨v2, rfl, hv2, hb2⟩
    have FZ2 : Hid (w2.frozen? ⟨w.heap.size, 0, none⟩ = false ∧ w2.frozen? ⟨w.heap.size, 1, none⟩ = false) := ⟨(hb2.frozen (World.block_lt_of_cell? _ _ (S1.out.cel w.heap.size 0 (.slice none 0 0)))).trans FZ.out.1, (hb2.frozen (World.block_lt_of_cell? _ _ (S1.out.cel w.heap.size 1 (.slice none 0 0)))).trans FZ.out.2⟩
    have S2 : Hid _ := (S1.out.go hb2).addN hv2
    clear hv2 hb2 S1
    go_wp2_with fail
    refine (of_any 1 _ (by omega)).mono ?_
    rintro e w3 ⟨v3, rfl, hv3, hb3⟩
    have FZ3 : Hid (w3.frozen? ⟨w.heap.size, 0, none⟩ = false ∧ w3.frozen? ⟨w.heap.size, 1, none⟩ = false) := ⟨(hb3.frozen (World.block_lt_of_cell? _ _ (S2.out.cel w.heap.size 0 (.slice none 0 0)))).trans FZ2.out.1, (hb3.frozen (World.block_lt_of_cell? _ _ (S2.out.cel w.heap.size 1 (.slice none 0 0)))).trans FZ2.out.2⟩
    have S3 : Hid _ := (S2.out.go hb3).addN hv3
    clear hv3 hb3 S2
    go_wp2_with fail
    refine (inUnits_at v2 v3 m f _ _ (S3.out.at v2 m) (S3.out.at v3 1) (fits_P (n := 1) (by rw [P_one]; have := HF.out; omega) (by omega)) (by have := HF.out; omega) HF.out.2.2.1).mono ?_
    rintro e w4 ⟨v4, v5, rfl, hv4, hv5, hb4⟩
    have FZ4 : Hid (w4.frozen? ⟨w.heap.size, 0, none⟩ = false ∧ w4.frozen? ⟨w.heap.size, 1, none⟩ = false) := ⟨(hb4.frozen (World.block_lt_of_cell? _ _ (S3.out.cel w.heap.size 0 (.slice none 0 0)))).trans FZ3.out.1, (hb4.frozen (World.block_lt_of_cell? _ _ (S3.out.cel w.heap.size 1 (.slice none 0 0)))).trans FZ3.out.2⟩
    have S4 : Hid _ := ((S3.out.go hb4).addN hv4).addN hv5
    clear hv4 hv5 hb4 S3
    go_wp2_with fail
    refine (from_any v4 v5 _ _ w4 (S4.out.at v4 (m * 2 ^ (f - 1074))) (S4.out.at v5 (2 ^ (1074 - f))) HF.out.2.2.2.2.1 HF.out.2.2.2.2.2 (Nat.two_pow_pos _) (HT.out.1.go S4.out.bel)).mono ?_
    rintro e w5 ⟨v6, rfl, hv, hb⟩
    obtain ⟨a6, n6, k6, a7, n7, k7, ev, _, _⟩ := hv.raw
    subst ev
    rw [HF.out.2.2.2.1.1, HF.out.2.2.2.1.2] at hv
    have z0 := cell_later hb (S4.out.cel w.heap.size 0 (.slice none 0 0))
    have z1 := cell_later hb (S4.out.cel w.heap.size 1 (.slice none 0 0))
    have u0 : w5.frozen? ⟨w.heap.size, 0, none⟩ = false := (hb.frozen (World.block_lt_of_cell? _ _ (S4.out.cel w.heap.size 0 (.slice none 0 0)))).trans FZ4.out.1
    have u1 : w5.frozen? ⟨w.heap.size, 1, none⟩ = false := (hb.frozen (World.block_lt_of_cell? _ _ (S4.out.cel w.heap.size 1 (.slice none 0 0)))).trans FZ4.out.2
    have Z : Hid _ := rat_put (v := .slice a6 n6 k6) (u := .slice a7 n7 k7) z0 z1 hv (bel_go S4.out.bel hb) (Nat.le_refl _)
    clear hv hb S4
    go_wp2_with fail
    exact bodyPost_ret (v := .tuple #[.agg #[.slice a6 n6 k6, .slice a7 n7 k7], .bool true]) (by simp [results, Tryz.results30, go_sem, z0, z1]) rfl ⟨_, rfl, Z.out.1, Z.out.2⟩
  have x00 : x0 = 0 := by omega
  obtain ⟨f, ef⟩ : ∃ f : Nat, f = 0 := ⟨_, rfl⟩
  have eN : m0 * 2 ^ (f - 1074) = fN u := by unfold fN; rw [hfm, hfe, if_pos x00, x00, ef]
  have eD : 2 ^ (1074 - f) = fD u := by unfold fD; rw [hfe, show x0 - 1 = f by omega]
  have HF : Hid (m0 < 9007199254740992 ∧ f ≤ 2045 ∧ (1074 : Int) = 1074 - (f : Int) ∧ (m0 * 2 ^ (f - 1074) = fN u ∧ 2 ^ (1074 - f) = fD u) ∧ RS (m0 * 2 ^ (f - 1074)) ∧ RS (2 ^ (1074 - f))) := ⟨by omega, by omega, by omega, ⟨eN, eD⟩, by rw [eN]; exact sN, by rw [eD]; exact sD⟩
  clear ef x00 eN eD hfm hfe sN sD hm0 hx0
  go_wp2_with fail
  refine (of_any m0 _ (by have := HF.out; omega)).mono ?_
  rintro e w2 ⟨v2, rfl, hv2, hb2⟩
  have FZ2 : Hid (w2.frozen? ⟨w.heap.size, 0, none⟩ = false ∧ w2.frozen? ⟨w.heap.size, 1, none⟩ = false) := ⟨(hb2.frozen (World.block_lt_of_cell? _ _ (S1.out.cel w.heap.size 0 (.slice none 0 0)))).trans FZ.out.1, (hb2.frozen (World.block_lt_of_cell? _ _ (S1.out.cel w.heap.size 1 (.slice none 0 0)))).trans FZ.out.2⟩
  have S2 : Hid _ := (S1.out.go hb2).addN hv2
  clear hv2 hb2 S1
  go_wp2_with fail
  refine (of_any 1 _ (by omega)).mono ?_
  rintro e w3 ⟨v3, rfl, hv3, hb3⟩
  have FZ3 : Hid (w3.frozen? ⟨w.heap.size, 0, none⟩ = false ∧ w3.frozen? ⟨w.heap.size, 1, none⟩ = false) := ⟨(hb3.frozen (World.block_lt_of_cell? _ _ (S2.out.cel w.heap.size 0 (.slice none 0 0)))).trans FZ2.out.1, (hb3.frozen (World.block_lt_of_cell? _ _ (S2.out.cel w.heap.size 1 (.slice none 0 0)))).trans FZ2.out.2⟩
  have S3 : Hid _ := (S2.out.go hb3).addN hv3
  clear hv3 hb3 S2
  go_wp2_with fail
  refine (inUnits_at v2 v3 m0 f _ _ (S3.out.at v2 m0) (S3.out.at v3 1) (fits_P (n := 1) (by rw [P_one]; have := HF.out; omega) (by omega)) (by have := HF.out; omega) HF.out.2.2.1).mono ?_
  rintro e w4 ⟨v4, v5, rfl, hv4, hv5, hb4⟩
  have FZ4 : Hid (w4.frozen? ⟨w.heap.size, 0, none⟩ = false ∧ w4.frozen? ⟨w.heap.size, 1, none⟩ = false) := ⟨(hb4.frozen (World.block_lt_of_cell? _ _ (S3.out.cel w.heap.size 0 (.slice none 0 0)))).trans FZ3.out.1, (hb4.frozen (World.block_lt_of_cell? _ _ (S3.out.cel w.heap.size 1 (.slice none 0 0)))).trans FZ3.out.2⟩
  have S4 : Hid _ := ((S3.out.go hb4).addN hv4).addN hv5
  clear hv4 hv5 hb4 S3
  go_wp2_with fail
  refine (from_any v4 v5 _ _ w4 (S4.out.at v4 (m0 * 2 ^ (f - 1074))) (S4.out.at v5 (2 ^ (1074 - f))) HF.out.2.2.2.2.1 HF.out.2.2.2.2.2 (Nat.two_pow_pos _) (HT.out.1.go S4.out.bel)).mono ?_
  rintro e w5 ⟨v6, rfl, hv, hb⟩
  obtain ⟨a6, n6, k6, a7, n7, k7, ev, _, _⟩ := hv.raw
  subst ev
  rw [HF.out.2.2.2.1.1, HF.out.2.2.2.1.2] at hv
  have z0 := cell_later hb (S4.out.cel w.heap.size 0 (.slice none 0 0))
  have z1 := cell_later hb (S4.out.cel w.heap.size 1 (.slice none 0 0))
  have u0 : w5.frozen? ⟨w.heap.size, 0, none⟩ = false := (hb.frozen (World.block_lt_of_cell? _ _ (S4.out.cel w.heap.size 0 (.slice none 0 0)))).trans FZ4.out.1
  have u1 : w5.frozen? ⟨w.heap.size, 1, none⟩ = false := (hb.frozen (World.block_lt_of_cell? _ _ (S4.out.cel w.heap.size 1 (.slice none 0 0)))).trans FZ4.out.2
  have Z : Hid _ := rat_put (v := .slice a6 n6 k6) (u := .slice a7 n7 k7) z0 z1 hv (bel_go S4.out.bel hb) (Nat.le_refl _)
  clear hv hb S4
  go_wp2_with fail
  exact bodyPost_ret (v := .tuple #[.agg #[.slice a6 n6 k6, .slice a7 n7 k7], .bool true]) (by simp [results, Tryz.results30, go_sem, z0, z1]) rfl ⟨_, rfl, Z.out.1, Z.out.2⟩
end Go.Proofs.YtchomkadekikdaaGreatDoor
