/- Contracts of the program's functions, part 6: own work, joined in build order. -/
import Derived.Test.YtfkkomppfghagaaGreatDoorJ5
import Derived.Deep.DeepCutAuto
import Derived.Deep.Light
namespace Go.Proofs.YtfkkomppfghagaaGreatDoor
open Go.RowKit
set_option maxRecDepth 100000
set_option linter.unusedVariables false
def lim2 : Nat := 1000000
structure Small (x : Nat) : Prop where
  lt : x < P lim2
theorem Small.fits {x : Nat} (h : Small x) : Fits x := ⟨Nat.lt_of_lt_of_le h.lt (P_le (show lim2 ≤ lim by decide))⟩
theorem Small.le {x y : Nat} (h : Small x) (hy : y ≤ x) : Small y := ⟨Nat.lt_of_le_of_lt hy h.lt⟩
theorem Small.up {x s : Nat} (h : Small x) (hs : s ≤ 64) : Fits (x * 2 ^ s) := by
  refine ⟨Nat.lt_of_lt_of_le ?_ (P_le (show lim2 + 1 ≤ lim by decide))⟩
  rw [P_succ, show (18446744073709551616 : Nat) = 2 ^ 64 from rfl]
  have h1 : (2 : Nat) ^ s ≤ 2 ^ 64 := Nat.pow_le_pow_right (by omega) hs
  have h2 : x * 2 ^ s ≤ x * 2 ^ 64 := Nat.mul_le_mul_left _ h1
  have h3 : x * 2 ^ 64 < P lim2 * 2 ^ 64 := Nat.mul_lt_mul_of_pos_right h.lt (by decide)
  exact Nat.lt_of_le_of_lt h2 h3
theorem norm_len {w : World} {a : Option Addr} {n cap m z : Nat} (h : IsNat w (.agg #[.slice a n cap]) z) (hlo : P m * 9223372036854775808 ≤ z) (hhi : z < P (m + 1)) :
    n = m + 1 ∧ ∃ F, Sl w a n cap F ∧ V F n = z ∧ 9223372036854775808 ≤ F m := by
  obtain ⟨F, hs, h0, h1, hv⟩ := h.fits
  have hp := P_pos m
  have l1 : n ≤ m + 1 := len_le_of (hv.symm ▸ hhi) h1
  have l2 : m + 1 ≤ n := by
    rcases Nat.lt_or_ge n (m + 1) with hh | hh
    · have a1 := V_lt hs.2.2.1
      have a2 := P_le (show n ≤ m by omega)
      omega
    exact hh
  obtain rfl : n = m + 1 := by omega
  refine ⟨rfl, F, hs, hv, ?_⟩
  rcases Nat.lt_or_ge (F m) 9223372036854775808 with hh | hh
  · have a1 := V_lt (hs.2.2.1.mono (Nat.le_succ m))
    have a2 : (F m + 1) * P m ≤ 9223372036854775808 * P m := Nat.mul_le_mul_right _ hh
    rw [V_succ] at hv
    rw [Nat.add_mul, Nat.one_mul] at a2
    rw [Nat.mul_comm] at hlo
    omega
  exact hh
theorem norm_vals {F : Nat → Nat} {m s : Nat} (hF : Ok F (m + 1)) (h0 : F m ≠ 0) (hs : s = 64 - bitLen (F m)) : P m * 9223372036854775808 ≤ V F (m + 1) * 2 ^ s ∧ V F (m + 1) * 2 ^ s < P (m + 1) ∧ s ≤ 63 := by
  obtain ⟨n1, n2, n3⟩ := norm_bounds (F m) (by omega) (hF m (by omega))
  rw [← hs] at n1 n2 n3
  have hl := V_lt (hF.mono (Nat.le_succ m))
  have hsp := bitLen_spec (F m)
  have hb := bitLen_le64 (F m) (hF m (by omega))
  refine ⟨?_, ?_, n3⟩
  · have h1 : F m * P m ≤ V F (m + 1) := by rw [V_succ]; exact Nat.le_add_left _ _
    have h2 := Nat.mul_le_mul_right (2 ^ s) h1
    have h3 := Nat.mul_le_mul_left (P m) n2
    rw [Nat.mul_right_comm, Nat.mul_comm (F m * 2 ^ s)] at h2
    exact Nat.le_trans h3 h2
  have h1 : V F (m + 1) < (F m + 1) * P m := by rw [V_succ, Nat.add_mul]; omega
  have h2 := Nat.mul_lt_mul_of_pos_right h1 (Nat.two_pow_pos s)
  have h3 : (F m + 1) * 2 ^ s ≤ 18446744073709551616 := by
    have := Nat.mul_le_mul_right (2 ^ s) hsp.1
    rw [← Nat.pow_add, show bitLen (F m) + s = 64 by omega] at this
    exact this
  have h4 := Nat.mul_le_mul_left (P m) h3
  rw [Nat.mul_right_comm, Nat.mul_comm ((F m + 1) * 2 ^ s)] at h2
  rw [P_succ]
  exact Nat.lt_of_lt_of_le h2 h4
theorem bel_al {a w : World} {o : Obj} (h : Below a.heap.size a w) : Below a.heap.size a (w.alloc o) := h.alloc h.size o
theorem bel_dr {a w : World} (h : Below a.heap.size a w) : Below a.heap.size a w.drew := h.drew
theorem bel_st {a w : World} {p : Addr} {u : Value} (h : Below a.heap.size a w) (hp : a.heap.size ≤ p.block) : Below a.heap.size a (w.setCell p u) := h.setCell hp u
theorem bel_go {a b c : World} (h : Below a.heap.size a b) (k : Below b.heap.size b c) : Below a.heap.size a c := bel_trans h k
def TwoVars (w2 wx : World) (Q R : Nat) (p q : Value) : Prop := ∃ (bp bq : Nat) (a5 : Option Addr) (n5 c5 : Nat) (a6 : Option Addr) (n6 c6 : Nat), p = .pointer (some ⟨bp, 0, none⟩) ∧ q = .pointer (some ⟨bq, 0, none⟩) ∧ wx.cell? ⟨bp, 0, none⟩ = some (.slice a5 n5 c5) ∧ wx.cell? ⟨bq, 0, none⟩ = some (.slice a6 n6 c6) ∧ IsNat wx (.agg #[.slice a5 n5 c5]) Q ∧ IsNat wx (.agg #[.slice a6 n6 c6]) R ∧ Below w2.heap.size w2 wx ∧ w2.heap.size ≤ bp ∧ w2.heap.size ≤ bq
theorem bel_rules {W w' : World} (h : Below W.heap.size W w') : (∀ b o, b < W.heap.size → w'.cell? ⟨b, o, none⟩ = W.cell? ⟨b, o, none⟩) ∧ (∀ b o, b < W.heap.size → w'.frozen? ⟨b, o, none⟩ = W.frozen? ⟨b, o, none⟩) ∧ (∀ b, b < W.heap.size → b < w'.heap.size) ∧ (∀ b, b < W.heap.size → b < w'.heap.size + 1) ∧ (∀ b, b < W.heap.size → b < w'.heap.size + 1 + 1) ∧ (∀ b, b < W.heap.size → ¬ b = w'.heap.size) ∧ (∀ b, b < W.heap.size → ¬ w'.heap.size = b) ∧ (∀ b, b < W.heap.size → ¬ b = w'.heap.size + 1) ∧ (∀ b, b < W.heap.size → ¬ w'.heap.size + 1 = b) := by
  have hs := h.size
  refine ⟨fun b o hb => h.cell hb, fun b o hb => h.frozen hb, fun b hb => by omega, fun b hb => by omega, fun b hb => by omega, fun b hb => by omega, fun b hb => by omega, fun b hb => by omega, fun b hb => by omega⟩
theorem bel_undrew {B : Nat} {w w' : World} (h : Below B w.drew w') : Below B w w' := ⟨h.os, h.tape, h.output, h.size, h.block⟩
theorem bel_rules_dr {W w' : World} (h : Below W.drew.heap.size W.drew w') : (∀ b o, b < W.heap.size → w'.cell? ⟨b, o, none⟩ = W.cell? ⟨b, o, none⟩) ∧ (∀ b o, b < W.heap.size → w'.frozen? ⟨b, o, none⟩ = W.frozen? ⟨b, o, none⟩) ∧ (∀ b, b < W.heap.size → b < w'.heap.size) ∧ (∀ b, b < W.heap.size → b < w'.heap.size + 1) ∧ (∀ b, b < W.heap.size → b < w'.heap.size + 1 + 1) ∧ (∀ b, b < W.heap.size → ¬ b = w'.heap.size) ∧ (∀ b, b < W.heap.size → ¬ w'.heap.size = b) ∧ (∀ b, b < W.heap.size → ¬ b = w'.heap.size + 1) ∧ (∀ b, b < W.heap.size → ¬ w'.heap.size + 1 = b) := bel_rules (W := W) (bel_undrew h)
theorem lt_al {w w' : World} {o : Obj} (p : ∀ b, b < (w.alloc o).heap.size → b < w'.heap.size) : w.heap.size < w'.heap.size := p _ (by simp)
theorem lt_al2 {w w' : World} {o o' : Obj} (p : ∀ b, b < ((w.alloc o).alloc o').heap.size → b < w'.heap.size) : w.heap.size < w'.heap.size := p _ (by simp <;> omega)
theorem lt_al3 {w w' : World} {o o' : Obj} (p : ∀ b, b < ((w.alloc o).alloc o').heap.size → b < w'.heap.size) : w.heap.size + 1 < w'.heap.size := p _ (by simp)
theorem divide_nat (v u : Value) (x y k n : Nat) (w : World) (h : IsNat w v x) (kk : IsNat w u y) (hx : Fits x) (hlo : P (k + 1) * 9223372036854775808 ≤ y) (hhi : y < P (k + 2)) (hle : y ≤ x) (hxn : x < P n) (hsh : k + 2 < 100 ∨ n < k + 2 + 100) :
    Calls Tryz.prog 127 #[v, u] w (MakesQR w (x / y) (x % y)) := by
  obtain ⟨a, lx, cap, rfl⟩ := h.isAgg
  obtain ⟨a', m, cap', rfl⟩ := kk.isAgg
  obtain ⟨rfl, G, ks, kv, ht⟩ := norm_len kk hlo hhi
  obtain ⟨F, hs, h0, h1, hv⟩ := h.fits
  obtain ⟨b', o', rfl, kw⟩ := ks.at 0 (by omega)
  have l1 : lx ≤ 4294967296 := fits_len (hv.symm ▸ hx) h1
  have l2 : lx ≤ n := len_le_of (hv.symm ▸ hxn) h1
  have l3 : k + 2 ≤ lx := by
    rcases Nat.lt_or_ge lx (k + 2) with hh | hh
    · have a1 := V_lt hs.2.2.1
      have a2 := P_le (show lx ≤ k + 1 by omega)
      have hp := P_pos (k + 1)
      omega
    exact hh
  have := divide_short a lx cap b' o' k cap' F G w hs ks l3 l1 ht (by omega)
  rw [hv, kv] at this
  exact this
set_option maxHeartbeats 4000000 in
theorem divMod_long (a : Option Addr) (n cap : Nat) (a' : Option Addr) (k cap' : Nat) (x y : Nat) (w : World) (h : IsNat w (.agg #[.slice a n cap]) x) (kk : IsNat w (.agg #[.slice a' (k + 2) cap']) y) (hx : Small x) (hle : y ≤ x) (hsh : k + 2 < 100 ∨ n + 1 < k + 2 + 100) :
    Calls Tryz.prog 100 #[.agg #[.slice a n cap], .agg #[.slice a' (k + 2) cap']] w (MakesQRB w (x / y) (x % y) true) := by
  obtain ⟨F, hs, h0, h1, hv⟩ := h.fits
  obtain ⟨G, ks, k0, k1, kv⟩ := kk.fits
  have hn : n ≤ 4294967296 := fits_len (hv.symm ▸ hx.fits) h1
  have hkk : k + 2 ≤ 4294967296 := fits_len (kv.symm ▸ (hx.le hle).fits) k1
  obtain ⟨b', o', rfl, kw⟩ := ks.at 0 (by omega)
  have kc : w.cell? ⟨b', o' + (k + 1), none⟩ = some (.int .u64 (G (k + 1) : Nat)) := kw (k + 1) (by omega)
  have hGk : G (k + 1) < 18446744073709551616 := ks.2.2.1 _ (by omega)
  obtain ⟨s, hs'⟩ : ∃ s, s = 64 - bitLen (G (k + 1)) := ⟨_, rfl⟩
  obtain ⟨v1, v2, v3⟩ := norm_vals ks.2.2.1 (k1 (by omega)) hs'
  rw [kv] at v1 v2
  have HH : Hid (IsNat w (.agg #[.slice a n cap]) x ∧ IsNat w (.agg #[.slice (some ⟨b', o', none⟩) (k + 2) cap']) y) := And.intro h kk
  have HF : Hid (Small x ∧ Small y) := And.intro hx (hx.le hle)
  have HV : Hid (P (k + 1) * 9223372036854775808 ≤ y * 2 ^ s ∧ y * 2 ^ s < P (k + 2) ∧ s = 64 - bitLen (G (k + 1))) := ⟨v1, v2, hs'⟩
  have HB : Hid (Below w.heap.size w ((((w.alloc (.cells #[.slice a n cap] 45)).alloc (.cells #[.slice (some ⟨b', o', none⟩) (k + 2) cap'] 45)).alloc (.cells #[.slice none 0 0] 45)).alloc (.cells #[.slice none 0 0] 45))) := ((bel_alloc2 _ _ _).alloc (by simp <;> omega) _).alloc (by simp <;> omega) _
  have HKC : Hid _ := kc
  have hb0 : ((k : Int) + 2 == 0) = false := by simp <;> omega
  have hb1 : ((k : Int) + 2 == 1) = false := by simp <;> omega
  clear h kk hx hs h0 h1 hv ks k0 k1 kv kw kc v1 v2 hs'
  go_enter Tryz.func100, Tryz.ntmps100
  go_wp2_with fail
  refine (cmp_any _ _ x y _ (HH.out.1.mono HB.out) (HH.out.2.mono HB.out) HF.out.1.fits HF.out.2.fits).mono ?_
  rintro e w1 ⟨rfl, hbb1⟩
  have c0 : w1.cell? ⟨w.heap.size, 0, none⟩ = some (.slice a n cap) := cell_later hbb1 (by simp [go_sem])
  have c1 : w1.cell? ⟨w.heap.size + 1, 0, none⟩ = some (.slice (some ⟨b', o', none⟩) (k + 2) cap') := cell_later hbb1 (by simp [go_sem])
  have c2 : w1.cell? ⟨w.heap.size + 1 + 1, 0, none⟩ = some (.slice none 0 0) := cell_later hbb1 (by simp [go_sem])
  have c3 : w1.cell? ⟨w.heap.size + 1 + 1 + 1, 0, none⟩ = some (.slice none 0 0) := cell_later hbb1 (by simp [go_sem])
  have f2 : w1.frozen? ⟨w.heap.size + 1 + 1, 0, none⟩ = false := (hbb1.frozen (by simp <;> omega)).trans (by simp [go_sem])
  have f3 : w1.frozen? ⟨w.heap.size + 1 + 1 + 1, 0, none⟩ = false := (hbb1.frozen (by simp <;> omega)).trans (by simp [go_sem])
  have B1 : Hid (Below w.heap.size w w1) := bel_trans HB.out hbb1
  have kc1 := cell_later B1.out HKC.out
  have hcn : decide (cmpI x y < 0) = false := decide_eq_false (by unfold cmpI; split <;> (try split) <;> omega)
  clear hbb1
  go_wp2_with fail
  refine (lz64_s (G (k + 1)) s _ hGk HV.out.2.2).mono ?_
  rintro e w2 ⟨rfl, rfl⟩
  go_wp2_with fail
  have HX1 : Hid (IsNat w2 (.agg #[.slice a n cap]) x ∧ IsNat w2 (.agg #[.slice (some ⟨b', o', none⟩) (k + 2) cap']) y) := ⟨HH.out.1.mono B1.out, HH.out.2.mono B1.out⟩
  have hs36 : s ≤ 68719476736 := by omega
  have hl0 : w.heap.size < w2.heap.size := World.block_lt_of_cell? _ _ c0
  have DX : Hid (x * 2 ^ s < P (n + 1) ∧ y * 2 ^ s ≤ x * 2 ^ s) := by
    obtain ⟨F, q1, q2, q3, q4⟩ := HH.out.1.fits
    refine ⟨?_, Nat.mul_le_mul_right _ hle⟩
    rw [P_succ, ← q4]
    have h1 : (2 : Nat) ^ s ≤ 18446744073709551616 := (Nat.pow_le_pow_right (by omega) (by omega) : (2 : Nat) ^ s ≤ 2 ^ 64)
    exact Nat.lt_of_le_of_lt (Nat.mul_le_mul_left _ h1) (Nat.mul_lt_mul_of_pos_right (V_lt q1.2.2.1) (by omega))
  have SH : Hid (k + 2 < 100 ∨ n + 1 < k + 2 + 100) := hsh
  have HF2 : Hid (Fits (x * 2 ^ s)) := HF.out.1.up (by omega)
  clear hsh HH HB HKC kc1
  have h1 := HX1.out.1
  have hl1 : w.heap.size + 1 < w2.heap.size := World.block_lt_of_cell? _ _ c1
  have hl2 : w.heap.size < w2.heap.size + 1 := by omega
  have hl3 : w.heap.size + 1 < w2.heap.size + 1 := by omega
  have hl4 : w.heap.size < w2.heap.size + 1 + 1 := by omega
  have hl5 : w.heap.size + 1 < w2.heap.size + 1 + 1 := by omega
  go_cut [10, 11] (fun p q wx => TwoVars w2 wx (x * 2 ^ s / (y * 2 ^ s)) (x * 2 ^ s % (y * 2 ^ s)) p q)
  case first =>
    go_region_held3 (fun w' => w'.cell? ⟨w.heap.size, 0, none⟩ = some (.slice a n cap) ∧ w'.cell? ⟨w.heap.size + 1, 0, none⟩ = some (.slice (some ⟨b', o', none⟩) (k + 2) cap')) (first | (simp [go_sem, *]; done) | (trace_state; fail))
      (first
        | (go_at_call_of 98 (Value.agg #[Value.slice a n cap]); refine Calls.mono (up_any _ x s _ ?_ HF.out.1.fits hs36) ?_; (refine IsNat.mono HX1.out.1 ?_; repeat (first | exact Below.refl _ _ | refine bel_al ?_ | refine bel_dr ?_)); rintro e w3 ⟨v3, rfl, hv3, hb3⟩; obtain ⟨a3, n3, cap3, rfl⟩ := hv3.isAgg; (first | have ⟨p1, p2, p3, p4, p5, p6, p7, p8, p9⟩ := bel_rules_dr hb3 | have ⟨p1, p2, p3, p4, p5, p6, p7, p8, p9⟩ := bel_rules hb3); have X3 : Hid (IsNat w3 (.agg #[.slice a3 n3 cap3]) (x * 2 ^ s)) := hv3; (have B3 : Hid (Below w2.heap.size w2 w3) := bel_go (by repeat (first | exact Below.refl _ _ | refine bel_al ?_ | refine bel_dr ?_)) hb3); have z3 := B3.out.size; have g0 := Nat.lt_of_lt_of_le hl0 z3; have g1 := Nat.lt_of_lt_of_le hl1 z3; (first | have e0 : w2.heap.size < w3.heap.size := lt_al p3 | (have e0 : w2.heap.size < w3.heap.size := lt_al2 p3; have e1 : w2.heap.size + 1 < w3.heap.size := lt_al3 p3) | skip); clear hv3 hb3 z3)
        | (go_at_call 98; refine Calls.mono (up_any _ y s _ ?_ HF.out.2.fits hs36) ?_; (refine IsNat.mono HX1.out.2 ?_; repeat (first | exact Below.refl _ _ | exact B3.out | refine bel_al ?_ | refine bel_dr ?_)); rintro e w4 ⟨v4, rfl, hv4, hb4⟩; obtain ⟨a4, n4, cap4, rfl⟩ := hv4.isAgg; (first | have ⟨q1, q2, q3, q4, q5, q6, q7, q8, q9⟩ := bel_rules_dr hb4 | have ⟨q1, q2, q3, q4, q5, q6, q7, q8, q9⟩ := bel_rules hb4); have X4 : Hid (IsNat w4 (.agg #[.slice a4 n4 cap4]) (y * 2 ^ s)) := hv4; (have B4 : Hid (Below w3.heap.size w3 w4) := bel_go (by repeat (first | exact Below.refl _ _ | refine bel_al ?_ | refine bel_dr ?_)) hb4); have z4 := B4.out.size; have g2 := Nat.lt_of_lt_of_le g0 z4; have g3 := Nat.lt_of_lt_of_le g1 z4; (try have e2 := Nat.lt_of_lt_of_le e0 z4); (try have e3 := Nat.lt_of_lt_of_le e1 z4); (first | have e4 : w3.heap.size < w4.heap.size := lt_al q3 | (have e4 : w3.heap.size < w4.heap.size := lt_al2 q3; have e5 : w3.heap.size + 1 < w4.heap.size := lt_al3 q3) | skip); clear hv4 hb4 z4)
        | (go_at_call 127; refine Calls.mono (divide_nat _ _ (x * 2 ^ s) (y * 2 ^ s) k (n + 1) _ (IsNat.mono (X3.out) ?_) (IsNat.mono (X4.out) ?_) HF2.out HV.out.1 HV.out.2.1 DX.out.2 DX.out.1 SH.out) ?_; (repeat (first | exact Below.refl _ _ | exact B4.out | refine bel_al ?_ | refine bel_dr ?_)); (repeat (first | exact Below.refl _ _ | refine bel_al ?_ | refine bel_dr ?_)); rintro e w5 ⟨v5, u5, rfl, hv5, hu5, hb5⟩; obtain ⟨a5, n5, cap5, rfl⟩ := hv5.isAgg; obtain ⟨a6, n6, cap6, rfl⟩ := hu5.isAgg; (first | have ⟨r1, r2, r3, r4, r5, r6, r7, r8, r9⟩ := bel_rules_dr hb5 | have ⟨r1, r2, r3, r4, r5, r6, r7, r8, r9⟩ := bel_rules hb5); have X5 : Hid (IsNat w5 (.agg #[.slice a5 n5 cap5]) (x * 2 ^ s / (y * 2 ^ s)) ∧ IsNat w5 (.agg #[.slice a6 n6 cap6]) (x * 2 ^ s % (y * 2 ^ s))) := ⟨hv5, hu5⟩; (have B5 : Hid (Below w4.heap.size w4 w5) := bel_go (by repeat (first | exact Below.refl _ _ | refine bel_al ?_ | refine bel_dr ?_)) hb5); have z5 := B5.out.size; have g4 := Nat.lt_of_lt_of_le g2 z5; have g5 := Nat.lt_of_lt_of_le g3 z5; (try have e6 := Nat.lt_of_lt_of_le e2 z5); (try have e7 := Nat.lt_of_lt_of_le e3 z5); (try have e8 := Nat.lt_of_lt_of_le e4 z5); (try have e9 := Nat.lt_of_lt_of_le e5 z5); (first | have ea : w4.heap.size < w5.heap.size := lt_al r3 | (have ea : w4.heap.size < w5.heap.size := lt_al2 r3; have eb : w4.heap.size + 1 < w5.heap.size := lt_al3 r3) | skip); clear hv5 hu5 hb5 z5))
    all_goals (have y3 := B3.out.size; have y4 := B4.out.size; have y5 := B5.out.size)
    all_goals go_wp2_with fail
    all_goals go_meet
    all_goals go_light
    all_goals clear hle hn hkk hGk HF HV hb0 hb1 hcn f2 f3 B1 HX1 hs36 DX SH HF2 h1 X3 X4 c0 c1 c2 c3
    all_goals (have BB := bel_go (bel_go B3.out B4.out) B5.out)
    all_goals (have X6 := X5.out.1)
    all_goals (have X7 := X5.out.2)
    all_goals clear X5 B3 B4 B5
    all_goals refine ⟨_, _, a5, n5, cap5, a6, n6, cap6, rfl, rfl, ?_, ?_, ?_, ?_, ?_, ?_, ?_⟩
    all_goals try (simp (config := { maxDischargeDepth := 9 }) [go_sem, *]; done)
    all_goals try (repeat (first | exact BB | refine bel_al ?_ | refine bel_st ?_ (Nat.le_trans ?_ (Nat.le_refl _))))
    all_goals try (repeat (first | exact X6 | exact X7 | refine IsNat.mono ?_ (bel_al (Below.refl _ _)) | refine IsNat.setCell ?_ (no_int_slice (a := none) (n := 0) (c := 0) ?_) _))
    all_goals try omega
    all_goals try (simp (config := { maxDischargeDepth := 9 }) [go_sem, *]; done)
    all_goals (dsimp only; omega)
  case rest =>
    obtain ⟨bp, bq, a5, n5, cap5, a6, n6, cap6, rfl, rfl, d0, d1, hv5, hu5, hB, lp, lq⟩ := hcut
    have hl6 : w.heap.size + 1 + 1 + 1 < w2.heap.size := World.block_lt_of_cell? _ _ c3
    have m0 : ¬ bp = w.heap.size + 1 + 1 := by omega
    have m1 : ¬ bp = w.heap.size + 1 + 1 + 1 := by omega
    have m2 : ¬ bq = w.heap.size + 1 + 1 := by omega
    have m3 : ¬ bq = w.heap.size + 1 + 1 + 1 := by omega
    have m4 : ¬ w.heap.size + 1 + 1 = bp := by omega
    have m5 : ¬ w.heap.size + 1 + 1 + 1 = bp := by omega
    have m6 : ¬ w.heap.size + 1 + 1 = bq := by omega
    have m7 : ¬ w.heap.size + 1 + 1 + 1 = bq := by omega
    have X5 : Hid (IsNat wc (.agg #[.slice a5 n5 cap5]) (x * 2 ^ s / (y * 2 ^ s)) ∧ IsNat wc (.agg #[.slice a6 n6 cap6]) (x * 2 ^ s % (y * 2 ^ s))) := ⟨hv5, hu5⟩
    have d2 := cell_later hB c2
    have d3 := cell_later hB c3
    have e2 := (hB.frozen (World.block_lt_of_cell? _ _ c2)).trans f2
    have e3 := (hB.frozen (World.block_lt_of_cell? _ _ c3)).trans f3
    have l0 := World.block_lt_of_cell? _ _ d0
    have l1 := World.block_lt_of_cell? _ _ d1
    have l2 := World.block_lt_of_cell? _ _ d2
    have l3 := World.block_lt_of_cell? _ _ d3
    have BW : Hid (Below w.heap.size w wc) := bel_trans B1.out hB
    have FR : Hid (Fits (x * 2 ^ s % (y * 2 ^ s))) := ⟨Nat.lt_of_le_of_lt (Nat.mod_le _ _) HF2.out.lt⟩
    have hsa : (-9223372036854775808 : Int) ≤ (s : Int) := by omega
    have hsb : (s : Int) ≤ 9223372036854775807 := by omega
    clear hv5 hu5 hB lp lq hl6 c0 c1 c2 c3 f2 f3 hl0 hl1 hl2 hl3 hl4 hl5 h1 HX1 HF2 DX SH HV HF B1 hcn hb0 hb1 hGk
    go_wp2_with fail
    go_region_held3 (fun w' => w'.cell? ⟨bp, 0, none⟩ = some (.slice a5 n5 cap5) ∧ w'.cell? ⟨bq, 0, none⟩ = some (.slice a6 n6 cap6)) (simp [go_sem, *])
      (first
        | (go_at_call 97; refine Calls.mono (right_any _ (x * 2 ^ s % (y * 2 ^ s)) s _ ?_ FR.out hsa hsb) ?_; (refine IsNat.mono X5.out.2 ?_; repeat (first | exact Below.refl _ _ | refine bel_al ?_ | refine bel_dr ?_)); rintro e w6 ⟨v6, rfl, hv6, hb6⟩; obtain ⟨a7, n7, cap7, rfl⟩ := hv6.isAgg; (first | have ⟨p1, p2, p3, p4, p5, p6, p7, p8, p9⟩ := bel_rules_dr hb6 | have ⟨p1, p2, p3, p4, p5, p6, p7, p8, p9⟩ := bel_rules hb6); have X6 : Hid (IsNat w6 (.agg #[.slice a7 n7 cap7]) (x * 2 ^ s % (y * 2 ^ s) / 2 ^ (s : Int).toNat)) := hv6; (have B6 : Hid (Below wc.heap.size wc w6) := bel_go (by repeat (first | exact Below.refl _ _ | refine bel_al ?_ | refine bel_dr ?_)) hb6); clear hv6 hb6))
    have d4 := cell_later B6.out d2
    have d5 := cell_later B6.out d3
    go_wp2_with fail
    have n1 : ∀ kk q, (w6.setCell ⟨w.heap.size + 1 + 1, 0, none⟩ (.slice a5 n5 cap5)).cell? ⟨w.heap.size + 1 + 1 + 1, 0, none⟩ ≠ some (.int kk q) := by
      rw [World.cell?_setCell_far _ _ _ _ (by simp)]
      exact no_int_slice d5
    have BX := bel_trans BW.out B6.out
    refine bodyPost_ret (v := .tuple #[.agg #[.slice a5 n5 cap5], .agg #[.slice a7 n7 cap7], .bool true]) (by simp [results, Tryz.results100, go_sem, d4, d5]) rfl ⟨_, _, rfl, ?_, ?_, (BX.setCell (by simp <;> omega) _).setCell (by simp <;> omega) _⟩
    · have := X5.out.1.mono B6.out
      rw [Nat.mul_div_mul_right _ _ (Nat.two_pow_pos s)] at this
      exact (this.setCell (no_int_slice d4) _).setCell n1 _
    have := X6.out
    rw [Int.toNat_natCast, Nat.mul_mod_mul_right, Nat.mul_div_cancel _ (Nat.two_pow_pos s)] at this
    exact (this.setCell (no_int_slice d4) _).setCell n1 _
theorem divMod_198 (v u : Value) (x y : Nat) (w : World) (h : IsNat w v x) (k : IsNat w u y) (hy : Small y) (hy0 : 0 < y) (hx : x < P 198) (hxs : Small x) :
    Calls Tryz.prog 100 #[v, u] w (MakesQRB w (x / y) (x % y) true) := by
  rcases Nat.lt_or_ge x y with hl | hl
  · exact divMod_lt v u x y w h k hxs.fits hy.fits hl
  obtain ⟨a, n, cap, rfl⟩ := h.isAgg
  obtain ⟨a', m, cap', rfl⟩ := k.isAgg
  obtain ⟨G, ks, k0, k1, kv⟩ := id k.fits
  rcases m with _ | _ | m
  · rw [V_zero] at kv
    omega
  · exact divMod_word a n cap a' cap' x y w h k hxs.fits hy.fits hl
  obtain ⟨F, hs, h0, h1, hv⟩ := id h.fits
  refine divMod_long a n cap a' m cap' x y w h k hxs hl ?_
  have e2 := len_le_of (hv.symm ▸ hx) h1
  omega
def sg (s : Bool) : Int := if s then -1 else 1
theorem sg_f : sg false = 1 := rfl
theorem sg_t : sg true = -1 := rfl
theorem lemA {u v q X B : Nat} (h : u ≤ v) (hq : v ≤ q) (hX : X < B) : u * X + v ≤ q * B := by
  have h1 : u * X ≤ v * X := Nat.mul_le_mul_right _ h
  have h2 : v * (X + 1) ≤ q * B := Nat.mul_le_mul hq hX
  rw [Nat.mul_add] at h2
  omega
structure Fs (X Y x0 y0 p q u0 u1 u2 v0 v1 v2 : Nat) (s : Bool) : Prop where
  hp : (p : Int) = sg s * (u1 * x0 - v1 * y0)
  hq : (q : Int) = - (sg s * (u2 * x0 - v2 * y0))
  i1 : v2 * p + v1 * q = x0
  i2 : u2 * p + u1 * q = y0
  l2 : u2 ≤ v2
  l12 : u1 + u2 ≤ v1 + v2
  pos : 1 ≤ v2
  qp : q ≤ p
  det : sg s * ((u1 : Int) * v2 - v1 * u2) = 1
  zero : v1 = 0 → u1 = 1 ∧ u2 = 0 ∧ v2 = 1 ∧ s = false ∧ v0 = 0
  a1 : 0 ≤ sg s * ((u1 : Int) * X - v1 * Y)
  a1Y : v1 ≠ 0 → sg s * ((u1 : Int) * X - v1 * Y) ≤ Y
  a0 : v0 ≠ 0 → - (sg s * ((u0 : Int) * X - v0 * Y)) ≤ Y ∧ sg s * ((u1 : Int) * X - v1 * Y) < - (sg s * ((u0 : Int) * X - v0 * Y)) ∧ sg s * ((v0 : Int) * u1 - u0 * v1) = 1
theorem Fs.start {X Y x0 y0 : Nat} (h : y0 ≤ x0) : Fs X Y x0 y0 x0 y0 0 1 0 0 0 1 false := by
  constructor <;> (try simp [sg]) <;> omega
theorem sg_not (s : Bool) : sg (!s) = - sg s := by cases s <;> rfl
theorem Fs.real {X Y x0 y0 B X' Y' p q u0 u1 u2 v0 v1 v2 : Nat} {s : Bool} (h : Fs X Y x0 y0 p q u0 u1 u2 v0 v1 v2 s) (hX : X = x0 * B + X') (hY : Y = y0 * B + Y') (hX' : X' < B) (hY' : Y' < B) (c1 : v2 ≤ q) (c2 : v1 + v2 ≤ p - q) :
    0 ≤ - (sg s * ((u2 : Int) * X - v2 * Y)) ∧ - (sg s * ((u2 : Int) * X - v2 * Y)) < sg s * ((u1 : Int) * X - v1 * Y) := by
  have a1 := lemA h.l2 c1 hX'
  have a2 := lemA (Nat.le_refl v2) c1 hY'
  have a3 := lemA h.l12 c2 hX'
  have a4 := lemA (Nat.le_refl (v1 + v2)) c2 hY'
  have hp := h.hp
  have hq := h.hq
  have hqp := h.qp
  have hpos := h.pos
  have e1 : ((p - q : Nat) : Int) = p - q := by omega
  have a1' : (u2 : Int) * X' + v2 ≤ q * B := by exact_mod_cast a1
  have a2' : (v2 : Int) * Y' + v2 ≤ q * B := by exact_mod_cast a2
  have a3' : ((u1 : Int) + u2) * X' + (v1 + v2) ≤ ((p - q : Nat) : Int) * B := by exact_mod_cast a3
  have a4' : ((v1 : Int) + v2) * Y' + (v1 + v2) ≤ ((p - q : Nat) : Int) * B := by exact_mod_cast a4
  rw [e1] at a3' a4'
  have n1 : 0 ≤ (v2 : Int) * Y' := Int.mul_nonneg (by omega) (by omega)
  have n2 : 0 ≤ ((u1 : Int) + u2) * X' := Int.mul_nonneg (by omega) (by omega)
  have n3 : 0 ≤ (u2 : Int) * X' := Int.mul_nonneg (by omega) (by omega)
  have n4 : 0 ≤ ((v1 : Int) + v2) * Y' := Int.mul_nonneg (by omega) (by omega)
  subst hX hY
  cases s
  · rw [sg_f] at hp hq ⊢
    have E2 : -(1 * ((u2 : Int) * ((x0 * B + X' : Nat) : Int) - v2 * ((y0 * B + Y' : Nat) : Int))) = q * B - u2 * X' + v2 * Y' := by
      push_cast; grind
    have E1 : 1 * ((u1 : Int) * ((x0 * B + X' : Nat) : Int) - v1 * ((y0 * B + Y' : Nat) : Int)) = p * B + u1 * X' - v1 * Y' := by
      push_cast; grind
    rw [E1, E2]
    clear hp hq E1 E2 h a1 a2 a3 a4
    grind
  rw [sg_t] at hp hq ⊢
  have E2 : -(-1 * ((u2 : Int) * ((x0 * B + X' : Nat) : Int) - v2 * ((y0 * B + Y' : Nat) : Int))) = q * B + u2 * X' - v2 * Y' := by
    push_cast; grind
  have E1 : -1 * ((u1 : Int) * ((x0 * B + X' : Nat) : Int) - v1 * ((y0 * B + Y' : Nat) : Int)) = p * B - u1 * X' + v1 * Y' := by
    push_cast; grind
  rw [E1, E2]
  clear hp hq E1 E2 h a1 a2 a3 a4
  grind
theorem Fs.step {X Y x0 y0 B X' Y' p q u0 u1 u2 v0 v1 v2 : Nat} {s : Bool} (h : Fs X Y x0 y0 p q u0 u1 u2 v0 v1 v2 s) (hX : X = x0 * B + X') (hY : Y = y0 * B + Y') (hX' : X' < B) (hY' : Y' < B) (c1 : v2 ≤ q) (c2 : v1 + v2 ≤ p - q) :
    Fs X Y x0 y0 q (p % q) u1 u2 (u1 + p / q * u2) v1 v2 (v1 + p / q * v2) (!s) := by
  obtain ⟨r1, r2⟩ := h.real hX hY hX' hY' c1 c2
  have hpos := h.pos
  have hq0 : 0 < q := by omega
  have hm : q * (p / q) + p % q = p := Nat.div_add_mod p q
  have hd : 1 ≤ p / q := (Nat.le_div_iff_mul_le hq0).2 (by have := h.qp; omega)
  generalize p / q = t at hm hd ⊢
  have hlt : p % q < q := Nat.mod_lt _ hq0
  generalize p % q = r at hm hlt ⊢
  have hp := h.hp
  have hq := h.hq
  have hmZ : (q : Int) * t + r = p := by exact_mod_cast hm
  obtain ⟨d, rfl⟩ : ∃ d, t = d + 1 := ⟨t - 1, by omega⟩
  have l12 := h.l12
  have l2 := h.l2
  have lx : d * u2 ≤ d * v2 := Nat.mul_le_mul_left _ l2
  have det := h.det
  refine ⟨?_, ?_, ?_, ?_, ?_, ?_, ?_, Nat.le_of_lt hlt, ?_, fun e => absurd e (by omega), ?_, fun _ => ?_, fun e => ?_⟩
  · rw [sg_not, hq]; grind
  · rw [sg_not]; push_cast; grind
  · have := h.i1; grind
  · have := h.i2; grind
  · grind
  · grind
  · grind
  · rw [sg_not]; push_cast; grind
  · rw [sg_not]; grind
  · rw [sg_not]
    by_cases hv : v1 = 0
    · obtain ⟨z1, z2, z3, z4, z5⟩ := h.zero hv
      subst z2 z3 z4
      rw [sg_f]; grind
    have := h.a1Y hv
    grind
  rw [sg_not]
  refine ⟨?_, ?_, ?_⟩
  · have := h.a1Y e
    grind
  · grind
  grind
theorem Fs.next_le {X Y x0 y0 p q u0 u1 u2 v0 v1 v2 : Nat} {s : Bool} (h : Fs X Y x0 y0 p q u0 u1 u2 v0 v1 v2 s) (c1 : v2 ≤ q) : v1 + p / q * v2 ≤ x0 ∧ u1 + p / q * u2 ≤ y0 ∧ v1 + v2 ≤ x0 ∧ p / q * v2 ≤ x0 ∧ p / q * u2 ≤ y0 := by
  have hpos := h.pos
  have hq0 : 0 < q := by omega
  have hm : q * (p / q) + p % q = p := Nat.div_add_mod p q
  have hd : 1 ≤ p / q := (Nat.le_div_iff_mul_le hq0).2 (by have := h.qp; omega)
  generalize p / q = t at hm hd ⊢
  generalize p % q = r at hm ⊢
  have i1 := h.i1
  have i2 := h.i2
  obtain ⟨m, rfl⟩ : ∃ m, q = m + 1 := ⟨q - 1, by omega⟩
  obtain ⟨d, rfl⟩ : ∃ d, t = d + 1 := ⟨t - 1, by omega⟩
  subst hm
  refine ⟨?_, ?_, ?_, ?_, ?_⟩ <;> grind
theorem Fs.taken {X Y x0 y0 p q u0 u1 u2 v0 v1 v2 : Nat} {s : Bool} (h : Fs X Y x0 y0 p q u0 u1 u2 v0 v1 v2 s) (hv : v0 ≠ 0) :
    ∃ A C : Nat, (A : Int) = - (sg s * ((u0 : Int) * X - v0 * Y)) ∧ (C : Int) = sg s * ((u1 : Int) * X - v1 * Y) ∧ C < A ∧ A ≤ Y ∧ Nat.gcd A C = Nat.gcd X Y := by
  obtain ⟨b1, b2, b3⟩ := h.a0 hv
  have b0 := h.a1
  generalize hA : - (sg s * ((u0 : Int) * X - v0 * Y)) = A at b1 b2 ⊢
  generalize hC : sg s * ((u1 : Int) * X - v1 * Y) = C at b0 b2 ⊢
  obtain ⟨a, rfl⟩ := Int.eq_ofNat_of_zero_le (show 0 ≤ A by omega)
  obtain ⟨c, rfl⟩ := Int.eq_ofNat_of_zero_le b0
  refine ⟨a, c, rfl, rfl, by omega, by omega, ?_⟩
  have e1 : X = v1 * a + v0 * c := by
    have : (X : Int) = v1 * a + v0 * c := by rw [← hA, ← hC]; grind
    exact_mod_cast this
  have e2 : Y = u1 * a + u0 * c := by
    have : (Y : Int) = u1 * a + u0 * c := by rw [← hA, ← hC]; grind
    exact_mod_cast this
  refine Nat.dvd_antisymm (Nat.dvd_gcd ?_ ?_) (Nat.dvd_gcd ?_ ?_)
  · rw [e1]; exact Nat.dvd_add (Nat.dvd_mul_left_of_dvd (Nat.gcd_dvd_left _ _) _) (Nat.dvd_mul_left_of_dvd (Nat.gcd_dvd_right _ _) _)
  · rw [e2]; exact Nat.dvd_add (Nat.dvd_mul_left_of_dvd (Nat.gcd_dvd_left _ _) _) (Nat.dvd_mul_left_of_dvd (Nat.gcd_dvd_right _ _) _)
  · refine Int.ofNat_dvd.1 ?_
    rw [← hA]
    refine Int.dvd_neg.2 (Int.dvd_mul_of_dvd_right ?_ )
    exact Int.dvd_sub (Int.dvd_mul_of_dvd_right (Int.ofNat_dvd.2 (Nat.gcd_dvd_left _ _))) (Int.dvd_mul_of_dvd_right (Int.ofNat_dvd.2 (Nat.gcd_dvd_right _ _)))
  refine Int.ofNat_dvd.1 ?_
  rw [← hC]
  refine Int.dvd_mul_of_dvd_right ?_
  exact Int.dvd_sub (Int.dvd_mul_of_dvd_right (Int.ofNat_dvd.2 (Nat.gcd_dvd_left _ _))) (Int.dvd_mul_of_dvd_right (Int.ofNat_dvd.2 (Nat.gcd_dvd_right _ _)))
def winW (G : Nat → Nat) (m n r : Nat) : Nat := cutU G m 0 (n + 1) * 2 ^ r % 18446744073709551616 + cutU G m 0 n / 2 ^ (64 - r)
theorem V_cut {G : Nat → Nat} {m n : Nat} (h : m ≤ n) : V (cutU G m 0) n = V G m := by
  rw [V_top h fun i h1 h2 => cutU_out (by omega)]
  exact V_congr fun i hi => by rw [cutU_in (by omega), Nat.zero_add]
theorem ok_cut {G : Nat → Nat} {m n : Nat} (hG : Ok G m) : Ok (cutU G m 0) n := fun i _ => by
  by_cases h : 0 + i < m
  · rw [cutU_in h]; exact hG _ h
  rw [cutU_out h]; omega
theorem winW_eq {G : Nat → Nat} {m n r : Nat} (hG : Ok G m) (hm : m ≤ n + 2) (hr : r ≤ 63) (hlt : V G m < 2 ^ (64 * (n + 2) - r)) :
    winW G m n r = V G m / 2 ^ (64 * (n + 1) - r) ∧ V G m / 2 ^ (64 * (n + 1) - r) < 18446744073709551616 := by
  have hU : Ok (cutU G m 0) (n + 2) := ok_cut hG
  have e := V_cut (G := G) hm
  unfold winW
  rw [← e] at hlt ⊢
  generalize cutU G m 0 = U at hU hlt ⊢
  have h0 := V_lt (hU.mono (show n ≤ n + 2 by omega))
  have h1 := hU n (by omega)
  have h2 := hU (n + 1) (by omega)
  have ee : 2 ^ (64 * (n + 1) - r) = P n * 2 ^ (64 - r) := by rw [P_two, ← Nat.pow_add, show 64 * n + (64 - r) = 64 * (n + 1) - r by omega]
  have e2 : 2 ^ (64 * (n + 2) - r) = P (n + 1) * 2 ^ (64 - r) := by rw [P_two, ← Nat.pow_add, show 64 * (n + 1) + (64 - r) = 64 * (n + 2) - r by omega]
  rw [V_succ] at hlt ⊢
  rw [e2] at hlt
  have hU1 : U (n + 1) < 2 ^ (64 - r) := by
    refine Nat.lt_of_mul_lt_mul_left (a := P (n + 1)) ?_
    rw [Nat.mul_comm (P (n + 1)) (U (n + 1))]
    omega
  have hb : U (n + 1) * 2 ^ r < 18446744073709551616 := by
    rw [two64 r (by omega), Nat.mul_comm (2 ^ r)]
    exact Nat.mul_lt_mul_of_pos_right hU1 (Nat.two_pow_pos r)
  rw [V_succ, ee, ← Nat.div_div_eq_div_mul]
  have e3 : (V U n + U n * P n + U (n + 1) * P (n + 1)) / P n = U n + U (n + 1) * 18446744073709551616 := by
    rw [P_succ, show V U n + U n * P n + U (n + 1) * (P n * 18446744073709551616) = V U n + P n * (U n + U (n + 1) * 18446744073709551616) by grind, Nat.add_mul_div_left _ _ (P_pos n), Nat.div_eq_of_lt h0, Nat.zero_add]
  have e4 : (U n + U (n + 1) * 18446744073709551616) / 2 ^ (64 - r) = U (n + 1) * 2 ^ r + U n / 2 ^ (64 - r) := by
    rw [two64 r (by omega), show U n + U (n + 1) * (2 ^ r * 2 ^ (64 - r)) = U n + 2 ^ (64 - r) * (U (n + 1) * 2 ^ r) by grind, Nat.add_mul_div_left _ _ (Nat.two_pow_pos _), Nat.add_comm]
  rw [e3, e4, Nat.mod_eq_of_lt hb]
  refine ⟨rfl, ?_⟩
  have h3 : U n / 2 ^ (64 - r) < 2 ^ r := by
    rw [Nat.div_lt_iff_lt_mul (Nat.two_pow_pos _), ← two64 r (by omega)]
    exact h1
  have h4 : (U (n + 1) + 1) * 2 ^ r ≤ 2 ^ (64 - r) * 2 ^ r := Nat.mul_le_mul_right _ hU1
  rw [Nat.mul_comm (2 ^ (64 - r)), ← two64 r (by omega), Nat.add_mul] at h4
  omega
theorem or_win (f h r : Nat) (hh : h < 18446744073709551616) (hr : r ≤ 63) :
    bits .or .u64 (IntKind.u64.wrap ((f : Int) * 2 ^ r)) ((h / 2 ^ (64 - r) : Nat) : Int) = ((f * 2 ^ r % 18446744073709551616 + h / 2 ^ (64 - r) : Nat) : Int) := by
  have hd : h / 2 ^ (64 - r) < 2 ^ r := by
    rw [Nat.div_lt_iff_lt_mul (Nat.two_pow_pos _), ← two64 r (by omega)]
    exact hh
  have e : (f : Int) * 2 ^ r = ((f * 2 ^ r : Nat) : Int) := by rw [Int.natCast_mul, cast_pow2]
  have hm := shl_mod f r (by omega)
  have hor : f * 2 ^ r % 18446744073709551616 ||| h / 2 ^ (64 - r) = f * 2 ^ r % 18446744073709551616 + h / 2 ^ (64 - r) := or_add _ _ r (by rw [hm]; exact Nat.mul_mod_left _ _) hd
  rw [e, wrapU_mod, bits_or_u64_nat _ _ (Nat.mod_lt _ (by omega)) (Nat.lt_of_le_of_lt (Nat.div_le_self _ _) hh), hor]
theorem diff_val {w1 w2 w3 w4 w5 w6 : World} {g lx ly N xa yb c c2 c3 : Nat} {H H2 H3 : Nat → Nat} (hx : lx < N) (hy : ly < N) (hle : yb ≤ xa)
    (p1 : Prod w1 w2 g N 0 (fun _ => 0) xa lx c H) (p2 : Prodm w3 w4 g N 0 (put H lx c) yb ly c2 H2) (p3 : Subbed w5 w6 g N ly H2 c2 (N - ly) c3 H3) : V H3 N = xa - yb := by
  obtain ⟨_, a2, _, a4, _⟩ := p1
  obtain ⟨_, b2, _, b4, _⟩ := p2
  obtain ⟨r3, d2, d3, d4, _⟩ := p3
  have s1 : V (put H lx c) N = xa := by
    rw [V_top (m := lx + 1) (by omega) fun i h1 h2 => by rw [put_other _ _ (by omega)]; exact a2 i (by omega), V_succ, put_same]
    have := V_congr (F := put H lx c) (G := H) (n := lx) fun i hi => put_other _ _ (by omega)
    rw [this]
    rw [fro_zero, fro_zero, V_const0] at a4
    omega
  rw [fro_zero, fro_zero] at b4
  have e1 : V H2 N = V H2 ly + P ly * V (fro H2 ly) (N - ly) := by
    rw [show V H2 N = V H2 (ly + (N - ly)) by rw [show ly + (N - ly) = N by omega], V_split]
    rfl
  have e2 : V (put H lx c) N = V (put H lx c) ly + P ly * V (fro (put H lx c) ly) (N - ly) := by
    rw [show V (put H lx c) N = V (put H lx c) (ly + (N - ly)) by rw [show ly + (N - ly) = N by omega], V_split]
    rfl
  have e3 : V (fro H2 ly) (N - ly) = V (fro (put H lx c) ly) (N - ly) := V_congr fun i hi => b2 _ (by omega)
  have e4 : V H3 N = V H3 ly + P ly * V (fro H3 ly) (N - ly) := by
    rw [show V H3 N = V H3 (ly + (N - ly)) by rw [show ly + (N - ly) = N by omega], V_split]
    rfl
  have e5 : V H3 ly = V H2 ly := V_congr fun i hi => d2 _ (by omega)
  have e6 : P N = P ly * P (N - ly) := by rw [← P_add, show ly + (N - ly) = N by omega]
  have hlt := V_lt r3.2
  have key : V H3 N + yb = xa + c3 * P N := by
    rw [e4, e5, e6]
    rw [s1] at e2
    rw [e2]
    have q1 := congrArg (P ly * ·) d4
    simp only [Nat.mul_add] at q1
    rw [e3] at q1
    grind
  have hc3 : c3 = 0 := by
    rcases Nat.eq_zero_or_pos c3 with h | h
    · exact h
    have : 1 * P N ≤ c3 * P N := Nat.mul_le_mul_right _ h
    omega
  rw [hc3, Nat.zero_mul] at key
  omega
theorem or_mod {a b c : Nat} (h : (a ||| b) % 2 ^ c = 0) : a % 2 ^ c = 0 ∧ b % 2 ^ c = 0 := by
  rw [Nat.or_mod_two_pow] at h
  exact Nat.or_eq_zero_iff.1 h
theorem V_dvd {F : Nat → Nat} {n i c : Nat} (hz : ∀ j, j < i → cutU F n 0 j = 0) (hc : cutU F n 0 i % 2 ^ c = 0) (hcc : c ≤ 64) : 2 ^ (64 * i + c) ∣ V F n := by
  have hz' : ∀ j, j < i → j < n → F j = 0 := fun j h1 h2 => by have := hz j h1; rw [cutU_in (by omega), Nat.zero_add] at this; exact this
  rcases Nat.lt_or_ge i n with h | h
  · rw [cutU_in (by omega), Nat.zero_add] at hc
    obtain ⟨k, rfl⟩ : ∃ k, n = i + (k + 1) := ⟨n - i - 1, by omega⟩
    rw [V_split, V_zeros fun j hj => hz' j hj (by omega), Nat.zero_add, V_cons, Nat.pow_add, ← P_two]
    refine Nat.mul_dvd_mul_left _ (Nat.dvd_add (Nat.dvd_of_mod_eq_zero hc) (Nat.dvd_mul_right_of_dvd ?_ _))
    exact Nat.pow_dvd_pow 2 hcc
  rw [V_zeros fun j hj => hz' j (by omega) hj]
  exact Nat.dvd_zero _
theorem gcd_up {x y t : Nat} (hx : 2 ^ t ∣ x) (hy : 2 ^ t ∣ y) : Nat.gcd (x / 2 ^ t) (y / 2 ^ t) * 2 ^ t = Nat.gcd x y := by
  obtain ⟨a, rfl⟩ := hx
  obtain ⟨b, rfl⟩ := hy
  rw [Nat.mul_div_cancel_left _ (Nat.two_pow_pos t), Nat.mul_div_cancel_left _ (Nat.two_pow_pos t), Nat.gcd_mul_left, Nat.mul_comm]
theorem diff_add (g N n cap xb : Nat) (a : Option Addr) (X : Nat → Nat) (d : Nat) (wr : World) (xv : Value) (hF : Row wr g N (fun _ => 0)) (hX : Sl wr a n cap X) (hX0 : n = 0 → a = none) (hnN : n < N) (hN : N ≤ 1099511627776) (hd : d < 18446744073709551616) (hxb : xb ≠ g) (hne : ∀ b' o', a = some ⟨b', o', none⟩ → b' ≠ g) (hcx : wr.cell? ⟨xb, 0, none⟩ = some xv) :
    Calls Tryz.prog 108 #[.slice (some ⟨g, 0, none⟩) N N, .slice a n cap, .int .u64 (d : Int)] wr fun e w2 => ∃ c : Nat, e = .returned (.int .u64 (c : Int)) ∧ ∃ H, Hid (Prod wr w2 g N 0 (fun _ => 0) (V X n * d) n c H) ∧ w2.cell? ⟨xb, 0, none⟩ = some xv ∧ w2.cell? ⟨g, n, none⟩ = some (.int .u64 (H n : Nat)) ∧ w2.frozen? ⟨g, n, none⟩ = false := by
  refine (addProduct_any g N 0 N N (fun _ => 0) a n cap X d wr hF hX (by omega) (by omega) (by omega) (Nat.le_refl _) hd hne).mono ?_
  rintro e w2 ⟨c, rfl, H, hP⟩
  exact ⟨c, rfl, H, hP, hP.2.2.2.2.cell hcx (by simpa using hxb), hP.1.cell hnN, hP.1.frozen _⟩
set_option maxHeartbeats 2000000 in
theorem difference_any (v u : Value) (x y a b : Nat) (w : World) (h : IsNat w v x) (k : IsNat w u y) (hx : Fits x) (hy : Fits y) (ha : a < 18446744073709551616) (hb : b < 18446744073709551616) (hle : y * b ≤ x * a) :
    Calls Tryz.prog 136 #[v, .int .u64 (a : Int), u, .int .u64 (b : Int)] w (Makes w (x * a - y * b)) := by
  obtain ⟨ax, n, cap, rfl⟩ := h.isAgg
  obtain ⟨ay, m, cap', rfl⟩ := k.isAgg
  obtain ⟨F, hs, h0, h1, hv⟩ := h.fits
  obtain ⟨G, ks, k0, k1, kv⟩ := k.fits
  have hn : n ≤ 4294967296 := fits_len (hv.symm ▸ hx) h1
  have hm : m ≤ 4294967296 := fits_len (kv.symm ▸ hy) k1
  have HH : Hid (Sl w ax n cap F ∧ V F n = x ∧ (n = 0 → ax = none) ∧ Sl w ay m cap' G ∧ V G m = y ∧ (m = 0 → ay = none) ∧ a < 18446744073709551616 ∧ b < 18446744073709551616 ∧ y * b ≤ x * a) := ⟨hs, hv, fun e => (h0 e).1, ks, kv, fun e => (k0 e).1, ha, hb, hle⟩
  clear hs h0 h1 hv ks k0 k1 kv hx hy h k ha hb hle
  obtain ⟨mx, hmx⟩ : ∃ mx : Nat, mx = max n m := ⟨_, rfl⟩
  have hm1 : n ≤ mx := by omega
  have hm2 : m ≤ mx := by omega
  have hm3 : mx ≤ 4294967296 := by omega
  have e1 : (if n < m then (m : Int) else (n : Int)) = (mx : Int) := by split <;> omega
  have mk := make_at ((mx : Int) + 1) ((mx : Int) + 1) (mx + 1) (mx + 1) (by omega) (by omega) (Nat.le_refl _) (by omega)
  clear hmx
  go_enter Tryz.func136, Tryz.ntmps136
  go_wp2_with fail
  obtain ⟨g, hg⟩ : ∃ g, g = w.heap.size + 1 + 1 + 1 := ⟨_, rfl⟩
  have HB : Hid (Below w.heap.size w ((((w.alloc (.cells #[.slice ax n cap] 45)).alloc (.cells #[.slice ay m cap'] 45)).alloc (.cells #[.slice none 0 0] 45)).alloc (.cells (zeros (mx + 1)) 82))) := ((bel_alloc2 _ _ _).alloc (by simp <;> omega) _).alloc (by simp <;> omega) _
  have hR0 := row_zeros_at (((w.alloc (.cells #[.slice ax n cap] 45)).alloc (.cells #[.slice ay m cap'] 45)).alloc (.cells #[.slice none 0 0] 45)) (mx + 1) g (by rw [hg]; simp)
  obtain ⟨W0, hW0⟩ : ∃ W0, W0 = ((((w.alloc (.cells #[.slice ax n cap] 45)).alloc (.cells #[.slice ay m cap'] 45)).alloc (.cells #[.slice none 0 0] 45)).alloc (.cells (zeros (mx + 1)) 82)) := ⟨_, rfl⟩
  have c1 : W0.cell? ⟨w.heap.size, 0, none⟩ = some (.slice ax n cap) := by rw [hW0]; simp [go_sem]
  have c2 : W0.cell? ⟨w.heap.size + 1, 0, none⟩ = some (.slice ay m cap') := by rw [hW0]; simp [go_sem]
  have c3 : W0.cell? ⟨w.heap.size + 1 + 1, 0, none⟩ = some (.slice none 0 0) := by rw [hW0]; simp [go_sem]
  have f3 : W0.frozen? ⟨w.heap.size + 1 + 1, 0, none⟩ = false := by rw [hW0]; simp [go_sem]
  have hsz : W0.heap.size = w.heap.size + 1 + 1 + 1 + 1 := by rw [hW0]; simp
  rw [← hW0] at HB hR0 ⊢
  rw [← hg]
  have R0 : Hid (Row W0 g (mx + 1) (fun _ => 0)) := hR0
  have hxne : ∀ b' o', ax = some ⟨b', o', none⟩ → b' ≠ g := by
    intro b' o' e
    by_cases e0 : n = 0
    · rw [HH.out.2.2.1 e0] at e
      cases e
    exact HH.out.1.ne_block (by omega) (g := g) (by omega) b' o' e
  have hyne : ∀ b' o', ay = some ⟨b', o', none⟩ → b' ≠ g := by
    intro b' o' e
    by_cases e0 : m = 0
    · rw [HH.out.2.2.2.2.2.1 e0] at e
      cases e
    exact HH.out.2.2.2.1.ne_block (by omega) (g := g) (by omega) b' o' e
  have XN : Hid _ := hxne
  have YN : Hid _ := hyne
  have hnN : (n : Int) < (mx : Int) + 1 := by omega
  have hg1 : w.heap.size ≠ g := by omega
  have GG : Hid (w.heap.size ≠ g ∧ w.heap.size + 1 ≠ g ∧ w.heap.size + 1 + 1 ≠ g ∧ w.heap.size + 1 + 1 < W0.heap.size ∧ w.heap.size ≤ g ∧ w.heap.size + 1 < W0.heap.size ∧ w.heap.size ≤ W0.heap.size) := by
    show _ ∧ _
    omega
  clear hR0 hW0 mk e1 hxne hyne hg hsz
  go_region_held3 (fun w' => w'.cell? ⟨w.heap.size, 0, none⟩ = some (.slice ax n cap)) (simp [go_sem, *])
    (first
      | (go_at_call 108; refine (diff_add g (mx + 1) n cap w.heap.size ax F a W0.drew _ R0.out (HH.out.1.mono (bel_dr HB.out)) HH.out.2.2.1 (Nat.lt_succ_of_le hm1) (by omega) HH.out.2.2.2.2.2.2.1 hg1 XN.out c1).mono ?_; rintro e w2 ⟨c, rfl, H, HP, hc4, hq4, hf4⟩))
  have g2 : W0.grownBy w2 (some g) := ⟨HP.out.2.2.2.2.os, HP.out.2.2.2.2.tape, HP.out.2.2.2.2.output, HP.out.2.2.2.2.size, HP.out.2.2.2.2.block⟩
  have d2 : w2.cell? ⟨w.heap.size + 1, 0, none⟩ = some (.slice ay m cap') := g2.cell c2 (by simpa using GG.out.2.1)
  have d3 : w2.cell? ⟨w.heap.size + 1 + 1, 0, none⟩ = some (.slice none 0 0) := g2.cell c3 (by simpa using GG.out.2.2.1)
  have k3 : w2.frozen? ⟨w.heap.size + 1 + 1, 0, none⟩ = false := (World.frozen?_of_block (g2.block _ GG.out.2.2.2.1 (by simpa using GG.out.2.2.1))).trans f3
  have B2 : Hid (Below w.heap.size w w2) := HB.out.grown g2 GG.out.2.2.2.2.2.2 (fun k hk => by cases hk; exact GG.out.2.2.2.2.1)
  have hs2 : g < w2.heap.size := HP.out.1.1.lt
  clear g2 hc4 hq4 hf4 c1 c2 c3 f3
  have hW3 : w2.grownBy (w2.setCell ⟨g, n, none⟩ (.int .u64 (c : Int))) (some g) := grown_set w2 (World.grownBy.refl _ _) n _
  have R3 : Hid (Row (w2.setCell ⟨g, n, none⟩ (.int .u64 (c : Int))) g (mx + 1) (put H n c)) := HP.out.1.set n HP.out.2.2.1
  have B3 : Hid (Below w.heap.size w (w2.setCell ⟨g, n, none⟩ (.int .u64 (c : Int)))) := B2.out.setCell (p := ⟨g, n, none⟩) GG.out.2.2.2.2.1 _
  have e2 : (w2.setCell ⟨g, n, none⟩ (.int .u64 (c : Int))).cell? ⟨w.heap.size + 1, 0, none⟩ = some (.slice ay m cap') := hW3.cell d2 (by simpa using GG.out.2.1)
  have e3 : (w2.setCell ⟨g, n, none⟩ (.int .u64 (c : Int))).cell? ⟨w.heap.size + 1 + 1, 0, none⟩ = some (.slice none 0 0) := hW3.cell d3 (by simpa using GG.out.2.2.1)
  have l3 : (w2.setCell ⟨g, n, none⟩ (.int .u64 (c : Int))).frozen? ⟨w.heap.size + 1 + 1, 0, none⟩ = false := (World.frozen?_of_block (hW3.block _ (World.block_lt_of_cell? _ _ d3) (by simpa using GG.out.2.2.1))).trans k3
  obtain ⟨w3, hw3⟩ : ∃ w3, w3 = w2.setCell ⟨g, n, none⟩ (.int .u64 (c : Int)) := ⟨_, rfl⟩
  rw [← hw3] at R3 B3 e2 e3 l3 ⊢
  clear hw3 hW3 d2 d3 k3 B2 hs2
  go_wp2_with fail
  refine (subProduct_any g (mx + 1) 0 (mx + 1) (mx + 1) (put H n c) ay m cap' G b w3 R3.out (HH.out.2.2.2.1.mono B3.out) (by omega) (by omega) (by omega) (Nat.le_refl _) HH.out.2.2.2.2.2.2.2.1 YN.out).mono ?_
  rintro e w4 ⟨cc, rfl, H2, hP2⟩
  have P2 : Hid _ := hP2
  have d2 : w4.cell? ⟨w.heap.size + 1, 0, none⟩ = some (.slice ay m cap') := hP2.2.2.2.2.cell e2 (by simpa using GG.out.2.1)
  have d3 : w4.cell? ⟨w.heap.size + 1 + 1, 0, none⟩ = some (.slice none 0 0) := hP2.2.2.2.2.cell e3 (by simpa using GG.out.2.2.1)
  have k3 : w4.frozen? ⟨w.heap.size + 1 + 1, 0, none⟩ = false := (World.frozen?_of_block (hP2.2.2.2.2.block _ (World.block_lt_of_cell? _ _ e3) (by simpa using GG.out.2.2.1))).trans l3
  have B4 : Hid (Below w.heap.size w w4) := B3.out.grown hP2.2.2.2.2 B3.out.size (fun k hk => by cases hk; exact GG.out.2.2.2.2.1)
  have hg4 : g < w4.heap.size := hP2.1.1.lt
  clear hP2 e2 e3 l3
  have hmi : (m : Int) ≤ (mx : Int) + 1 := by omega
  have hmn : ¬ mx + 1 = m := by omega
  have hcc : cc < 18446744073709551616 := P2.out.2.2.1
  have CC : Hid (cc < 18446744073709551616) := hcc
  clear hcc
  go_wp2_with fail
  refine (subWords_any g (mx + 1) m (mx + 1 - m) (mx + 1 - m) H2 (some ⟨w4.heap.size, 0, none⟩) 1 1 (fun _ => cc) _ (P2.out.1.below ((Below.refl _ _).alloc (Nat.le_refl _) _)) (sl_one _ cc _ CC.out rfl _) (by omega) (by omega) (by omega) (fun b' o' e => by cases e; omega)).mono ?_
  rintro e w5 ⟨rfl, c3, H3, hS⟩
  have e1c : V (fun _ => cc) 1 = cc := by rw [V_succ, V_zero, P_zero, Nat.zero_add, Nat.mul_one]
  rw [e1c] at hS
  have FV : Hid (V H3 (mx + 1) = x * a - y * b) := by
    show _ = _
    have := diff_val (by omega) (by omega) (by rw [HH.out.2.1, HH.out.2.2.2.2.1]; exact HH.out.2.2.2.2.2.2.2.2) HP.out P2.out hS
    rw [this, HH.out.2.1, HH.out.2.2.2.2.1]
  have bA : Below w4.heap.size w4 (w4.alloc (.cells #[.int .u64 (cc : Int)] 82)) := (Below.refl _ _).alloc (Nat.le_refl _) _
  have q3 : w5.cell? ⟨w.heap.size + 1 + 1, 0, none⟩ = some (.slice none 0 0) := hS.2.2.2.2.cell (cell_later bA d3) (by simpa using GG.out.2.2.1)
  have r3 : w5.frozen? ⟨w.heap.size + 1 + 1, 0, none⟩ = false := (World.frozen?_of_block (hS.2.2.2.2.block _ (World.block_lt_of_cell? _ _ (cell_later bA d3)) (by simpa using GG.out.2.2.1))).trans ((bA.frozen (World.block_lt_of_cell? _ _ d3)).trans k3)
  have B5 : Hid (Below w.heap.size w w5) := (bel_go B4.out bA).grown hS.2.2.2.2 (by have := B4.out.size; simp; omega) (fun k hk => by cases hk; exact GG.out.2.2.2.2.1)
  have R5 : Hid (Row w5 g (mx + 1) H3) := hS.1
  clear hS d2 d3 k3 bA e1c P2 HP CC
  go_wp2_with fail
  refine (trimmed_any _ (mx + 1) (mx + 1) H3 w5 (by have := R5.out.sl (o := 0) (n := mx + 1) (cap := mx + 1) (by omega) (Nat.le_refl _) (by omega); rw [fro_zero] at this; exact this) (by omega)).mono ?_
  rintro e w6 ⟨v6, rfl, hv6, hb6⟩
  have s3 : w6.cell? ⟨w.heap.size + 1 + 1, 0, none⟩ = some (.slice none 0 0) := cell_later hb6 q3
  have t3 : w6.frozen? ⟨w.heap.size + 1 + 1, 0, none⟩ = false := (hb6.frozen (World.block_lt_of_cell? _ _ q3)).trans r3
  obtain ⟨a6, n6, cap6, rfl⟩ := hv6.isAgg
  have V6 : Hid (IsNat w6 (.agg #[.slice a6 n6 cap6]) (V H3 (mx + 1))) := hv6
  have B6 : Hid (Below w.heap.size w w6) := bel_go B5.out hb6
  clear hv6 hb6 q3 r3
  go_wp2_with fail
  refine bodyPost_ret (v := .agg #[.slice a6 n6 cap6]) (by simp [results, Tryz.results136, go_sem, s3]) rfl ⟨_, rfl, ?_, B6.out.setCell (by simp <;> omega) _⟩
  rw [← FV.out]
  exact V6.out.setCell (no_int_slice s3) _
end Go.Proofs.YtfkkomppfghagaaGreatDoor
