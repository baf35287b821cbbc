/- Contracts of the program's functions, part 7: own work, joined in build order. -/
import Derived.Test.YtfjmnhmdipjenaaGreatDoorJ6
import Derived.Deep.DeepCutAuto
import Derived.Deep.Light
import Derived.Deep.AppendLies
import Derived.LoopN
namespace Go.Proofs.YtfjmnhmdipjenaaGreatDoor
open Go.RowKit
set_option maxRecDepth 100000
set_option linter.unusedVariables false
/-- So many words and no more are asked about. -/
def lim2 : Nat := 1000000
structure Small (x : Nat) : Prop where
  lt : x < P lim2
theorem Small.fits {x : Nat} (h : Small x) : Fits x := ⟨Nat.lt_of_lt_of_le h.lt (P_le (show lim2 ≤ lim by decide))⟩
theorem Small.le {x y : Nat} (h : Small x) (hy : y ≤ x) : Small y := ⟨Nat.lt_of_le_of_lt hy h.lt⟩
theorem Small.up {x s : Nat} (h : Small x) (hs : s ≤ 64) : Fits (x * 2 ^ s) := by
  refine ⟨Nat.lt_of_lt_of_le ?_ (P_le (show lim2 + 1 ≤ lim by decide))⟩
  rw [P_succ, show (18446744073709551616 : Nat) = 2 ^ 64 from rfl]
  have h1 : (2 : Nat) ^ s ≤ 2 ^ 64 := Nat.pow_le_pow_right (by omega) hs
  have h2 : x * 2 ^ s ≤ x * 2 ^ 64 := Nat.mul_le_mul_left _ h1
  have h3 : x * 2 ^ 64 < P lim2 * 2 ^ 64 := Nat.mul_lt_mul_of_pos_right h.lt (by decide)
  exact Nat.lt_of_le_of_lt h2 h3
theorem norm_len {w : World} {a : Option Addr} {n cap m z : Nat} (h : IsNat w (.agg #[.slice a n cap]) z) (hlo : P m * 9223372036854775808 ≤ z) (hhi : z < P (m + 1)) :
    n = m + 1 ∧ ∃ F, Sl w a n cap F ∧ V F n = z ∧ 9223372036854775808 ≤ F m := by
  obtain ⟨F, hs, h0, h1, hv⟩ := h.fits
  have hp := P_pos m
  have l1 : n ≤ m + 1 := len_le_of (hv.symm ▸ hhi) h1
  have l2 : m + 1 ≤ n := by
    rcases Nat.lt_or_ge n (m + 1) with hh | hh
    · have a1 := V_lt hs.2.2.1
      have a2 := P_le (show n ≤ m by omega)
      omega
    · exact hh
  obtain rfl : n = m + 1 := by omega
  refine ⟨rfl, F, hs, hv, ?_⟩
  rcases Nat.lt_or_ge (F m) 9223372036854775808 with hh | hh
  · have a1 := V_lt (hs.2.2.1.mono (Nat.le_succ m))
    have a2 : (F m + 1) * P m ≤ 9223372036854775808 * P m := Nat.mul_le_mul_right _ hh
    rw [V_succ] at hv
    rw [Nat.add_mul, Nat.one_mul] at a2
    rw [Nat.mul_comm] at hlo
    omega
  · exact hh
theorem norm_vals {F : Nat → Nat} {m s : Nat} (hF : Ok F (m + 1)) (h0 : F m ≠ 0) (hs : s = 64 - bitLen (F m)) : P m * 9223372036854775808 ≤ V F (m + 1) * 2 ^ s ∧ V F (m + 1) * 2 ^ s < P (m + 1) ∧ s ≤ 63 := by
  obtain ⟨n1, n2, n3⟩ := norm_bounds (F m) (by omega) (hF m (by omega))
  rw [← hs] at n1 n2 n3
  have hl := V_lt (hF.mono (Nat.le_succ m))
  have hsp := bitLen_spec (F m)
  have hb := bitLen_le64 (F m) (hF m (by omega))
  refine ⟨?_, ?_, n3⟩
  · have h1 : F m * P m ≤ V F (m + 1) := by rw [V_succ]; exact Nat.le_add_left _ _
    have h2 := Nat.mul_le_mul_right (2 ^ s) h1
    have h3 := Nat.mul_le_mul_left (P m) n2
    rw [Nat.mul_right_comm, Nat.mul_comm (F m * 2 ^ s)] at h2
    exact Nat.le_trans h3 h2
  · have h1 : V F (m + 1) < (F m + 1) * P m := by rw [V_succ, Nat.add_mul]; omega
    have h2 := Nat.mul_lt_mul_of_pos_right h1 (Nat.two_pow_pos s)
    have h3 : (F m + 1) * 2 ^ s ≤ 18446744073709551616 := by
      have := Nat.mul_le_mul_right (2 ^ s) hsp.1
      rw [← Nat.pow_add, show bitLen (F m) + s = 64 by omega] at this
      exact this
    have h4 := Nat.mul_le_mul_left (P m) h3
    rw [Nat.mul_right_comm, Nat.mul_comm ((F m + 1) * 2 ^ s)] at h2
    rw [P_succ]
    exact Nat.lt_of_lt_of_le h2 h4
theorem bel_al {a w : World} {o : Obj} (h : Below a.heap.size a w) : Below a.heap.size a (w.alloc o) := h.alloc h.size o
theorem bel_dr {a w : World} (h : Below a.heap.size a w) : Below a.heap.size a w.drew := h.drew
theorem bel_st {a w : World} {p : Addr} {u : Value} (h : Below a.heap.size a w) (hp : a.heap.size ≤ p.block) : Below a.heap.size a (w.setCell p u) := h.setCell hp u
theorem bel_go {a b c : World} (h : Below a.heap.size a b) (k : Below b.heap.size b c) : Below a.heap.size a c := bel_trans h k
/-- Two numbers lie in variables of their own. -/
def TwoVars (w2 wx : World) (Q R : Nat) (p q : Value) : Prop := ∃ (bp bq : Nat) (a5 : Option Addr) (n5 c5 : Nat) (a6 : Option Addr) (n6 c6 : Nat), p = .pointer (some ⟨bp, 0, none⟩) ∧ q = .pointer (some ⟨bq, 0, none⟩) ∧ wx.cell? ⟨bp, 0, none⟩ = some (.slice a5 n5 c5) ∧ wx.cell? ⟨bq, 0, none⟩ = some (.slice a6 n6 c6) ∧ IsNat wx (.agg #[.slice a5 n5 c5]) Q ∧ IsNat wx (.agg #[.slice a6 n6 c6]) R ∧ Below w2.heap.size w2 wx ∧ w2.heap.size ≤ bp ∧ w2.heap.size ≤ bq
/-- What lay below is as it was: rules for the walk. -/
theorem bel_rules {W w' : World} (h : Below W.heap.size W w') : (∀ b o, b < W.heap.size → w'.cell? ⟨b, o, none⟩ = W.cell? ⟨b, o, none⟩) ∧ (∀ b o, b < W.heap.size → w'.frozen? ⟨b, o, none⟩ = W.frozen? ⟨b, o, none⟩) ∧ (∀ b, b < W.heap.size → b < w'.heap.size) ∧ (∀ b, b < W.heap.size → b < w'.heap.size + 1) ∧ (∀ b, b < W.heap.size → b < w'.heap.size + 1 + 1) ∧ (∀ b, b < W.heap.size → ¬ b = w'.heap.size) ∧ (∀ b, b < W.heap.size → ¬ w'.heap.size = b) ∧ (∀ b, b < W.heap.size → ¬ b = w'.heap.size + 1) ∧ (∀ b, b < W.heap.size → ¬ w'.heap.size + 1 = b) := by
  have hs := h.size
  refine ⟨fun b o hb => h.cell hb, fun b o hb => h.frozen hb, fun b hb => by omega, fun b hb => by omega, fun b hb => by omega, fun b hb => by omega, fun b hb => by omega, fun b hb => by omega, fun b hb => by omega⟩
theorem bel_undrew {B : Nat} {w w' : World} (h : Below B w.drew w') : Below B w w' := ⟨h.os, h.tape, h.output, h.size, h.block⟩
theorem bel_rules_dr {W w' : World} (h : Below W.drew.heap.size W.drew w') : (∀ b o, b < W.heap.size → w'.cell? ⟨b, o, none⟩ = W.cell? ⟨b, o, none⟩) ∧ (∀ b o, b < W.heap.size → w'.frozen? ⟨b, o, none⟩ = W.frozen? ⟨b, o, none⟩) ∧ (∀ b, b < W.heap.size → b < w'.heap.size) ∧ (∀ b, b < W.heap.size → b < w'.heap.size + 1) ∧ (∀ b, b < W.heap.size → b < w'.heap.size + 1 + 1) ∧ (∀ b, b < W.heap.size → ¬ b = w'.heap.size) ∧ (∀ b, b < W.heap.size → ¬ w'.heap.size = b) ∧ (∀ b, b < W.heap.size → ¬ b = w'.heap.size + 1) ∧ (∀ b, b < W.heap.size → ¬ w'.heap.size + 1 = b) := bel_rules (W := W) (bel_undrew h)
theorem lt_al {w w' : World} {o : Obj} (p : ∀ b, b < (w.alloc o).heap.size → b < w'.heap.size) : w.heap.size < w'.heap.size := p _ (by simp)
theorem lt_al2 {w w' : World} {o o' : Obj} (p : ∀ b, b < ((w.alloc o).alloc o').heap.size → b < w'.heap.size) : w.heap.size < w'.heap.size := p _ (by simp <;> omega)
theorem lt_al3 {w w' : World} {o o' : Obj} (p : ∀ b, b < ((w.alloc o).alloc o').heap.size → b < w'.heap.size) : w.heap.size + 1 < w'.heap.size := p _ (by simp)
theorem divide_nat (v u : Value) (x y k n : Nat) (w : World) (h : IsNat w v x) (kk : IsNat w u y) (hx : Fits x) (hlo : P (k + 1) * 9223372036854775808 ≤ y) (hhi : y < P (k + 2)) (hle : y ≤ x) (hxn : x < P n) (hsh : k + 2 < 100 ∨ n < k + 2 + 100) :
    Calls Tryz.prog 114 #[v, u] w (MakesQR w (x / y) (x % y)) := by
  obtain ⟨a, lx, cap, rfl⟩ := h.isAgg
  obtain ⟨a', m, cap', rfl⟩ := kk.isAgg
  obtain ⟨rfl, G, ks, kv, ht⟩ := norm_len kk hlo hhi
  obtain ⟨F, hs, h0, h1, hv⟩ := h.fits
  obtain ⟨b', o', rfl, kw⟩ := ks.at 0 (by omega)
  have l1 : lx ≤ 4294967296 := fits_len (hv.symm ▸ hx) h1
  have l2 : lx ≤ n := len_le_of (hv.symm ▸ hxn) h1
  have l3 : k + 2 ≤ lx := by
    rcases Nat.lt_or_ge lx (k + 2) with hh | hh
    · have a1 := V_lt hs.2.2.1
      have a2 := P_le (show lx ≤ k + 1 by omega)
      have hp := P_pos (k + 1)
      omega
    · exact hh
  have := divide_short a lx cap b' o' k cap' F G w hs ks l3 l1 ht (by omega)
  rw [hv, kv] at this
  exact this
set_option maxHeartbeats 4000000 in
theorem divMod_long (a : Option Addr) (n cap : Nat) (a' : Option Addr) (k cap' : Nat) (x y : Nat) (w : World) (h : IsNat w (.agg #[.slice a n cap]) x) (kk : IsNat w (.agg #[.slice a' (k + 2) cap']) y) (hx : Small x) (hle : y ≤ x) (hsh : k + 2 < 100 ∨ n + 1 < k + 2 + 100) :
    Calls Tryz.prog 85 #[.agg #[.slice a n cap], .agg #[.slice a' (k + 2) cap']] w (MakesQRB w (x / y) (x % y) true) := by
  obtain ⟨F, hs, h0, h1, hv⟩ := h.fits
  obtain ⟨G, ks, k0, k1, kv⟩ := kk.fits
  have hn : n ≤ 4294967296 := fits_len (hv.symm ▸ hx.fits) h1
  have hkk : k + 2 ≤ 4294967296 := fits_len (kv.symm ▸ (hx.le hle).fits) k1
  obtain ⟨b', o', rfl, kw⟩ := ks.at 0 (by omega)
  have kc : w.cell? ⟨b', o' + (k + 1), none⟩ = some (.int .u64 (G (k + 1) : Nat)) := kw (k + 1) (by omega)
  have hGk : G (k + 1) < 18446744073709551616 := ks.2.2.1 _ (by omega)
  obtain ⟨s, hs'⟩ : ∃ s, s = 64 - bitLen (G (k + 1)) := ⟨_, rfl⟩
  obtain ⟨v1, v2, v3⟩ := norm_vals ks.2.2.1 (k1 (by omega)) hs'
  rw [kv] at v1 v2
  have HH : Hid (IsNat w (.agg #[.slice a n cap]) x ∧ IsNat w (.agg #[.slice (some ⟨b', o', none⟩) (k + 2) cap']) y) := And.intro h kk
  have HF : Hid (Small x ∧ Small y) := And.intro hx (hx.le hle)
  have HV : Hid (P (k + 1) * 9223372036854775808 ≤ y * 2 ^ s ∧ y * 2 ^ s < P (k + 2) ∧ s = 64 - bitLen (G (k + 1))) := ⟨v1, v2, hs'⟩
  have HB : Hid (Below w.heap.size w ((((w.alloc (.cells #[.slice a n cap] 64)).alloc (.cells #[.slice (some ⟨b', o', none⟩) (k + 2) cap'] 64)).alloc (.cells #[.slice none 0 0] 64)).alloc (.cells #[.slice none 0 0] 64))) := ((bel_alloc2 _ _ _).alloc (by simp <;> omega) _).alloc (by simp <;> omega) _
  have HKC : Hid _ := kc
  have hb0 : ((k : Int) + 2 == 0) = false := by simp <;> omega
  have hb1 : ((k : Int) + 2 == 1) = false := by simp <;> omega
  clear h kk hx hs h0 h1 hv ks k0 k1 kv kw kc v1 v2 hs'
  go_enter Tryz.func85, Tryz.ntmps85
  go_wp2_with fail
  refine (cmp_any _ _ x y _ (HH.out.1.mono HB.out) (HH.out.2.mono HB.out) HF.out.1.fits HF.out.2.fits).mono ?_
  rintro e w1 ⟨rfl, hbb1⟩
  have c0 : w1.cell? ⟨w.heap.size, 0, none⟩ = some (.slice a n cap) := cell_later hbb1 (by simp [go_sem])
  have c1 : w1.cell? ⟨w.heap.size + 1, 0, none⟩ = some (.slice (some ⟨b', o', none⟩) (k + 2) cap') := cell_later hbb1 (by simp [go_sem])
  have c2 : w1.cell? ⟨w.heap.size + 1 + 1, 0, none⟩ = some (.slice none 0 0) := cell_later hbb1 (by simp [go_sem])
  have c3 : w1.cell? ⟨w.heap.size + 1 + 1 + 1, 0, none⟩ = some (.slice none 0 0) := cell_later hbb1 (by simp [go_sem])
  have f2 : w1.frozen? ⟨w.heap.size + 1 + 1, 0, none⟩ = false := (hbb1.frozen (by simp <;> omega)).trans (by simp [go_sem])
  have f3 : w1.frozen? ⟨w.heap.size + 1 + 1 + 1, 0, none⟩ = false := (hbb1.frozen (by simp <;> omega)).trans (by simp [go_sem])
  have B1 : Hid (Below w.heap.size w w1) := bel_trans HB.out hbb1
  have kc1 := cell_later B1.out HKC.out
  have hcn : decide (cmpI x y < 0) = false := decide_eq_false (by unfold cmpI; split <;> (try split) <;> omega)
  clear hbb1
  go_wp2_with fail
  refine (lz64_s (G (k + 1)) s _ hGk HV.out.2.2).mono ?_
  rintro e w2 ⟨rfl, rfl⟩
  go_wp2_with fail
  have HX1 : Hid (IsNat w2 (.agg #[.slice a n cap]) x ∧ IsNat w2 (.agg #[.slice (some ⟨b', o', none⟩) (k + 2) cap']) y) := ⟨HH.out.1.mono B1.out, HH.out.2.mono B1.out⟩
  have hs36 : s ≤ 68719476736 := by omega
  have hl0 : w.heap.size < w2.heap.size := World.block_lt_of_cell? _ _ c0
  have DX : Hid (x * 2 ^ s < P (n + 1) ∧ y * 2 ^ s ≤ x * 2 ^ s) := by
    obtain ⟨F, q1, q2, q3, q4⟩ := HH.out.1.fits
    refine ⟨?_, Nat.mul_le_mul_right _ hle⟩
    rw [P_succ, ← q4]
    have h1 : (2 : Nat) ^ s ≤ 18446744073709551616 := (Nat.pow_le_pow_right (by omega) (by omega) : (2 : Nat) ^ s ≤ 2 ^ 64)
    exact Nat.lt_of_le_of_lt (Nat.mul_le_mul_left _ h1) (Nat.mul_lt_mul_of_pos_right (V_lt q1.2.2.1) (by omega))
  have SH : Hid (k + 2 < 100 ∨ n + 1 < k + 2 + 100) := hsh
  have HF2 : Hid (Fits (x * 2 ^ s)) := HF.out.1.up (by omega)
  clear hsh HH HB HKC kc1
  have h1 := HX1.out.1
  have hl1 : w.heap.size + 1 < w2.heap.size := World.block_lt_of_cell? _ _ c1
  have hl2 : w.heap.size < w2.heap.size + 1 := by omega
  have hl3 : w.heap.size + 1 < w2.heap.size + 1 := by omega
  have hl4 : w.heap.size < w2.heap.size + 1 + 1 := by omega
  have hl5 : w.heap.size + 1 < w2.heap.size + 1 + 1 := by omega
  go_cut [10, 11] (fun p q wx => TwoVars w2 wx (x * 2 ^ s / (y * 2 ^ s)) (x * 2 ^ s % (y * 2 ^ s)) p q)
  case first =>
    go_region_held3 (fun w' => w'.cell? ⟨w.heap.size, 0, none⟩ = some (.slice a n cap) ∧ w'.cell? ⟨w.heap.size + 1, 0, none⟩ = some (.slice (some ⟨b', o', none⟩) (k + 2) cap')) (first | (simp [go_sem, *]; done) | (trace_state; fail))
      (first
        | (go_at_call_of 83 (Value.agg #[Value.slice a n cap]); refine Calls.mono (up_any _ x s _ ?_ HF.out.1.fits hs36) ?_; (refine IsNat.mono HX1.out.1 ?_; repeat (first | exact Below.refl _ _ | refine bel_al ?_ | refine bel_dr ?_)); rintro e w3 ⟨v3, rfl, hv3, hb3⟩; obtain ⟨a3, n3, cap3, rfl⟩ := hv3.isAgg; (first | have ⟨p1, p2, p3, p4, p5, p6, p7, p8, p9⟩ := bel_rules_dr hb3 | have ⟨p1, p2, p3, p4, p5, p6, p7, p8, p9⟩ := bel_rules hb3); have X3 : Hid (IsNat w3 (.agg #[.slice a3 n3 cap3]) (x * 2 ^ s)) := hv3; (have B3 : Hid (Below w2.heap.size w2 w3) := bel_go (by repeat (first | exact Below.refl _ _ | refine bel_al ?_ | refine bel_dr ?_)) hb3); have z3 := B3.out.size; have g0 := Nat.lt_of_lt_of_le hl0 z3; have g1 := Nat.lt_of_lt_of_le hl1 z3; (first | have e0 : w2.heap.size < w3.heap.size := lt_al p3 | (have e0 : w2.heap.size < w3.heap.size := lt_al2 p3; have e1 : w2.heap.size + 1 < w3.heap.size := lt_al3 p3) | skip); clear hv3 hb3 z3)
        | (go_at_call 83; refine Calls.mono (up_any _ y s _ ?_ HF.out.2.fits hs36) ?_; (refine IsNat.mono HX1.out.2 ?_; repeat (first | exact Below.refl _ _ | exact B3.out | refine bel_al ?_ | refine bel_dr ?_)); rintro e w4 ⟨v4, rfl, hv4, hb4⟩; obtain ⟨a4, n4, cap4, rfl⟩ := hv4.isAgg; (first | have ⟨q1, q2, q3, q4, q5, q6, q7, q8, q9⟩ := bel_rules_dr hb4 | have ⟨q1, q2, q3, q4, q5, q6, q7, q8, q9⟩ := bel_rules hb4); have X4 : Hid (IsNat w4 (.agg #[.slice a4 n4 cap4]) (y * 2 ^ s)) := hv4; (have B4 : Hid (Below w3.heap.size w3 w4) := bel_go (by repeat (first | exact Below.refl _ _ | refine bel_al ?_ | refine bel_dr ?_)) hb4); have z4 := B4.out.size; have g2 := Nat.lt_of_lt_of_le g0 z4; have g3 := Nat.lt_of_lt_of_le g1 z4; (try have e2 := Nat.lt_of_lt_of_le e0 z4); (try have e3 := Nat.lt_of_lt_of_le e1 z4); (first | have e4 : w3.heap.size < w4.heap.size := lt_al q3 | (have e4 : w3.heap.size < w4.heap.size := lt_al2 q3; have e5 : w3.heap.size + 1 < w4.heap.size := lt_al3 q3) | skip); clear hv4 hb4 z4)
        | (go_at_call 114; refine Calls.mono (divide_nat _ _ (x * 2 ^ s) (y * 2 ^ s) k (n + 1) _ (IsNat.mono (X3.out) ?_) (IsNat.mono (X4.out) ?_) HF2.out HV.out.1 HV.out.2.1 DX.out.2 DX.out.1 SH.out) ?_; (repeat (first | exact Below.refl _ _ | exact B4.out | refine bel_al ?_ | refine bel_dr ?_)); (repeat (first | exact Below.refl _ _ | refine bel_al ?_ | refine bel_dr ?_)); rintro e w5 ⟨v5, u5, rfl, hv5, hu5, hb5⟩; obtain ⟨a5, n5, cap5, rfl⟩ := hv5.isAgg; obtain ⟨a6, n6, cap6, rfl⟩ := hu5.isAgg; (first | have ⟨r1, r2, r3, r4, r5, r6, r7, r8, r9⟩ := bel_rules_dr hb5 | have ⟨r1, r2, r3, r4, r5, r6, r7, r8, r9⟩ := bel_rules hb5); have X5 : Hid (IsNat w5 (.agg #[.slice a5 n5 cap5]) (x * 2 ^ s / (y * 2 ^ s)) ∧ IsNat w5 (.agg #[.slice a6 n6 cap6]) (x * 2 ^ s % (y * 2 ^ s))) := ⟨hv5, hu5⟩; (have B5 : Hid (Below w4.heap.size w4 w5) := bel_go (by repeat (first | exact Below.refl _ _ | refine bel_al ?_ | refine bel_dr ?_)) hb5); have z5 := B5.out.size; have g4 := Nat.lt_of_lt_of_le g2 z5; have g5 := Nat.lt_of_lt_of_le g3 z5; (try have e6 := Nat.lt_of_lt_of_le e2 z5); (try have e7 := Nat.lt_of_lt_of_le e3 z5); (try have e8 := Nat.lt_of_lt_of_le e4 z5); (try have e9 := Nat.lt_of_lt_of_le e5 z5); (first | have ea : w4.heap.size < w5.heap.size := lt_al r3 | (have ea : w4.heap.size < w5.heap.size := lt_al2 r3; have eb : w4.heap.size + 1 < w5.heap.size := lt_al3 r3) | skip); clear hv5 hu5 hb5 z5))
    all_goals (have y3 := B3.out.size; have y4 := B4.out.size; have y5 := B5.out.size)
    all_goals go_wp2_with fail
    all_goals go_meet
    all_goals go_light
    all_goals clear hle hn hkk hGk HF HV hb0 hb1 hcn f2 f3 B1 HX1 hs36 DX SH HF2 h1 X3 X4 c0 c1 c2 c3
    all_goals (have BB := bel_go (bel_go B3.out B4.out) B5.out)
    all_goals (have X6 := X5.out.1)
    all_goals (have X7 := X5.out.2)
    all_goals clear X5 B3 B4 B5
    all_goals refine ⟨_, _, a5, n5, cap5, a6, n6, cap6, rfl, rfl, ?_, ?_, ?_, ?_, ?_, ?_, ?_⟩
    all_goals try (simp (config := { maxDischargeDepth := 9 }) [go_sem, *]; done)
    all_goals try (repeat (first | exact BB | refine bel_al ?_ | refine bel_st ?_ (Nat.le_trans ?_ (Nat.le_refl _))))
    all_goals try (repeat (first | exact X6 | exact X7 | refine IsNat.mono ?_ (bel_al (Below.refl _ _)) | refine IsNat.setCell ?_ (no_int_slice (a := none) (n := 0) (c := 0) ?_) _))
    all_goals try omega
    all_goals try (simp (config := { maxDischargeDepth := 9 }) [go_sem, *]; done)
    all_goals (dsimp only; omega)
  case rest =>
    obtain ⟨bp, bq, a5, n5, cap5, a6, n6, cap6, rfl, rfl, d0, d1, hv5, hu5, hB, lp, lq⟩ := hcut
    have hl6 : w.heap.size + 1 + 1 + 1 < w2.heap.size := World.block_lt_of_cell? _ _ c3
    have m0 : ¬ bp = w.heap.size + 1 + 1 := by omega
    have m1 : ¬ bp = w.heap.size + 1 + 1 + 1 := by omega
    have m2 : ¬ bq = w.heap.size + 1 + 1 := by omega
    have m3 : ¬ bq = w.heap.size + 1 + 1 + 1 := by omega
    have m4 : ¬ w.heap.size + 1 + 1 = bp := by omega
    have m5 : ¬ w.heap.size + 1 + 1 + 1 = bp := by omega
    have m6 : ¬ w.heap.size + 1 + 1 = bq := by omega
    have m7 : ¬ w.heap.size + 1 + 1 + 1 = bq := by omega
    have X5 : Hid (IsNat wc (.agg #[.slice a5 n5 cap5]) (x * 2 ^ s / (y * 2 ^ s)) ∧ IsNat wc (.agg #[.slice a6 n6 cap6]) (x * 2 ^ s % (y * 2 ^ s))) := ⟨hv5, hu5⟩
    have d2 := cell_later hB c2
    have d3 := cell_later hB c3
    have e2 := (hB.frozen (World.block_lt_of_cell? _ _ c2)).trans f2
    have e3 := (hB.frozen (World.block_lt_of_cell? _ _ c3)).trans f3
    have l0 := World.block_lt_of_cell? _ _ d0
    have l1 := World.block_lt_of_cell? _ _ d1
    have l2 := World.block_lt_of_cell? _ _ d2
    have l3 := World.block_lt_of_cell? _ _ d3
    have BW : Hid (Below w.heap.size w wc) := bel_trans B1.out hB
    have FR : Hid (Fits (x * 2 ^ s % (y * 2 ^ s))) := ⟨Nat.lt_of_le_of_lt (Nat.mod_le _ _) HF2.out.lt⟩
    have hsa : (-9223372036854775808 : Int) ≤ (s : Int) := by omega
    have hsb : (s : Int) ≤ 9223372036854775807 := by omega
    clear hv5 hu5 hB lp lq hl6 c0 c1 c2 c3 f2 f3 hl0 hl1 hl2 hl3 hl4 hl5 h1 HX1 HF2 DX SH HV HF B1 hcn hb0 hb1 hGk
    go_wp2_with fail
    go_region_held3 (fun w' => w'.cell? ⟨bp, 0, none⟩ = some (.slice a5 n5 cap5) ∧ w'.cell? ⟨bq, 0, none⟩ = some (.slice a6 n6 cap6)) (simp [go_sem, *])
      (first
        | (go_at_call 82; refine Calls.mono (right_any _ (x * 2 ^ s % (y * 2 ^ s)) s _ ?_ FR.out hsa hsb) ?_; (refine IsNat.mono X5.out.2 ?_; repeat (first | exact Below.refl _ _ | refine bel_al ?_ | refine bel_dr ?_)); rintro e w6 ⟨v6, rfl, hv6, hb6⟩; obtain ⟨a7, n7, cap7, rfl⟩ := hv6.isAgg; (first | have ⟨p1, p2, p3, p4, p5, p6, p7, p8, p9⟩ := bel_rules_dr hb6 | have ⟨p1, p2, p3, p4, p5, p6, p7, p8, p9⟩ := bel_rules hb6); have X6 : Hid (IsNat w6 (.agg #[.slice a7 n7 cap7]) (x * 2 ^ s % (y * 2 ^ s) / 2 ^ (s : Int).toNat)) := hv6; (have B6 : Hid (Below wc.heap.size wc w6) := bel_go (by repeat (first | exact Below.refl _ _ | refine bel_al ?_ | refine bel_dr ?_)) hb6); clear hv6 hb6))
    have d4 := cell_later B6.out d2
    have d5 := cell_later B6.out d3
    go_wp2_with fail
    have n1 : ∀ kk q, (w6.setCell ⟨w.heap.size + 1 + 1, 0, none⟩ (.slice a5 n5 cap5)).cell? ⟨w.heap.size + 1 + 1 + 1, 0, none⟩ ≠ some (.int kk q) := by
      rw [World.cell?_setCell_far _ _ _ _ (by simp)]
      exact no_int_slice d5
    have BX := bel_trans BW.out B6.out
    refine bodyPost_ret (v := .tuple #[.agg #[.slice a5 n5 cap5], .agg #[.slice a7 n7 cap7], .bool true]) (by simp [results, Tryz.results85, go_sem, d4, d5]) rfl ⟨_, _, rfl, ?_, ?_, (BX.setCell (by simp <;> omega) _).setCell (by simp <;> omega) _⟩
    · have := X5.out.1.mono B6.out
      rw [Nat.mul_div_mul_right _ _ (Nat.two_pow_pos s)] at this
      exact (this.setCell (no_int_slice d4) _).setCell n1 _
    · have := X6.out
      rw [Int.toNat_natCast, Nat.mul_mod_mul_right, Nat.mul_div_cancel _ (Nat.two_pow_pos s)] at this
      exact (this.setCell (no_int_slice d4) _).setCell n1 _
end Go.Proofs.YtfjmnhmdipjenaaGreatDoor

namespace Go.Proofs.YtfjmnhmdipjenaaGreatDoor
open Go.RowKit
set_option linter.unusedVariables false
theorem divMod_any (v u : Value) (x y : Nat) (w : World) (h : IsNat w v x) (k : IsNat w u y) (hx : Small x) (hy : Small y) (hy0 : 0 < y) (hsh : (y < P 99 ∨ x < P 99) ∨ (P 126 ≤ y ∧ x < P 225)) :
    Calls Tryz.prog 85 #[v, u] w (MakesQRB w (x / y) (x % y) true) := by
  rcases Nat.lt_or_ge x y with hl | hl
  · exact divMod_lt v u x y w h k hx.fits hy.fits hl
  obtain ⟨a, n, cap, rfl⟩ := h.isAgg
  obtain ⟨a', m, cap', rfl⟩ := k.isAgg
  obtain ⟨G, ks, k0, k1, kv⟩ := id k.fits
  rcases m with _ | _ | m
  · rw [V_zero] at kv
    omega
  · exact divMod_word a n cap a' cap' x y w h k hx.fits hy.fits hl
  · obtain ⟨F, hs, h0, h1, hv⟩ := id h.fits
    refine divMod_long a n cap a' m cap' x y w h k hx hl ?_
    rcases hsh with hh | ⟨h1', h2'⟩
    · have : y < P 99 := hh.elim id fun hh => Nat.lt_of_le_of_lt hl hh
      have := len_le_of (kv.symm ▸ this) k1
      left
      omega
    · have e1 : P 126 < P (m + 1 + 1) := Nat.lt_of_le_of_lt h1' (kv ▸ V_lt ks.2.2.1)
      have e3 : 126 < m + 1 + 1 := by
        rcases Nat.lt_or_ge 126 (m + 1 + 1) with hh | hh
        · exact hh
        · exact absurd e1 (Nat.not_lt.2 (P_le hh))
      have e2 := len_le_of (hv.symm ▸ h2') h1
      right
      omega
/-- A number of at most 198 words, by any. -/
theorem divMod_198 (v u : Value) (x y : Nat) (w : World) (h : IsNat w v x) (k : IsNat w u y) (hy : Small y) (hy0 : 0 < y) (hx : x < P 198) (hxs : Small x) :
    Calls Tryz.prog 85 #[v, u] w (MakesQRB w (x / y) (x % y) true) := by
  rcases Nat.lt_or_ge x y with hl | hl
  · exact divMod_lt v u x y w h k hxs.fits hy.fits hl
  obtain ⟨a, n, cap, rfl⟩ := h.isAgg
  obtain ⟨a', m, cap', rfl⟩ := k.isAgg
  obtain ⟨G, ks, k0, k1, kv⟩ := id k.fits
  rcases m with _ | _ | m
  · rw [V_zero] at kv
    omega
  · exact divMod_word a n cap a' cap' x y w h k hxs.fits hy.fits hl
  · obtain ⟨F, hs, h0, h1, hv⟩ := id h.fits
    refine divMod_long a n cap a' m cap' x y w h k hxs hl ?_
    have e2 := len_le_of (hv.symm ▸ hx) h1
    omega
end Go.Proofs.YtfjmnhmdipjenaaGreatDoor

namespace Go.Proofs.YtfjmnhmdipjenaaGreatDoor
open Go.RowKit
set_option maxRecDepth 100000
set_option linter.unusedVariables false
/-- The sign of x's decimal digit at a place. -/
def decAt (x p : Nat) : Nat := 48 + x / 10 ^ p % 10
theorem decAt_lt (x p : Nat) : decAt x p < 256 := by have := Nat.mod_lt (x / 10 ^ p) (show 0 < 10 by omega); unfold decAt; omega
theorem decAt_div (x p q : Nat) : decAt (x / 10 ^ q) p = decAt x (q + p) := by unfold decAt; rw [Nat.div_div_eq_div_mul, ← Nat.pow_add]
theorem decAt_mod (x p q : Nat) (h : p < q) : decAt (x % 10 ^ q) p = decAt x p := by
  unfold decAt
  obtain ⟨t, rfl⟩ : ∃ t, q = p + (t + 1) := ⟨q - p - 1, by omega⟩
  rw [Nat.pow_add, Nat.mod_mul_right_div_self]
  rw [Nat.mod_mod_of_dvd _ ⟨10 ^ t, by rw [Nat.pow_succ, Nat.mul_comm]⟩]
/-- The last places of n, from k on, hold digits of x. -/
def DecFill (D D' : Nat → Nat) (o n k x : Nat) : Prop := (∀ i, k ≤ i → i < n → D' (o + i) = decAt x (n - 1 - i)) ∧ ∀ j, j < o + k ∨ o + n ≤ j → D' j = D j
theorem DecFill.start (D : Nat → Nat) (o n x : Nat) : DecFill D D o n n x := ⟨fun i h1 h2 => absurd h2 (by omega), fun _ _ => rfl⟩
theorem DecFill.step {D D' : Nat → Nat} {o n t x : Nat} (h : DecFill D D' o n (t + 1) x) (ht : t < n) : DecFill D (put D' (o + t) (decAt x (n - 1 - t))) o n t x := by
  refine ⟨fun i h1 h2 => ?_, fun j hj => ?_⟩
  · by_cases e : i = t
    · subst e
      exact put_same _ _ _
    · rw [put_other _ _ (by omega)]
      exact h.1 i (by omega) h2
  · rw [put_other _ _ (by omega)]
    exact h.2 j (by omega)
set_option maxHeartbeats 1000000 in
theorem fillChunk_any (b N o n cap c : Nat) (D : Nat → Nat) (w : World) (hD : BRow w b N D) (ho : o + n ≤ N) (hn : n ≤ 1099511627776) (hc : c < 18446744073709551616) :
    Calls Tryz.prog 115 #[.slice (some ⟨b, o, none⟩) n cap, .int .u64 (c : Int)] w fun e w' => e = .returned (.tuple #[]) ∧ ∃ D', BRow w' b N D' ∧ DecFill D D' o n 0 c ∧ w.grownBy w' (some b) := by
  have A0 : Hid _ := hD
  clear hD
  go_enter Tryz.func115, Tryz.ntmps115
  go_wp2_with fail
  go_loopw [1, 4] (fun cv t wr => ∃ (k : Nat) (D' : Nat → Nat), k ≤ n ∧ t = .int .i64 ((k : Int) - 1) ∧ cv = .int .u64 ((c / 10 ^ (n - k) : Nat) : Int) ∧ BRow wr b N D' ∧ DecFill D D' o n k c ∧ w.grownBy wr (some b)) (fun _ t _ => (intOf t + 1).toNat)
  case atStart => exact ⟨n, D, Nat.le_refl _, rfl, by simp, A0.out, DecFill.start _ _ _ _, World.grownBy.refl _ _⟩
  case round =>
    obtain ⟨k, D', hk, rfl, rfl, hA⟩ := hrel
    by_cases hk0 : k = 0
    · subst hk0
      have HA : Hid _ := hA
      clear hA
      go_wp2_with fail
      exact bodyPost_end (v := .tuple #[]) (by simp [results, Tryz.results115, go_sem]) rfl ⟨rfl, D', HA.out⟩
    · obtain ⟨t, rfl⟩ : ∃ t, k = t + 1 := ⟨k - 1, by omega⟩
      have hc2 : wr.cell? ⟨b, o + t, none⟩ = some (.int .u8 (D' (o + t) : Nat)) := hA.1.cell (by omega)
      have hf2 : wr.frozen? ⟨b, o + t, none⟩ = false := hA.1.frozen _
      have HA : Hid _ := hA
      obtain ⟨c', e'⟩ : ∃ c', c' = c / 10 ^ (n - (t + 1)) := ⟨_, rfl⟩
      have hc' : c' < 18446744073709551616 := by rw [e']; exact Nat.lt_of_le_of_lt (Nat.div_le_self _ _) hc
      rw [← e']
      have HE : Hid _ := e'
      clear hA e'
      go_wp2_with fail
      go_roundw
      case rel =>
        have hd : c' % 10 = c' % 10 ∧ 48 + c' % 10 = decAt c (n - 1 - t) ∧ c' / 10 = c / 10 ^ (n - t) := by
          refine ⟨rfl, ?_, ?_⟩
          · rw [HE.out]; unfold decAt; rw [show n - 1 - t = n - (t + 1) by omega]
          · rw [HE.out, Nat.div_div_eq_div_mul, ← Nat.pow_succ, show (n - (t + 1)).succ = n - t by omega]
        have hb := HA.out.1.set (o + t) (decAt_lt c (n - 1 - t))
        rw [← hd.2.1] at hb
        refine ⟨t, put D' (o + t) (48 + c' % 10), by omega, by go_num, ?_, ?_, ?_, ?_⟩
        · rw [← hd.2.2]; simp
        · have := hb; simpa using this
        · rw [hd.2.1]; exact HA.out.2.1.step (by omega)
        · exact grown_set _ HA.out.2.2 _ _
      case measure => simp [intOf]
end Go.Proofs.YtfjmnhmdipjenaaGreatDoor

namespace Go.Proofs.YtfjmnhmdipjenaaGreatDoor
open Go.RowKit
set_option maxRecDepth 100000
set_option linter.unusedVariables false
theorem DecFill.chunk {D D' D'' : Nat → Nat} {o n j x lo e : Nat} (h : DecFill D D' o n (n - 19 * j) x) (he : e = n - 19 * j) (hlo : lo = e - 19) (k : DecFill D' D'' (o + lo) (e - lo) 0 (x / 10000000000000000000 ^ j % 10000000000000000000)) : DecFill D D'' o n (n - 19 * (j + 1)) x := by
  have hp : (10000000000000000000 : Nat) = 10 ^ 19 := by decide
  refine ⟨fun i h1 h2 => ?_, fun i hi => ?_⟩
  · rcases Nat.lt_or_ge i e with hh | hh
    · have := k.1 (i - lo) (by omega) (by omega)
      rw [show o + lo + (i - lo) = o + i by omega] at this
      rw [this, hp, decAt_mod _ _ _ (by omega), ← Nat.pow_mul, decAt_div]
      congr 1
      omega
    · rw [k.2 _ (by omega)]
      exact h.1 i (by omega) h2
  · rw [k.2 _ (by omega)]
    exact h.2 i (by omega)
theorem BRow.kept {w w' : World} {b N : Nat} {D : Nat → Nat} {r : Option Nat} (h : BRow w b N D) (g : w.grownBy w' r) (hne : some b ≠ r) : BRow w' b N D := ⟨h.1.of_block (g.block b h.1.lt hne), h.2⟩
theorem gb_go {a b c : World} {r r' : Option Nat} (h : a.grownBy b r) (k : b.grownBy c r') (hr : ∀ j, r' = some j → a.heap.size ≤ j ∨ r = some j) : a.grownBy c r := by
  refine ⟨k.os.trans h.os, k.tape.trans h.tape, k.output.trans h.output, Nat.le_trans h.size k.size, fun i hi hn => ?_⟩
  refine (k.block i (Nat.lt_of_lt_of_le hi h.size) ?_).trans (h.block i hi hn)
  intro e
  rcases hr i e.symm with hh | hh
  · omega
  · exact hn hh.symm
theorem gb_of_below {a b : World} (h : Below a.heap.size a b) (r : Option Nat) : a.grownBy b r := ⟨h.os, h.tape, h.output, h.size, fun i hi _ => h.block i hi⟩
set_option maxHeartbeats 2000000 in
theorem fillPlain_any (b N o n cap : Nat) (v : Value) (x : Nat) (D : Nat → Nat) (w : World) (hD : BRow w b N D) (ho : o + n ≤ N) (hn : n ≤ 1099511627776) (hcap : n ≤ cap) (hcap2 : cap ≤ 1099511627776) (h : IsNat w v x) (hx : Fits x) :
    Calls Tryz.prog 86 #[.slice (some ⟨b, o, none⟩) n cap, v] w fun e w' => e = .returned (.tuple #[]) ∧ ∃ D', BRow w' b N D' ∧ DecFill D D' o n 0 x ∧ w.grownBy w' (some b) := by
  obtain ⟨a, m, c, rfl⟩ := h.isAgg
  obtain ⟨F, hs, h0, h1, hv⟩ := h.fits
  have hm : m ≤ 4294967296 := fits_len (hv.symm ▸ hx) h1
  have HS : Hid (Sl w a m c F ∧ V F m = x) := ⟨hs, hv⟩
  have A0 : Hid (BRow w b N D) := hD
  have mk := make_at (m : Int) (m : Int) m m rfl rfl (Nat.le_refl _) (by omega)
  clear hD h hx hs h0 h1 hv
  go_enter Tryz.func86, Tryz.ntmps86
  go_wp2_with (refine (id ?_ : wpList Tryz.prog _ _ (⟨some 14, _, _, _, _, _⟩ :: _) _ _); refine wpList_copy_words rfl (.tmp 11) (.tmp 13) rfl _ _ _ _ _ _ _ rfl rfl m (fun _ => 0) F (row_zeros_at _ m _ (by simp)) (HS.out.1.mono (bel_alloc2 _ _ _)) (by omega) (by omega) ?_)
  intro w2 hR2 hg2
  have B2 : Below w.heap.size w w2 := (bel_alloc2 w _ _).grown hg2 (by simp <;> omega) (fun k hk => by cases hk; omega)
  have hlb : b < w.heap.size := A0.out.1.lt
  have I0 : Hid (BRow w2 b N D ∧ Row w2 (w.heap.size + 1) m (over (fun _ => 0) 0 F m) ∧ w.grownBy w2 (some b)) := ⟨A0.out.below B2, hR2, gb_of_below B2 _⟩
  have HV : Hid _ := HS.out.2
  clear hR2 hg2 B2 HS A0 mk
  go_wp2_with fail
  go_loopw [5] (fun t wr => ∃ (j : Nat) (H D' : Nat → Nat), 19 * j < n + 19 ∧ t = .int .i64 ((n : Int) - 19 * j) ∧ Row wr (w.heap.size + 1) m H ∧ V H m = x / 10000000000000000000 ^ j ∧ BRow wr b N D' ∧ DecFill D D' o n (n - 19 * j) x ∧ w.grownBy wr (some b)) (fun t _ => (intOf t).toNat)
  case atStart =>
    refine ⟨0, _, D, by omega, by simp, I0.out.2.1, ?_, I0.out.1, DecFill.start _ _ _ _, I0.out.2.2⟩
    rw [V_over0, HV.out]
    simp
  case round =>
    clear I0
    obtain ⟨j, H, D', hj, rfl, hA⟩ := hrel
    have HA : Hid _ := hA
    clear hA
    by_cases hk0 : n ≤ 19 * j
    · go_wp2_with fail
      refine bodyPost_end (v := .tuple #[]) (by simp [results, Tryz.results86, go_sem]) rfl ⟨rfl, D', HA.out.2.2.1, ?_, HA.out.2.2.2.2⟩
      have := HA.out.2.2.2.1
      rw [show n - 19 * j = 0 by omega] at this
      exact this
    · go_wp2_with fail
      refine (divideByWord_any (w.heap.size + 1) m 0 m m 10000000000000000000 H wr HA.out.1 (by omega) (by omega) (by omega) (by omega)).mono ?_
      rintro e w3 ⟨q, rfl, H', hD⟩
      obtain ⟨e1, e2⟩ := hD.fin
      rw [fro_zero, fro_zero, HA.out.2.1, Nat.div_div_eq_div_mul, ← Nat.pow_succ] at e1
      rw [fro_zero, HA.out.2.1] at e2
      have hg3 := hD.2.2.2.2
      have hql : q < 18446744073709551616 := by rw [e2]; exact Nat.lt_trans (Nat.mod_lt _ (by omega)) (by omega)
      have I3 : Hid (Row w3 (w.heap.size + 1) m H' ∧ V H' m = x / 10000000000000000000 ^ (j + 1) ∧ BRow w3 b N D' ∧ w.grownBy w3 (some b) ∧ DecFill D D' o n (n - 19 * j) x ∧ q = x / 10000000000000000000 ^ j % 10000000000000000000) := ⟨hD.1, e1, HA.out.2.2.1.kept hg3 (by intro h; cases h; omega), gb_go HA.out.2.2.2.2 hg3 (fun k hk => by cases hk; omega), HA.out.2.2.2.1, e2⟩
      clear hD e1 e2 hg3 HA
      obtain ⟨el, hel⟩ : ∃ el, el = n - 19 * j := ⟨_, rfl⟩
      obtain ⟨lo, hlo⟩ : ∃ lo, lo = el - 19 := ⟨_, rfl⟩
      have hz1 : (n : Int) - 19 * (j : Int) = (el : Int) := by omega
      rw [hz1]
      have hmx : max (0 : Int) ((el : Int) - 19) = (lo : Int) := by omega
      have hel2 : el ≤ n := by omega
      have hel3 : 0 < el := by omega
      have hto : ((el : Int) - 19).toNat = lo := by omega
      have HL : Hid (el = n - 19 * j ∧ lo = el - 19 ∧ ((el : Int) - 19).toNat = lo) := ⟨hel, hlo, hto⟩
      clear hel hlo hmx hz1 hto hk0 hj
      go_wp2_with fail
      all_goals have hll := HL.out.2.1
      · rw [HL.out.2.2]
        refine (fillChunk_any b N (o + lo) (el - lo) (cap - lo) q D' w3 I3.out.2.2.1 (by omega) (by omega) hql).mono ?_
        rintro e w4 ⟨rfl, D'', hb4, hf4, hg4⟩
        have I4 : Hid _ := hf4
        have I5 : Hid _ := hg4
        have I6 : Hid _ := hb4
        clear hf4 hg4 hb4
        go_wp2_with fail
        go_roundw
        case rel =>
          have hel := HL.out.1
          refine ⟨j + 1, H', D'', by omega, by simp; omega, Row.kept I3.out.1 I5.out (by intro h; cases h; omega), I3.out.2.1, I6.out, ?_, gb_go I3.out.2.2.2.1 I5.out (fun k hk => Or.inr hk)⟩
          have := I4.out
          rw [I3.out.2.2.2.2.2] at this
          exact I3.out.2.2.2.2.1.chunk hel hll this
        case measure =>
          have hel := HL.out.1
          simp [intOf]
          omega
      · have HL0 : Hid (0 = el - 19) := (by omega : 0 = el - 19)
        clear hll
        refine (fillChunk_any b N o el cap q D' w3 I3.out.2.2.1 (by omega) (by omega) hql).mono ?_
        rintro e w4 ⟨rfl, D'', hb4, hf4, hg4⟩
        have I4 : Hid _ := hf4
        have I5 : Hid _ := hg4
        have I6 : Hid _ := hb4
        clear hf4 hg4 hb4
        go_wp2_with fail
        go_roundw
        case rel =>
          have hel := HL.out.1
          refine ⟨j + 1, H', D'', by omega, by simp; omega, Row.kept I3.out.1 I5.out (by intro h; cases h; omega), I3.out.2.1, I6.out, ?_, gb_go I3.out.2.2.2.1 I5.out (fun k hk => Or.inr hk)⟩
          have := I4.out
          rw [I3.out.2.2.2.2.2] at this
          exact I3.out.2.2.2.2.1.chunk (lo := 0) hel HL0.out this
        case measure =>
          have hel := HL.out.1
          simp [intOf]
          omega
end Go.Proofs.YtfjmnhmdipjenaaGreatDoor

namespace Go.Proofs.YtfjmnhmdipjenaaGreatDoor
open Go.RowKit
set_option linter.unusedVariables false
/-- The powers that a long number is halved by. -/
def pw (i : Nat) : Nat := 10 ^ (19 * 2 ^ i)
theorem pw_zero : pw 0 = 10000000000000000000 := by decide +kernel
theorem pw_succ (i : Nat) : pw (i + 1) = pw i * pw i := by
  unfold pw
  rw [← Nat.pow_add, Nat.pow_succ]
  congr 1
  omega
theorem pw_le {i j : Nat} (h : i ≤ j) : pw i ≤ pw j := Nat.pow_le_pow_right (by decide) (Nat.mul_le_mul_left _ (Nat.pow_le_pow_right (by decide) h))
theorem pw_pos (i : Nat) : 0 < pw i := Nat.pow_pos (by decide)
theorem pw_two (i : Nat) : 2 ≤ pw i := Nat.le_trans (by rw [pw_zero]; omega) (pw_le (Nat.zero_le i))
theorem pw_six : pw 6 < P 99 := by decide +kernel
theorem pw_seven : P 126 ≤ pw 7 := by decide +kernel
/-- A number whose text is spoken of here. -/
structure Tx (x : Nat) : Prop where
  lt : x < P 225
theorem Tx.le {x y : Nat} (h : Tx x) (hy : y ≤ x) : Tx y := ⟨Nat.lt_of_le_of_lt hy h.lt⟩
theorem Tx.small {x : Nat} (h : Tx x) : Small x := ⟨Nat.lt_trans h.lt (P_lt (show 225 < lim2 by decide))⟩
theorem Tx.fits {x : Nat} (h : Tx x) : Fits x := h.small.fits
theorem pw_cond {x i : Nat} (h : Tx x) (hi : pw i ≤ x) : pw i < P 99 ∨ (P 126 ≤ pw i ∧ x < P 225) := by
  rcases Nat.lt_or_ge i 7 with h1 | h1
  · exact .inl (Nat.lt_of_le_of_lt (pw_le (show i ≤ 6 by omega)) pw_six)
  · exact .inr ⟨Nat.le_trans pw_seven (pw_le h1), h.lt⟩
theorem pw_tx {i : Nat} (h : i ≤ 7) : Tx (pw i) := ⟨Nat.lt_of_le_of_lt (pw_le h) (by decide +kernel)⟩
theorem two_ten : (2 : Nat) ^ 100000 ≤ 10 ^ 30103 := by decide +kernel
theorem lt_ten_of {x L E B t : Nat} (hE : 0 < E) (hEB : 2 ^ E ≤ 10 ^ B) (h : x < 2 ^ L) (ht : L * B ≤ (t + 1) * E) : x < 10 ^ (t + 1) := by
  refine Nat.lt_of_lt_of_le h ?_
  refine (Nat.pow_le_pow_iff_left (n := E) (by omega)).1 ?_
  rw [← Nat.pow_mul, ← Nat.pow_mul, Nat.mul_comm L, Nat.pow_mul]
  refine Nat.le_trans (Nat.pow_le_pow_left hEB L) ?_
  rw [← Nat.pow_mul, Nat.mul_comm B]
  exact Nat.pow_le_pow_right (by omega) ht
theorem lt_ten {x L : Nat} (h : x < 2 ^ L) : x < 10 ^ (L * 30103 / 100000 + 1) := by
  refine lt_ten_of (E := 100000) (B := 30103) (by omega) two_ten h ?_
  have := Nat.div_add_mod (L * 30103) 100000
  have := Nat.mod_lt (L * 30103) (show 0 < 100000 by omega)
  omega
/-- A number's decimal digits are k. -/
def DecLen (x k : Nat) : Prop := 0 < k ∧ x < 10 ^ k ∧ (k = 1 ∨ 10 ^ (k - 1) ≤ x)
theorem DecLen.unique {x k l : Nat} (h : DecLen x k) (h' : DecLen x l) : k = l := by
  obtain ⟨h1, h2, h3⟩ := h
  obtain ⟨g1, g2, g3⟩ := h'
  rcases Nat.lt_trichotomy k l with hh | hh | hh
  · have := Nat.pow_le_pow_right (n := 10) (by omega) (show k ≤ l - 1 by omega)
    omega
  · exact hh
  · have := Nat.pow_le_pow_right (n := 10) (by omega) (show l ≤ k - 1 by omega)
    omega
theorem decAt_zero {x p : Nat} (h : x < 10 ^ (p + 1)) : decAt x p = 48 ↔ x < 10 ^ p := by
  unfold decAt
  rw [Nat.pow_succ] at h
  have h1 : x / 10 ^ p < 10 := Nat.div_lt_of_lt_mul (by omega)
  rw [Nat.mod_eq_of_lt h1]
  constructor
  · intro hh
    have h2 : x / 10 ^ p = 0 := by omega
    exact (Nat.div_eq_zero_iff_lt (Nat.pow_pos (by omega))).1 h2
  · intro hh
    rw [Nat.div_eq_of_lt hh]
end Go.Proofs.YtfjmnhmdipjenaaGreatDoor

namespace Go.Proofs.YtfjmnhmdipjenaaGreatDoor
open Go.RowKit
set_option maxRecDepth 100000
set_option linter.unusedVariables false
/-- Numbers lie in w from b's cell o on. -/
def NRow (w : World) (b o K : Nat) (M : Nat → Nat) : Prop := ∀ i, i < K → ∃ a n c, w.cell? ⟨b, o + i, none⟩ = some (.slice a n c) ∧ IsNat w (.agg #[.slice a n c]) (M i)
theorem NRow.mono {w w' : World} {b o K : Nat} {M : Nat → Nat} (h : NRow w b o K M) (hb : Below w.heap.size w w') : NRow w' b o K M := by
  intro i hi
  obtain ⟨a, n, c, h1, h2⟩ := h i hi
  exact ⟨a, n, c, cell_later hb h1, h2.mono hb⟩
def cnt (M : Nat → Nat) (x : Nat) : Nat → Nat
  | 0 => 0
  | k + 1 => cnt M x k + (if M k ≤ x then 1 else 0)
theorem cnt_le (M : Nat → Nat) (x : Nat) : ∀ k, cnt M x k ≤ k
  | 0 => Nat.le_refl _
  | k + 1 => by
    have := cnt_le M x k
    unfold cnt
    split <;> omega
set_option maxHeartbeats 1000000 in
theorem reached_any (v : Value) (x : Nat) (b o K cap : Nat) (M : Nat → Nat) (w : World) (h : IsNat w v x) (hx : Fits x) (hM : NRow w b o K M) (hf : ∀ i, i < K → Fits (M i)) (hK : K ≤ 4294967296) :
    Calls Tryz.prog 87 #[.slice (some ⟨b, o, none⟩) K cap, .func (.func 72) #[v] #[]] w fun e w' => e = .returned (.int .i64 ((cnt M x K : Nat) : Int)) ∧ Below w.heap.size w w' := by
  have A0 : Hid (IsNat w v x ∧ NRow w b o K M ∧ ∀ i, i < K → Fits (M i)) := ⟨h, hM, hf⟩
  clear h hM hf
  go_enter Tryz.func87, Tryz.ntmps87
  go_wp2_with fail
  go_loopw [5, 10] (fun nv t wr => ∃ (k : Nat), k ≤ K ∧ nv = .int .i64 ((cnt M x k : Nat) : Int) ∧ t = .int .i64 (k : Int) ∧ Below w.heap.size w wr) (fun _ t _ => K - (intOf t).toNat)
  case atStart => exact ⟨0, Nat.zero_le _, rfl, rfl, Below.refl _ _⟩
  case round =>
    obtain ⟨k, hk, rfl, rfl, hb⟩ := hrel
    by_cases hk0 : k = K
    · subst hk0
      have HB : Hid _ := hb
      clear hb
      go_wp2_with fail
      go_ret
      exact ⟨rfl, HB.out⟩
    · have hc := cnt_le M x k
      obtain ⟨a1, n1, c1, e1, e2⟩ := (A0.out.2.1.mono hb) k (by omega)
      have HB : Hid _ := hb
      have HE : Hid (IsNat wr (.agg #[.slice a1 n1 c1]) (M k)) := e2
      clear hb e2
      go_wp2_with fail
      have ba : Below wr.heap.size wr (wr.alloc (Obj.cells #[Value.slice a1 n1 c1] 64)) := (Below.refl _ _).alloc (Nat.le_refl _) _
      refine (cmp_any v _ x (M k) _ ((A0.out.1.mono HB.out).mono ba) (HE.out.mono ba) hx (A0.out.2.2 k (by omega))).mono ?_
      rintro e w3 ⟨rfl, hb3⟩
      have B3 : Hid (Below w.heap.size w w3) := bel_trans HB.out (bel_trans ba hb3)
      clear hb3 ba HB HE e1
      by_cases hm : M k ≤ x
      · have hcm : decide (0 ≤ cmpI x (M k)) = true := by
          rcases Nat.lt_or_ge (M k) x with h1 | h1
          · rw [cmpI_gt h1]
            rfl
          · rw [show M k = x by omega, cmpI_eq]
            rfl
        go_wp2_with fail
        go_roundw
        case rel => exact ⟨k + 1, by omega, by simp [cnt, hm], by simp, B3.out⟩
        case measure => simp [intOf]; omega
      · have hcm : decide (0 ≤ cmpI x (M k)) = false := by
          rw [cmpI_lt (by omega)]
          rfl
        go_wp2_with fail
        go_roundw
        case rel => exact ⟨k + 1, by omega, by simp [cnt, hm], by simp, B3.out⟩
        case measure => simp [intOf]; omega
end Go.Proofs.YtfjmnhmdipjenaaGreatDoor

namespace Go.Proofs.YtfjmnhmdipjenaaGreatDoor
open Go.RowKit
set_option linter.unusedVariables false
/-- v is a slice of the call's own, of n things. -/
def OR (w : World) (e : TypeId) (base : Nat) (v : Value) (n : Nat) (G : Nat → Value) : Prop :=
  (v = .slice none 0 0 ∧ n = 0) ∨ ∃ g cap f, v = .slice (some ⟨g, 0, none⟩) n cap ∧ base ≤ g ∧ n ≤ cap ∧ cap ≤ maxLen ∧ w.rowIs g e cap f ∧ ∀ i, i < n → f i = G i
theorem OR.owns {w : World} {e : TypeId} {base : Nat} {v : Value} {n : Nat} {G : Nat → Value} (h : OR w e base v n G) : w.ownsRow base e 1 v n ((List.range n).map G) := by
  refine ⟨by simp, ?_⟩
  rcases h with h | ⟨g, cap, f, rfl, hb, hn, hc, ⟨cur, h1, h2, h3⟩, h4⟩
  · exact .inl h
  · refine .inr ⟨g, cap, cur, rfl, hb, h1, hn, hc, by omega, ?_⟩
    refine List.ext_getElem? fun i => ?_
    rw [Nat.mul_one]
    rcases Nat.lt_or_ge i n with hi | hi
    · rw [List.getElem?_take_of_lt hi, List.getElem?_map, List.getElem?_range hi, Array.getElem?_toList, h3 i (by omega), h4 i hi]
      rfl
    · rw [List.getElem?_eq_none (by simp; omega), List.getElem?_eq_none (by simp; omega)]
theorem OR.of_owns {w : World} {e : TypeId} {base : Nat} {v : Value} {n : Nat} {G : Nat → Value} {xs : List Value} (h : w.ownsRow base e 1 v n xs) (hx : ∀ i, i < n → xs[i]? = some (G i)) : OR w e base v n G := by
  rcases h.2 with h | ⟨g, cap, cur, rfl, hb, hg, hn, hc, hs, ht⟩
  · exact .inl h
  · refine .inr ⟨g, cap, fun i => cur.getD i (.int .u64 0), rfl, hb, hn, hc, ⟨cur, hg, by omega, fun i hi => ?_⟩, fun i hi => ?_⟩
    · show _ = some (cur.getD i (.int .u64 0))
      rw [Array.getElem?_eq_getElem (by omega), Array.getD_eq_getD_getElem?, Array.getElem?_eq_getElem (by omega)]
      rfl
    · have := hx i hi
      rw [← ht, List.getElem?_take_of_lt (by omega), Array.getElem?_toList] at this
      show cur.getD i (.int .u64 0) = _
      rw [Array.getD_eq_getD_getElem?, this]
      rfl
theorem OR.kept {w w' : World} {e : TypeId} {base : Nat} {v : Value} {n : Nat} {G : Nat → Value} {row : Option Nat} (h : OR w e base v n G) (hg : w.grownBy w' row) (hne : v.ownBlock = none ∨ v.ownBlock ≠ row) : OR w' e base v n G := by
  rcases h with h | ⟨g, cap, f, rfl, hb, hn, hc, h1, h4⟩
  · exact .inl h
  · refine .inr ⟨g, cap, f, rfl, hb, hn, hc, h1.of_block (hg.block g h1.lt (by simpa [Value.ownBlock] using hne)), h4⟩
theorem OR.below {w w' : World} {e : TypeId} {base : Nat} {v : Value} {n : Nat} {G : Nat → Value} (h : OR w e base v n G) (hb : Below w.heap.size w w') : OR w' e base v n G := by
  rcases h with h | ⟨g, cap, f, rfl, hb', hn, hc, h1, h4⟩
  · exact .inl h
  · exact .inr ⟨g, cap, f, rfl, hb', hn, hc, h1.of_block (hb.block g h1.lt), h4⟩
theorem OR.nil (w : World) (e : TypeId) (base : Nat) (G : Nat → Value) : OR w e base (.slice none 0 0) 0 G := .inl ⟨rfl, rfl⟩
theorem OR.congr {w : World} {e : TypeId} {base : Nat} {v : Value} {n : Nat} {G G' : Nat → Value} (h : OR w e base v n G) (hG : ∀ i, i < n → G i = G' i) : OR w e base v n G' := by
  rcases h with h | ⟨g, cap, f, rfl, hb', hn, hc, h1, h4⟩
  · exact .inl h
  · exact .inr ⟨g, cap, f, rfl, hb', hn, hc, h1, fun i hi => (h4 i hi).trans (hG i hi)⟩
/-- One thing more, by append. -/
theorem wpList_append_one {w : World} {ops : Array Oper} {rest : List Oper} {o : Oper} {ac : Act} {Q : Exit → Act → World → Prop} (hgd : o.guard = none) (s x : Operand) (t : TypeId)
    (ho : o.op = .call { callee := .builtin .append, args := #[s, x], argTypes := #[t, t] }) (e : TypeId) (z : Value) (bytes : Nat) (ht : Tryz.prog.underlying t = some (.slice e))
    (hi : (Tryz.prog.info? e).map (fun i => (i.zero, i.size, i.bytes)) = some (some z, 1, bytes)) (hz : z.cells.size = 1) (hby : bytes ≤ 24) (base : Nat) (v : Value) (n : Nat) (G : Nat → Value) (hs : ac.eval s = v) (hown : OR w e base v n G)
    (b : Nat) (c : Nat) (hx : ac.eval x = .slice (some ⟨b, 0, none⟩) 1 c) (u : Value) (hc : w.cell? ⟨b, 0, none⟩ = some u) (h1 : u.oneCell' = true) (hn : n + 1 ≤ 1099511627776) (hbase : base ≤ w.heap.size)
    (h : ∀ g cap w', OR w' e base (.slice (some ⟨g, 0, none⟩) (n + 1) cap) (n + 1) (fun j => if j = n then u else G j) → w.grownBy w' v.ownBlock → (v.ownBlock = some g ∨ g = w.heap.size) → g < w'.heap.size → wpList Tryz.prog ops Q rest (ac.put o.dst (.slice (some ⟨g, 0, none⟩) (n + 1) cap)) w') : wpList Tryz.prog ops Q (o :: rest) ac w := by
  obtain ⟨i, hi, hzz, hsz, hb⟩ := info_parts hi
  refine wpList_append_lies w hgd s x t ho base e i z 1 bytes ht hi hzz hsz hb hz (by omega) v n _ hs hown.owns ⟨b, 0, none⟩ 1 c [u] hx rfl (fun j u' hj => ?_) (fun u' hu => by simp at hu; subst hu; exact h1) (by omega) (by simp only [maxLen]; omega) ?_ hbase _ rfl (fun g cap w' k1 k2 k3 k4 => h g cap w' (OR.of_owns k1 fun i hi => ?_) k2 k3 k4)
  · match j, hj with
    | 0, hj => simp at hj; subst hj; simpa [Addr.add] using hc
  · have := Nat.mul_le_mul (show n + 1 ≤ 1099511627776 from hn) hby
    omega
  · rcases Nat.lt_or_ge i n with hh | hh
    · rw [List.getElem?_append_left (by simpa using hh), List.getElem?_map, List.getElem?_range hh, if_neg (by omega)]
      rfl
    · obtain rfl : i = n := by omega
      rw [List.getElem?_append_right (by simp), if_pos rfl]
      simp
end Go.Proofs.YtfjmnhmdipjenaaGreatDoor

namespace Go.Proofs.YtfjmnhmdipjenaaGreatDoor
open Go.RowKit
set_option maxRecDepth 100000
set_option linter.unusedVariables false
def wd (F : Nat → Nat) : Nat → Value := fun j => .int .u64 ((F j : Nat) : Int)
theorem Tryz.info22b : (Tryz.prog.info? 93).map (fun i => (i.zero, i.size, i.bytes)) = some (some (.int .u64 0), 1, 8) := by kernel_rfl
/-- k words of the row are ten times what they were, and c goes on. -/
def Ten (w wr : World) (g cap n : Nat) (F : Nat → Nat) (d k c : Nat) (H : Nat → Nat) : Prop :=
  (∃ f, wr.rowIs g 93 cap f ∧ ∀ i, i < n → f i = wd H i) ∧ Ok H n ∧ c ≤ 9 ∧ V H k + c * P k = V F k * 10 + d ∧ (∀ i, k ≤ i → i < n → H i = F i) ∧ w.grownBy wr (some g)
theorem ten_lin (vh c p vf d s fk c2 : Nat) (h : vh + c * p = vf * 10 + d) (e : s + c2 * 18446744073709551616 = fk * 10 + c) : vh + s * p + c2 * (p * 18446744073709551616) = (vf + fk * p) * 10 + d := by
  have h1 : (s + c2 * 18446744073709551616) * p = (fk * 10 + c) * p := by rw [e]
  rw [Nat.add_mul, Nat.add_mul, Nat.mul_assoc c2, Nat.mul_comm 18446744073709551616 p, Nat.mul_assoc fk, Nat.mul_comm 10 p, ← Nat.mul_assoc fk p 10] at h1
  rw [Nat.add_mul]
  omega
theorem ten_lin2 (aB b eB f X c : Nat) (h1 : f + eB = X) (h2 : b + aB = f + c + 0) : b + (eB + aB) = X + c := by omega
theorem ten_eq (x c : Nat) : addLo (mulLo x 10) c 0 + (mulHi x 10 + addHi (mulLo x 10) c 0) * 18446744073709551616 = x * 10 + c := by
  have h1 := mul_eq x 10
  have h2 := add_eq (mulLo x 10) c 0
  rw [Nat.add_mul]
  exact ten_lin2 _ _ _ _ _ _ h1 h2
theorem ten_le' (s t x c : Nat) (h : s + t * 18446744073709551616 = x * 10 + c) (hx : x < 18446744073709551616) (hc : c ≤ 9) : t ≤ 9 := by omega
theorem ten_le (x c : Nat) (hx : x < 18446744073709551616) (hc : c ≤ 9) : mulHi x 10 + addHi (mulLo x 10) c 0 ≤ 9 := by
  have h := ten_eq x c
  generalize mulHi x 10 + addHi (mulLo x 10) c 0 = t at h
  generalize addLo (mulLo x 10) c 0 = s at h
  exact ten_le' s t x c h hx hc
theorem Ten.step {w wr : World} {g cap n : Nat} {F : Nat → Nat} {d k c : Nat} {H : Nat → Nat} (h : Ten w wr g cap n F d k c H) (hk : k < n) (hn : n ≤ cap) (hF : F k < 18446744073709551616) :
    Ten w (wr.setCell ⟨g, k, none⟩ (.int .u64 ((addLo (mulLo (F k) 10) c 0 : Nat) : Int))) g cap n F d (k + 1) (mulHi (F k) 10 + addHi (mulLo (F k) 10) c 0) (put H k (addLo (mulLo (F k) 10) c 0)) := by
  obtain ⟨⟨f, h1, h2⟩, h3, h4, h5, h6, h7⟩ := h
  refine ⟨⟨_, h1.set k _, fun i hi => ?_⟩, fun i hi => ?_, ten_le _ _ hF h4, ?_, fun i h8 h9 => ?_, grown_set w h7 _ _⟩
  · show (if i = k then _ else f i) = Value.int .u64 ((put H k _ i : Nat) : Int)
    by_cases e : i = k
    · subst e
      rw [if_pos rfl, put_same]
    · rw [if_neg e, put_other _ _ e, h2 i hi]
      rfl
  · unfold put
    split
    · exact addLo_lt _ _ _
    · exact h3 i hi
  · rw [V_succ, V_succ, V_congr (F := put H k _) (G := H) fun i hi => put_other _ _ (by omega), put_same, P_succ]
    exact ten_lin _ _ _ _ _ _ _ _ h5 (ten_eq _ _)
  · rw [put_other _ _ (by omega)]
    exact h6 i (by omega) h9
theorem gb_to {a b c : World} {r : Option Nat} (h : a.grownBy b r) (k : b.grownBy c r) : a.grownBy c r :=
  ⟨k.os.trans h.os, k.tape.trans h.tape, k.output.trans h.output, Nat.le_trans h.size k.size, fun i hi hn => (k.block i (Nat.lt_of_lt_of_le hi h.size) hn).trans (h.block i hi hn)⟩
/-- What timesTen makes. -/
def Tens (w : World) (base : Nat) (x n : Nat) (e : Ending) (w' : World) : Prop :=
  ∃ v n' F, e = .returned v ∧ OR w' 93 base v n' (wd F) ∧ Ok F n' ∧ V F n' = x ∧ n' ≤ n + 1 ∧ Below base w w'
theorem V_put_top (H : Nat → Nat) (n c : Nat) : V (put H n c) (n + 1) = V H n + c * P n := by
  rw [V_succ, put_same, V_congr (F := put H n c) (G := H) fun i hi => put_other _ _ (by omega)]
set_option maxHeartbeats 1000000 in
theorem timesTen_row (g n cap d : Nat) (F : Nat → Nat) (w : World) (base : Nat) (f : Nat → Value) (hr : w.rowIs g 93 cap f) (hf : ∀ i, i < n → f i = wd F i) (hF : Ok F n) (hb : base ≤ g) (hn : n ≤ cap) (hn2 : n < 1099511627776) (hc : cap ≤ maxLen) (hd : d ≤ 9) :
    Calls Tryz.prog 122 #[.slice (some ⟨g, 0, none⟩) n cap, .int .u64 (d : Int)] w (Tens w base (V F n * 10 + d) n) := by
  have A0 : Ten w w g cap n F d 0 d F := ⟨⟨f, hr, hf⟩, hF, hd, by rw [V_zero, P_zero]; omega, fun _ _ _ => rfl, World.grownBy.refl _ _⟩
  have HF : Hid (Ok F n) := hF
  have HB : Hid (base ≤ g ∧ cap ≤ maxLen) := ⟨hb, hc⟩
  have HG : Hid (g < w.heap.size) := hr.lt
  clear hr hf hF hb hc
  go_enter Tryz.func122, Tryz.ntmps122
  go_wp2_with fail
  go_loopw [5, 14] (fun cv t wr => ∃ (k c : Nat) (H : Nat → Nat), k ≤ n ∧ t = .int .i64 (k : Int) ∧ cv = .int .u64 ((c : Nat) : Int) ∧ Ten w wr g cap n F d k c H) (fun _ t _ => n - (intOf t).toNat)
  case atStart => exact ⟨0, d, F, by omega, rfl, rfl, A0⟩
  case round =>
    clear A0
    obtain ⟨k, c, H, hk, rfl, rfl, hA⟩ := hrel
    by_cases hkm : k < n
    · have hFk : F k < 18446744073709551616 := HF.out k hkm
      obtain ⟨f', r1, r2⟩ := hA.1
      have hc2 : wr.cell? ⟨g, k, none⟩ = some (.int .u64 ((F k : Nat) : Int)) := by rw [r1.cell (show k < cap by omega), r2 k hkm, wd, hA.2.2.2.2.1 k (Nat.le_refl _) hkm]
      have hf2 : wr.frozen? ⟨g, k, none⟩ = false := r1.frozen _
      have ad1 := add64_c0 (mulLo (F k) 10) c
      have S : Hid _ := hA.step hkm hn hFk
      have hb1 : ((mulHi (F k) 10 : Nat) : Int) + ((addHi (mulLo (F k) 10) c 0 : Nat) : Int) < 18446744073709551616 := by have := ten_le (F k) c hFk hA.2.2.1; omega
      clear hA r1 r2
      go_wp2_with fail
      refine (mul64_any (F k) 10 _ hFk (by omega)).mono ?_
      rintro e w1 ⟨rfl, rfl⟩
      go_wp2_with fail
      go_roundw
      case rel => exact ⟨k + 1, _, _, by omega, by go_num, by go_num, S.out⟩
      case measure => simp [intOf]; omega
    · obtain rfl : k = n := by omega
      have HA : Hid (Ten w wr g cap k F d k c H) := hA
      have hc9 : c ≤ 9 := hA.2.2.1
      clear hA
      by_cases hc0 : c = 0
      · subst hc0
        go_wp2_with fail
        go_ret
        obtain ⟨⟨f', r1, r2⟩, h3, h4, h5, h6, h7⟩ := HA.out
        refine ⟨_, k, H, rfl, .inr ⟨g, cap, f', rfl, HB.out.1, hn, HB.out.2, r1, r2⟩, h3, by omega, by omega, ⟨h7.os, h7.tape, h7.output, h7.size, fun j hj => h7.block j (by have := HG.out; have := HB.out.1; omega) (by have := HB.out.1; intro e; cases e; omega)⟩⟩
      · have hne : ((c : Int) == 0) = false := by simp; omega
        go_wp2_with (refine (id ?_ : wpList Tryz.prog _ _ (⟨some 42, _, _, _, _, _⟩ :: _) _ _); refine wpList_append_one rfl (.tmp 39) (.tmp 41) 62 rfl 93 (.int .u64 0) 8 Tryz.underlying62 Tryz.info22b rfl (by omega) base _ k (wd H) rfl (.inr ⟨g, cap, HA.out.1.choose, rfl, HB.out.1, hn, HB.out.2, HA.out.1.choose_spec.1.alloc _, HA.out.1.choose_spec.2⟩) _ _ rfl _ (by simp; rfl) rfl (by omega) (by simp; have := HB.out.1; have := HG.out; have := HA.out.2.2.2.2.2.size; omega) ?_)
        intro g2 cap2 w2 ho hg _ _
        have I2 : Hid _ := ho
        have G2 : Hid ((wr.alloc (Obj.cells #[Value.int IntKind.u64 (c : Int)] 93)).grownBy w2 (some g)) := hg
        clear ho hg
        go_wp2_with fail
        go_ret
        obtain ⟨⟨f', r1, r2⟩, h3, h4, h5, h6, h7⟩ := HA.out
        have hg1 := gb_to (gb_to ⟨h7.os, h7.tape, h7.output, h7.size, h7.block⟩ (World.grownBy_alloc wr _ (some g))) G2.out
        refine ⟨_, k + 1, put H k c, rfl, OR.congr I2.out fun i hi => ?_, fun i hi => ?_, ?_, Nat.le_refl _, ⟨hg1.os, hg1.tape, hg1.output, hg1.size, fun j hj => hg1.block j (by have := HG.out; have := HB.out.1; omega) (by have := HB.out.1; intro e; cases e; omega)⟩⟩
        · unfold wd put
          split <;> rfl
        · unfold put
          split
          · omega
          · exact h3 i (by omega)
        · rw [V_put_top]
          exact h5
set_option maxHeartbeats 1000000 in
theorem timesTen_nil (d : Nat) (w : World) (base : Nat) (hb : base ≤ w.heap.size) (hd : d ≤ 9) :
    Calls Tryz.prog 122 #[.slice none 0 0, .int .u64 (d : Int)] w (Tens w base d 0) := by
  by_cases hc0 : d = 0
  · subst hc0
    go_enter Tryz.func122, Tryz.ntmps122
    go_wp2_with fail
    refine wp_loop_rounds 1 ?_
    rw [rounds_succ]
    go_wp2_with fail
    go_ret
    exact ⟨_, 0, fun _ => 0, rfl, OR.nil _ _ _ _, fun i hi => absurd hi (by omega), rfl, by omega, Below.refl _ _⟩
  · have hne : ((d : Int) == 0) = false := by simp; omega
    have HB : Hid _ := hb
    go_enter Tryz.func122, Tryz.ntmps122
    go_wp2_with fail
    refine wp_loop_rounds 1 ?_
    rw [rounds_succ]
    go_wp2_with (refine (id ?_ : wpList Tryz.prog _ _ (⟨some 42, _, _, _, _, _⟩ :: _) _ _); refine wpList_append_one rfl (.tmp 39) (.tmp 41) 62 rfl 93 (.int .u64 0) 8 Tryz.underlying62 Tryz.info22b rfl (by omega) base _ 0 (wd fun _ => 0) rfl (OR.nil _ _ _ _) _ _ rfl _ (by simp; rfl) rfl (by omega) (by simp; have := HB.out; omega) ?_)
    intro g2 cap2 w2 ho hg _ _
    have I2 : Hid _ := ho
    have G2 : Hid ((w.alloc (Obj.cells #[Value.int IntKind.u64 (d : Int)] 93)).grownBy w2 none) := hg
    clear ho hg
    go_wp2_with fail
    go_ret
    have hg1 := gb_to (World.grownBy_alloc w _ none) G2.out
    refine ⟨_, 1, put (fun _ => 0) 0 d, rfl, OR.congr I2.out fun i hi => ?_, fun i hi => ?_, ?_, Nat.le_refl _, ⟨hg1.os, hg1.tape, hg1.output, hg1.size, fun j hj => hg1.block j (by have := HB.out; omega) (by intro e; cases e)⟩⟩
    · unfold wd put
      split <;> rfl
    · unfold put
      split <;> omega
    · rw [V_put_top, V_zero, P_zero]
      omega
theorem timesTen_any (v : Value) (n d : Nat) (F : Nat → Nat) (w : World) (base : Nat) (hO : OR w 93 base v n (wd F)) (hF : Ok F n) (hb : base ≤ w.heap.size) (hn2 : n < 1099511627776) (hd : d ≤ 9) :
    Calls Tryz.prog 122 #[v, .int .u64 (d : Int)] w (Tens w base (V F n * 10 + d) n) := by
  rcases hO with ⟨rfl, rfl⟩ | ⟨g, cap, f, rfl, h1, h2, h3, h4, h5⟩
  · rw [V_zero, Nat.zero_mul, Nat.zero_add]
    exact timesTen_nil d w base hb hd
  · exact timesTen_row g n cap d F w base f h4 h5 hF h1 h2 hn2 h3 hd
end Go.Proofs.YtfjmnhmdipjenaaGreatDoor

