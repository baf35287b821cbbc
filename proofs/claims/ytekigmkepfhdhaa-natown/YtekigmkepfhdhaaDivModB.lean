/- DivMod by a number of several words. -/
import Derived.Test.YtekigmkepfhdhaaDivModA
import Derived.Deep.DeepCutAuto
import Derived.Deep.Light
namespace Go.Proofs.Ytekigmkepfhdhaa
open Go.RowKit
set_option maxRecDepth 100000
set_option linter.unusedVariables false
/-- So many words and no more are asked about. -/
def lim2 : Nat := 1000000
structure Small (x : Nat) : Prop where
  lt : x < P lim2
theorem Small.fits {x : Nat} (h : Small x) : Fits x := ⟨Nat.lt_of_lt_of_le h.lt (P_le (show lim2 ≤ lim by decide))⟩
theorem Small.le {x y : Nat} (h : Small x) (hy : y ≤ x) : Small y := ⟨Nat.lt_of_le_of_lt hy h.lt⟩
theorem Small.up {x s : Nat} (h : Small x) (hs : s ≤ 64) : Fits (x * 2 ^ s) := by
  refine ⟨Nat.lt_of_lt_of_le ?_ (P_le (show lim2 + 1 ≤ lim by decide))⟩
  rw [P_succ, show (18446744073709551616 : Nat) = 2 ^ 64 from rfl]
  have h1 : (2 : Nat) ^ s ≤ 2 ^ 64 := Nat.pow_le_pow_right (by omega) hs
  have h2 : x * 2 ^ s ≤ x * 2 ^ 64 := Nat.mul_le_mul_left _ h1
  have h3 : x * 2 ^ 64 < P lim2 * 2 ^ 64 := Nat.mul_lt_mul_of_pos_right h.lt (by decide)
  exact Nat.lt_of_le_of_lt h2 h3
theorem norm_len {w : World} {a : Option Addr} {n cap m z : Nat} (h : IsNat w (.agg #[.slice a n cap]) z) (hlo : P m * 9223372036854775808 ≤ z) (hhi : z < P (m + 1)) :
    n = m + 1 ∧ ∃ F, Sl w a n cap F ∧ V F n = z ∧ 9223372036854775808 ≤ F m := by
  obtain ⟨F, hs, h0, h1, hv⟩ := h.fits
  have hp := P_pos m
  have l1 : n ≤ m + 1 := len_le_of (hv.symm ▸ hhi) h1
  have l2 : m + 1 ≤ n := by
    rcases Nat.lt_or_ge n (m + 1) with hh | hh
    · have a1 := V_lt hs.2.2.1
      have a2 := P_le (show n ≤ m by omega)
      omega
    · exact hh
  obtain rfl : n = m + 1 := by omega
  refine ⟨rfl, F, hs, hv, ?_⟩
  rcases Nat.lt_or_ge (F m) 9223372036854775808 with hh | hh
  · have a1 := V_lt (hs.2.2.1.mono (Nat.le_succ m))
    have a2 : (F m + 1) * P m ≤ 9223372036854775808 * P m := Nat.mul_le_mul_right _ hh
    rw [V_succ] at hv
    rw [Nat.add_mul, Nat.one_mul] at a2
    rw [Nat.mul_comm] at hlo
    omega
  · exact hh
theorem norm_vals {F : Nat → Nat} {m s : Nat} (hF : Ok F (m + 1)) (h0 : F m ≠ 0) (hs : s = 64 - bitLen (F m)) : P m * 9223372036854775808 ≤ V F (m + 1) * 2 ^ s ∧ V F (m + 1) * 2 ^ s < P (m + 1) ∧ s ≤ 63 := by
  obtain ⟨n1, n2, n3⟩ := norm_bounds (F m) (by omega) (hF m (by omega))
  rw [← hs] at n1 n2 n3
  have hl := V_lt (hF.mono (Nat.le_succ m))
  have hsp := bitLen_spec (F m)
  have hb := bitLen_le64 (F m) (hF m (by omega))
  refine ⟨?_, ?_, n3⟩
  · have h1 : F m * P m ≤ V F (m + 1) := by rw [V_succ]; exact Nat.le_add_left _ _
    have h2 := Nat.mul_le_mul_right (2 ^ s) h1
    have h3 := Nat.mul_le_mul_left (P m) n2
    rw [Nat.mul_right_comm, Nat.mul_comm (F m * 2 ^ s)] at h2
    exact Nat.le_trans h3 h2
  · have h1 : V F (m + 1) < (F m + 1) * P m := by rw [V_succ, Nat.add_mul]; omega
    have h2 := Nat.mul_lt_mul_of_pos_right h1 (Nat.two_pow_pos s)
    have h3 : (F m + 1) * 2 ^ s ≤ 18446744073709551616 := by
      have := Nat.mul_le_mul_right (2 ^ s) hsp.1
      rw [← Nat.pow_add, show bitLen (F m) + s = 64 by omega] at this
      exact this
    have h4 := Nat.mul_le_mul_left (P m) h3
    rw [Nat.mul_right_comm, Nat.mul_comm ((F m + 1) * 2 ^ s)] at h2
    rw [P_succ]
    exact Nat.lt_of_lt_of_le h2 h4
theorem bel_al {a w : World} {o : Obj} (h : Below a.heap.size a w) : Below a.heap.size a (w.alloc o) := h.alloc h.size o
theorem bel_dr {a w : World} (h : Below a.heap.size a w) : Below a.heap.size a w.drew := h.drew
theorem bel_st {a w : World} {p : Addr} {u : Value} (h : Below a.heap.size a w) (hp : a.heap.size ≤ p.block) : Below a.heap.size a (w.setCell p u) := h.setCell hp u
theorem bel_go {a b c : World} (h : Below a.heap.size a b) (k : Below b.heap.size b c) : Below a.heap.size a c := bel_trans h k
/-- Two numbers lie in variables of their own. -/
def TwoVars (w2 wx : World) (Q R : Nat) (p q : Value) : Prop := ∃ (bp bq : Nat) (a5 : Option Addr) (n5 c5 : Nat) (a6 : Option Addr) (n6 c6 : Nat), p = .pointer (some ⟨bp, 0, none⟩) ∧ q = .pointer (some ⟨bq, 0, none⟩) ∧ wx.cell? ⟨bp, 0, none⟩ = some (.slice a5 n5 c5) ∧ wx.cell? ⟨bq, 0, none⟩ = some (.slice a6 n6 c6) ∧ IsNat wx (.agg #[.slice a5 n5 c5]) Q ∧ IsNat wx (.agg #[.slice a6 n6 c6]) R ∧ Below w2.heap.size w2 wx ∧ w2.heap.size ≤ bp ∧ w2.heap.size ≤ bq
/-- What lay below is as it was: rules for the walk. -/
theorem bel_rules {W w' : World} (h : Below W.heap.size W w') : (∀ b o, b < W.heap.size → w'.cell? ⟨b, o, none⟩ = W.cell? ⟨b, o, none⟩) ∧ (∀ b o, b < W.heap.size → w'.frozen? ⟨b, o, none⟩ = W.frozen? ⟨b, o, none⟩) ∧ (∀ b, b < W.heap.size → b < w'.heap.size) ∧ (∀ b, b < W.heap.size → b < w'.heap.size + 1) ∧ (∀ b, b < W.heap.size → b < w'.heap.size + 1 + 1) ∧ (∀ b, b < W.heap.size → ¬ b = w'.heap.size) ∧ (∀ b, b < W.heap.size → ¬ w'.heap.size = b) ∧ (∀ b, b < W.heap.size → ¬ b = w'.heap.size + 1) ∧ (∀ b, b < W.heap.size → ¬ w'.heap.size + 1 = b) := by
  have hs := h.size
  refine ⟨fun b o hb => h.cell hb, fun b o hb => h.frozen hb, fun b hb => by omega, fun b hb => by omega, fun b hb => by omega, fun b hb => by omega, fun b hb => by omega, fun b hb => by omega, fun b hb => by omega⟩
theorem bel_undrew {B : Nat} {w w' : World} (h : Below B w.drew w') : Below B w w' := ⟨h.os, h.tape, h.output, h.size, h.block⟩
theorem bel_rules_dr {W w' : World} (h : Below W.drew.heap.size W.drew w') : (∀ b o, b < W.heap.size → w'.cell? ⟨b, o, none⟩ = W.cell? ⟨b, o, none⟩) ∧ (∀ b o, b < W.heap.size → w'.frozen? ⟨b, o, none⟩ = W.frozen? ⟨b, o, none⟩) ∧ (∀ b, b < W.heap.size → b < w'.heap.size) ∧ (∀ b, b < W.heap.size → b < w'.heap.size + 1) ∧ (∀ b, b < W.heap.size → b < w'.heap.size + 1 + 1) ∧ (∀ b, b < W.heap.size → ¬ b = w'.heap.size) ∧ (∀ b, b < W.heap.size → ¬ w'.heap.size = b) ∧ (∀ b, b < W.heap.size → ¬ b = w'.heap.size + 1) ∧ (∀ b, b < W.heap.size → ¬ w'.heap.size + 1 = b) := bel_rules (W := W) (bel_undrew h)
theorem lt_al {w w' : World} {o : Obj} (p : ∀ b, b < (w.alloc o).heap.size → b < w'.heap.size) : w.heap.size < w'.heap.size := p _ (by simp)
theorem lt_al2 {w w' : World} {o o' : Obj} (p : ∀ b, b < ((w.alloc o).alloc o').heap.size → b < w'.heap.size) : w.heap.size < w'.heap.size := p _ (by simp <;> omega)
theorem lt_al3 {w w' : World} {o o' : Obj} (p : ∀ b, b < ((w.alloc o).alloc o').heap.size → b < w'.heap.size) : w.heap.size + 1 < w'.heap.size := p _ (by simp)
theorem divide_nat (v u : Value) (x y k n : Nat) (w : World) (h : IsNat w v x) (kk : IsNat w u y) (hx : Fits x) (hlo : P (k + 1) * 9223372036854775808 ≤ y) (hhi : y < P (k + 2)) (hle : y ≤ x) (hxn : x < P n) (hsh : k + 2 < 100 ∨ n < k + 2 + 100) :
    Calls Try.prog 52 #[v, u] w (MakesQR w (x / y) (x % y)) := by
  obtain ⟨a, lx, cap, rfl⟩ := h.isAgg
  obtain ⟨a', m, cap', rfl⟩ := kk.isAgg
  obtain ⟨rfl, G, ks, kv, ht⟩ := norm_len kk hlo hhi
  obtain ⟨F, hs, h0, h1, hv⟩ := h.fits
  obtain ⟨b', o', rfl, kw⟩ := ks.at 0 (by omega)
  have l1 : lx ≤ 4294967296 := fits_len (hv.symm ▸ hx) h1
  have l2 : lx ≤ n := len_le_of (hv.symm ▸ hxn) h1
  have l3 : k + 2 ≤ lx := by
    rcases Nat.lt_or_ge lx (k + 2) with hh | hh
    · have a1 := V_lt hs.2.2.1
      have a2 := P_le (show lx ≤ k + 1 by omega)
      have hp := P_pos (k + 1)
      omega
    · exact hh
  have := divide_short a lx cap b' o' k cap' F G w hs ks l3 l1 ht (by omega)
  rw [hv, kv] at this
  exact this
set_option maxHeartbeats 4000000 in
theorem divMod_long (a : Option Addr) (n cap : Nat) (a' : Option Addr) (k cap' : Nat) (x y : Nat) (w : World) (h : IsNat w (.agg #[.slice a n cap]) x) (kk : IsNat w (.agg #[.slice a' (k + 2) cap']) y) (hx : Small x) (hle : y ≤ x) (hsh : k + 2 < 100 ∨ n + 1 < k + 2 + 100) :
    Calls Try.prog 24 #[.agg #[.slice a n cap], .agg #[.slice a' (k + 2) cap']] w (MakesQRB w (x / y) (x % y) true) := by
  obtain ⟨F, hs, h0, h1, hv⟩ := h.fits
  obtain ⟨G, ks, k0, k1, kv⟩ := kk.fits
  have hn : n ≤ 4294967296 := fits_len (hv.symm ▸ hx.fits) h1
  have hkk : k + 2 ≤ 4294967296 := fits_len (kv.symm ▸ (hx.le hle).fits) k1
  obtain ⟨b', o', rfl, kw⟩ := ks.at 0 (by omega)
  have kc : w.cell? ⟨b', o' + (k + 1), none⟩ = some (.int .u64 (G (k + 1) : Nat)) := kw (k + 1) (by omega)
  have hGk : G (k + 1) < 18446744073709551616 := ks.2.2.1 _ (by omega)
  obtain ⟨s, hs'⟩ : ∃ s, s = 64 - bitLen (G (k + 1)) := ⟨_, rfl⟩
  obtain ⟨v1, v2, v3⟩ := norm_vals ks.2.2.1 (k1 (by omega)) hs'
  rw [kv] at v1 v2
  have HH : Hid (IsNat w (.agg #[.slice a n cap]) x ∧ IsNat w (.agg #[.slice (some ⟨b', o', none⟩) (k + 2) cap']) y) := And.intro h kk
  have HF : Hid (Small x ∧ Small y) := And.intro hx (hx.le hle)
  have HV : Hid (P (k + 1) * 9223372036854775808 ≤ y * 2 ^ s ∧ y * 2 ^ s < P (k + 2) ∧ s = 64 - bitLen (G (k + 1))) := ⟨v1, v2, hs'⟩
  have HB : Hid (Below w.heap.size w ((((w.alloc (.cells #[.slice a n cap] 27)).alloc (.cells #[.slice (some ⟨b', o', none⟩) (k + 2) cap'] 27)).alloc (.cells #[.slice none 0 0] 27)).alloc (.cells #[.slice none 0 0] 27))) := ((bel_alloc2 _ _ _).alloc (by simp <;> omega) _).alloc (by simp <;> omega) _
  have HKC : Hid _ := kc
  have hb0 : ((k : Int) + 2 == 0) = false := by simp <;> omega
  have hb1 : ((k : Int) + 2 == 1) = false := by simp <;> omega
  clear h kk hx hs h0 h1 hv ks k0 k1 kv kw kc v1 v2 hs'
  go_enter Try.func24, Try.ntmps24
  go_wp2_with fail
  refine (cmp_any _ _ x y _ (HH.out.1.mono HB.out) (HH.out.2.mono HB.out) HF.out.1.fits HF.out.2.fits).mono ?_
  rintro e w1 ⟨rfl, hbb1⟩
  have c0 : w1.cell? ⟨w.heap.size, 0, none⟩ = some (.slice a n cap) := cell_later hbb1 (by simp [go_sem])
  have c1 : w1.cell? ⟨w.heap.size + 1, 0, none⟩ = some (.slice (some ⟨b', o', none⟩) (k + 2) cap') := cell_later hbb1 (by simp [go_sem])
  have c2 : w1.cell? ⟨w.heap.size + 1 + 1, 0, none⟩ = some (.slice none 0 0) := cell_later hbb1 (by simp [go_sem])
  have c3 : w1.cell? ⟨w.heap.size + 1 + 1 + 1, 0, none⟩ = some (.slice none 0 0) := cell_later hbb1 (by simp [go_sem])
  have f2 : w1.frozen? ⟨w.heap.size + 1 + 1, 0, none⟩ = false := (hbb1.frozen (by simp <;> omega)).trans (by simp [go_sem])
  have f3 : w1.frozen? ⟨w.heap.size + 1 + 1 + 1, 0, none⟩ = false := (hbb1.frozen (by simp <;> omega)).trans (by simp [go_sem])
  have B1 : Hid (Below w.heap.size w w1) := bel_trans HB.out hbb1
  have kc1 := cell_later B1.out HKC.out
  have hcn : decide (cmpI x y < 0) = false := decide_eq_false (by unfold cmpI; split <;> (try split) <;> omega)
  clear hbb1
  go_wp2_with fail
  refine (lz64_s (G (k + 1)) s _ hGk HV.out.2.2).mono ?_
  rintro e w2 ⟨rfl, rfl⟩
  go_wp2_with fail
  have HX1 : Hid (IsNat w2 (.agg #[.slice a n cap]) x ∧ IsNat w2 (.agg #[.slice (some ⟨b', o', none⟩) (k + 2) cap']) y) := ⟨HH.out.1.mono B1.out, HH.out.2.mono B1.out⟩
  have hs36 : s ≤ 68719476736 := by omega
  have hl0 : w.heap.size < w2.heap.size := World.block_lt_of_cell? _ _ c0
  have DX : Hid (x * 2 ^ s < P (n + 1) ∧ y * 2 ^ s ≤ x * 2 ^ s) := by
    obtain ⟨F, q1, q2, q3, q4⟩ := HH.out.1.fits
    refine ⟨?_, Nat.mul_le_mul_right _ hle⟩
    rw [P_succ, ← q4]
    have h1 : (2 : Nat) ^ s ≤ 18446744073709551616 := (Nat.pow_le_pow_right (by omega) (by omega) : (2 : Nat) ^ s ≤ 2 ^ 64)
    exact Nat.lt_of_le_of_lt (Nat.mul_le_mul_left _ h1) (Nat.mul_lt_mul_of_pos_right (V_lt q1.2.2.1) (by omega))
  have SH : Hid (k + 2 < 100 ∨ n + 1 < k + 2 + 100) := hsh
  have HF2 : Hid (Fits (x * 2 ^ s)) := HF.out.1.up (by omega)
  clear hsh HH HB HKC kc1
  have h1 := HX1.out.1
  have hl1 : w.heap.size + 1 < w2.heap.size := World.block_lt_of_cell? _ _ c1
  have hl2 : w.heap.size < w2.heap.size + 1 := by omega
  have hl3 : w.heap.size + 1 < w2.heap.size + 1 := by omega
  have hl4 : w.heap.size < w2.heap.size + 1 + 1 := by omega
  have hl5 : w.heap.size + 1 < w2.heap.size + 1 + 1 := by omega
  go_cut [10, 11] (fun p q wx => TwoVars w2 wx (x * 2 ^ s / (y * 2 ^ s)) (x * 2 ^ s % (y * 2 ^ s)) p q)
  case first =>
    go_region_held3 (fun w' => w'.cell? ⟨w.heap.size, 0, none⟩ = some (.slice a n cap) ∧ w'.cell? ⟨w.heap.size + 1, 0, none⟩ = some (.slice (some ⟨b', o', none⟩) (k + 2) cap')) (first | (simp [go_sem, *]; done) | (trace_state; fail))
      (first
        | (go_at_call_of 53 (Value.agg #[Value.slice a n cap]); refine Calls.mono (up_any _ x s _ ?_ HF.out.1.fits hs36) ?_; (refine IsNat.mono HX1.out.1 ?_; repeat (first | exact Below.refl _ _ | refine bel_al ?_ | refine bel_dr ?_)); rintro e w3 ⟨v3, rfl, hv3, hb3⟩; obtain ⟨a3, n3, cap3, rfl⟩ := hv3.isAgg; (first | have ⟨p1, p2, p3, p4, p5, p6, p7, p8, p9⟩ := bel_rules_dr hb3 | have ⟨p1, p2, p3, p4, p5, p6, p7, p8, p9⟩ := bel_rules hb3); have X3 : Hid (IsNat w3 (.agg #[.slice a3 n3 cap3]) (x * 2 ^ s)) := hv3; (have B3 : Hid (Below w2.heap.size w2 w3) := bel_go (by repeat (first | exact Below.refl _ _ | refine bel_al ?_ | refine bel_dr ?_)) hb3); have z3 := B3.out.size; have g0 := Nat.lt_of_lt_of_le hl0 z3; have g1 := Nat.lt_of_lt_of_le hl1 z3; (first | have e0 : w2.heap.size < w3.heap.size := lt_al p3 | (have e0 : w2.heap.size < w3.heap.size := lt_al2 p3; have e1 : w2.heap.size + 1 < w3.heap.size := lt_al3 p3) | skip); clear hv3 hb3 z3)
        | (go_at_call 53; refine Calls.mono (up_any _ y s _ ?_ HF.out.2.fits hs36) ?_; (refine IsNat.mono HX1.out.2 ?_; repeat (first | exact Below.refl _ _ | exact B3.out | refine bel_al ?_ | refine bel_dr ?_)); rintro e w4 ⟨v4, rfl, hv4, hb4⟩; obtain ⟨a4, n4, cap4, rfl⟩ := hv4.isAgg; (first | have ⟨q1, q2, q3, q4, q5, q6, q7, q8, q9⟩ := bel_rules_dr hb4 | have ⟨q1, q2, q3, q4, q5, q6, q7, q8, q9⟩ := bel_rules hb4); have X4 : Hid (IsNat w4 (.agg #[.slice a4 n4 cap4]) (y * 2 ^ s)) := hv4; (have B4 : Hid (Below w3.heap.size w3 w4) := bel_go (by repeat (first | exact Below.refl _ _ | refine bel_al ?_ | refine bel_dr ?_)) hb4); have z4 := B4.out.size; have g2 := Nat.lt_of_lt_of_le g0 z4; have g3 := Nat.lt_of_lt_of_le g1 z4; (try have e2 := Nat.lt_of_lt_of_le e0 z4); (try have e3 := Nat.lt_of_lt_of_le e1 z4); (first | have e4 : w3.heap.size < w4.heap.size := lt_al q3 | (have e4 : w3.heap.size < w4.heap.size := lt_al2 q3; have e5 : w3.heap.size + 1 < w4.heap.size := lt_al3 q3) | skip); clear hv4 hb4 z4)
        | (go_at_call 52; refine Calls.mono (divide_nat _ _ (x * 2 ^ s) (y * 2 ^ s) k (n + 1) _ (IsNat.mono (X3.out) ?_) (IsNat.mono (X4.out) ?_) HF2.out HV.out.1 HV.out.2.1 DX.out.2 DX.out.1 SH.out) ?_; (repeat (first | exact Below.refl _ _ | exact B4.out | refine bel_al ?_ | refine bel_dr ?_)); (repeat (first | exact Below.refl _ _ | refine bel_al ?_ | refine bel_dr ?_)); rintro e w5 ⟨v5, u5, rfl, hv5, hu5, hb5⟩; obtain ⟨a5, n5, cap5, rfl⟩ := hv5.isAgg; obtain ⟨a6, n6, cap6, rfl⟩ := hu5.isAgg; (first | have ⟨r1, r2, r3, r4, r5, r6, r7, r8, r9⟩ := bel_rules_dr hb5 | have ⟨r1, r2, r3, r4, r5, r6, r7, r8, r9⟩ := bel_rules hb5); have X5 : Hid (IsNat w5 (.agg #[.slice a5 n5 cap5]) (x * 2 ^ s / (y * 2 ^ s)) ∧ IsNat w5 (.agg #[.slice a6 n6 cap6]) (x * 2 ^ s % (y * 2 ^ s))) := ⟨hv5, hu5⟩; (have B5 : Hid (Below w4.heap.size w4 w5) := bel_go (by repeat (first | exact Below.refl _ _ | refine bel_al ?_ | refine bel_dr ?_)) hb5); have z5 := B5.out.size; have g4 := Nat.lt_of_lt_of_le g2 z5; have g5 := Nat.lt_of_lt_of_le g3 z5; (try have e6 := Nat.lt_of_lt_of_le e2 z5); (try have e7 := Nat.lt_of_lt_of_le e3 z5); (try have e8 := Nat.lt_of_lt_of_le e4 z5); (try have e9 := Nat.lt_of_lt_of_le e5 z5); (first | have ea : w4.heap.size < w5.heap.size := lt_al r3 | (have ea : w4.heap.size < w5.heap.size := lt_al2 r3; have eb : w4.heap.size + 1 < w5.heap.size := lt_al3 r3) | skip); clear hv5 hu5 hb5 z5))
    all_goals (have y3 := B3.out.size; have y4 := B4.out.size; have y5 := B5.out.size)
    all_goals go_wp2_with fail
    all_goals go_meet
    all_goals go_light
    all_goals clear hle hn hkk hGk HF HV hb0 hb1 hcn f2 f3 B1 HX1 hs36 DX SH HF2 h1 X3 X4 c0 c1 c2 c3
    all_goals (have BB := bel_go (bel_go B3.out B4.out) B5.out)
    all_goals (have X6 := X5.out.1)
    all_goals (have X7 := X5.out.2)
    all_goals clear X5 B3 B4 B5
    all_goals refine ⟨_, _, a5, n5, cap5, a6, n6, cap6, rfl, rfl, ?_, ?_, ?_, ?_, ?_, ?_, ?_⟩
    all_goals try (simp (config := { maxDischargeDepth := 9 }) [go_sem, *]; done)
    all_goals try (repeat (first | exact BB | refine bel_al ?_ | refine bel_st ?_ (Nat.le_trans ?_ (Nat.le_refl _))))
    all_goals try (repeat (first | exact X6 | exact X7 | refine IsNat.mono ?_ (bel_al (Below.refl _ _)) | refine IsNat.setCell ?_ (no_int_slice (a := none) (n := 0) (c := 0) ?_) _))
    all_goals try omega
    all_goals try (simp (config := { maxDischargeDepth := 9 }) [go_sem, *]; done)
    all_goals (dsimp only; omega)
  case rest =>
    obtain ⟨bp, bq, a5, n5, cap5, a6, n6, cap6, rfl, rfl, d0, d1, hv5, hu5, hB, lp, lq⟩ := hcut
    have hl6 : w.heap.size + 1 + 1 + 1 < w2.heap.size := World.block_lt_of_cell? _ _ c3
    have m0 : ¬ bp = w.heap.size + 1 + 1 := by omega
    have m1 : ¬ bp = w.heap.size + 1 + 1 + 1 := by omega
    have m2 : ¬ bq = w.heap.size + 1 + 1 := by omega
    have m3 : ¬ bq = w.heap.size + 1 + 1 + 1 := by omega
    have m4 : ¬ w.heap.size + 1 + 1 = bp := by omega
    have m5 : ¬ w.heap.size + 1 + 1 + 1 = bp := by omega
    have m6 : ¬ w.heap.size + 1 + 1 = bq := by omega
    have m7 : ¬ w.heap.size + 1 + 1 + 1 = bq := by omega
    have X5 : Hid (IsNat wc (.agg #[.slice a5 n5 cap5]) (x * 2 ^ s / (y * 2 ^ s)) ∧ IsNat wc (.agg #[.slice a6 n6 cap6]) (x * 2 ^ s % (y * 2 ^ s))) := ⟨hv5, hu5⟩
    have d2 := cell_later hB c2
    have d3 := cell_later hB c3
    have e2 := (hB.frozen (World.block_lt_of_cell? _ _ c2)).trans f2
    have e3 := (hB.frozen (World.block_lt_of_cell? _ _ c3)).trans f3
    have l0 := World.block_lt_of_cell? _ _ d0
    have l1 := World.block_lt_of_cell? _ _ d1
    have l2 := World.block_lt_of_cell? _ _ d2
    have l3 := World.block_lt_of_cell? _ _ d3
    have BW : Hid (Below w.heap.size w wc) := bel_trans B1.out hB
    have FR : Hid (Fits (x * 2 ^ s % (y * 2 ^ s))) := ⟨Nat.lt_of_le_of_lt (Nat.mod_le _ _) HF2.out.lt⟩
    have hsa : (-9223372036854775808 : Int) ≤ (s : Int) := by omega
    have hsb : (s : Int) ≤ 9223372036854775807 := by omega
    clear hv5 hu5 hB lp lq hl6 c0 c1 c2 c3 f2 f3 hl0 hl1 hl2 hl3 hl4 hl5 h1 HX1 HF2 DX SH HV HF B1 hcn hb0 hb1 hGk
    go_wp2_with fail
    go_region_held3 (fun w' => w'.cell? ⟨bp, 0, none⟩ = some (.slice a5 n5 cap5) ∧ w'.cell? ⟨bq, 0, none⟩ = some (.slice a6 n6 cap6)) (simp [go_sem, *])
      (first
        | (go_at_call 31; refine Calls.mono (right_any _ (x * 2 ^ s % (y * 2 ^ s)) s _ ?_ FR.out hsa hsb) ?_; (refine IsNat.mono X5.out.2 ?_; repeat (first | exact Below.refl _ _ | refine bel_al ?_ | refine bel_dr ?_)); rintro e w6 ⟨v6, rfl, hv6, hb6⟩; obtain ⟨a7, n7, cap7, rfl⟩ := hv6.isAgg; (first | have ⟨p1, p2, p3, p4, p5, p6, p7, p8, p9⟩ := bel_rules_dr hb6 | have ⟨p1, p2, p3, p4, p5, p6, p7, p8, p9⟩ := bel_rules hb6); have X6 : Hid (IsNat w6 (.agg #[.slice a7 n7 cap7]) (x * 2 ^ s % (y * 2 ^ s) / 2 ^ (s : Int).toNat)) := hv6; (have B6 : Hid (Below wc.heap.size wc w6) := bel_go (by repeat (first | exact Below.refl _ _ | refine bel_al ?_ | refine bel_dr ?_)) hb6); clear hv6 hb6))
    have d4 := cell_later B6.out d2
    have d5 := cell_later B6.out d3
    go_wp2_with fail
    have n1 : ∀ kk q, (w6.setCell ⟨w.heap.size + 1 + 1, 0, none⟩ (.slice a5 n5 cap5)).cell? ⟨w.heap.size + 1 + 1 + 1, 0, none⟩ ≠ some (.int kk q) := by
      rw [World.cell?_setCell_far _ _ _ _ (by simp)]
      exact no_int_slice d5
    have BX := bel_trans BW.out B6.out
    refine bodyPost_ret (v := .tuple #[.agg #[.slice a5 n5 cap5], .agg #[.slice a7 n7 cap7], .bool true]) (by simp [results, Try.results24, go_sem, d4, d5]) rfl ⟨_, _, rfl, ?_, ?_, (BX.setCell (by simp <;> omega) _).setCell (by simp <;> omega) _⟩
    · have := X5.out.1.mono B6.out
      rw [Nat.mul_div_mul_right _ _ (Nat.two_pow_pos s)] at this
      exact (this.setCell (no_int_slice d4) _).setCell n1 _
    · have := X6.out
      rw [Int.toNat_natCast, Nat.mul_mod_mul_right, Nat.mul_div_cancel _ (Nat.two_pow_pos s)] at this
      exact (this.setCell (no_int_slice d4) _).setCell n1 _
end Go.Proofs.Ytekigmkepfhdhaa
