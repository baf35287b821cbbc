/- Contracts of the program's functions, part 10: own work, joined in build order. -/
import Derived.Test.YtfkkomppfghagaaGreatDoorJ9
namespace Go.Proofs.YtfkkomppfghagaaGreatDoor
open Go.RowKit
set_option maxRecDepth 100000
set_option linter.unusedVariables false
def IsRat (w : World) (v : Value) (p q : Nat) : Prop := ∃ a n c a' n' c', v = .agg #[.slice a n c, .slice a' n' c'] ∧ IsNat w (.agg #[.slice a n c]) p ∧ IsNat w (.agg #[.slice a' n' c']) q
theorem IsRat.mono {w w' : World} {v : Value} {p q : Nat} (h : IsRat w v p q) (hb : Below w.heap.size w w') : IsRat w' v p q := by
  obtain ⟨a, n, c, a', n', c', e, h1, h2⟩ := h
  exact ⟨a, n, c, a', n', c', e, h1.mono hb, h2.mono hb⟩
theorem IsRat.setCell {w : World} {v : Value} {p q : Nat} (h : IsRat w v p q) {x : Addr} (hp : ∀ k q, w.cell? x ≠ some (.int k q)) (u : Value) : IsRat (w.setCell x u) v p q := by
  obtain ⟨a, n, c, a', n', c', e, h1, h2⟩ := h
  exact ⟨a, n, c, a', n', c', e, h1.setCell hp u, h2.setCell hp u⟩
structure Rt (w : World) (v : Value) (p q : Nat) : Prop where
  raw : IsRat w v p (if p = 0 then 0 else q)
  pos : 0 < q
  low : Nat.gcd p q = 1
theorem Rt.mono {w w' : World} {v : Value} {p q : Nat} (h : Rt w v p q) (hb : Below w.heap.size w w') : Rt w' v p q := ⟨h.raw.mono hb, h.pos, h.low⟩
theorem Rt.setCell {w : World} {v : Value} {p q : Nat} (h : Rt w v p q) {x : Addr} (hp : ∀ k q, w.cell? x ≠ some (.int k q)) (u : Value) : Rt (w.setCell x u) v p q := ⟨h.raw.setCell hp u, h.pos, h.low⟩
theorem isRat_zero (w : World) : IsRat w (.agg #[.slice none 0 0, .slice none 0 0]) 0 0 := ⟨_, _, _, _, _, _, rfl, isNat_zero w, isNat_zero w⟩
theorem rt_zero (w : World) : Rt w (.agg #[.slice none 0 0, .slice none 0 0]) 0 1 := ⟨by rw [if_pos rfl]; exact isRat_zero w, by omega, by simp⟩
theorem len_zero {x : Nat} : bitLen x = 0 ↔ x = 0 := by
  constructor
  · intro h
    have := bitLen_lt x
    rw [h] at this
    simpa using this
  intro h
  rw [h]
  exact bitLen_zero
theorem len_one {x : Nat} : bitLen x = 1 ↔ x = 1 := by
  constructor
  · intro h
    have h1 := bitLen_lt x
    rw [h] at h1
    have h2 : x ≠ 0 := fun e => by rw [e, bitLen_zero] at h; omega
    omega
  intro h
  rw [h]
  decide
set_option maxHeartbeats 1000000 in
theorem isZero_any (v : Value) (x : Nat) (w : World) (h : IsNat w v x) (hx : Fits x) :
    Calls Tryz.prog 72 #[v] w fun e w' => e = .returned (.bool (decide (x = 0))) ∧ Below w.heap.size w w' := by
  obtain ⟨a, n, c, rfl⟩ := h.isAgg
  have HH : Hid (IsNat w (.agg #[.slice a n c]) x ∧ Fits x) := ⟨h, hx⟩
  clear h hx
  go_enter Tryz.func72, Tryz.ntmps72
  go_wp2_with fail
  refine (len_any _ x _ (HH.out.1.mono (bel_al (bel_refl w))) HH.out.2).mono ?_
  rintro e w1 ⟨rfl, hb1⟩
  have B1 : Hid (Below w.heap.size w w1) := bel_go (bel_al (bel_refl w)) hb1
  obtain ⟨L, eL⟩ : ∃ L, L = bitLen x := ⟨_, rfl⟩
  rw [← eL]
  by_cases h0 : x = 0
  · have hL : ((L : Int) == 0) = true := by rw [eL, len_zero.2 h0]; rfl
    have HD : Hid (decide (x = 0) = true) := decide_eq_true h0
    clear hb1 eL h0
    go_wp2_with fail
    go_ret
    exact ⟨by rw [HD.out]; rfl, B1.out⟩
  have hL : ((L : Int) == 0) = false := by
    have : L ≠ 0 := fun e => h0 (len_zero.1 (eL ▸ e))
    simp; omega
  have HD : Hid (decide (x = 0) = false) := decide_eq_false h0
  clear hb1 eL h0
  go_wp2_with fail
  go_ret
  exact ⟨by rw [HD.out]; rfl, B1.out⟩
set_option maxHeartbeats 1000000 in
theorem isOne_any (v : Value) (x : Nat) (w : World) (h : IsNat w v x) (hx : Fits x) :
    Calls Tryz.prog 99 #[v] w fun e w' => e = .returned (.bool (decide (x = 1))) ∧ Below w.heap.size w w' := by
  obtain ⟨a, n, c, rfl⟩ := h.isAgg
  have HH : Hid (IsNat w (.agg #[.slice a n c]) x ∧ Fits x) := ⟨h, hx⟩
  clear h hx
  go_enter Tryz.func99, Tryz.ntmps99
  go_wp2_with fail
  refine (len_any _ x _ (HH.out.1.mono (bel_al (bel_refl w))) HH.out.2).mono ?_
  rintro e w1 ⟨rfl, hb1⟩
  have B1 : Hid (Below w.heap.size w w1) := bel_go (bel_al (bel_refl w)) hb1
  obtain ⟨L, eL⟩ : ∃ L, L = bitLen x := ⟨_, rfl⟩
  rw [← eL]
  by_cases h0 : x = 1
  · have hL : ((L : Int) == 1) = true := by rw [eL, len_one.2 h0]; rfl
    have HD : Hid (decide (x = 1) = true) := decide_eq_true h0
    clear hb1 eL h0
    go_wp2_with fail
    go_ret
    exact ⟨by rw [HD.out]; rfl, B1.out⟩
  have hL : ((L : Int) == 1) = false := by
    have : L ≠ 1 := fun e => h0 (len_one.1 (eL ▸ e))
    simp; omega
  have HD : Hid (decide (x = 1) = false) := decide_eq_false h0
  clear hb1 eL h0
  go_wp2_with fail
  go_ret
  exact ⟨by rw [HD.out]; rfl, B1.out⟩
set_option maxHeartbeats 2000000 in
theorem over_any (v u : Value) (x d : Nat) (w : World) (h : IsNat w v x) (k : IsNat w u d) (hx : x < P 198) (hd : d < P 198) (hd0 : 0 < d) :
    Calls Tryz.prog 70 #[v, u] w (Makes w (x / d)) := by
  obtain ⟨a, n, c, rfl⟩ := h.isAgg
  obtain ⟨a', n', c', rfl⟩ := k.isAgg
  have HH : Hid (IsNat w (.agg #[.slice a n c]) x ∧ IsNat w (.agg #[.slice a' n' c']) d ∧ x < P 198 ∧ d < P 198) := ⟨h, k, hx, hd⟩
  have ba : Hid (Below w.heap.size w (((w.alloc (.cells #[.slice a n c] 45)).alloc (.cells #[.slice a' n' c'] 45)).alloc (.cells #[.slice none 0 0] 45))) := bel_al (bel_al (bel_al (bel_refl w)))
  clear h k hx hd
  go_enter Tryz.func70, Tryz.ntmps70
  go_wp2_with fail
  refine (isOne_any _ d _ (HH.out.2.1.mono ba.out) (small_198 HH.out.2.2.2).fits).mono ?_
  rintro e w1 ⟨rfl, hb1⟩
  have c0 : w1.cell? ⟨w.heap.size, 0, none⟩ = some (.slice a n c) := cell_later hb1 (by simp [go_sem])
  have c1 : w1.cell? ⟨w.heap.size + 1, 0, none⟩ = some (.slice a' n' c') := cell_later hb1 (by simp [go_sem])
  have c2 : w1.cell? ⟨w.heap.size + 1 + 1, 0, none⟩ = some (.slice none 0 0) := cell_later hb1 (by simp [go_sem])
  have f2 : w1.frozen? ⟨w.heap.size + 1 + 1, 0, none⟩ = false := (hb1.frozen (by simp)).trans (by simp [go_sem])
  have B1 : Hid (Below w.heap.size w w1) := bel_go ba.out hb1
  clear hb1 ba
  by_cases h1 : d = 1
  · have d1 : decide (d = 1) = true := decide_eq_true h1
    have HD : Hid (x / d = x) := by show _ = _; rw [h1, Nat.div_one]
    clear h1
    go_wp2_with fail
    refine bodyPost_ret (v := .agg #[.slice a n c]) (by simp [results, Tryz.results70, go_sem, c2]) rfl ⟨_, rfl, by rw [HD.out]; exact (HH.out.1.mono B1.out).setCell (no_int_slice c2) _, B1.out.setCell (by show _ ≤ _ + 1 + 1; omega) _⟩
  have d1 : decide (d = 1) = false := decide_eq_false h1
  clear h1
  go_wp2_with fail
  refine (divMod_198 _ _ x d _ (HH.out.1.mono B1.out) (HH.out.2.1.mono B1.out) (small_198 HH.out.2.2.2) hd0 HH.out.2.2.1 (small_198 HH.out.2.2.1)).mono ?_
  rintro e w2 ⟨v2, u2, rfl, hv2, hu2, hb2⟩
  obtain ⟨a2, n2, c2', rfl⟩ := hv2.isAgg
  obtain ⟨a3, n3, c3, rfl⟩ := hu2.isAgg
  have ba : Below w2.heap.size w2 ((w2.alloc (.cells #[.slice a2 n2 c2'] 45)).alloc (.cells #[.slice a3 n3 c3] 45)) := bel_al (bel_al (bel_refl w2))
  have d2 : ((w2.alloc (.cells #[.slice a2 n2 c2'] 45)).alloc (.cells #[.slice a3 n3 c3] 45)).cell? ⟨w.heap.size + 1 + 1, 0, none⟩ = some (.slice none 0 0) := cell_later ba (cell_later hb2 c2)
  have g2 : ((w2.alloc (.cells #[.slice a2 n2 c2'] 45)).alloc (.cells #[.slice a3 n3 c3] 45)).frozen? ⟨w.heap.size + 1 + 1, 0, none⟩ = false := ((ba.frozen (World.block_lt_of_cell? _ _ (cell_later hb2 c2))).trans ((hb2.frozen (World.block_lt_of_cell? _ _ c2)).trans f2))
  have d3 : ((w2.alloc (.cells #[.slice a2 n2 c2'] 45)).alloc (.cells #[.slice a3 n3 c3] 45)).cell? ⟨w2.heap.size, 0, none⟩ = some (.slice a2 n2 c2') := by simp [go_sem]
  have HV : Hid (IsNat ((w2.alloc (.cells #[.slice a2 n2 c2'] 45)).alloc (.cells #[.slice a3 n3 c3] 45)) (.agg #[.slice a2 n2 c2']) (x / d) ∧ Below w.heap.size w ((w2.alloc (.cells #[.slice a2 n2 c2'] 45)).alloc (.cells #[.slice a3 n3 c3] 45))) := ⟨hv2.mono ba, bel_go B1.out (bel_go hb2 ba)⟩
  clear hv2 hu2 hb2 ba c0 c1
  go_wp2_with fail
  refine bodyPost_ret (v := .agg #[.slice a2 n2 c2']) (by simp [results, Tryz.results70, go_sem, d2]) rfl ⟨_, rfl, HV.out.1.setCell (no_int_slice d2) _, HV.out.2.setCell (by show _ ≤ _ + 1 + 1; omega) _⟩
theorem two_set {w : World} {r : Nat} {a1 a2 : Option Addr} {n1 k1 n2 k2 : Nat} (c0 : w.cell? ⟨r, 0, none⟩ = some (.slice a1 n1 k1)) (c1 : w.cell? ⟨r, 1, none⟩ = some (.slice a2 n2 k2)) (u : Value) :
    (∀ k q, w.cell? ⟨r, 0, none⟩ ≠ some (.int k q)) ∧ ∀ k q, (w.setCell ⟨r, 0, none⟩ u).cell? ⟨r, 1, none⟩ ≠ some (.int k q) := by
  refine ⟨no_int_slice c0, ?_⟩
  rw [World.cell?_setCell_other (h := by simp), c1]
  intro k q e
  cases e
theorem rat_put {w0 w : World} {r : Nat} {a1 a2 : Option Addr} {n1 k1 n2 k2 : Nat} (c0 : w.cell? ⟨r, 0, none⟩ = some (.slice a1 n1 k1)) (c1 : w.cell? ⟨r, 1, none⟩ = some (.slice a2 n2 k2)) {v u : Value} {p q : Nat} {V : Value} (h : Rt w V p q) (hb : Below w0.heap.size w0 w) (hr : w0.heap.size ≤ r) :
    Rt ((w.setCell ⟨r, 0, none⟩ v).setCell ⟨r, 1, none⟩ u) V p q ∧ Below w0.heap.size w0 ((w.setCell ⟨r, 0, none⟩ v).setCell ⟨r, 1, none⟩ u) := by
  obtain ⟨n1, n2⟩ := two_set c0 c1 v
  exact ⟨(h.setCell n1 _).setCell n2 _, (hb.setCell hr _).setCell hr _⟩
theorem nat_put2 {w0 w : World} {r : Nat} {a1 a2 : Option Addr} {n1 k1 n2 k2 : Nat} (c1 : w.cell? ⟨r, 0, none⟩ = some (.slice a1 n1 k1)) (c2 : w.cell? ⟨r + 1, 0, none⟩ = some (.slice a2 n2 k2)) {v u x y : Value} {p q : Nat} (h1 : IsNat w v p) (h2 : IsNat w u q) (hb : Below w0.heap.size w0 w) (hr : w0.heap.size ≤ r) :
    IsNat ((w.setCell ⟨r, 0, none⟩ x).setCell ⟨r + 1, 0, none⟩ y) v p ∧ IsNat ((w.setCell ⟨r, 0, none⟩ x).setCell ⟨r + 1, 0, none⟩ y) u q ∧ Below w0.heap.size w0 ((w.setCell ⟨r, 0, none⟩ x).setCell ⟨r + 1, 0, none⟩ y) := by
  have m1 := no_int_slice c1
  have m2 : ∀ k q, (w.setCell ⟨r, 0, none⟩ x).cell? ⟨r + 1, 0, none⟩ ≠ some (.int k q) := by
    rw [World.cell?_setCell_far _ _ _ _ (by show r ≠ r + 1; omega), c2]
    intro k q e
    cases e
  exact ⟨(h1.setCell m1 _).setCell m2 _, (h2.setCell m1 _).setCell m2 _, (hb.setCell hr _).setCell (by show _ ≤ r + 1; omega) _⟩
def MakesR (w : World) (p q : Nat) (e : Ending) (w' : World) : Prop := ∃ v, e = .returned v ∧ Rt w' v p q ∧ Below w.heap.size w w'
set_option maxHeartbeats 2000000 in
theorem inLowest_any (v u : Value) (p q : Nat) (w : World) (h : IsNat w v p) (k : IsNat w u q) (hp : Fits p) (hq0 : 0 < q) (hg : Nat.gcd p q = 1) :
    Calls Tryz.prog 71 #[v, u] w (MakesR w p q) := by
  obtain ⟨a, n, c, rfl⟩ := h.isAgg
  obtain ⟨a', n', c', rfl⟩ := k.isAgg
  have HH : Hid (IsNat w (.agg #[.slice a n c]) p ∧ IsNat w (.agg #[.slice a' n' c']) q ∧ Fits p ∧ 0 < q ∧ Nat.gcd p q = 1) := ⟨h, k, hp, hq0, hg⟩
  have ba : Hid (Below w.heap.size w (((w.alloc (.cells #[.slice a n c] 45)).alloc (.cells #[.slice a' n' c'] 45)).alloc (.cells #[.slice none 0 0, .slice none 0 0] 47))) := bel_al (bel_al (bel_al (bel_refl w)))
  clear h k hp hq0 hg
  go_enter Tryz.func71, Tryz.ntmps71
  go_wp2_with fail
  refine (isZero_any _ p _ (HH.out.1.mono ba.out) HH.out.2.2.1).mono ?_
  rintro e w1 ⟨rfl, hb1⟩
  have c0 : w1.cell? ⟨w.heap.size, 0, none⟩ = some (.slice a n c) := cell_later hb1 (by simp [go_sem])
  have c1 : w1.cell? ⟨w.heap.size + 1, 0, none⟩ = some (.slice a' n' c') := cell_later hb1 (by simp [go_sem])
  have c2 : w1.cell? ⟨w.heap.size + 1 + 1, 0, none⟩ = some (.slice none 0 0) := cell_later hb1 (by simp [go_sem])
  have c3 : w1.cell? ⟨w.heap.size + 1 + 1, 1, none⟩ = some (.slice none 0 0) := cell_later hb1 (by simp [go_sem])
  have f2 : w1.frozen? ⟨w.heap.size + 1 + 1, 0, none⟩ = false := (hb1.frozen (by simp)).trans (by simp [go_sem])
  have f3 : w1.frozen? ⟨w.heap.size + 1 + 1, 1, none⟩ = false := (hb1.frozen (by simp)).trans (by simp [go_sem])
  have B1 : Hid (Below w.heap.size w w1) := bel_go ba.out hb1
  clear hb1 ba
  by_cases h1 : p = 0
  · have d1 : decide (p = 0) = true := decide_eq_true h1
    have HQ : Hid (p = 0 ∧ q = 1) := ⟨h1, by have := HH.out.2.2.2.2; rw [h1, Nat.gcd_zero_left] at this; exact this⟩
    clear h1
    go_wp2_with fail
    refine bodyPost_ret (v := .agg #[.slice none 0 0, .slice none 0 0]) (by simp [results, Tryz.results71, go_sem, c2, c3]) rfl ⟨_, rfl, ?_⟩
    rw [HQ.out.1, HQ.out.2]
    exact rat_put c2 c3 (rt_zero w1) B1.out (by omega)
  have d1 : decide (p = 0) = false := decide_eq_false h1
  have R1 : Hid (Rt w1 (.agg #[.slice a n c, .slice a' n' c']) p q) := ⟨by rw [if_neg h1]; exact ⟨_, _, _, _, _, _, rfl, HH.out.1.mono B1.out, HH.out.2.1.mono B1.out⟩, HH.out.2.2.2.1, HH.out.2.2.2.2⟩
  clear h1
  go_wp2_with fail
  refine bodyPost_ret (v := .agg #[.slice a n c, .slice a' n' c']) (by simp [results, Tryz.results71, go_sem, c2, c3]) rfl ⟨_, rfl, ?_⟩
  exact rat_put c2 c3 R1.out B1.out (by omega)
def Makes2N (w : World) (p q : Nat) (e : Ending) (w' : World) : Prop := ∃ v u, e = .returned (.tuple #[v, u]) ∧ IsNat w' v p ∧ IsNat w' u q ∧ Below w.heap.size w w'
set_option maxHeartbeats 2000000 in
theorem parts_any (v : Value) (p q : Nat) (w : World) (h : Rt w v p q) (hq : Fits q) :
    Calls Tryz.prog 45 #[v] w (Makes2N w p q) := by
  obtain ⟨a, n, c, a', n', c', rfl, h1, h2⟩ := h.raw
  have HH : Hid (IsNat w (.agg #[.slice a n c]) p ∧ IsNat w (.agg #[.slice a' n' c']) (if p = 0 then 0 else q)) := ⟨h1, h2⟩
  have ba : Hid (Below w.heap.size w (((w.alloc (.cells #[.slice a n c, .slice a' n' c'] 47)).alloc (.cells #[.slice none 0 0] 45)).alloc (.cells #[.slice none 0 0] 45))) := bel_al (bel_al (bel_al (bel_refl w)))
  have hf : Fits (if p = 0 then 0 else q) := by
    split
    · exact (tx_word (by omega)).fits
    exact hq
  have hd : (if p = 0 then 0 else q) = 0 ↔ p = 0 := by
    have := h.pos
    split
    · rename_i e; exact ⟨fun _ => e, fun _ => rfl⟩
    rename_i e; exact ⟨fun e2 => by omega, fun e2 => absurd e2 e⟩
  have HL : Hid (0 < q ∧ Nat.gcd p q = 1) := ⟨h.pos, h.low⟩
  clear h h1 h2
  go_enter Tryz.func45, Tryz.ntmps45
  go_wp2_with fail
  refine (isZero_any _ _ _ (HH.out.2.mono ba.out) hf).mono ?_
  rintro e w1 ⟨rfl, hb1⟩
  have c0 : w1.cell? ⟨w.heap.size, 0, none⟩ = some (.slice a n c) := cell_later hb1 (by simp [go_sem])
  have c0' : w1.cell? ⟨w.heap.size, 1, none⟩ = some (.slice a' n' c') := cell_later hb1 (by simp [go_sem])
  have c1 : w1.cell? ⟨w.heap.size + 1, 0, none⟩ = some (.slice none 0 0) := cell_later hb1 (by simp [go_sem])
  have c2 : w1.cell? ⟨w.heap.size + 1 + 1, 0, none⟩ = some (.slice none 0 0) := cell_later hb1 (by simp [go_sem])
  have f1 : w1.frozen? ⟨w.heap.size + 1, 0, none⟩ = false := (hb1.frozen (by simp)).trans (by simp [go_sem])
  have f2 : w1.frozen? ⟨w.heap.size + 1 + 1, 0, none⟩ = false := (hb1.frozen (by simp)).trans (by simp [go_sem])
  have B1 : Hid (Below w.heap.size w w1) := bel_go ba.out hb1
  obtain ⟨zb, hzb⟩ : ∃ zb, zb = decide ((if p = 0 then 0 else q) = 0) := ⟨_, rfl⟩
  rw [← hzb]
  clear hb1 ba
  by_cases h0 : p = 0
  · have d1 : zb = true := by rw [hzb]; exact decide_eq_true (hd.2 h0)
    have HQ : Hid (p = 0 ∧ q = 1) := ⟨h0, by have := HL.out.2; rw [h0, Nat.gcd_zero_left] at this; exact this⟩
    subst d1
    clear h0 hzb hd hf
    go_wp2_with fail
    refine (of_any 1 _ (by omega)).mono ?_
    rintro e w2 ⟨v2, rfl, hv2, hb2⟩
    obtain ⟨a2, n2, k2, rfl⟩ := hv2.isAgg
    have d1 := cell_later hb2 c1
    have d2 := cell_later hb2 c2
    have g1 : w2.frozen? ⟨w.heap.size + 1, 0, none⟩ = false := (hb2.frozen (World.block_lt_of_cell? _ _ c1)).trans f1
    have g2 : w2.frozen? ⟨w.heap.size + 1 + 1, 0, none⟩ = false := (hb2.frozen (World.block_lt_of_cell? _ _ c2)).trans f2
    have HV : Hid (IsNat w2 (.agg #[.slice a2 n2 k2]) 1 ∧ Below w.heap.size w w2) := ⟨hv2, bel_go B1.out hb2⟩
    clear hv2 hb2 c0 c0' c1 c2 f1 f2
    go_wp2_with fail
    have m1 := no_int_slice d1
    have m2 : ∀ k q, (w2.setCell ⟨w.heap.size + 1, 0, none⟩ (.slice none 0 0)).cell? ⟨w.heap.size + 1 + 1, 0, none⟩ ≠ some (.int k q) := by
      rw [World.cell?_setCell_far _ _ _ _ (by show w.heap.size + 1 ≠ w.heap.size + 1 + 1; omega), d2]
      intro k q e
      cases e
    refine bodyPost_ret (v := .tuple #[.agg #[.slice none 0 0], .agg #[.slice a2 n2 k2]]) (by simp [results, Tryz.results45, go_sem, d1, d2]) rfl ⟨_, _, rfl, by rw [HQ.out.1]; exact isNat_zero _, by rw [HQ.out.2]; exact (HV.out.1.setCell m1 _).setCell m2 _, ?_⟩
    exact (HV.out.2.setCell (by show _ ≤ _ + 1; omega) _).setCell (by show _ ≤ _ + 1 + 1; omega) _
  have d1 : zb = false := by rw [hzb]; exact decide_eq_false (fun e => h0 (hd.1 e))
  have HV : Hid (IsNat w1 (.agg #[.slice a n c]) p ∧ IsNat w1 (.agg #[.slice a' n' c']) q) := ⟨HH.out.1.mono B1.out, by have := HH.out.2.mono B1.out; rw [if_neg h0] at this; exact this⟩
  subst d1
  clear h0 hzb hd hf
  go_wp2_with fail
  go_region
  go_wp2_with fail
  have Z : Hid _ := nat_put2 (x := .slice a n c) (y := .slice a' n' c') c1 c2 HV.out.1 HV.out.2 B1.out (by omega)
  exact bodyPost_ret (v := .tuple #[.agg #[.slice a n c], .agg #[.slice a' n' c']]) (by simp [results, Tryz.results45, go_sem, c1, c2]) rfl ⟨_, _, rfl, Z.out.1.mono (bel_dr (bel_refl _)), Z.out.2.1.mono (bel_dr (bel_refl _)), bel_dr Z.out.2.2⟩
structure RS (x : Nat) : Prop where
  lt : x < P 90
theorem RS.p198 {x : Nat} (h : RS x) : x < P 198 := Nat.lt_trans h.lt (P_lt (by omega))
theorem RS.p99 {x : Nat} (h : RS x) : x < P 99 := Nat.lt_trans h.lt (P_lt (by omega))
theorem RS.small {x : Nat} (h : RS x) : Small x := small_198 h.p198
theorem RS.fits {x : Nat} (h : RS x) : Fits x := h.small.fits
theorem RS.le {x y : Nat} (h : RS x) (hy : y ≤ x) : RS y := ⟨Nat.lt_of_le_of_lt hy h.lt⟩
theorem RS.rfits {x : Nat} (h : RS x) : RFits x := rfits_P h.lt (by omega)
def MakesRB (w : World) (p q : Nat) (ok : Bool) (e : Ending) (w' : World) : Prop := ∃ v, e = .returned (.tuple #[v, .bool ok]) ∧ Rt w' v p q ∧ Below w.heap.size w w'
theorem gcd_low {p q : Nat} (hq : 0 < q) : 0 < Nat.gcd p q ∧ Nat.gcd (p / Nat.gcd p q) (q / Nat.gcd p q) = 1 ∧ 0 < q / Nat.gcd p q := by
  have h0 : 0 < Nat.gcd p q := Nat.gcd_pos_of_pos_right _ hq
  refine ⟨h0, ?_, Nat.div_pos (Nat.gcd_le_right _ hq) h0⟩
  rw [Nat.gcd_div (Nat.gcd_dvd_left _ _) (Nat.gcd_dvd_right _ _), Nat.div_self h0]
set_option maxHeartbeats 4000000 in
theorem from_any (v u : Value) (p q : Nat) (w : World) (h : IsNat w v p) (k : IsNat w u q) (hp : RS p) (hq : RS q) (hq0 : 0 < q) (hT : Tab w) :
    Calls Tryz.prog 51 #[v, u] w (MakesRB w (p / Nat.gcd p q) (q / Nat.gcd p q) true) := by
  obtain ⟨a, n, c, rfl⟩ := h.isAgg
  obtain ⟨a', n', c', rfl⟩ := k.isAgg
  have HH : Hid (IsNat w (.agg #[.slice a n c]) p ∧ IsNat w (.agg #[.slice a' n' c']) q ∧ RS p ∧ RS q ∧ 0 < q ∧ Tab w) := ⟨h, k, hp, hq, hq0, hT⟩
  have ba : Hid (Below w.heap.size w (((w.alloc (.cells #[.slice a n c] 45)).alloc (.cells #[.slice a' n' c'] 45)).alloc (.cells #[.slice none 0 0, .slice none 0 0] 47))) := bel_al (bel_al (bel_al (bel_refl w)))
  have hz : decide (q = 0) = false := decide_eq_false (by omega)
  clear h k hp hq hq0 hT
  go_enter Tryz.func51, Tryz.ntmps51
  go_wp2_with fail
  refine (isZero_any _ q _ (HH.out.2.1.mono ba.out) HH.out.2.2.2.1.fits).mono ?_
  rintro e w1 ⟨rfl, hb1⟩
  have c0 : w1.cell? ⟨w.heap.size, 0, none⟩ = some (.slice a n c) := cell_later hb1 (by simp [go_sem])
  have c1 : w1.cell? ⟨w.heap.size + 1, 0, none⟩ = some (.slice a' n' c') := cell_later hb1 (by simp [go_sem])
  have c2 : w1.cell? ⟨w.heap.size + 1 + 1, 0, none⟩ = some (.slice none 0 0) := cell_later hb1 (by simp [go_sem])
  have c3 : w1.cell? ⟨w.heap.size + 1 + 1, 1, none⟩ = some (.slice none 0 0) := cell_later hb1 (by simp [go_sem])
  have f2 : w1.frozen? ⟨w.heap.size + 1 + 1, 0, none⟩ = false := (hb1.frozen (by simp)).trans (by simp [go_sem])
  have f3 : w1.frozen? ⟨w.heap.size + 1 + 1, 1, none⟩ = false := (hb1.frozen (by simp)).trans (by simp [go_sem])
  have B1 : Hid (Below w.heap.size w w1) := bel_go ba.out hb1
  clear hb1 ba
  go_wp2_with fail
  refine (gcd_any _ _ p q _ (HH.out.1.mono B1.out) (HH.out.2.1.mono B1.out) HH.out.2.2.1.p198 HH.out.2.2.2.1.p198 (HH.out.2.2.2.2.2.go B1.out)).mono ?_
  rintro e w2 ⟨v2, rfl, hv2, hb2⟩
  obtain ⟨a2, n2, k2, rfl⟩ := hv2.isAgg
  obtain ⟨g, eg⟩ : ∃ g, g = Nat.gcd p q := ⟨_, rfl⟩
  rw [← eg] at hv2 ⊢
  have HG : Hid (0 < g ∧ Nat.gcd (p / g) (q / g) = 1 ∧ 0 < q / g ∧ g < P 198) := by
    obtain ⟨g1, g2, g3⟩ := gcd_low (p := p) HH.out.2.2.2.2.1
    rw [← eg] at g1 g2 g3
    refine ⟨g1, g2, g3, Nat.lt_of_le_of_lt (eg ▸ Nat.gcd_le_right _ HH.out.2.2.2.2.1) HH.out.2.2.2.1.p198⟩
  obtain ⟨w3, hw3⟩ : ∃ w3, w3 = w2.alloc (.cells #[.slice a2 n2 k2] 45) := ⟨_, rfl⟩
  have b3 : Below w1.heap.size w1 w3 := by rw [hw3]; exact bel_go hb2 (bel_al (bel_refl w2))
  have b23 : Below w2.heap.size w2 w3 := by rw [hw3]; exact bel_al (bel_refl w2)
  have d0 := cell_later b3 c0
  have d1 := cell_later b3 c1
  have d2 := cell_later b3 c2
  have d3 := cell_later b3 c3
  have h2 : w3.frozen? ⟨w.heap.size + 1 + 1, 0, none⟩ = false := (b3.frozen (World.block_lt_of_cell? _ _ c2)).trans f2
  have h3 : w3.frozen? ⟨w.heap.size + 1 + 1, 1, none⟩ = false := (b3.frozen (World.block_lt_of_cell? _ _ c3)).trans f3
  have d4 : w3.cell? ⟨w2.heap.size, 0, none⟩ = some (.slice a2 n2 k2) := by rw [hw3]; simp [go_sem]
  have I3 : Hid (IsNat w3 (.agg #[.slice a n c]) p ∧ IsNat w3 (.agg #[.slice a' n' c']) q ∧ IsNat w3 (.agg #[.slice a2 n2 k2]) g ∧ Below w.heap.size w w3) := ⟨(HH.out.1.mono B1.out).mono b3, (HH.out.2.1.mono B1.out).mono b3, hv2.mono b23, bel_go B1.out b3⟩
  go_wp2_with fail
  rw [← hw3]
  obtain ⟨b6, hb6⟩ : ∃ b6, b6 = w2.heap.size := ⟨_, rfl⟩
  have nb : ¬ w.heap.size + 1 + 1 = b6 := by
    have : w.heap.size + 1 + 1 < w2.heap.size := World.block_lt_of_cell? _ _ (cell_later hb2 c2)
    omega
  have nb' : ¬ b6 = w.heap.size + 1 + 1 := fun e => nb e.symm
  rw [← hb6] at d4
  rw [← hb6]
  have EG : Hid (g = Nat.gcd p q) := eg
  clear hv2 hb2 b3 b23 c0 c1 c2 c3 f2 f3 hw3 hb6 hz eg
  go_region_held3 (fun w' => w'.cell? ⟨w.heap.size, 0, none⟩ = some (.slice a n c) ∧ w'.cell? ⟨w.heap.size + 1, 0, none⟩ = some (.slice a' n' c') ∧ w'.cell? ⟨b6, 0, none⟩ = some (.slice a2 n2 k2)) (first | (simp [go_sem, *]; done) | (trace_state; fail))
    (first
      | (go_at_call_of 70 (Value.agg #[Value.slice a n c]); refine Calls.mono (over_any _ _ p g _ (IsNat.mono I3.out.1 ?_) (IsNat.mono I3.out.2.2.1 ?_) HH.out.2.2.1.p198 HG.out.2.2.2 HG.out.1) ?_; (first | exact bel_refl _ | exact bel_dr (bel_refl _)); (first | exact bel_refl _ | exact bel_dr (bel_refl _)); rintro e w4 ⟨v4, rfl, hv4, hb4⟩; have hb4 : Below w3.heap.size w3 w4 := (by first | exact hb4 | exact bel_undrew hb4); obtain ⟨a4, n4, k4, rfl⟩ := hv4.isAgg; have x0 := cell_later hb4 d0; have x1 := cell_later hb4 d1; have x2 := cell_later hb4 d2; have x3 := cell_later hb4 d3; have x4 := cell_later hb4 d4; have y2 : w4.frozen? ⟨w.heap.size + 1 + 1, 0, none⟩ = false := (hb4.frozen (World.block_lt_of_cell? _ _ d2)).trans h2; have y3 : w4.frozen? ⟨w.heap.size + 1 + 1, 1, none⟩ = false := (hb4.frozen (World.block_lt_of_cell? _ _ d3)).trans h3; have I4 : Hid (IsNat w4 (.agg #[.slice a4 n4 k4]) (p / g) ∧ IsNat w4 (.agg #[.slice a' n' c']) q ∧ IsNat w4 (.agg #[.slice a2 n2 k2]) g ∧ Below w.heap.size w w4) := ⟨hv4, I3.out.2.1.mono hb4, I3.out.2.2.1.mono hb4, bel_go I3.out.2.2.2 hb4⟩; clear hv4 hb4)
      | (go_at_call 70; refine Calls.mono (over_any _ _ q g _ I4.out.2.1 I4.out.2.2.1 HH.out.2.2.2.1.p198 HG.out.2.2.2 HG.out.1) ?_; rintro e w5 ⟨v5, rfl, hv5, hb5⟩; obtain ⟨a5, n5, k5, rfl⟩ := hv5.isAgg; have x5 := cell_later hb5 x2; have x6 := cell_later hb5 x3; have y5 : w5.frozen? ⟨w.heap.size + 1 + 1, 0, none⟩ = false := (hb5.frozen (World.block_lt_of_cell? _ _ x2)).trans y2; have y6 : w5.frozen? ⟨w.heap.size + 1 + 1, 1, none⟩ = false := (hb5.frozen (World.block_lt_of_cell? _ _ x3)).trans y3; have x7 := cell_later hb5 x0; have x8 := cell_later hb5 x1; have x9 := cell_later hb5 x4; have I5 : Hid (IsNat w5 (.agg #[.slice a4 n4 k4]) (p / g) ∧ IsNat w5 (.agg #[.slice a5 n5 k5]) (q / g) ∧ Below w.heap.size w w5) := ⟨I4.out.1.mono hb5, hv5, bel_go I4.out.2.2.2 hb5⟩; clear hv5 hb5)
      | (go_at_call 71; refine Calls.mono (inLowest_any _ _ (p / g) (q / g) _ I5.out.1 I5.out.2.1 (HH.out.2.2.1.le (Nat.div_le_self _ _)).fits HG.out.2.2.1 HG.out.2.1) ?_; rintro e w6 ⟨v6, rfl, hv6, hb6⟩; have x10 := cell_later hb6 x5; have x11 := cell_later hb6 x6; have y10 : w6.frozen? ⟨w.heap.size + 1 + 1, 0, none⟩ = false := (hb6.frozen (World.block_lt_of_cell? _ _ x5)).trans y5; have y11 : w6.frozen? ⟨w.heap.size + 1 + 1, 1, none⟩ = false := (hb6.frozen (World.block_lt_of_cell? _ _ x6)).trans y6; obtain ⟨a6, n6, k6, a7, n7, k7, ev6, _, _⟩ := hv6.raw; subst ev6; have x12 := cell_later hb6 x7; have x13 := cell_later hb6 x8; have x14 := cell_later hb6 x9; have I6 : Hid (Rt w6 (.agg #[.slice a6 n6 k6, .slice a7 n7 k7]) (p / g) (q / g) ∧ Below w.heap.size w w6) := ⟨hv6, bel_go I5.out.2.2 hb6⟩; clear hv6 hb6))
  have Z : Hid _ := rat_put (v := .slice a6 n6 k6) (u := .slice a7 n7 k7) x10 x11 I6.out.1 I6.out.2 (by omega)
  rw [EG.out] at Z
  go_wp2_with fail
  exact bodyPost_ret (v := .tuple #[.agg #[.slice a6 n6 k6, .slice a7 n7 k7], .bool true]) (by simp [results, Tryz.results51, go_sem, x10, x11]) rfl ⟨_, rfl, Z.out.1, Z.out.2⟩
set_option maxHeartbeats 2000000 in
theorem from_none (v u : Value) (p : Nat) (w : World) (h : IsNat w v p) (k : IsNat w u 0) :
    Calls Tryz.prog 51 #[v, u] w (MakesRB w 0 1 false) := by
  obtain ⟨a, n, c, rfl⟩ := h.isAgg
  obtain ⟨a', n', c', rfl⟩ := k.isAgg
  have HH : Hid (IsNat w (.agg #[.slice a' n' c']) 0) := k
  have ba : Hid (Below w.heap.size w (((w.alloc (.cells #[.slice a n c] 45)).alloc (.cells #[.slice a' n' c'] 45)).alloc (.cells #[.slice none 0 0, .slice none 0 0] 47))) := bel_al (bel_al (bel_al (bel_refl w)))
  clear h k
  go_enter Tryz.func51, Tryz.ntmps51
  go_wp2_with fail
  refine (isZero_any _ 0 _ (HH.out.mono ba.out) (tx_word (by omega)).fits).mono ?_
  rintro e w1 ⟨rfl, hb1⟩
  have c2 : w1.cell? ⟨w.heap.size + 1 + 1, 0, none⟩ = some (.slice none 0 0) := cell_later hb1 (by simp [go_sem])
  have c3 : w1.cell? ⟨w.heap.size + 1 + 1, 1, none⟩ = some (.slice none 0 0) := cell_later hb1 (by simp [go_sem])
  have f2 : w1.frozen? ⟨w.heap.size + 1 + 1, 0, none⟩ = false := (hb1.frozen (by simp)).trans (by simp [go_sem])
  have f3 : w1.frozen? ⟨w.heap.size + 1 + 1, 1, none⟩ = false := (hb1.frozen (by simp)).trans (by simp [go_sem])
  have Z : Hid _ := rat_put (v := .slice none 0 0) (u := .slice none 0 0) c2 c3 (rt_zero w1) (bel_go ba.out hb1) (by omega)
  clear hb1 ba
  go_wp2_with fail
  exact bodyPost_ret (v := .tuple #[.agg #[.slice none 0 0, .slice none 0 0], .bool false]) (by simp [results, Tryz.results51, go_sem, c2, c3]) rfl ⟨_, rfl, Z.out.1, Z.out.2⟩
theorem rs_word {x : Nat} (h : x < 18446744073709551616) : RS x := ⟨Nat.lt_of_lt_of_le (by rw [← P_one] at h; exact h) (P_le (by omega))⟩
set_option maxHeartbeats 2000000 in
theorem ratOf_yes (p q : Nat) (w : World) (hp : p ≤ 9223372036854775807) (hq : q ≤ 9223372036854775807) (hq0 : 0 < q) (hT : Tab w) :
    Calls Tryz.prog 20 #[.int .i64 (p : Int), .int .i64 (q : Int)] w (MakesRB w (p / Nat.gcd p q) (q / Nat.gcd p q) true) := by
  have d1 : decide ((p : Int) < 0) = false := decide_eq_false (by omega)
  have d2 : decide ((q : Int) < 1) = false := decide_eq_false (by omega)
  have m1 : IntKind.u64.wrap (p : Int) = (p : Int) := by rw [IntKind.wrap_u64]; omega
  have m2 : IntKind.u64.wrap (q : Int) = (q : Int) := by rw [IntKind.wrap_u64]; omega
  have HT : Hid (Tab w) := hT
  have ba : Hid (Below w.heap.size w (w.alloc (.cells #[.slice none 0 0, .slice none 0 0] 47))) := bel_al (bel_refl w)
  clear hT
  go_enter Tryz.func20, Tryz.ntmps20
  go_wp2_with fail
  refine (of_any p _ (by omega)).mono ?_
  rintro e w1 ⟨v1, rfl, hv1, hb1⟩
  have c0 : w1.cell? ⟨w.heap.size, 0, none⟩ = some (.slice none 0 0) := cell_later hb1 (by simp [go_sem])
  have c1 : w1.cell? ⟨w.heap.size, 1, none⟩ = some (.slice none 0 0) := cell_later hb1 (by simp [go_sem])
  have f0 : w1.frozen? ⟨w.heap.size, 0, none⟩ = false := (hb1.frozen (by simp)).trans (by simp [go_sem])
  have f1 : w1.frozen? ⟨w.heap.size, 1, none⟩ = false := (hb1.frozen (by simp)).trans (by simp [go_sem])
  have I1 : Hid (IsNat w1 v1 p ∧ Below w.heap.size w w1) := ⟨hv1, bel_go ba.out hb1⟩
  clear hv1 hb1 ba
  go_wp2_with fail
  refine (of_any q _ (by omega)).mono ?_
  rintro e w2 ⟨v2, rfl, hv2, hb2⟩
  have I2 : Hid (IsNat w2 v1 p ∧ IsNat w2 v2 q ∧ Below w.heap.size w w2) := ⟨I1.out.1.mono hb2, hv2, bel_go I1.out.2 hb2⟩
  have x0 := cell_later hb2 c0
  have x1 := cell_later hb2 c1
  have y0 := (hb2.frozen (World.block_lt_of_cell? _ _ c0)).trans f0
  have y1 := (hb2.frozen (World.block_lt_of_cell? _ _ c1)).trans f1
  clear hv2 hb2 I1 c0 c1 f0 f1
  go_wp2_with fail
  refine (from_any _ _ p q _ I2.out.1 I2.out.2.1 (rs_word (by omega)) (rs_word (by omega)) hq0 (HT.out.go I2.out.2.2)).mono ?_
  rintro e w3 ⟨v3, rfl, hv3, hb3⟩
  obtain ⟨a6, n6, k6, a7, n7, k7, ev6, _, _⟩ := hv3.raw
  subst ev6
  have z0 := cell_later hb3 x0
  have z1 := cell_later hb3 x1
  have u0 := (hb3.frozen (World.block_lt_of_cell? _ _ x0)).trans y0
  have u1 := (hb3.frozen (World.block_lt_of_cell? _ _ x1)).trans y1
  have Z : Hid _ := rat_put (v := .slice a6 n6 k6) (u := .slice a7 n7 k7) z0 z1 hv3 (bel_go I2.out.2.2 hb3) (Nat.le_refl _)
  clear hv3 hb3 I2 x0 x1 y0 y1
  go_wp2_with fail
  exact bodyPost_ret (v := .tuple #[.agg #[.slice a6 n6 k6, .slice a7 n7 k7], .bool true]) (by simp [results, Tryz.results20, go_sem, z0, z1]) rfl ⟨_, rfl, Z.out.1, Z.out.2⟩
set_option maxHeartbeats 2000000 in
theorem ratOf_no (p q : Int) (w : World) (h : p < 0 ∨ q < 1) :
    Calls Tryz.prog 20 #[.int .i64 p, .int .i64 q] w (MakesRB w 0 1 false) := by
  by_cases hp : p < 0
  · have d1 : decide (p < 0) = true := decide_eq_true hp
    clear h
    go_enter Tryz.func20, Tryz.ntmps20
    go_wp2_with fail
    exact bodyPost_ret (v := .tuple #[.agg #[.slice none 0 0, .slice none 0 0], .bool false]) (by simp [results, Tryz.results20, go_sem]) rfl ⟨_, rfl, rt_zero _, bel_al (bel_refl w)⟩
  have d1 : decide (p < 0) = false := decide_eq_false hp
  have d2 : decide (q < 1) = true := decide_eq_true (by omega)
  clear h
  go_enter Tryz.func20, Tryz.ntmps20
  go_wp2_with fail
  exact bodyPost_ret (v := .tuple #[.agg #[.slice none 0 0, .slice none 0 0], .bool false]) (by simp [results, Tryz.results20, go_sem]) rfl ⟨_, rfl, rt_zero _, bel_al (bel_refl w)⟩
theorem U_cut {G : Nat → Nat} {m n : Nat} (h : m ≤ n) : U (cutU G m 0) n = U G m := by
  rw [U_top h fun i h1 h2 => cutU_out (by omega)]
  exact U_congr fun i hi => by rw [cutU_in (by omega), Nat.zero_add]
theorem dg_cut {G : Nat → Nat} {m : Nat} (hG : Dg G m) (i : Nat) : cutU G m 0 i < 4294967296 := by
  by_cases h : 0 + i < m
  · rw [cutU_in h]; exact hG _ h
  rw [cutU_out h]; omega
structure Pl (w0 wr : World) (v : Value) (F : Nat → Nat) (n : Nat) (G : Nat → Nat) (m i c : Nat) (H : Nat → Nat) : Prop where
  own : OR wr 82 w0.heap.size v i (wd H)
  dg : Dg H i
  sum : U H i + c * B i = U (cutU F n 0) i + U (cutU G m 0) i
  car : c ≤ 1
  bel : Below w0.heap.size w0 wr
theorem cell_new (w : World) (u : Value) (t : TypeId) : (w.alloc (.cells #[u] t)).cell? ⟨w.heap.size, 0, none⟩ = some u := by simp [go_sem]
def TwoD (a : Value) (f : Nat) (b : Value) (g : Nat) (s : Value) (z : Nat) : Prop := (s = a ∧ z = f) ∨ (s = b ∧ z = g)
theorem pl_sum {H : Nat → Nat} {F G i c s f g b : Nat} (hs : s = f + g + c) (h : H i = s % 4294967296) (e : F + c * b = G) : F + s % 4294967296 * b + s / 4294967296 * (b * 4294967296) = G + f * b + g * b := by
  have h1 := Nat.div_add_mod s 4294967296
  have h2 : s * b = (4294967296 * (s / 4294967296) + s % 4294967296) * b := by rw [h1]
  rw [hs] at h2 ⊢
  grind
theorem OR.blk {w : World} {e : TypeId} {base n : Nat} {v : Value} {G : Nat → Value} (h : OR w e base v n G) : ∀ j, v.ownBlock = some j → base ≤ j := by
  intro j hj
  rcases h with ⟨rfl, rfl⟩ | ⟨g, cap, f, rfl, h1, _⟩
  · simp [Value.ownBlock] at hj
  simp only [Value.ownBlock, Option.some.injEq] at hj
  omega
theorem Pl.step {w0 wr w2 : World} {v v2 : Value} {F G H : Nat → Nat} {n m i c f g : Nat} (h : Pl w0 wr v F n G m i c H) (hf : f = cutU F n 0 i ∧ g = cutU G m 0 i) (lf : f < 4294967296) (lg : g < 4294967296)
    (ho : OR w2 82 w0.heap.size v2 (i + 1) (fun j => if j = i then .int .u64 (((f : Int) + g + c) % 4294967296) else wd H j)) (hb : Below w0.heap.size w0 w2) :
    Pl w0 w2 v2 F n G m (i + 1) ((f + g + c) / 4294967296) (put H i ((f + g + c) % 4294967296)) := by
  refine ⟨OR.congr ho fun j hj => ?_, fun j hj => ?_, ?_, ?_, hb⟩
  · unfold wd put
    split
    · congr 1
    rfl
  · unfold put
    split
    · exact Nat.mod_lt _ (by decide)
    exact h.dg j (by omega)
  · rw [U_succ, U_succ, U_succ, put_same, U_congr (F := put H i _) (G := H) fun j hj => put_other _ _ (by omega), ← hf.1, ← hf.2, B_succ]
    have := pl_sum (H := fun _ => (f + g + c) % 4294967296) (i := 0) (s := f + g + c) (f := f) (g := g) rfl rfl h.sum
    omega
  have := h.car
  omega
theorem Pl.done {w0 wr : World} {v : Value} {F G H : Nat → Nat} {n m mx c : Nat} (h : Pl w0 wr v F n G m (mx + 1) c H) (hn : n ≤ mx) (hm : m ≤ mx) (dF : Dg F n) (dG : Dg G m) : U H (mx + 1) = U F n + U G m := by
  have h1 := h.sum
  rw [U_cut (by omega), U_cut (by omega)] at h1
  have h2 := Nat.lt_of_lt_of_le (U_lt dF) (B_le hn)
  have h3 := Nat.lt_of_lt_of_le (U_lt dG) (B_le hm)
  have h4 := B_succ mx
  have h5 : c = 0 ∨ c = 1 := by have := h.car; omega
  rcases h5 with rfl | rfl <;> omega
set_option maxHeartbeats 2000000 in
theorem rplus_any (v u : Value) (x y : Nat) (w : World) (h : RNat w v x) (k : RNat w u y) (hx : RFits x) (hy : RFits y) :
    Calls Tryz.prog 59 #[v, u] w (RMakes w (x + y)) := by
  obtain ⟨ax, n, cap, rfl⟩ := h.isAgg
  obtain ⟨ay, m, cap', rfl⟩ := k.isAgg
  obtain ⟨F, hs, hd, h1, hv⟩ := h.open
  obtain ⟨G, ks, kd, k1, kv⟩ := k.open
  have hn : n ≤ 4294967296 := rfits_len (hv.symm ▸ hx) h1
  have hm : m ≤ 4294967296 := rfits_len (kv.symm ▸ hy) k1
  have HH : Hid (Sl w ax n cap F ∧ Dg F n ∧ U F n = x ∧ Sl w ay m cap' G ∧ Dg G m ∧ U G m = y) := ⟨hs, hd, hv, ks, kd, kv⟩
  clear hs hd h1 hv ks kd k1 kv h k hx hy
  obtain ⟨mx, hmx⟩ : ∃ mx : Nat, mx = max n m := ⟨_, rfl⟩
  have hm1 : n ≤ mx := by omega
  have hm2 : m ≤ mx := by omega
  have hm3 : mx ≤ 4294967296 := by omega
  have e1 : (if n < m then (m : Int) else (n : Int)) = (mx : Int) := by split <;> omega
  clear hmx
  have HB : Hid (Below w.heap.size w (((w.alloc (.cells #[.slice ax n cap] 51)).alloc (.cells #[.slice ay m cap'] 51)).alloc (.cells #[.slice none 0 0] 51))) := (bel_alloc2 _ _ _).alloc (by simp <;> omega) _
  go_enter Tryz.func59, Tryz.ntmps59
  go_wp2_with fail
  obtain ⟨w0, hw0⟩ : ∃ w0, w0 = ((w.alloc (.cells #[.slice ax n cap] 51)).alloc (.cells #[.slice ay m cap'] 51)).alloc (.cells #[.slice none 0 0] 51) := ⟨_, rfl⟩
  have c1 : w0.cell? ⟨w.heap.size, 0, none⟩ = some (.slice ax n cap) := by rw [hw0]; simp [go_sem]
  have c2 : w0.cell? ⟨w.heap.size + 1, 0, none⟩ = some (.slice ay m cap') := by rw [hw0]; simp [go_sem]
  have c3 : w0.cell? ⟨w.heap.size + 1 + 1, 0, none⟩ = some (.slice none 0 0) := by rw [hw0]; simp [go_sem]
  have f3 : w0.frozen? ⟨w.heap.size + 1 + 1, 0, none⟩ = false := by rw [hw0]; simp [go_sem]
  rw [← hw0] at HB ⊢
  clear hw0
  have CC : Hid _ := And.intro c1 (And.intro c2 (And.intro c3 f3))
  clear c1 c2 c3 f3
  go_loopw [5, 6, 7] (fun l q t wr => ∃ (i c : Nat) (H : Nat → Nat), i ≤ mx + 1 ∧ t = .int .i64 (i : Int) ∧ q = .int .u64 (c : Int) ∧ Hid (Pl w0 wr l F n G m i c H)) (fun _ _ t _ => mx + 1 - (intOf t).toNat)
  case atStart => exact ⟨0, 0, fun _ => 0, by omega, rfl, rfl, ⟨OR.nil _ _ _ _, fun i hi => absurd hi (by omega), by simp [U_zero], by omega, Below.refl _ _⟩⟩
  case round =>
    obtain ⟨i, c, H, hi, rfl, rfl, hP⟩ := hrel
    have d1 := cell_later hP.out.bel CC.out.1
    have d2 := cell_later hP.out.bel CC.out.2.1
    by_cases him : i ≤ mx
    · have ht : decide (i ≤ mx) = true := decide_eq_true him
      have hc1 := hP.out.car
      have hf := dg_cut HH.out.2.1 i
      have hg := dg_cut HH.out.2.2.2.2.1 i
      obtain ⟨f, ef⟩ : ∃ f, f = cutU F n 0 i := ⟨_, rfl⟩
      obtain ⟨g, eg⟩ : ∃ g, g = cutU G m 0 i := ⟨_, rfl⟩
      have EF : Hid (f = cutU F n 0 i ∧ g = cutU G m 0 i) := ⟨ef, eg⟩
      rw [← ef] at hf
      rw [← eg] at hg
      clear ef eg
      have r1 : IntKind.u64.wrap ((f : Int) + (g : Int)) = ((f + g : Nat) : Int) := by rw [IntKind.wrap_u64]; omega
      have r2 : IntKind.u64.wrap (((f + g : Nat) : Int) + (c : Int)) = ((f + g + c : Nat) : Int) := by rw [IntKind.wrap_u64]; omega
      have DD : Hid (∀ (k : Nat) (s : Value) (z : Nat), TwoD (.slice ax n cap) f (.slice ay m cap') g s z → Calls Tryz.prog 92 #[s, .int .i64 (i : Int)] (wr.drewN k) fun e w' => e = .returned (.int .u64 (z : Int)) ∧ w' = wr.drewN k) := fun k s z hz => by
        rcases hz with ⟨rfl, rfl⟩ | ⟨rfl, rfl⟩
        · rw [EF.out.1]
          exact rdigit_any _ _ _ F i _ (HH.out.1.mono (bel_drewN (bel_go HB.out hP.out.bel) k)) (by omega)
        rw [EF.out.2]
        exact rdigit_any _ _ _ G i _ (HH.out.2.2.2.1.mono (bel_drewN (bel_go HB.out hP.out.bel) k)) (by omega)
      go_wp2_with fail
      go_quiet ((go_at_call 92; exact Calls.quiet_of_same (DD.out _ _ _ (by first | exact .inl ⟨rfl, rfl⟩ | exact .inr ⟨rfl, rfl⟩))))
      have hs6 := HB.out.size
      have OW : Hid _ := hP.out.own.below (bel_al (bel_drewN (bel_refl wr) nq) (o := .cells #[.int .u64 (((f : Int) + (g : Int) + (c : Int)) % 4294967296)] 82))
      have CE : Hid (((wr.drewN nq).alloc (.cells #[.int .u64 (((f : Int) + (g : Int) + (c : Int)) % 4294967296)] 82)).cell? ⟨wr.heap.size, 0, none⟩ = some (.int .u64 (((f : Int) + (g : Int) + (c : Int)) % 4294967296))) := cell_new (wr.drewN nq) _ _
      have SZ : Hid (w0.heap.size ≤ ((wr.drewN nq).alloc (.cells #[.int .u64 (((f : Int) + (g : Int) + (c : Int)) % 4294967296)] 82)).heap.size) := Nat.le_trans hP.out.bel.size (bel_al (bel_drewN (bel_refl wr) nq)).size
      have hs7 : w0.heap.size ≤ wr.heap.size := hP.out.bel.size
      go_wp2_with (refine (id ?_ : wpList Tryz.prog _ _ (⟨some 35, _, _, _, _, _⟩ :: _) _ _); refine hold ?_)
      intro _
      refine wpList_append_one rfl (.tmp 31) (.tmp 34) 43 rfl 82 (.int .u64 0) 8 Tryz.underlying43 Tryz.info22b rfl (by omega) w0.heap.size _ i (wd H) rfl OW.out _ _ rfl _ CE.out rfl (by omega) SZ.out ?_
      intro g2 cap2 w2 ho hg2 _ _
      have S : Hid _ := hP.out.step EF.out hf hg ho (((bel_drewN hP.out.bel nq).alloc hs7 _).grown hg2 SZ.out hP.out.own.blk)
      clear ho hg2 OW
      go_wp2_with fail
      go_roundw
      case rel => exact ⟨i + 1, _, _, by omega, by go_num, by go_num, S.out⟩
      case measure => simp [intOf]; omega
    obtain rfl : i = mx + 1 := by omega
    have B0 : Hid (Below w.heap.size w wr) := bel_go HB.out hP.out.bel
    have ht : decide (mx + 1 ≤ mx) = false := decide_eq_false him
    obtain ⟨a, cap1, rfl, hsl⟩ := hP.out.own.sl (fun j hj => by have := hP.out.dg j hj; omega)
    have hcr : wr.cell? ⟨w.heap.size + 1 + 1, 0, none⟩ = some (.slice none 0 0) := cell_later hP.out.bel CC.out.2.2.1
    have hfr : wr.frozen? ⟨w.heap.size + 1 + 1, 0, none⟩ = false := (hP.out.bel.frozen (World.block_lt_of_cell? _ _ CC.out.2.2.1)).trans CC.out.2.2.2
    have HS : Hid (Sl wr a (mx + 1) cap1 H) := hsl
    clear hsl
    go_wp2_with fail
    refine (rtrimmed_any _ (mx + 1) _ H wr HS.out hP.out.dg (by omega) (fun e => absurd e (by omega))).mono ?_
    rintro e w3 ⟨v3, rfl, hv3, hb3⟩
    rw [hP.out.done hm1 hm2 HH.out.2.1 HH.out.2.2.2.2.1, HH.out.2.2.1, HH.out.2.2.2.2.2] at hv3
    have hcr3 : w3.cell? ⟨w.heap.size + 1 + 1, 0, none⟩ = some (.slice none 0 0) := cell_later hb3 hcr
    have hfr3 : w3.frozen? ⟨w.heap.size + 1 + 1, 0, none⟩ = false := (hb3.frozen (World.block_lt_of_cell? _ _ hcr)).trans hfr
    obtain ⟨a3, n3, cap3, rfl⟩ := hv3.isAgg
    have HV3 : Hid (RNat w3 (.agg #[.slice a3 n3 cap3]) (x + y)) := hv3
    have B3 : Hid (Below w.heap.size w w3) := bel_go B0.out hb3
    clear hv3 hb3 hcr hfr
    go_wp2_with fail
    refine bodyPost_ret (v := .agg #[.slice a3 n3 cap3]) (by simp [results, Tryz.results59, go_sem, hcr3]) rfl ⟨_, rfl, ?_, B3.out.setCell (by show _ ≤ _ + 1 + 1; omega) _⟩
    exact HV3.out.setCell (no_int_slice hcr3) _
theorem RNat.stay {w w' : World} {b o k c x g : Nat} (h : RNat w (.agg #[.slice (some ⟨b, o, none⟩) k c]) x) (hg : w.grownBy w' (some g)) (hne : b ≠ g) : RNat w' (.agg #[.slice (some ⟨b, o, none⟩) k c]) x := by
  obtain ⟨F, ⟨s1, s2, s3, s4⟩, hd, h1, hv⟩ := h.open
  refine ⟨_, k, c, F, rfl, ⟨s1, s2, s3, ?_⟩, hd, h1, hv⟩
  rcases s4 with e | ⟨b', o', e, hw⟩
  · exact .inl e
  cases e
  exact .inr ⟨b, o, rfl, fun i hi => hg.cell (hw i hi) (by simp only [ne_eq, Option.some.injEq]; exact hne)⟩
set_option maxHeartbeats 1000000 in
theorem rtrimmed_at (a : Option Addr) (n cap : Nat) (F : Nat → Nat) (w : World) (h : Sl w a n cap F) (hd : Dg F n) (hn : n ≤ 1099511627776) (hn0 : n ≠ 0) :
    Calls Tryz.prog 90 #[.slice a n cap] w fun e w' => ∃ k, e = .returned (.agg #[.slice a k cap]) ∧ RNat w' (.agg #[.slice a k cap]) (U F n) ∧ Below w.heap.size w w' := by
  have HD : Hid (Dg F n ∧ True) := ⟨hd, trivial⟩
  clear hd
  go_enter Tryz.func90, Tryz.ntmps90
  go_wp2_with fail
  go_loop [3] (fun t => ∃ k : Nat, k ≤ n ∧ t = .int .i64 k ∧ Hid (∀ i, k ≤ i → i < n → F i = 0)) (fun t => (intOf t).toNat)
  case atStart => exact ⟨n, Nat.le_refl _, rfl, fun i h1 h2 => absurd h1 (by omega)⟩
  case round =>
    obtain ⟨k, hk, rfl, hz⟩ := hrel
    have HH : Hid (Sl w a n cap F) := h
    clear h
    by_cases h0 : k = 0
    · subst h0
      obtain ⟨b, o, rfl, hw⟩ := HH.out.at 0 (by omega)
      have hcap : (0 : Int) ≤ cap := by omega
      have hcz : ¬ cap = 0 := by have := HH.out.1; omega
      clear hw
      go_wp2_with fail
      refine bodyPost_ret (v := .agg #[.slice (some ⟨b, o, none⟩) 0 cap]) (by simp [results, Tryz.results90, go_sem]) rfl ⟨_, rfl, ⟨_, 0, cap, F, rfl, ⟨Nat.zero_le _, HH.out.2.1, fun i hi => absurd hi (by omega), .inl rfl⟩, fun i hi => absurd hi (by omega), fun e => absurd e (by omega), ?_⟩, ?_⟩
      · rw [U_zero, U_zeros fun i hi => hz.out i (Nat.zero_le _) hi]
      exact (Below.refl _ _).alloc (Nat.le_refl _) _
    obtain ⟨b, o, rfl, hw⟩ := HH.out.at (k - 1) (by omega)
    have hc : (w.alloc (.cells #[.slice none 0 0] 51)).cell? ⟨b, o + (k - 1), none⟩ = some (.int .u64 (F (k - 1) : Nat)) := cell_later ((Below.refl _ _).alloc (Nat.le_refl _) _) (hw (k - 1) (by omega))
    have h0' : (0 : Int) < k := by omega
    clear hw
    by_cases hf : F (k - 1) = 0
    · rw [hf] at hc
      go_wp2_with fail
      go_round
      case rel =>
        refine ⟨k - 1, by omega, by go_num, fun i h1 h2 => ?_⟩
        by_cases e : i = k - 1
        · rw [e, hf]
        exact hz.out i (by omega) h2
      case measure => simp [intOf]; omega
    have hne : (((F (k - 1) : Nat) : Int) == 0) = false := by simp; omega
    have hk0 : ((k : Int) == 0) = false := by simp; omega
    have hcap : (k : Int) ≤ cap := by have := HH.out.1; omega
    go_wp2_with fail
    have rn : RNat w (.agg #[.slice (some ⟨b, o, none⟩) k cap]) (U F n) := by
      obtain ⟨s1, s2, s3, s4⟩ := HH.out
      obtain ⟨b2, o2, e2, hw2⟩ : ∃ b2 o2, some (⟨b, o, none⟩ : Addr) = some ⟨b2, o2, none⟩ ∧ Words w b2 o2 n F := s4.resolve_left (by omega)
      exact ⟨_, k, cap, F, rfl, ⟨by omega, s2, s3.mono hk, .inr ⟨b2, o2, e2, fun i hi => hw2 i (by omega)⟩⟩, HD.out.1.mono hk, fun _ => hf, (U_top hk hz.out).symm⟩
    refine bodyPost_ret (v := .agg #[.slice (some ⟨b, o, none⟩) k cap]) (by simp [results, Tryz.results90, go_sem]) rfl ⟨_, rfl, rn.mono ((Below.refl _ _).alloc (Nat.le_refl _) _), (Below.refl _ _).alloc (Nat.le_refl _) _⟩
def Tp (F : Nat → Nat) (n i : Nat) : Nat := U (fun j => F (i + j)) (n - i)
theorem Tp_top (F : Nat → Nat) (n : Nat) : Tp F n n = 0 := by rw [Tp, Nat.sub_self, U_zero]
theorem Tp_all (F : Nat → Nat) (n : Nat) : Tp F n 0 = U F n := by
  rw [Tp, Nat.sub_zero]
  exact U_congr fun j hj => by rw [Nat.zero_add]
theorem Tp_step (F : Nat → Nat) {n i : Nat} (h : i < n) : Tp F n i = F i + 4294967296 * Tp F n (i + 1) := by
  unfold Tp
  rw [show n - i = 1 + (n - (i + 1)) by omega, U_split, B_one, U_succ, U_zero, B_zero, Nat.zero_add, Nat.mul_one, Nat.add_zero]
  congr 2
  exact U_congr fun j hj => by rw [show i + (1 + j) = i + 1 + j by omega]
theorem Tp_congr {F G : Nat → Nat} {n i : Nat} (h : ∀ j, i ≤ j → j < n → F j = G j) : Tp F n i = Tp G n i := U_congr fun j hj => h _ (by omega) (by omega)
theorem small_lt {r f d : Nat} (hr : r < d) (hf : f < 4294967296) : (r * 4294967296 + f) / d < 4294967296 := by
  refine (Nat.div_lt_iff_lt_mul (by omega)).2 ?_
  have : (r + 1) * 4294967296 ≤ d * 4294967296 := Nat.mul_le_mul_right _ hr
  omega
theorem small_eq {f T Q r d s : Nat} (h : T = Q * d + r) (hs : s = r * 4294967296 + f) : f + 4294967296 * T = (s / d + 4294967296 * Q) * d + s % d := by
  have h1 := Nat.div_add_mod s d
  have h2 : 4294967296 * T = 4294967296 * (Q * d + r) := by rw [h]
  grind
structure Sm (F : Nat → Nat) (n d i r : Nat) (H : Nat → Nat) : Prop where
  eq : Tp F n i = Tp H n i * d + r
  lt : r < d
  dg : ∀ j, i ≤ j → j < n → H j < 4294967296
theorem Sm.step {F H : Nat → Nat} {n d i r : Nat} (h : Sm F n d (i + 1) r H) (hi : i < n) (hf : F i < 4294967296) : Sm F n d i ((r * 4294967296 + F i) % d) (put H i ((r * 4294967296 + F i) / d)) := by
  refine ⟨?_, Nat.mod_lt _ (Nat.lt_of_le_of_lt (Nat.zero_le _) h.lt), fun j h1 h2 => ?_⟩
  · rw [Tp_step F hi, Tp_step _ hi, put_same, Tp_congr (F := put H i _) (G := H) fun j h1 h2 => put_other _ _ (by omega)]
    exact small_eq h.eq rfl
  unfold put
  split
  · exact small_lt h.lt hf
  exact h.dg j (by omega) h2
theorem Sm.done {F H : Nat → Nat} {n d r : Nat} (h : Sm F n d 0 r H) : U H n = U F n / d ∧ r = U F n % d := by
  have h1 := h.eq
  rw [Tp_all, Tp_all] at h1
  have h2 := h.lt
  have h3 : 0 < d := by omega
  rw [h1, Nat.mul_comm (U H n) d]
  constructor
  · rw [Nat.mul_add_div h3, Nat.div_eq_of_lt h2, Nat.add_zero]
  rw [Nat.mul_add_mod, Nat.mod_eq_of_lt h2]
set_option maxHeartbeats 2000000 in
theorem rsmall_at (ax : Option Addr) (n cap x d : Nat) (w : World) (h : RNat w (.agg #[.slice ax n cap]) x) (hx : RFits x) (hd0 : 0 < d) (hd1 : d < 4294967296) (hx0 : x ≠ 0) :
    Calls Tryz.prog 113 #[.agg #[.slice ax n cap], .int .u64 (d : Int)] w fun e w' => ∃ k, e = .returned (.tuple #[.agg #[.slice (some ⟨w.heap.size + 1 + 1, 0, none⟩) k n], .int .u64 ((x % d : Nat) : Int)]) ∧ RNat w' (.agg #[.slice (some ⟨w.heap.size + 1 + 1, 0, none⟩) k n]) (x / d) ∧ Below w.heap.size w w' := by
  have hn0 : n ≠ 0 := fun e => hx0 ((rnat_len0 h).1 e)
  obtain ⟨F, hs, hd, h1, hv⟩ := h.open
  have hn : n ≤ 4294967296 := rfits_len (hv.symm ▸ hx) h1
  have HH : Hid (Sl w ax n cap F ∧ Dg F n ∧ U F n = x) := ⟨hs, hd, hv⟩
  clear hs hd h1 hv h hx
  have mk := make_at (n : Int) (n : Int) n n rfl rfl (Nat.le_refl _) (by omega)
  go_enter Tryz.func113, Tryz.ntmps113
  go_wp2_with fail
  clear mk
  obtain ⟨w0, hw0⟩ : ∃ w0, w0 = ((w.alloc (.cells #[.slice ax n cap] 51)).alloc (.cells #[.slice none 0 0] 51)).alloc (.cells (zeros n) 82) := ⟨_, rfl⟩
  have c1 : w0.cell? ⟨w.heap.size, 0, none⟩ = some (.slice ax n cap) := by rw [hw0]; simp [go_sem]
  have c2 : w0.cell? ⟨w.heap.size + 1, 0, none⟩ = some (.slice none 0 0) := by rw [hw0]; simp [go_sem]
  have f2 : w0.frozen? ⟨w.heap.size + 1, 0, none⟩ = false := by rw [hw0]; simp [go_sem]
  have R0 : Row w0 (w.heap.size + 1 + 1) n (fun _ => 0) := by rw [hw0]; exact row_zeros_at _ _ _ (by simp)
  have HB : Hid (Below w.heap.size w w0) := by rw [hw0]; exact (bel_alloc2 _ _ _).alloc (by simp <;> omega) _
  rw [← hw0]
  clear hw0
  have CC : Hid _ := And.intro c1 (And.intro c2 f2)
  clear c1 c2 f2
  go_loopw [7, 8] (fun q t wr => ∃ (i r : Nat) (H : Nat → Nat), i ≤ n ∧ t = .int .i64 ((i : Int) - 1) ∧ q = .int .u64 (r : Int) ∧ Hid (Row wr (w.heap.size + 1 + 1) n H ∧ Sm F n d i r H ∧ w0.grownBy wr (some (w.heap.size + 1 + 1)))) (fun _ t _ => (intOf t + 1).toNat)
  case atStart => exact ⟨n, 0, fun _ => 0, by omega, rfl, rfl, ⟨R0, ⟨by rw [Tp_top, Tp_top]; omega, hd0, fun j h1 h2 => absurd h2 (by omega)⟩, World.grownBy.refl _ _⟩⟩
  case round =>
    clear R0
    obtain ⟨i, r, H, hi, rfl, rfl, hP⟩ := hrel
    by_cases hi0 : 0 < i
    · obtain ⟨k, rfl⟩ : ∃ k, i = k + 1 := ⟨i - 1, by omega⟩
      obtain ⟨b, o, rfl, hw⟩ := HH.out.1.at k (by omega)
      have hc0 := hw k (by omega)
      have hb : b < w.heap.size := World.block_lt_of_cell? _ _ hc0
      have hcw : wr.cell? ⟨b, o + k, none⟩ = some (.int .u64 (F k : Nat)) := hP.out.2.2.cell (cell_later HB.out hc0) (by simp only [ne_eq, Option.some.injEq]; omega)
      have hcx : wr.cell? ⟨w.heap.size, 0, none⟩ = some (.slice (some ⟨b, o, none⟩) n cap) := hP.out.2.2.cell CC.out.1 (by simp only [ne_eq, Option.some.injEq]; omega)
      have hcd : wr.cell? ⟨w.heap.size + 1 + 1, k, none⟩ = some (.int .u64 (H k : Nat)) := hP.out.1.cell (by omega)
      have hfd : wr.frozen? ⟨w.heap.size + 1 + 1, k, none⟩ = false := hP.out.1.frozen _
      have hidx : ((k + 1 : Nat) : Int) - 1 = (k : Int) := by omega
      have hF := HH.out.2.1 k (by omega)
      have hr := hP.out.2.1.lt
      have m1 : IntKind.u64.wrap ((r : Int) * 4294967296) = ((r * 4294967296 : Nat) : Int) := by rw [IntKind.wrap_u64]; omega
      have m2 : IntKind.u64.wrap (((r * 4294967296 : Nat) : Int) + ((F k : Nat) : Int)) = ((r * 4294967296 + F k : Nat) : Int) := by rw [IntKind.wrap_u64]; omega
      have hq := small_lt hr hF
      obtain ⟨s, hs⟩ : ∃ s, s = r * 4294967296 + F k := ⟨_, rfl⟩
      have m3 : ((d : Int) == 0) = false := by simp; omega
      have S : Hid _ := And.intro (hP.out.1.set k (show (r * 4294967296 + F k) / d < 18446744073709551616 by omega)) (And.intro (hP.out.2.1.step (by omega) hF) (grown_set _ hP.out.2.2 k (.int .u64 (((r * 4294967296 + F k) / d : Nat) : Int))))
      clear hw hc0 hs hq
      rw [hidx]
      have hz : ((r : Int) * 4294967296 + ((F k : Nat) : Int)) / (d : Int) = (((r * 4294967296 + F k) / d : Nat) : Int) := by simp
      have hz2 : ((r : Int) * 4294967296 + ((F k : Nat) : Int)) % (d : Int) = (((r * 4294967296 + F k) % d : Nat) : Int) := by simp
      have HZ : Hid _ := And.intro hz hz2
      clear hz hz2
      go_wp2_with fail
      rw [HZ.out.1, HZ.out.2]
      go_roundw
      case rel => exact ⟨k, _, _, by omega, rfl, rfl, S.out⟩
      case measure => simp [intOf]
    obtain rfl : i = 0 := by omega
    have B0 : Hid (Below w.heap.size w wr) := HB.out.grown hP.out.2.2 HB.out.size (fun k hk => by cases hk; omega)
    have hcr : wr.cell? ⟨w.heap.size + 1, 0, none⟩ = some (.slice none 0 0) := hP.out.2.2.cell CC.out.2.1 (by simp)
    have hfr : wr.frozen? ⟨w.heap.size + 1, 0, none⟩ = false := (World.frozen?_of_block (hP.out.2.2.block _ (World.block_lt_of_cell? _ _ CC.out.2.1) (by simp))).trans CC.out.2.2
    go_wp2_with fail
    refine (rtrimmed_at _ n n H wr (by have := hP.out.1.sl (o := 0) (n := n) (cap := n) (by omega) (Nat.le_refl _) (by omega); rw [fro_zero] at this; exact this) (fun j hj => hP.out.2.1.dg j (Nat.zero_le _) hj) (by omega) hn0).mono ?_
    rintro e w3 ⟨n3, rfl, hv3, hb3⟩
    have he := hP.out.2.1.done
    rw [HH.out.2.2] at he
    rw [he.1] at hv3
    have hcr3 : w3.cell? ⟨w.heap.size + 1, 0, none⟩ = some (.slice none 0 0) := cell_later hb3 hcr
    have hfr3 : w3.frozen? ⟨w.heap.size + 1, 0, none⟩ = false := (hb3.frozen (World.block_lt_of_cell? _ _ hcr)).trans hfr
    have HV3 : Hid (RNat w3 (.agg #[.slice (some ⟨w.heap.size + 1 + 1, 0, none⟩) n3 n]) (x / d)) := hv3
    have B3 : Hid (Below w.heap.size w w3) := bel_go B0.out hb3
    have HE : Hid (r = x % d) := he.2
    clear hv3 hb3 hcr hfr he
    go_wp2_with fail
    refine bodyPost_ret (v := .tuple #[.agg #[.slice (some ⟨w.heap.size + 1 + 1, 0, none⟩) n3 n], .int .u64 (r : Int)]) (by simp [results, Tryz.results113, go_sem, hcr3]) rfl ⟨_, by rw [HE.out], ?_, B3.out.setCell (by show _ ≤ _ + 1; omega) _⟩
    exact HV3.out.setCell (no_int_slice hcr3) _
theorem rsmall_any (v : Value) (x d : Nat) (w : World) (h : RNat w v x) (hx : RFits x) (hd0 : 0 < d) (hd1 : d < 4294967296) (hx0 : x ≠ 0) :
    Calls Tryz.prog 113 #[v, .int .u64 (d : Int)] w fun e w' => ∃ v', e = .returned (.tuple #[v', .int .u64 ((x % d : Nat) : Int)]) ∧ RNat w' v' (x / d) ∧ Below w.heap.size w w' := by
  obtain ⟨ax, n, cap, rfl⟩ := h.isAgg
  exact (rsmall_at ax n cap x d w h hx hd0 hd1 hx0).mono fun e w' ⟨k, e1, e2, e3⟩ => ⟨_, e1, e2, e3⟩
set_option maxHeartbeats 1000000 in
theorem rtrimmed_made (b o : Nat) (w : World) :
    Calls Tryz.prog 90 #[.slice (some ⟨b, o, none⟩) 0 0] w (RMakes w 0) := by
  go_enter Tryz.func90, Tryz.ntmps90
  go_wp2_with fail
  refine wp_loop_rounds 1 ?_
  rw [rounds_succ]
  go_wp2_with fail
  exact bodyPost_ret (v := .agg #[.slice (some ⟨b, o, none⟩) 0 0]) (by simp [results, Tryz.results90, go_sem]) rfl ⟨_, rfl, ⟨_, 0, 0, fun _ => 0, rfl, ⟨Nat.le_refl _, by omega, fun i hi => absurd hi (by omega), .inl rfl⟩, fun i hi => absurd hi (by omega), fun h => absurd h (by omega), rfl⟩, (Below.refl _ _).alloc (Nat.le_refl _) _⟩
theorem rtrimmed_row (b o n : Nat) (F : Nat → Nat) (w : World) (h : Sl w (some ⟨b, o, none⟩) n n F) (hd : Dg F n) (hn : n ≤ 1099511627776) :
    Calls Tryz.prog 90 #[.slice (some ⟨b, o, none⟩) n n] w (RMakes w (U F n)) := by
  by_cases h0 : n = 0
  · subst h0
    exact rtrimmed_made b o w
  exact rtrimmed_any _ n n F w h hd hn fun e => absurd e h0
end Go.Proofs.YtfkkomppfghagaaGreatDoor
