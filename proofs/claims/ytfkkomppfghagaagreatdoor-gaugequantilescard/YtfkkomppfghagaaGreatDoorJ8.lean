/- Contracts of the program's functions, part 8: own work, joined in build order. -/
import Derived.Test.YtfkkomppfghagaaGreatDoorJ7
import Derived.ArgAppend
import Derived.Deep.LoopGhost
namespace Go.Proofs.YtfkkomppfghagaaGreatDoor
open Go.RowKit
set_option maxRecDepth 100000
set_option linter.unusedVariables false
def IsRat (w : World) (v : Value) (p q : Nat) : Prop := ∃ a n c a' n' c', v = .agg #[.slice a n c, .slice a' n' c'] ∧ IsNat w (.agg #[.slice a n c]) p ∧ IsNat w (.agg #[.slice a' n' c']) q
theorem IsRat.mono {w w' : World} {v : Value} {p q : Nat} (h : IsRat w v p q) (hb : Below w.heap.size w w') : IsRat w' v p q := by
  obtain ⟨a, n, c, a', n', c', e, h1, h2⟩ := h
  exact ⟨a, n, c, a', n', c', e, h1.mono hb, h2.mono hb⟩
theorem IsRat.setCell {w : World} {v : Value} {p q : Nat} (h : IsRat w v p q) {x : Addr} (hp : ∀ k q, w.cell? x ≠ some (.int k q)) (u : Value) : IsRat (w.setCell x u) v p q := by
  obtain ⟨a, n, c, a', n', c', e, h1, h2⟩ := h
  exact ⟨a, n, c, a', n', c', e, h1.setCell hp u, h2.setCell hp u⟩
structure Rt (w : World) (v : Value) (p q : Nat) : Prop where
  raw : IsRat w v p (if p = 0 then 0 else q)
  pos : 0 < q
  low : Nat.gcd p q = 1
theorem Rt.mono {w w' : World} {v : Value} {p q : Nat} (h : Rt w v p q) (hb : Below w.heap.size w w') : Rt w' v p q := ⟨h.raw.mono hb, h.pos, h.low⟩
theorem Rt.setCell {w : World} {v : Value} {p q : Nat} (h : Rt w v p q) {x : Addr} (hp : ∀ k q, w.cell? x ≠ some (.int k q)) (u : Value) : Rt (w.setCell x u) v p q := ⟨h.raw.setCell hp u, h.pos, h.low⟩
theorem isRat_zero (w : World) : IsRat w (.agg #[.slice none 0 0, .slice none 0 0]) 0 0 := ⟨_, _, _, _, _, _, rfl, isNat_zero w, isNat_zero w⟩
theorem rt_zero (w : World) : Rt w (.agg #[.slice none 0 0, .slice none 0 0]) 0 1 := ⟨by rw [if_pos rfl]; exact isRat_zero w, by omega, by simp⟩
theorem len_zero {x : Nat} : bitLen x = 0 ↔ x = 0 := by
  constructor
  · intro h
    have := bitLen_lt x
    rw [h] at this
    simpa using this
  intro h
  rw [h]
  exact bitLen_zero
theorem len_one {x : Nat} : bitLen x = 1 ↔ x = 1 := by
  constructor
  · intro h
    have h1 := bitLen_lt x
    rw [h] at h1
    have h2 : x ≠ 0 := fun e => by rw [e, bitLen_zero] at h; omega
    omega
  intro h
  rw [h]
  decide
set_option maxHeartbeats 1000000 in
theorem isZero_any (v : Value) (x : Nat) (w : World) (h : IsNat w v x) (hx : Fits x) :
    Calls Tryz.prog 72 #[v] w fun e w' => e = .returned (.bool (decide (x = 0))) ∧ Below w.heap.size w w' := by
  obtain ⟨a, n, c, rfl⟩ := h.isAgg
  have HH : Hid (IsNat w (.agg #[.slice a n c]) x ∧ Fits x) := ⟨h, hx⟩
  clear h hx
  go_enter Tryz.func72, Tryz.ntmps72
  go_wp2_with fail
  refine (len_any _ x _ (HH.out.1.mono (bel_al (bel_refl w))) HH.out.2).mono ?_
  rintro e w1 ⟨rfl, hb1⟩
  have B1 : Hid (Below w.heap.size w w1) := bel_go (bel_al (bel_refl w)) hb1
  obtain ⟨L, eL⟩ : ∃ L, L = bitLen x := ⟨_, rfl⟩
  rw [← eL]
  by_cases h0 : x = 0
  · have hL : ((L : Int) == 0) = true := by rw [eL, len_zero.2 h0]; rfl
    have HD : Hid (decide (x = 0) = true) := decide_eq_true h0
    clear hb1 eL h0
    go_wp2_with fail
    go_ret
    exact ⟨by rw [HD.out]; rfl, B1.out⟩
  have hL : ((L : Int) == 0) = false := by
    have : L ≠ 0 := fun e => h0 (len_zero.1 (eL ▸ e))
    simp; omega
  have HD : Hid (decide (x = 0) = false) := decide_eq_false h0
  clear hb1 eL h0
  go_wp2_with fail
  go_ret
  exact ⟨by rw [HD.out]; rfl, B1.out⟩
set_option maxHeartbeats 1000000 in
theorem isOne_any (v : Value) (x : Nat) (w : World) (h : IsNat w v x) (hx : Fits x) :
    Calls Tryz.prog 99 #[v] w fun e w' => e = .returned (.bool (decide (x = 1))) ∧ Below w.heap.size w w' := by
  obtain ⟨a, n, c, rfl⟩ := h.isAgg
  have HH : Hid (IsNat w (.agg #[.slice a n c]) x ∧ Fits x) := ⟨h, hx⟩
  clear h hx
  go_enter Tryz.func99, Tryz.ntmps99
  go_wp2_with fail
  refine (len_any _ x _ (HH.out.1.mono (bel_al (bel_refl w))) HH.out.2).mono ?_
  rintro e w1 ⟨rfl, hb1⟩
  have B1 : Hid (Below w.heap.size w w1) := bel_go (bel_al (bel_refl w)) hb1
  obtain ⟨L, eL⟩ : ∃ L, L = bitLen x := ⟨_, rfl⟩
  rw [← eL]
  by_cases h0 : x = 1
  · have hL : ((L : Int) == 1) = true := by rw [eL, len_one.2 h0]; rfl
    have HD : Hid (decide (x = 1) = true) := decide_eq_true h0
    clear hb1 eL h0
    go_wp2_with fail
    go_ret
    exact ⟨by rw [HD.out]; rfl, B1.out⟩
  have hL : ((L : Int) == 1) = false := by
    have : L ≠ 1 := fun e => h0 (len_one.1 (eL ▸ e))
    simp; omega
  have HD : Hid (decide (x = 1) = false) := decide_eq_false h0
  clear hb1 eL h0
  go_wp2_with fail
  go_ret
  exact ⟨by rw [HD.out]; rfl, B1.out⟩
set_option maxHeartbeats 2000000 in
theorem over_any (v u : Value) (x d : Nat) (w : World) (h : IsNat w v x) (k : IsNat w u d) (hx : x < P 198) (hd : d < P 198) (hd0 : 0 < d) :
    Calls Tryz.prog 70 #[v, u] w (Makes w (x / d)) := by
  obtain ⟨a, n, c, rfl⟩ := h.isAgg
  obtain ⟨a', n', c', rfl⟩ := k.isAgg
  have HH : Hid (IsNat w (.agg #[.slice a n c]) x ∧ IsNat w (.agg #[.slice a' n' c']) d ∧ x < P 198 ∧ d < P 198) := ⟨h, k, hx, hd⟩
  have ba : Hid (Below w.heap.size w (((w.alloc (.cells #[.slice a n c] 45)).alloc (.cells #[.slice a' n' c'] 45)).alloc (.cells #[.slice none 0 0] 45))) := bel_al (bel_al (bel_al (bel_refl w)))
  clear h k hx hd
  go_enter Tryz.func70, Tryz.ntmps70
  go_wp2_with fail
  refine (isOne_any _ d _ (HH.out.2.1.mono ba.out) (small_198 HH.out.2.2.2).fits).mono ?_
  rintro e w1 ⟨rfl, hb1⟩
  have c0 : w1.cell? ⟨w.heap.size, 0, none⟩ = some (.slice a n c) := cell_later hb1 (by simp [go_sem])
  have c1 : w1.cell? ⟨w.heap.size + 1, 0, none⟩ = some (.slice a' n' c') := cell_later hb1 (by simp [go_sem])
  have c2 : w1.cell? ⟨w.heap.size + 1 + 1, 0, none⟩ = some (.slice none 0 0) := cell_later hb1 (by simp [go_sem])
  have f2 : w1.frozen? ⟨w.heap.size + 1 + 1, 0, none⟩ = false := (hb1.frozen (by simp)).trans (by simp [go_sem])
  have B1 : Hid (Below w.heap.size w w1) := bel_go ba.out hb1
  clear hb1 ba
  by_cases h1 : d = 1
  · have d1 : decide (d = 1) = true := decide_eq_true h1
    have HD : Hid (x / d = x) := by show _ = _; rw [h1, Nat.div_one]
    clear h1
    go_wp2_with fail
    refine bodyPost_ret (v := .agg #[.slice a n c]) (by simp [results, Tryz.results70, go_sem, c2]) rfl ⟨_, rfl, by rw [HD.out]; exact (HH.out.1.mono B1.out).setCell (no_int_slice c2) _, B1.out.setCell (by show _ ≤ _ + 1 + 1; omega) _⟩
  have d1 : decide (d = 1) = false := decide_eq_false h1
  clear h1
  go_wp2_with fail
  refine (divMod_198 _ _ x d _ (HH.out.1.mono B1.out) (HH.out.2.1.mono B1.out) (small_198 HH.out.2.2.2) hd0 HH.out.2.2.1 (small_198 HH.out.2.2.1)).mono ?_
  rintro e w2 ⟨v2, u2, rfl, hv2, hu2, hb2⟩
  obtain ⟨a2, n2, c2', rfl⟩ := hv2.isAgg
  obtain ⟨a3, n3, c3, rfl⟩ := hu2.isAgg
  have ba : Below w2.heap.size w2 ((w2.alloc (.cells #[.slice a2 n2 c2'] 45)).alloc (.cells #[.slice a3 n3 c3] 45)) := bel_al (bel_al (bel_refl w2))
  have d2 : ((w2.alloc (.cells #[.slice a2 n2 c2'] 45)).alloc (.cells #[.slice a3 n3 c3] 45)).cell? ⟨w.heap.size + 1 + 1, 0, none⟩ = some (.slice none 0 0) := cell_later ba (cell_later hb2 c2)
  have g2 : ((w2.alloc (.cells #[.slice a2 n2 c2'] 45)).alloc (.cells #[.slice a3 n3 c3] 45)).frozen? ⟨w.heap.size + 1 + 1, 0, none⟩ = false := ((ba.frozen (World.block_lt_of_cell? _ _ (cell_later hb2 c2))).trans ((hb2.frozen (World.block_lt_of_cell? _ _ c2)).trans f2))
  have d3 : ((w2.alloc (.cells #[.slice a2 n2 c2'] 45)).alloc (.cells #[.slice a3 n3 c3] 45)).cell? ⟨w2.heap.size, 0, none⟩ = some (.slice a2 n2 c2') := by simp [go_sem]
  have HV : Hid (IsNat ((w2.alloc (.cells #[.slice a2 n2 c2'] 45)).alloc (.cells #[.slice a3 n3 c3] 45)) (.agg #[.slice a2 n2 c2']) (x / d) ∧ Below w.heap.size w ((w2.alloc (.cells #[.slice a2 n2 c2'] 45)).alloc (.cells #[.slice a3 n3 c3] 45))) := ⟨hv2.mono ba, bel_go B1.out (bel_go hb2 ba)⟩
  clear hv2 hu2 hb2 ba c0 c1
  go_wp2_with fail
  refine bodyPost_ret (v := .agg #[.slice a2 n2 c2']) (by simp [results, Tryz.results70, go_sem, d2]) rfl ⟨_, rfl, HV.out.1.setCell (no_int_slice d2) _, HV.out.2.setCell (by show _ ≤ _ + 1 + 1; omega) _⟩
theorem two_set {w : World} {r : Nat} {a1 a2 : Option Addr} {n1 k1 n2 k2 : Nat} (c0 : w.cell? ⟨r, 0, none⟩ = some (.slice a1 n1 k1)) (c1 : w.cell? ⟨r, 1, none⟩ = some (.slice a2 n2 k2)) (u : Value) :
    (∀ k q, w.cell? ⟨r, 0, none⟩ ≠ some (.int k q)) ∧ ∀ k q, (w.setCell ⟨r, 0, none⟩ u).cell? ⟨r, 1, none⟩ ≠ some (.int k q) := by
  refine ⟨no_int_slice c0, ?_⟩
  rw [World.cell?_setCell_other (h := by simp), c1]
  intro k q e
  cases e
theorem rat_put {w0 w : World} {r : Nat} {a1 a2 : Option Addr} {n1 k1 n2 k2 : Nat} (c0 : w.cell? ⟨r, 0, none⟩ = some (.slice a1 n1 k1)) (c1 : w.cell? ⟨r, 1, none⟩ = some (.slice a2 n2 k2)) {v u : Value} {p q : Nat} {V : Value} (h : Rt w V p q) (hb : Below w0.heap.size w0 w) (hr : w0.heap.size ≤ r) :
    Rt ((w.setCell ⟨r, 0, none⟩ v).setCell ⟨r, 1, none⟩ u) V p q ∧ Below w0.heap.size w0 ((w.setCell ⟨r, 0, none⟩ v).setCell ⟨r, 1, none⟩ u) := by
  obtain ⟨n1, n2⟩ := two_set c0 c1 v
  exact ⟨(h.setCell n1 _).setCell n2 _, (hb.setCell hr _).setCell hr _⟩
theorem nat_put2 {w0 w : World} {r : Nat} {a1 a2 : Option Addr} {n1 k1 n2 k2 : Nat} (c1 : w.cell? ⟨r, 0, none⟩ = some (.slice a1 n1 k1)) (c2 : w.cell? ⟨r + 1, 0, none⟩ = some (.slice a2 n2 k2)) {v u x y : Value} {p q : Nat} (h1 : IsNat w v p) (h2 : IsNat w u q) (hb : Below w0.heap.size w0 w) (hr : w0.heap.size ≤ r) :
    IsNat ((w.setCell ⟨r, 0, none⟩ x).setCell ⟨r + 1, 0, none⟩ y) v p ∧ IsNat ((w.setCell ⟨r, 0, none⟩ x).setCell ⟨r + 1, 0, none⟩ y) u q ∧ Below w0.heap.size w0 ((w.setCell ⟨r, 0, none⟩ x).setCell ⟨r + 1, 0, none⟩ y) := by
  have m1 := no_int_slice c1
  have m2 : ∀ k q, (w.setCell ⟨r, 0, none⟩ x).cell? ⟨r + 1, 0, none⟩ ≠ some (.int k q) := by
    rw [World.cell?_setCell_far _ _ _ _ (by show r ≠ r + 1; omega), c2]
    intro k q e
    cases e
  exact ⟨(h1.setCell m1 _).setCell m2 _, (h2.setCell m1 _).setCell m2 _, (hb.setCell hr _).setCell (by show _ ≤ r + 1; omega) _⟩
def MakesR (w : World) (p q : Nat) (e : Ending) (w' : World) : Prop := ∃ v, e = .returned v ∧ Rt w' v p q ∧ Below w.heap.size w w'
set_option maxHeartbeats 2000000 in
theorem inLowest_any (v u : Value) (p q : Nat) (w : World) (h : IsNat w v p) (k : IsNat w u q) (hp : Fits p) (hq0 : 0 < q) (hg : Nat.gcd p q = 1) :
    Calls Tryz.prog 71 #[v, u] w (MakesR w p q) := by
  obtain ⟨a, n, c, rfl⟩ := h.isAgg
  obtain ⟨a', n', c', rfl⟩ := k.isAgg
  have HH : Hid (IsNat w (.agg #[.slice a n c]) p ∧ IsNat w (.agg #[.slice a' n' c']) q ∧ Fits p ∧ 0 < q ∧ Nat.gcd p q = 1) := ⟨h, k, hp, hq0, hg⟩
  have ba : Hid (Below w.heap.size w (((w.alloc (.cells #[.slice a n c] 45)).alloc (.cells #[.slice a' n' c'] 45)).alloc (.cells #[.slice none 0 0, .slice none 0 0] 47))) := bel_al (bel_al (bel_al (bel_refl w)))
  clear h k hp hq0 hg
  go_enter Tryz.func71, Tryz.ntmps71
  go_wp2_with fail
  refine (isZero_any _ p _ (HH.out.1.mono ba.out) HH.out.2.2.1).mono ?_
  rintro e w1 ⟨rfl, hb1⟩
  have c0 : w1.cell? ⟨w.heap.size, 0, none⟩ = some (.slice a n c) := cell_later hb1 (by simp [go_sem])
  have c1 : w1.cell? ⟨w.heap.size + 1, 0, none⟩ = some (.slice a' n' c') := cell_later hb1 (by simp [go_sem])
  have c2 : w1.cell? ⟨w.heap.size + 1 + 1, 0, none⟩ = some (.slice none 0 0) := cell_later hb1 (by simp [go_sem])
  have c3 : w1.cell? ⟨w.heap.size + 1 + 1, 1, none⟩ = some (.slice none 0 0) := cell_later hb1 (by simp [go_sem])
  have f2 : w1.frozen? ⟨w.heap.size + 1 + 1, 0, none⟩ = false := (hb1.frozen (by simp)).trans (by simp [go_sem])
  have f3 : w1.frozen? ⟨w.heap.size + 1 + 1, 1, none⟩ = false := (hb1.frozen (by simp)).trans (by simp [go_sem])
  have B1 : Hid (Below w.heap.size w w1) := bel_go ba.out hb1
  clear hb1 ba
  by_cases h1 : p = 0
  · have d1 : decide (p = 0) = true := decide_eq_true h1
    have HQ : Hid (p = 0 ∧ q = 1) := ⟨h1, by have := HH.out.2.2.2.2; rw [h1, Nat.gcd_zero_left] at this; exact this⟩
    clear h1
    go_wp2_with fail
    refine bodyPost_ret (v := .agg #[.slice none 0 0, .slice none 0 0]) (by simp [results, Tryz.results71, go_sem, c2, c3]) rfl ⟨_, rfl, ?_⟩
    rw [HQ.out.1, HQ.out.2]
    exact rat_put c2 c3 (rt_zero w1) B1.out (by omega)
  have d1 : decide (p = 0) = false := decide_eq_false h1
  have R1 : Hid (Rt w1 (.agg #[.slice a n c, .slice a' n' c']) p q) := ⟨by rw [if_neg h1]; exact ⟨_, _, _, _, _, _, rfl, HH.out.1.mono B1.out, HH.out.2.1.mono B1.out⟩, HH.out.2.2.2.1, HH.out.2.2.2.2⟩
  clear h1
  go_wp2_with fail
  refine bodyPost_ret (v := .agg #[.slice a n c, .slice a' n' c']) (by simp [results, Tryz.results71, go_sem, c2, c3]) rfl ⟨_, rfl, ?_⟩
  exact rat_put c2 c3 R1.out B1.out (by omega)
def Makes2N (w : World) (p q : Nat) (e : Ending) (w' : World) : Prop := ∃ v u, e = .returned (.tuple #[v, u]) ∧ IsNat w' v p ∧ IsNat w' u q ∧ Below w.heap.size w w'
set_option maxHeartbeats 2000000 in
theorem parts_any (v : Value) (p q : Nat) (w : World) (h : Rt w v p q) (hq : Fits q) :
    Calls Tryz.prog 45 #[v] w (Makes2N w p q) := by
  obtain ⟨a, n, c, a', n', c', rfl, h1, h2⟩ := h.raw
  have HH : Hid (IsNat w (.agg #[.slice a n c]) p ∧ IsNat w (.agg #[.slice a' n' c']) (if p = 0 then 0 else q)) := ⟨h1, h2⟩
  have ba : Hid (Below w.heap.size w (((w.alloc (.cells #[.slice a n c, .slice a' n' c'] 47)).alloc (.cells #[.slice none 0 0] 45)).alloc (.cells #[.slice none 0 0] 45))) := bel_al (bel_al (bel_al (bel_refl w)))
  have hf : Fits (if p = 0 then 0 else q) := by
    split
    · exact (tx_word (by omega)).fits
    exact hq
  have hd : (if p = 0 then 0 else q) = 0 ↔ p = 0 := by
    have := h.pos
    split
    · rename_i e; exact ⟨fun _ => e, fun _ => rfl⟩
    rename_i e; exact ⟨fun e2 => by omega, fun e2 => absurd e2 e⟩
  have HL : Hid (0 < q ∧ Nat.gcd p q = 1) := ⟨h.pos, h.low⟩
  clear h h1 h2
  go_enter Tryz.func45, Tryz.ntmps45
  go_wp2_with fail
  refine (isZero_any _ _ _ (HH.out.2.mono ba.out) hf).mono ?_
  rintro e w1 ⟨rfl, hb1⟩
  have c0 : w1.cell? ⟨w.heap.size, 0, none⟩ = some (.slice a n c) := cell_later hb1 (by simp [go_sem])
  have c0' : w1.cell? ⟨w.heap.size, 1, none⟩ = some (.slice a' n' c') := cell_later hb1 (by simp [go_sem])
  have c1 : w1.cell? ⟨w.heap.size + 1, 0, none⟩ = some (.slice none 0 0) := cell_later hb1 (by simp [go_sem])
  have c2 : w1.cell? ⟨w.heap.size + 1 + 1, 0, none⟩ = some (.slice none 0 0) := cell_later hb1 (by simp [go_sem])
  have f1 : w1.frozen? ⟨w.heap.size + 1, 0, none⟩ = false := (hb1.frozen (by simp)).trans (by simp [go_sem])
  have f2 : w1.frozen? ⟨w.heap.size + 1 + 1, 0, none⟩ = false := (hb1.frozen (by simp)).trans (by simp [go_sem])
  have B1 : Hid (Below w.heap.size w w1) := bel_go ba.out hb1
  obtain ⟨zb, hzb⟩ : ∃ zb, zb = decide ((if p = 0 then 0 else q) = 0) := ⟨_, rfl⟩
  rw [← hzb]
  clear hb1 ba
  by_cases h0 : p = 0
  · have d1 : zb = true := by rw [hzb]; exact decide_eq_true (hd.2 h0)
    have HQ : Hid (p = 0 ∧ q = 1) := ⟨h0, by have := HL.out.2; rw [h0, Nat.gcd_zero_left] at this; exact this⟩
    subst d1
    clear h0 hzb hd hf
    go_wp2_with fail
    refine (of_any 1 _ (by omega)).mono ?_
    rintro e w2 ⟨v2, rfl, hv2, hb2⟩
    obtain ⟨a2, n2, k2, rfl⟩ := hv2.isAgg
    have d1 := cell_later hb2 c1
    have d2 := cell_later hb2 c2
    have g1 : w2.frozen? ⟨w.heap.size + 1, 0, none⟩ = false := (hb2.frozen (World.block_lt_of_cell? _ _ c1)).trans f1
    have g2 : w2.frozen? ⟨w.heap.size + 1 + 1, 0, none⟩ = false := (hb2.frozen (World.block_lt_of_cell? _ _ c2)).trans f2
    have HV : Hid (IsNat w2 (.agg #[.slice a2 n2 k2]) 1 ∧ Below w.heap.size w w2) := ⟨hv2, bel_go B1.out hb2⟩
    clear hv2 hb2 c0 c0' c1 c2 f1 f2
    go_wp2_with fail
    have m1 := no_int_slice d1
    have m2 : ∀ k q, (w2.setCell ⟨w.heap.size + 1, 0, none⟩ (.slice none 0 0)).cell? ⟨w.heap.size + 1 + 1, 0, none⟩ ≠ some (.int k q) := by
      rw [World.cell?_setCell_far _ _ _ _ (by show w.heap.size + 1 ≠ w.heap.size + 1 + 1; omega), d2]
      intro k q e
      cases e
    refine bodyPost_ret (v := .tuple #[.agg #[.slice none 0 0], .agg #[.slice a2 n2 k2]]) (by simp [results, Tryz.results45, go_sem, d1, d2]) rfl ⟨_, _, rfl, by rw [HQ.out.1]; exact isNat_zero _, by rw [HQ.out.2]; exact (HV.out.1.setCell m1 _).setCell m2 _, ?_⟩
    exact (HV.out.2.setCell (by show _ ≤ _ + 1; omega) _).setCell (by show _ ≤ _ + 1 + 1; omega) _
  have d1 : zb = false := by rw [hzb]; exact decide_eq_false (fun e => h0 (hd.1 e))
  have HV : Hid (IsNat w1 (.agg #[.slice a n c]) p ∧ IsNat w1 (.agg #[.slice a' n' c']) q) := ⟨HH.out.1.mono B1.out, by have := HH.out.2.mono B1.out; rw [if_neg h0] at this; exact this⟩
  subst d1
  clear h0 hzb hd hf
  go_wp2_with fail
  go_region
  go_wp2_with fail
  have Z : Hid _ := nat_put2 (x := .slice a n c) (y := .slice a' n' c') c1 c2 HV.out.1 HV.out.2 B1.out (by omega)
  exact bodyPost_ret (v := .tuple #[.agg #[.slice a n c], .agg #[.slice a' n' c']]) (by simp [results, Tryz.results45, go_sem, c1, c2]) rfl ⟨_, _, rfl, Z.out.1.mono (bel_dr (bel_refl _)), Z.out.2.1.mono (bel_dr (bel_refl _)), bel_dr Z.out.2.2⟩
structure RS (x : Nat) : Prop where
  lt : x < P 90
theorem RS.p198 {x : Nat} (h : RS x) : x < P 198 := Nat.lt_trans h.lt (P_lt (by omega))
theorem RS.p99 {x : Nat} (h : RS x) : x < P 99 := Nat.lt_trans h.lt (P_lt (by omega))
theorem RS.small {x : Nat} (h : RS x) : Small x := small_198 h.p198
theorem RS.fits {x : Nat} (h : RS x) : Fits x := h.small.fits
theorem RS.le {x y : Nat} (h : RS x) (hy : y ≤ x) : RS y := ⟨Nat.lt_of_le_of_lt hy h.lt⟩
def MakesRB (w : World) (p q : Nat) (ok : Bool) (e : Ending) (w' : World) : Prop := ∃ v, e = .returned (.tuple #[v, .bool ok]) ∧ Rt w' v p q ∧ Below w.heap.size w w'
theorem gcd_low {p q : Nat} (hq : 0 < q) : 0 < Nat.gcd p q ∧ Nat.gcd (p / Nat.gcd p q) (q / Nat.gcd p q) = 1 ∧ 0 < q / Nat.gcd p q := by
  have h0 : 0 < Nat.gcd p q := Nat.gcd_pos_of_pos_right _ hq
  refine ⟨h0, ?_, Nat.div_pos (Nat.gcd_le_right _ hq) h0⟩
  rw [Nat.gcd_div (Nat.gcd_dvd_left _ _) (Nat.gcd_dvd_right _ _), Nat.div_self h0]
set_option maxHeartbeats 4000000 in
theorem from_any (v u : Value) (p q : Nat) (w : World) (h : IsNat w v p) (k : IsNat w u q) (hp : RS p) (hq : RS q) (hq0 : 0 < q) (hT : Tab w) :
    Calls Tryz.prog 51 #[v, u] w (MakesRB w (p / Nat.gcd p q) (q / Nat.gcd p q) true) := by
  obtain ⟨a, n, c, rfl⟩ := h.isAgg
  obtain ⟨a', n', c', rfl⟩ := k.isAgg
  have HH : Hid (IsNat w (.agg #[.slice a n c]) p ∧ IsNat w (.agg #[.slice a' n' c']) q ∧ RS p ∧ RS q ∧ 0 < q ∧ Tab w) := ⟨h, k, hp, hq, hq0, hT⟩
  have ba : Hid (Below w.heap.size w (((w.alloc (.cells #[.slice a n c] 45)).alloc (.cells #[.slice a' n' c'] 45)).alloc (.cells #[.slice none 0 0, .slice none 0 0] 47))) := bel_al (bel_al (bel_al (bel_refl w)))
  have hz : decide (q = 0) = false := decide_eq_false (by omega)
  clear h k hp hq hq0 hT
  go_enter Tryz.func51, Tryz.ntmps51
  go_wp2_with fail
  refine (isZero_any _ q _ (HH.out.2.1.mono ba.out) HH.out.2.2.2.1.fits).mono ?_
  rintro e w1 ⟨rfl, hb1⟩
  have c0 : w1.cell? ⟨w.heap.size, 0, none⟩ = some (.slice a n c) := cell_later hb1 (by simp [go_sem])
  have c1 : w1.cell? ⟨w.heap.size + 1, 0, none⟩ = some (.slice a' n' c') := cell_later hb1 (by simp [go_sem])
  have c2 : w1.cell? ⟨w.heap.size + 1 + 1, 0, none⟩ = some (.slice none 0 0) := cell_later hb1 (by simp [go_sem])
  have c3 : w1.cell? ⟨w.heap.size + 1 + 1, 1, none⟩ = some (.slice none 0 0) := cell_later hb1 (by simp [go_sem])
  have f2 : w1.frozen? ⟨w.heap.size + 1 + 1, 0, none⟩ = false := (hb1.frozen (by simp)).trans (by simp [go_sem])
  have f3 : w1.frozen? ⟨w.heap.size + 1 + 1, 1, none⟩ = false := (hb1.frozen (by simp)).trans (by simp [go_sem])
  have B1 : Hid (Below w.heap.size w w1) := bel_go ba.out hb1
  clear hb1 ba
  go_wp2_with fail
  refine (gcd_any _ _ p q _ (HH.out.1.mono B1.out) (HH.out.2.1.mono B1.out) HH.out.2.2.1.p198 HH.out.2.2.2.1.p198 (HH.out.2.2.2.2.2.go B1.out)).mono ?_
  rintro e w2 ⟨v2, rfl, hv2, hb2⟩
  obtain ⟨a2, n2, k2, rfl⟩ := hv2.isAgg
  obtain ⟨g, eg⟩ : ∃ g, g = Nat.gcd p q := ⟨_, rfl⟩
  rw [← eg] at hv2 ⊢
  have HG : Hid (0 < g ∧ Nat.gcd (p / g) (q / g) = 1 ∧ 0 < q / g ∧ g < P 198) := by
    obtain ⟨g1, g2, g3⟩ := gcd_low (p := p) HH.out.2.2.2.2.1
    rw [← eg] at g1 g2 g3
    refine ⟨g1, g2, g3, Nat.lt_of_le_of_lt (eg ▸ Nat.gcd_le_right _ HH.out.2.2.2.2.1) HH.out.2.2.2.1.p198⟩
  obtain ⟨w3, hw3⟩ : ∃ w3, w3 = w2.alloc (.cells #[.slice a2 n2 k2] 45) := ⟨_, rfl⟩
  have b3 : Below w1.heap.size w1 w3 := by rw [hw3]; exact bel_go hb2 (bel_al (bel_refl w2))
  have b23 : Below w2.heap.size w2 w3 := by rw [hw3]; exact bel_al (bel_refl w2)
  have d0 := cell_later b3 c0
  have d1 := cell_later b3 c1
  have d2 := cell_later b3 c2
  have d3 := cell_later b3 c3
  have h2 : w3.frozen? ⟨w.heap.size + 1 + 1, 0, none⟩ = false := (b3.frozen (World.block_lt_of_cell? _ _ c2)).trans f2
  have h3 : w3.frozen? ⟨w.heap.size + 1 + 1, 1, none⟩ = false := (b3.frozen (World.block_lt_of_cell? _ _ c3)).trans f3
  have d4 : w3.cell? ⟨w2.heap.size, 0, none⟩ = some (.slice a2 n2 k2) := by rw [hw3]; simp [go_sem]
  have I3 : Hid (IsNat w3 (.agg #[.slice a n c]) p ∧ IsNat w3 (.agg #[.slice a' n' c']) q ∧ IsNat w3 (.agg #[.slice a2 n2 k2]) g ∧ Below w.heap.size w w3) := ⟨(HH.out.1.mono B1.out).mono b3, (HH.out.2.1.mono B1.out).mono b3, hv2.mono b23, bel_go B1.out b3⟩
  go_wp2_with fail
  rw [← hw3]
  obtain ⟨b6, hb6⟩ : ∃ b6, b6 = w2.heap.size := ⟨_, rfl⟩
  have nb : ¬ w.heap.size + 1 + 1 = b6 := by
    have : w.heap.size + 1 + 1 < w2.heap.size := World.block_lt_of_cell? _ _ (cell_later hb2 c2)
    omega
  have nb' : ¬ b6 = w.heap.size + 1 + 1 := fun e => nb e.symm
  rw [← hb6] at d4
  rw [← hb6]
  have EG : Hid (g = Nat.gcd p q) := eg
  clear hv2 hb2 b3 b23 c0 c1 c2 c3 f2 f3 hw3 hb6 hz eg
  go_region_held3 (fun w' => w'.cell? ⟨w.heap.size, 0, none⟩ = some (.slice a n c) ∧ w'.cell? ⟨w.heap.size + 1, 0, none⟩ = some (.slice a' n' c') ∧ w'.cell? ⟨b6, 0, none⟩ = some (.slice a2 n2 k2)) (first | (simp [go_sem, *]; done) | (trace_state; fail))
    (first
      | (go_at_call_of 70 (Value.agg #[Value.slice a n c]); refine Calls.mono (over_any _ _ p g _ (IsNat.mono I3.out.1 ?_) (IsNat.mono I3.out.2.2.1 ?_) HH.out.2.2.1.p198 HG.out.2.2.2 HG.out.1) ?_; (first | exact bel_refl _ | exact bel_dr (bel_refl _)); (first | exact bel_refl _ | exact bel_dr (bel_refl _)); rintro e w4 ⟨v4, rfl, hv4, hb4⟩; have hb4 : Below w3.heap.size w3 w4 := (by first | exact hb4 | exact bel_undrew hb4); obtain ⟨a4, n4, k4, rfl⟩ := hv4.isAgg; have x0 := cell_later hb4 d0; have x1 := cell_later hb4 d1; have x2 := cell_later hb4 d2; have x3 := cell_later hb4 d3; have x4 := cell_later hb4 d4; have y2 : w4.frozen? ⟨w.heap.size + 1 + 1, 0, none⟩ = false := (hb4.frozen (World.block_lt_of_cell? _ _ d2)).trans h2; have y3 : w4.frozen? ⟨w.heap.size + 1 + 1, 1, none⟩ = false := (hb4.frozen (World.block_lt_of_cell? _ _ d3)).trans h3; have I4 : Hid (IsNat w4 (.agg #[.slice a4 n4 k4]) (p / g) ∧ IsNat w4 (.agg #[.slice a' n' c']) q ∧ IsNat w4 (.agg #[.slice a2 n2 k2]) g ∧ Below w.heap.size w w4) := ⟨hv4, I3.out.2.1.mono hb4, I3.out.2.2.1.mono hb4, bel_go I3.out.2.2.2 hb4⟩; clear hv4 hb4)
      | (go_at_call 70; refine Calls.mono (over_any _ _ q g _ I4.out.2.1 I4.out.2.2.1 HH.out.2.2.2.1.p198 HG.out.2.2.2 HG.out.1) ?_; rintro e w5 ⟨v5, rfl, hv5, hb5⟩; obtain ⟨a5, n5, k5, rfl⟩ := hv5.isAgg; have x5 := cell_later hb5 x2; have x6 := cell_later hb5 x3; have y5 : w5.frozen? ⟨w.heap.size + 1 + 1, 0, none⟩ = false := (hb5.frozen (World.block_lt_of_cell? _ _ x2)).trans y2; have y6 : w5.frozen? ⟨w.heap.size + 1 + 1, 1, none⟩ = false := (hb5.frozen (World.block_lt_of_cell? _ _ x3)).trans y3; have x7 := cell_later hb5 x0; have x8 := cell_later hb5 x1; have x9 := cell_later hb5 x4; have I5 : Hid (IsNat w5 (.agg #[.slice a4 n4 k4]) (p / g) ∧ IsNat w5 (.agg #[.slice a5 n5 k5]) (q / g) ∧ Below w.heap.size w w5) := ⟨I4.out.1.mono hb5, hv5, bel_go I4.out.2.2.2 hb5⟩; clear hv5 hb5)
      | (go_at_call 71; refine Calls.mono (inLowest_any _ _ (p / g) (q / g) _ I5.out.1 I5.out.2.1 (HH.out.2.2.1.le (Nat.div_le_self _ _)).fits HG.out.2.2.1 HG.out.2.1) ?_; rintro e w6 ⟨v6, rfl, hv6, hb6⟩; have x10 := cell_later hb6 x5; have x11 := cell_later hb6 x6; have y10 : w6.frozen? ⟨w.heap.size + 1 + 1, 0, none⟩ = false := (hb6.frozen (World.block_lt_of_cell? _ _ x5)).trans y5; have y11 : w6.frozen? ⟨w.heap.size + 1 + 1, 1, none⟩ = false := (hb6.frozen (World.block_lt_of_cell? _ _ x6)).trans y6; obtain ⟨a6, n6, k6, a7, n7, k7, ev6, _, _⟩ := hv6.raw; subst ev6; have x12 := cell_later hb6 x7; have x13 := cell_later hb6 x8; have x14 := cell_later hb6 x9; have I6 : Hid (Rt w6 (.agg #[.slice a6 n6 k6, .slice a7 n7 k7]) (p / g) (q / g) ∧ Below w.heap.size w w6) := ⟨hv6, bel_go I5.out.2.2 hb6⟩; clear hv6 hb6))
  have Z : Hid _ := rat_put (v := .slice a6 n6 k6) (u := .slice a7 n7 k7) x10 x11 I6.out.1 I6.out.2 (by omega)
  rw [EG.out] at Z
  go_wp2_with fail
  exact bodyPost_ret (v := .tuple #[.agg #[.slice a6 n6 k6, .slice a7 n7 k7], .bool true]) (by simp [results, Tryz.results51, go_sem, x10, x11]) rfl ⟨_, rfl, Z.out.1, Z.out.2⟩
set_option maxHeartbeats 2000000 in
theorem from_none (v u : Value) (p : Nat) (w : World) (h : IsNat w v p) (k : IsNat w u 0) :
    Calls Tryz.prog 51 #[v, u] w (MakesRB w 0 1 false) := by
  obtain ⟨a, n, c, rfl⟩ := h.isAgg
  obtain ⟨a', n', c', rfl⟩ := k.isAgg
  have HH : Hid (IsNat w (.agg #[.slice a' n' c']) 0) := k
  have ba : Hid (Below w.heap.size w (((w.alloc (.cells #[.slice a n c] 45)).alloc (.cells #[.slice a' n' c'] 45)).alloc (.cells #[.slice none 0 0, .slice none 0 0] 47))) := bel_al (bel_al (bel_al (bel_refl w)))
  clear h k
  go_enter Tryz.func51, Tryz.ntmps51
  go_wp2_with fail
  refine (isZero_any _ 0 _ (HH.out.mono ba.out) (tx_word (by omega)).fits).mono ?_
  rintro e w1 ⟨rfl, hb1⟩
  have c2 : w1.cell? ⟨w.heap.size + 1 + 1, 0, none⟩ = some (.slice none 0 0) := cell_later hb1 (by simp [go_sem])
  have c3 : w1.cell? ⟨w.heap.size + 1 + 1, 1, none⟩ = some (.slice none 0 0) := cell_later hb1 (by simp [go_sem])
  have f2 : w1.frozen? ⟨w.heap.size + 1 + 1, 0, none⟩ = false := (hb1.frozen (by simp)).trans (by simp [go_sem])
  have f3 : w1.frozen? ⟨w.heap.size + 1 + 1, 1, none⟩ = false := (hb1.frozen (by simp)).trans (by simp [go_sem])
  have Z : Hid _ := rat_put (v := .slice none 0 0) (u := .slice none 0 0) c2 c3 (rt_zero w1) (bel_go ba.out hb1) (by omega)
  clear hb1 ba
  go_wp2_with fail
  exact bodyPost_ret (v := .tuple #[.agg #[.slice none 0 0, .slice none 0 0], .bool false]) (by simp [results, Tryz.results51, go_sem, c2, c3]) rfl ⟨_, rfl, Z.out.1, Z.out.2⟩
theorem rs_word {x : Nat} (h : x < 18446744073709551616) : RS x := ⟨Nat.lt_of_lt_of_le (by rw [← P_one] at h; exact h) (P_le (by omega))⟩
set_option maxHeartbeats 2000000 in
theorem ratOf_yes (p q : Nat) (w : World) (hp : p ≤ 9223372036854775807) (hq : q ≤ 9223372036854775807) (hq0 : 0 < q) (hT : Tab w) :
    Calls Tryz.prog 20 #[.int .i64 (p : Int), .int .i64 (q : Int)] w (MakesRB w (p / Nat.gcd p q) (q / Nat.gcd p q) true) := by
  have d1 : decide ((p : Int) < 0) = false := decide_eq_false (by omega)
  have d2 : decide ((q : Int) < 1) = false := decide_eq_false (by omega)
  have m1 : IntKind.u64.wrap (p : Int) = (p : Int) := by rw [IntKind.wrap_u64]; omega
  have m2 : IntKind.u64.wrap (q : Int) = (q : Int) := by rw [IntKind.wrap_u64]; omega
  have HT : Hid (Tab w) := hT
  have ba : Hid (Below w.heap.size w (w.alloc (.cells #[.slice none 0 0, .slice none 0 0] 47))) := bel_al (bel_refl w)
  clear hT
  go_enter Tryz.func20, Tryz.ntmps20
  go_wp2_with fail
  refine (of_any p _ (by omega)).mono ?_
  rintro e w1 ⟨v1, rfl, hv1, hb1⟩
  have c0 : w1.cell? ⟨w.heap.size, 0, none⟩ = some (.slice none 0 0) := cell_later hb1 (by simp [go_sem])
  have c1 : w1.cell? ⟨w.heap.size, 1, none⟩ = some (.slice none 0 0) := cell_later hb1 (by simp [go_sem])
  have f0 : w1.frozen? ⟨w.heap.size, 0, none⟩ = false := (hb1.frozen (by simp)).trans (by simp [go_sem])
  have f1 : w1.frozen? ⟨w.heap.size, 1, none⟩ = false := (hb1.frozen (by simp)).trans (by simp [go_sem])
  have I1 : Hid (IsNat w1 v1 p ∧ Below w.heap.size w w1) := ⟨hv1, bel_go ba.out hb1⟩
  clear hv1 hb1 ba
  go_wp2_with fail
  refine (of_any q _ (by omega)).mono ?_
  rintro e w2 ⟨v2, rfl, hv2, hb2⟩
  have I2 : Hid (IsNat w2 v1 p ∧ IsNat w2 v2 q ∧ Below w.heap.size w w2) := ⟨I1.out.1.mono hb2, hv2, bel_go I1.out.2 hb2⟩
  have x0 := cell_later hb2 c0
  have x1 := cell_later hb2 c1
  have y0 := (hb2.frozen (World.block_lt_of_cell? _ _ c0)).trans f0
  have y1 := (hb2.frozen (World.block_lt_of_cell? _ _ c1)).trans f1
  clear hv2 hb2 I1 c0 c1 f0 f1
  go_wp2_with fail
  refine (from_any _ _ p q _ I2.out.1 I2.out.2.1 (rs_word (by omega)) (rs_word (by omega)) hq0 (HT.out.go I2.out.2.2)).mono ?_
  rintro e w3 ⟨v3, rfl, hv3, hb3⟩
  obtain ⟨a6, n6, k6, a7, n7, k7, ev6, _, _⟩ := hv3.raw
  subst ev6
  have z0 := cell_later hb3 x0
  have z1 := cell_later hb3 x1
  have u0 := (hb3.frozen (World.block_lt_of_cell? _ _ x0)).trans y0
  have u1 := (hb3.frozen (World.block_lt_of_cell? _ _ x1)).trans y1
  have Z : Hid _ := rat_put (v := .slice a6 n6 k6) (u := .slice a7 n7 k7) z0 z1 hv3 (bel_go I2.out.2.2 hb3) (Nat.le_refl _)
  clear hv3 hb3 I2 x0 x1 y0 y1
  go_wp2_with fail
  exact bodyPost_ret (v := .tuple #[.agg #[.slice a6 n6 k6, .slice a7 n7 k7], .bool true]) (by simp [results, Tryz.results20, go_sem, z0, z1]) rfl ⟨_, rfl, Z.out.1, Z.out.2⟩
set_option maxHeartbeats 2000000 in
theorem ratOf_no (p q : Int) (w : World) (h : p < 0 ∨ q < 1) :
    Calls Tryz.prog 20 #[.int .i64 p, .int .i64 q] w (MakesRB w 0 1 false) := by
  by_cases hp : p < 0
  · have d1 : decide (p < 0) = true := decide_eq_true hp
    clear h
    go_enter Tryz.func20, Tryz.ntmps20
    go_wp2_with fail
    exact bodyPost_ret (v := .tuple #[.agg #[.slice none 0 0, .slice none 0 0], .bool false]) (by simp [results, Tryz.results20, go_sem]) rfl ⟨_, rfl, rt_zero _, bel_al (bel_refl w)⟩
  have d1 : decide (p < 0) = false := decide_eq_false hp
  have d2 : decide (q < 1) = true := decide_eq_true (by omega)
  clear h
  go_enter Tryz.func20, Tryz.ntmps20
  go_wp2_with fail
  exact bodyPost_ret (v := .tuple #[.agg #[.slice none 0 0, .slice none 0 0], .bool false]) (by simp [results, Tryz.results20, go_sem]) rfl ⟨_, rfl, rt_zero _, bel_al (bel_refl w)⟩
theorem OR.blk {w : World} {e : TypeId} {base n : Nat} {v : Value} {G : Nat → Value} (h : OR w e base v n G) : ∀ j, v.ownBlock = some j → base ≤ j := by
  intro j hj
  rcases h with ⟨rfl, rfl⟩ | ⟨g, cap, f, rfl, h1, _⟩
  · simp [Value.ownBlock] at hj
  simp only [Value.ownBlock, Option.some.injEq] at hj
  omega
theorem RNat.stay {w w' : World} {b o k c x g : Nat} (h : RNat w (.agg #[.slice (some ⟨b, o, none⟩) k c]) x) (hg : w.grownBy w' (some g)) (hne : b ≠ g) : RNat w' (.agg #[.slice (some ⟨b, o, none⟩) k c]) x := by
  obtain ⟨F, ⟨s1, s2, s3, s4⟩, hd, h1, hv⟩ := h.open
  refine ⟨_, k, c, F, rfl, ⟨s1, s2, s3, ?_⟩, hd, h1, hv⟩
  rcases s4 with e | ⟨b', o', e, hw⟩
  · exact .inl e
  cases e
  exact .inr ⟨b, o, rfl, fun i hi => hg.cell (hw i hi) (by simp only [ne_eq, Option.some.injEq]; exact hne)⟩
def bd (D : Nat → Nat) : Nat → Value := fun j => .int .u8 ((D j : Nat) : Int)
def lenOf (v : Value) : Nat := match v with
  | .slice _ k _ => k
  | _ => 0
theorem OR.len {w : World} {e : TypeId} {base n : Nat} {v : Value} {G : Nat → Value} (h : OR w e base v n G) : lenOf v = n := by
  rcases h with ⟨rfl, rfl⟩ | ⟨g, cap, f, rfl, _⟩
  · rfl
  rfl
theorem OR.at {w : World} {e : TypeId} {base n : Nat} {v : Value} {G : Nat → Value} (h : OR w e base v n G) (hn : n ≠ 0) : ∃ g c, v = .slice (some ⟨g, 0, none⟩) n c ∧ ∀ i, i < n → w.cell? ⟨g, i, none⟩ = some (G i) := by
  rcases h with ⟨_, e⟩ | ⟨g, cap, f, rfl, _, hc, _, hr, hf⟩
  · exact absurd e hn
  exact ⟨g, cap, rfl, fun i hi => by rw [hr.cell (show i < cap by omega), hf i hi]⟩
def RRt (w : World) (v : Value) (p q : Nat) : Prop := ∃ a n c a' n' c', v = .agg #[.slice a n c, .slice a' n' c'] ∧ RNat w (.agg #[.slice a n c]) p ∧ RNat w (.agg #[.slice a' n' c']) q
theorem RRt.mono {w w' : World} {v : Value} {p q : Nat} (h : RRt w v p q) (hb : Below w.heap.size w w') : RRt w' v p q := by
  obtain ⟨a, n, c, a', n', c', e, h1, h2⟩ := h
  exact ⟨a, n, c, a', n', c', e, h1.mono hb, h2.mono hb⟩
theorem RRt.setCell {w : World} {v : Value} {p q : Nat} (h : RRt w v p q) {x : Addr} (hp : ∀ k q, w.cell? x ≠ some (.int k q)) (u : Value) : RRt (w.setCell x u) v p q := by
  obtain ⟨a, n, c, a', n', c', e, h1, h2⟩ := h
  exact ⟨a, n, c, a', n', c', e, h1.setCell hp u, h2.setCell hp u⟩
theorem add_gcd {p q x y : Nat} (hq : 0 < q) (hy : 0 < y) (h1 : Nat.gcd p q = 1) (h2 : Nat.gcd x y = 1) :
    Nat.gcd (p * (y / Nat.gcd q y) + x * (q / Nat.gcd q y)) (q / Nat.gcd q y * y) = Nat.gcd (p * (y / Nat.gcd q y) + x * (q / Nat.gcd q y)) (Nat.gcd q y) := by
  obtain ⟨g, hg⟩ : ∃ g, g = Nat.gcd q y := ⟨_, rfl⟩
  have g0 : 0 < g := by rw [hg]; exact Nat.gcd_pos_of_pos_left _ hq
  obtain ⟨a, ha⟩ : g ∣ q := by rw [hg]; exact Nat.gcd_dvd_left _ _
  obtain ⟨b, hb⟩ : g ∣ y := by rw [hg]; exact Nat.gcd_dvd_right _ _
  have e1 : q / g = a := by rw [ha, Nat.mul_div_cancel_left _ g0]
  have e2 : y / g = b := by rw [hb, Nat.mul_div_cancel_left _ g0]
  have hab : Nat.Coprime a b := by
    have h3 := Nat.gcd_div (Nat.gcd_dvd_left q y) (Nat.gcd_dvd_right q y)
    rw [← hg, e1, e2, Nat.div_self g0] at h3
    exact h3
  have hpa : Nat.Coprime p a := Nat.Coprime.coprime_dvd_right ⟨g, by rw [ha, Nat.mul_comm]⟩ h1
  have hxb : Nat.Coprime x b := Nat.Coprime.coprime_dvd_right ⟨g, by rw [hb, Nat.mul_comm]⟩ h2
  rw [← hg, e1, e2]
  have c1 : Nat.Coprime (p * b + x * a) a := by
    show Nat.gcd (p * b + x * a) a = 1
    rw [Nat.gcd_add_mul_right_left]
    exact Nat.Coprime.mul_left hpa hab.symm
  have c2 : Nat.Coprime (p * b + x * a) b := by
    show Nat.gcd (p * b + x * a) b = 1
    rw [Nat.add_comm, Nat.gcd_add_mul_right_left]
    exact Nat.Coprime.mul_left hxb hab
  rw [hb, show a * (g * b) = a * b * g by grind]
  exact Nat.Coprime.gcd_mul_left_cancel_right _ (Nat.Coprime.mul_right c1 c2).symm
theorem add_low {p q x y A d : Nat} (hq : 0 < q) (hy : 0 < y) (h1 : Nat.gcd p q = 1) (h2 : Nat.gcd x y = 1) (hA : A = p * (y / Nat.gcd q y) + x * (q / Nat.gcd q y)) (hd : d = Nat.gcd A (Nat.gcd q y)) :
    0 < d ∧ Nat.gcd (A / d) (q / Nat.gcd q y * (y / d)) = 1 ∧ 0 < q / Nat.gcd q y * (y / d) := by
  have g0 : 0 < Nat.gcd q y := Nat.gcd_pos_of_pos_left _ hq
  have d0 : 0 < d := by rw [hd]; exact Nat.gcd_pos_of_pos_right _ g0
  have hdy : d ∣ y := Nat.dvd_trans (by rw [hd]; exact Nat.gcd_dvd_right _ _) (Nat.gcd_dvd_right q y)
  have hdA : d ∣ A := by rw [hd]; exact Nat.gcd_dvd_left _ _
  have hk := add_gcd hq hy h1 h2
  rw [← hA, ← hd] at hk
  have e : q / Nat.gcd q y * (y / d) = q / Nat.gcd q y * y / d := (Nat.mul_div_assoc _ hdy).symm
  refine ⟨d0, ?_, Nat.mul_pos (Nat.div_pos (Nat.gcd_le_left _ hq) g0) (Nat.div_pos (Nat.le_of_dvd hy hdy) d0)⟩
  rw [e, Nat.gcd_div hdA (Nat.dvd_trans hdy (Nat.dvd_mul_left _ _)), hk, Nat.div_self d0]
def IsCom (w : World) (v : Value) (x1 x2 x3 x4 x5 : Nat) : Prop := ∃ a1 n1 c1 a2 n2 c2 a3 n3 c3 a4 n4 c4 a5 n5 c5, v = .agg #[.slice a1 n1 c1, .slice a2 n2 c2, .slice a3 n3 c3, .slice a4 n4 c4, .slice a5 n5 c5] ∧ IsNat w (.agg #[.slice a1 n1 c1]) x1 ∧ IsNat w (.agg #[.slice a2 n2 c2]) x2 ∧ IsNat w (.agg #[.slice a3 n3 c3]) x3 ∧ IsNat w (.agg #[.slice a4 n4 c4]) x4 ∧ IsNat w (.agg #[.slice a5 n5 c5]) x5
theorem IsCom.mono {w w' : World} {v : Value} {x1 x2 x3 x4 x5 : Nat} (h : IsCom w v x1 x2 x3 x4 x5) (hb : Below w.heap.size w w') : IsCom w' v x1 x2 x3 x4 x5 := by
  obtain ⟨a1, n1, c1, a2, n2, c2, a3, n3, c3, a4, n4, c4, a5, n5, c5, e, h1, h2, h3, h4, h5⟩ := h
  exact ⟨_, _, _, _, _, _, _, _, _, _, _, _, _, _, _, e, h1.mono hb, h2.mono hb, h3.mono hb, h4.mono hb, h5.mono hb⟩
theorem IsCom.setCell {w : World} {v : Value} {x1 x2 x3 x4 x5 : Nat} (h : IsCom w v x1 x2 x3 x4 x5) {x : Addr} (hp : ∀ k q, w.cell? x ≠ some (.int k q)) (u : Value) : IsCom (w.setCell x u) v x1 x2 x3 x4 x5 := by
  obtain ⟨a1, n1, c1, a2, n2, c2, a3, n3, c3, a4, n4, c4, a5, n5, c5, e, h1, h2, h3, h4, h5⟩ := h
  exact ⟨_, _, _, _, _, _, _, _, _, _, _, _, _, _, _, e, h1.setCell hp u, h2.setCell hp u, h3.setCell hp u, h4.setCell hp u, h5.setCell hp u⟩
def Five (w : World) (r : Nat) : Prop := ∀ i, i < 5 → w.cell? ⟨r, i, none⟩ = some (.slice none 0 0) ∧ w.frozen? ⟨r, i, none⟩ = false
theorem Five.go {w w' : World} {r : Nat} (h : Five w r) (hb : Below w.heap.size w w') : Five w' r := fun i hi =>
  ⟨cell_later hb (h i hi).1, (hb.frozen (World.block_lt_of_cell? _ _ (h i hi).1)).trans (h i hi).2⟩
theorem com_put {w0 w : World} {r : Nat} (h5 : Five w r) {s0 s1 s2 s3 s4 V : Value} {x1 x2 x3 x4 x5 : Nat} (h : IsCom w V x1 x2 x3 x4 x5) (hb : Below w0.heap.size w0 w) (hr : w0.heap.size ≤ r) :
    IsCom (((((w.setCell ⟨r, 0, none⟩ s0).setCell ⟨r, 1, none⟩ s1).setCell ⟨r, 2, none⟩ s2).setCell ⟨r, 3, none⟩ s3).setCell ⟨r, 4, none⟩ s4) V x1 x2 x3 x4 x5 ∧ Below w0.heap.size w0 (((((w.setCell ⟨r, 0, none⟩ s0).setCell ⟨r, 1, none⟩ s1).setCell ⟨r, 2, none⟩ s2).setCell ⟨r, 3, none⟩ s3).setCell ⟨r, 4, none⟩ s4) := by
  have k0 := (h5 0 (by omega)).1
  have k1 : (w.setCell ⟨r, 0, none⟩ s0).cell? ⟨r, 1, none⟩ = some (.slice none 0 0) := (World.cell?_setCell_other (h := by simp) ..).trans (h5 1 (by omega)).1
  have k2 : ((w.setCell ⟨r, 0, none⟩ s0).setCell ⟨r, 1, none⟩ s1).cell? ⟨r, 2, none⟩ = some (.slice none 0 0) := (World.cell?_setCell_other (h := by simp) ..).trans ((World.cell?_setCell_other (h := by simp) ..).trans (h5 2 (by omega)).1)
  have k3 : (((w.setCell ⟨r, 0, none⟩ s0).setCell ⟨r, 1, none⟩ s1).setCell ⟨r, 2, none⟩ s2).cell? ⟨r, 3, none⟩ = some (.slice none 0 0) := (World.cell?_setCell_other (h := by simp) ..).trans ((World.cell?_setCell_other (h := by simp) ..).trans ((World.cell?_setCell_other (h := by simp) ..).trans (h5 3 (by omega)).1))
  have k4 : ((((w.setCell ⟨r, 0, none⟩ s0).setCell ⟨r, 1, none⟩ s1).setCell ⟨r, 2, none⟩ s2).setCell ⟨r, 3, none⟩ s3).cell? ⟨r, 4, none⟩ = some (.slice none 0 0) := (World.cell?_setCell_other (h := by simp) ..).trans ((World.cell?_setCell_other (h := by simp) ..).trans ((World.cell?_setCell_other (h := by simp) ..).trans ((World.cell?_setCell_other (h := by simp) ..).trans (h5 4 (by omega)).1)))
  exact ⟨((((h.setCell (no_int_slice k0) _).setCell (no_int_slice k1) _).setCell (no_int_slice k2) _).setCell (no_int_slice k3) _).setCell (no_int_slice k4) _, ((((hb.setCell hr _).setCell hr _).setCell hr _).setCell hr _).setCell hr _⟩
def MakesC (w : World) (x1 x2 x3 x4 x5 : Nat) (e : Ending) (w' : World) : Prop := ∃ v, e = .returned v ∧ IsCom w' v x1 x2 x3 x4 x5 ∧ Below w.heap.size w w'
structure RL (x : Nat) : Prop where
  lt : x < P 97
theorem RL.p198 {x : Nat} (h : RL x) : x < P 198 := Nat.lt_trans h.lt (P_lt (by omega))
theorem RL.p99 {x : Nat} (h : RL x) : x < P 99 := Nat.lt_trans h.lt (P_lt (by omega))
theorem RL.fits {x : Nat} (h : RL x) : Fits x := (small_198 h.p198).fits
theorem RL.le {x y : Nat} (h : RL x) (hy : y ≤ x) : RL y := ⟨Nat.lt_of_le_of_lt hy h.lt⟩
theorem RS.l {x : Nat} (h : RS x) : RL x := ⟨Nat.lt_trans h.lt (P_lt (by omega))⟩
set_option maxHeartbeats 8000000 in
theorem broughtL_any (v u : Value) (p q x y : Nat) (w : World) (h : Rt w v p q) (k : Rt w u x y) (hp : RL p) (hq : RL q) (hr : RL x) (hs : RL y) (hT : Tab w) :
    Calls Tryz.prog 67 #[v, u] w (MakesC w (p * (y / Nat.gcd q y)) (x * (q / Nat.gcd q y)) (q / Nat.gcd q y) y (Nat.gcd q y)) := by
  obtain ⟨a, n, c, a', n', c', e0, _, _⟩ := h.raw
  subst e0
  obtain ⟨b, m, d, b', m', d', e1, _, _⟩ := k.raw
  subst e1
  have HH : Hid (Rt w (.agg #[.slice a n c, .slice a' n' c']) p q ∧ Rt w (.agg #[.slice b m d, .slice b' m' d']) x y ∧ RL p ∧ RL q ∧ RL x ∧ RL y ∧ Tab w) := ⟨h, k, hp, hq, hr, hs, hT⟩
  have ba : Hid (Below w.heap.size w (((w.alloc (.cells #[.slice a n c, .slice a' n' c'] 47)).alloc (.cells #[.slice b m d, .slice b' m' d'] 47)).alloc (.cells #[.slice none 0 0, .slice none 0 0, .slice none 0 0, .slice none 0 0, .slice none 0 0] 123))) := bel_al (bel_al (bel_al (bel_refl w)))
  have F0 : Five (((w.alloc (.cells #[.slice a n c, .slice a' n' c'] 47)).alloc (.cells #[.slice b m d, .slice b' m' d'] 47)).alloc (.cells #[.slice none 0 0, .slice none 0 0, .slice none 0 0, .slice none 0 0, .slice none 0 0] 123)) (w.heap.size + 1 + 1) := by
    intro i hi
    match i, hi with
    | 0, _ => simp [go_sem]
    | 1, _ => simp [go_sem]
    | 2, _ => simp [go_sem]
    | 3, _ => simp [go_sem]
    | 4, _ => simp [go_sem]
  have HF : Hid _ := F0
  clear F0
  clear h k hp hq hr hs hT
  go_enter Tryz.func67, Tryz.ntmps67
  go_wp2_with fail
  refine (parts_any _ p q _ (HH.out.1.mono ba.out) HH.out.2.2.2.1.fits).mono ?_
  rintro e w1 ⟨v1, u1, rfl, hv1, hu1, hb1⟩
  obtain ⟨a1, n1, k1, rfl⟩ := hv1.isAgg
  obtain ⟨a2, n2, k2, rfl⟩ := hu1.isAgg
  have c0 : w1.cell? ⟨w.heap.size + 1, 0, none⟩ = some (.slice b m d) := cell_later hb1 (by simp [go_sem])
  have c1 : w1.cell? ⟨w.heap.size + 1, 1, none⟩ = some (.slice b' m' d') := cell_later hb1 (by simp [go_sem])
  have S1 : Hid (SR w1 ((w1.alloc (.cells #[.slice a1 n1 k1] 45)).alloc (.cells #[.slice a2 n2 k2] 45)) [(.agg #[.slice a2 n2 k2], q), (.agg #[.slice a1 n1 k1], p)] [] [(w1.heap.size + 1, .slice a2 n2 k2), (w1.heap.size, .slice a1 n1 k1)]) := by
    have := ((((sr_start w1).nat hv1).nat hu1).box (.slice a1 n1 k1) 45 _ rfl).box (.slice a2 n2 k2) 45 _ rfl
    simp only [World.size_alloc] at this
    exact this
  have x0 := cell_later S1.out.bel c0
  have x1 := cell_later S1.out.bel c1
  have B1 : Hid (Below w.heap.size w w1) := bel_go ba.out hb1
  have F1 : Hid (Five w1 (w.heap.size + 1 + 1)) := Five.go HF.out hb1
  clear hv1 hu1 hb1 ba c0 c1 HF
  go_wp2_with fail
  obtain ⟨w2, hw2⟩ : ∃ w2, w2 = (w1.alloc (.cells #[.slice a1 n1 k1] 45)).alloc (.cells #[.slice a2 n2 k2] 45) := ⟨_, rfl⟩
  obtain ⟨b1, hb1⟩ : ∃ b1, b1 = w1.heap.size := ⟨_, rfl⟩
  have N1 : w.heap.size + 1 + 1 < b1 := by rw [hb1]; exact World.block_lt_of_cell? _ _ (F1.out 0 (by omega)).1
  rw [← hw2, ← hb1] at S1
  rw [← hw2, ← hb1]
  clear hw2 hb1 x0 x1
  refine (parts_any _ x y _ (HH.out.2.1.mono (bel_go B1.out S1.out.bel)) HH.out.2.2.2.2.2.1.fits).mono ?_
  rintro e w3 ⟨v3, u3, rfl, hv3, hu3, hb3⟩
  obtain ⟨a3, n3, k3, rfl⟩ := hv3.isAgg
  obtain ⟨a4, n4, k4, rfl⟩ := hu3.isAgg
  have B13 : Hid (b1 < w3.heap.size) := World.block_lt_of_cell? _ _ ((S1.out.go hb3).cell b1 (.slice a1 n1 k1))
  have S3 : Hid _ := ((((S1.out.go hb3).nat hv3).nat hu3).box (.slice a3 n3 k3) 45 _ rfl).box (.slice a4 n4 k4) 45 _ rfl
  simp only [World.size_alloc] at S3
  clear hv3 hu3 hb3 S1
  have d6 := S3.out.cell (b1 + 1) (.slice a2 n2 k2)
  have d8 := S3.out.cell (w3.heap.size + 1) (.slice a4 n4 k4)
  go_wp2_with fail
  obtain ⟨w4, hw4⟩ : ∃ w4, w4 = (w3.alloc (.cells #[.slice a3 n3 k3] 45)).alloc (.cells #[.slice a4 n4 k4] 45) := ⟨_, rfl⟩
  obtain ⟨b3, hb3⟩ : ∃ b3, b3 = w3.heap.size := ⟨_, rfl⟩
  have N3 : w.heap.size + 1 + 1 < b3 := by
    rw [hb3]
    have := B13.out
    omega
  rw [← hw4, ← hb3] at S3
  rw [← hw4, ← hb3]
  clear hw4 hb3 d6 d8
  have F4 : Hid (Five w4 (w.heap.size + 1 + 1) ∧ Tab w4 ∧ Below w.heap.size w w4) := ⟨F1.out.go S3.out.bel, HH.out.2.2.2.2.2.2.go (bel_go B1.out S3.out.bel), bel_go B1.out S3.out.bel⟩
  clear F1
  refine (gcd_any _ _ q y _ (S3.out.at (.agg #[.slice a2 n2 k2]) q) (S3.out.at (.agg #[.slice a4 n4 k4]) y) HH.out.2.2.2.1.p198 HH.out.2.2.2.2.2.1.p198 F4.out.2.1).mono ?_
  rintro e w5 ⟨v5, rfl, hv5, hb5⟩
  obtain ⟨a5, n5, k5, rfl⟩ := hv5.isAgg
  obtain ⟨g, eg⟩ : ∃ g, g = Nat.gcd q y := ⟨_, rfl⟩
  rw [← eg] at hv5
  have EG : Hid (g = Nat.gcd q y) := eg
  have HG : Hid (0 < g ∧ g < P 198 ∧ RL (q / g) ∧ RL (y / g)) := by
    have h0 : 0 < Nat.gcd q y := Nat.gcd_pos_of_pos_left _ HH.out.1.pos
    exact ⟨by omega, Nat.lt_of_le_of_lt (eg ▸ Nat.gcd_le_left _ HH.out.1.pos) HH.out.2.2.2.1.p198, HH.out.2.2.2.1.le (Nat.div_le_self _ _), HH.out.2.2.2.2.2.1.le (Nat.div_le_self _ _)⟩
  have N9 : b1 < w5.heap.size := World.block_lt_of_cell? _ _ ((S3.out.go hb5).cell b1 (.slice a1 n1 k1))
  have S5 : Hid _ := ((S3.out.go hb5).nat hv5).box (.slice a5 n5 k5) 45 _ rfl
  have b5 : Below w4.heap.size w4 (w5.alloc (.cells #[.slice a5 n5 k5] 45)) := bel_go hb5 (bel_al (bel_refl w5))
  have F5 : Hid (Five (w5.alloc (.cells #[.slice a5 n5 k5] 45)) (w.heap.size + 1 + 1) ∧ Below w.heap.size w (w5.alloc (.cells #[.slice a5 n5 k5] 45))) := ⟨F4.out.1.go b5, bel_go F4.out.2.2 b5⟩
  clear hv5 hb5 S3 b5 F4 eg
  have d6 := S5.out.cell (b1 + 1) (.slice a2 n2 k2)
  have d9 := S5.out.cell w5.heap.size (.slice a5 n5 k5)
  go_wp2_with fail
  obtain ⟨w6, hw6⟩ : ∃ w6, w6 = w5.alloc (.cells #[.slice a5 n5 k5] 45) := ⟨_, rfl⟩
  obtain ⟨b9, hb9⟩ : ∃ b9, b9 = w5.heap.size := ⟨_, rfl⟩
  rw [← hw6] at F5
  rw [← hw6, ← hb9] at S5
  rw [← hw6, ← hb9]
  have N9' : b1 < b9 := by rw [hb9]; exact N9
  clear hw6 hb9 d6 d9 N9
  refine (over_any _ _ q g _ (S5.out.at (.agg #[.slice a2 n2 k2]) q) (S5.out.at (.agg #[.slice a5 n5 k5]) g) HH.out.2.2.2.1.p198 HG.out.2.1 HG.out.1).mono ?_
  rintro e w7 ⟨v7, rfl, hv7, hb7⟩
  obtain ⟨a7, n7, k7, rfl⟩ := hv7.isAgg
  have N10 : b1 < w7.heap.size := World.block_lt_of_cell? _ _ ((S5.out.go hb7).cell b1 (.slice a1 n1 k1))
  have S7 : Hid _ := ((S5.out.go hb7).nat hv7).box (.slice a7 n7 k7) 45 _ rfl
  have b7 : Below w6.heap.size w6 (w7.alloc (.cells #[.slice a7 n7 k7] 45)) := bel_go hb7 (bel_al (bel_refl w7))
  have F7 : Hid (Five (w7.alloc (.cells #[.slice a7 n7 k7] 45)) (w.heap.size + 1 + 1) ∧ Below w.heap.size w (w7.alloc (.cells #[.slice a7 n7 k7] 45))) := ⟨F5.out.1.go b7, bel_go F5.out.2 b7⟩
  clear hv7 hb7 S5 b7 F5
  go_wp2_with fail
  obtain ⟨w8, hw8⟩ : ∃ w8, w8 = w7.alloc (.cells #[.slice a7 n7 k7] 45) := ⟨_, rfl⟩
  obtain ⟨b10, hb10⟩ : ∃ b10, b10 = w7.heap.size := ⟨_, rfl⟩
  rw [← hw8] at F7
  rw [← hw8, ← hb10] at S7
  rw [← hw8, ← hb10]
  have NBS : Hid (w.heap.size + 1 + 1 < b1 ∧ w.heap.size + 1 + 1 < b3 ∧ w.heap.size + 1 + 1 < b9 ∧ w.heap.size + 1 + 1 < b10) := ⟨N1, N3, by omega, by rw [hb10]; omega⟩
  clear hw8 hb10 N1 N3 N9' N10
  have d5 := S7.out.cell b1 (.slice a1 n1 k1)
  have d7 := S7.out.cell b3 (.slice a3 n3 k3)
  have d8 := S7.out.cell (b3 + 1) (.slice a4 n4 k4)
  have d9 := S7.out.cell b9 (.slice a5 n5 k5)
  have d10 := S7.out.cell b10 (.slice a7 n7 k7)
  have hR : w.heap.size + 1 + 1 < w8.heap.size := World.block_lt_of_cell? _ _ (F7.out.1 0 (by omega)).1
  have HL : Hid (w.heap.size + 1 + 1 < b1 ∧ w.heap.size + 1 + 1 < b3 ∧ w.heap.size + 1 + 1 < b9 ∧ w.heap.size + 1 + 1 < b10) := NBS.out
  have r1 : ¬ w.heap.size + 1 + 1 = b1 := by have := HL.out; omega
  have r2 : ¬ w.heap.size + 1 + 1 = b3 := by have := HL.out; omega
  have r3 : ¬ w.heap.size + 1 + 1 = b3 + 1 := by have := HL.out; omega
  have r4 : ¬ w.heap.size + 1 + 1 = b9 := by have := HL.out; omega
  have r5 : ¬ w.heap.size + 1 + 1 = b10 := by have := HL.out; omega
  clear hR
  have HM : Hid (IsNat w8 (.agg #[.slice a1 n1 k1]) p ∧ IsNat w8 (.agg #[.slice a3 n3 k3]) x ∧ IsNat w8 (.agg #[.slice a4 n4 k4]) y ∧ IsNat w8 (.agg #[.slice a5 n5 k5]) g ∧ IsNat w8 (.agg #[.slice a7 n7 k7]) (q / g)) := ⟨S7.out.at (.agg #[.slice a1 n1 k1]) p, S7.out.at (.agg #[.slice a3 n3 k3]) x, S7.out.at (.agg #[.slice a4 n4 k4]) y, S7.out.at (.agg #[.slice a5 n5 k5]) g, S7.out.at (.agg #[.slice a7 n7 k7]) (q / g)⟩
  clear S7
  go_region_held3 (fun w' => w'.cell? ⟨b1, 0, none⟩ = some (.slice a1 n1 k1) ∧ w'.cell? ⟨b3, 0, none⟩ = some (.slice a3 n3 k3) ∧ w'.cell? ⟨b3 + 1, 0, none⟩ = some (.slice a4 n4 k4) ∧ w'.cell? ⟨b9, 0, none⟩ = some (.slice a5 n5 k5) ∧ w'.cell? ⟨b10, 0, none⟩ = some (.slice a7 n7 k7)) (first | (simp [go_sem, *]; done) | (trace_state; fail))
    (first
      | (go_at_call 70; refine Calls.mono (over_any _ _ y g _ (IsNat.mono HM.out.2.2.1 ?_) (IsNat.mono HM.out.2.2.2.1 ?_) HH.out.2.2.2.2.2.1.p198 HG.out.2.1 HG.out.1) ?_; (first | exact bel_refl _ | exact bel_dr (bel_refl _)); (first | exact bel_refl _ | exact bel_dr (bel_refl _)); rintro e w10 ⟨v10, rfl, hv10, hb10⟩; have hb10 : Below w8.heap.size w8 w10 := (by first | exact hb10 | exact bel_undrew hb10); obtain ⟨a10, n10, k10, rfl⟩ := hv10.isAgg; have x5 := cell_later hb10 d5; have x7 := cell_later hb10 d7; have x8 := cell_later hb10 d8; have x9 := cell_later hb10 d9; have x10 := cell_later hb10 d10; have F10 : Hid (Five w10 (w.heap.size + 1 + 1) ∧ Below w.heap.size w w10 ∧ Below w8.heap.size w8 w10 ∧ IsNat w10 (.agg #[.slice a10 n10 k10]) (y / g)) := ⟨F7.out.1.go hb10, bel_go F7.out.2 hb10, hb10, hv10⟩; clear hv10 hb10)
      | (go_at_call_of 52 (Value.agg #[Value.slice a1 n1 k1]); refine Calls.mono (mul_short _ _ p (y / g) _ (IsNat.mono HM.out.1 F10.out.2.2.1) F10.out.2.2.2 HH.out.2.2.1.fits HG.out.2.2.2.fits (.inl HH.out.2.2.1.p99)) ?_; rintro e w11 ⟨v11, rfl, hv11, hb11⟩; obtain ⟨a11, n11, k11, rfl⟩ := hv11.isAgg; have y5 := cell_later hb11 x5; have y7 := cell_later hb11 x7; have y8 := cell_later hb11 x8; have y9 := cell_later hb11 x9; have y10 := cell_later hb11 x10; have F11 : Hid (Five w11 (w.heap.size + 1 + 1) ∧ Below w.heap.size w w11 ∧ Below w8.heap.size w8 w11 ∧ IsNat w11 (.agg #[.slice a11 n11 k11]) (p * (y / g))) := ⟨F10.out.1.go hb11, bel_go F10.out.2.1 hb11, bel_go F10.out.2.2.1 hb11, hv11⟩; clear hv11 hb11)
      | (go_at_call 52; refine Calls.mono (mul_short _ _ x (q / g) _ (IsNat.mono HM.out.2.1 F11.out.2.2.1) (IsNat.mono HM.out.2.2.2.2 F11.out.2.2.1) HH.out.2.2.2.2.1.fits HG.out.2.2.1.fits (.inl HH.out.2.2.2.2.1.p99)) ?_; rintro e w12 ⟨v12, rfl, hv12, hb12⟩; obtain ⟨a12, n12, k12, rfl⟩ := hv12.isAgg; have z5 := cell_later hb12 y5; have z7 := cell_later hb12 y7; have z8 := cell_later hb12 y8; have z9 := cell_later hb12 y9; have z10 := cell_later hb12 y10; have F12 : Hid (Five w12 (w.heap.size + 1 + 1) ∧ Below w.heap.size w w12 ∧ Below w8.heap.size w8 w12 ∧ IsNat w12 (.agg #[.slice a11 n11 k11]) (p * (y / g)) ∧ IsNat w12 (.agg #[.slice a12 n12 k12]) (x * (q / g))) := ⟨F11.out.1.go hb12, bel_go F11.out.2.1 hb12, bel_go F11.out.2.2.1 hb12, F11.out.2.2.2.mono hb12, hv12⟩; have t0 := (F12.out.1 0 (by omega)).1; have t1 := (F12.out.1 1 (by omega)).1; have t2 := (F12.out.1 2 (by omega)).1; have t3 := (F12.out.1 3 (by omega)).1; have t4 := (F12.out.1 4 (by omega)).1; have s0 := (F12.out.1 0 (by omega)).2; have s1 := (F12.out.1 1 (by omega)).2; have s2 := (F12.out.1 2 (by omega)).2; have s3 := (F12.out.1 3 (by omega)).2; have s4 := (F12.out.1 4 (by omega)).2; clear hv12 hb12))
  have Z : Hid _ := com_put (w0 := w) F12.out.1 (s0 := .slice a11 n11 k11) (s1 := .slice a12 n12 k12) (s2 := .slice a7 n7 k7) (s3 := .slice a4 n4 k4) (s4 := .slice a5 n5 k5) (V := .agg #[.slice a11 n11 k11, .slice a12 n12 k12, .slice a7 n7 k7, .slice a4 n4 k4, .slice a5 n5 k5]) ⟨_, _, _, _, _, _, _, _, _, _, _, _, _, _, _, rfl, F12.out.2.2.2.1, F12.out.2.2.2.2, IsNat.mono HM.out.2.2.2.2 F12.out.2.2.1, IsNat.mono HM.out.2.2.1 F12.out.2.2.1, IsNat.mono HM.out.2.2.2.1 F12.out.2.2.1⟩ F12.out.2.1 (by omega)
  rw [EG.out] at Z
  go_wp2_with fail
  exact bodyPost_ret (v := .agg #[.slice a11 n11 k11, .slice a12 n12 k12, .slice a7 n7 k7, .slice a4 n4 k4, .slice a5 n5 k5]) (by simp [results, Tryz.results67, go_sem, t0, t1, t2, t3, t4]) rfl ⟨_, rfl, Z.out.1, Z.out.2⟩
end Go.Proofs.YtfkkomppfghagaaGreatDoor
