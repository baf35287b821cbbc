/- Contracts of the program's functions, part 17: own work, joined in build order. -/
import Derived.Test.YtfkkomppfghagaaGreatDoorJ16
import Derived.Handy
import Derived.Test.YtfkkomppfghagaaGreatDoorRows
import Derived.WalkKit
import Derived.WalkMore
import Derived.ScopeJumps
namespace Go.Proofs.YtfkkomppfghagaaGreatDoor
open Go.RowKit
set_option linter.unusedVariables false
def nearN (p q : Nat) : Nat := if 2 * (p % q) < q then p / q else if 2 * (p % q) = q ∧ p / q % 2 = 0 then p / q else p / q + 1
theorem nearN_le {p q c : Nat} (hq : 0 < q) (h : p < c * q) : nearN p q ≤ c := by
  have h1 : p / q < c := (Nat.div_lt_iff_lt_mul hq).2 h
  unfold nearN
  split
  · omega
  split <;> omega
theorem nearN_ge {p q c : Nat} (hq : 0 < q) (h : c * q ≤ p) : c ≤ nearN p q := by
  have h1 : c ≤ p / q := (Nat.le_div_iff_mul_le hq).2 h
  unfold nearN
  split
  · omega
  split <;> omega
def upN (p : Nat) (u : Int) : Nat := p * 2 ^ (-u).toNat
def dnN (q : Nat) (u : Int) : Nat := q * 2 ^ u.toNat
theorem dnN_pos {q : Nat} (h : 0 < q) (u : Int) : 0 < dnN q u := Nat.mul_pos h (Nat.two_pow_pos _)
theorem unit_up (p q : Nat) (u : Int) (k : Nat) : upN p u * dnN q (u + k) = upN p (u + k) * dnN q u * 2 ^ k := by
  unfold upN dnN
  have e : 2 ^ (-u).toNat * 2 ^ (u + k).toNat = 2 ^ (-(u + k)).toNat * 2 ^ u.toNat * 2 ^ k := by
    rw [← Nat.pow_add, ← Nat.pow_add, ← Nat.pow_add]
    congr 1
    omega
  calc p * 2 ^ (-u).toNat * (q * 2 ^ (u + k).toNat) = p * q * (2 ^ (-u).toNat * 2 ^ (u + k).toNat) := by grind
    _ = p * q * (2 ^ (-(u + k)).toNat * 2 ^ u.toNat * 2 ^ k) := by rw [e]
    _ = p * 2 ^ (-(u + k)).toNat * (q * 2 ^ u.toNat) * 2 ^ k := by grind
theorem unit_lt {p q : Nat} (hq : 0 < q) (u : Int) (k c : Nat) : upN p (u + k) < c * dnN q (u + k) ↔ upN p u < c * 2 ^ k * dnN q u := by
  have h := unit_up p q u k
  have h1 := dnN_pos hq u
  have h2 := dnN_pos hq (u + k)
  have h3 : 0 < 2 ^ k := Nat.two_pow_pos k
  have h4 : 0 < dnN q u * 2 ^ k := Nat.mul_pos h1 h3
  constructor
  · intro hh
    have a : upN p (u + k) * (dnN q u * 2 ^ k) < c * dnN q (u + k) * (dnN q u * 2 ^ k) := Nat.mul_lt_mul_of_pos_right hh h4
    refine Nat.lt_of_mul_lt_mul_right (a := dnN q (u + k)) ?_
    rw [h]
    calc upN p (u + k) * dnN q u * 2 ^ k = upN p (u + k) * (dnN q u * 2 ^ k) := by grind
      _ < c * dnN q (u + k) * (dnN q u * 2 ^ k) := a
      _ = c * 2 ^ k * dnN q u * dnN q (u + k) := by grind
  intro hh
  have a : upN p u * dnN q (u + k) < c * 2 ^ k * dnN q u * dnN q (u + k) := Nat.mul_lt_mul_of_pos_right hh h2
  rw [h] at a
  refine Nat.lt_of_mul_lt_mul_right (a := dnN q u * 2 ^ k) ?_
  calc upN p (u + k) * (dnN q u * 2 ^ k) = upN p (u + k) * dnN q u * 2 ^ k := by grind
    _ < c * 2 ^ k * dnN q u * dnN q (u + k) := a
    _ = c * dnN q (u + k) * (dnN q u * 2 ^ k) := by grind
theorem unit_le {p q : Nat} (hq : 0 < q) (u : Int) (k c : Nat) : c * dnN q (u + k) ≤ upN p (u + k) ↔ c * 2 ^ k * dnN q u ≤ upN p u := by
  rw [← Nat.not_lt, ← Nat.not_lt, unit_lt hq u k c]
def At (p q : Nat) (e : Int) : Prop := dnN q e ≤ upN p e ∧ upN p e < 2 * dnN q e
def flI (p q : Nat) (s : Int) : Int := if upN p s < dnN q s then s - 1 else s
theorem flI_at {p q a b : Nat} (hp : 2 ^ a ≤ p) (hp2 : p < 2 ^ (a + 1)) (hq : 2 ^ b ≤ q) (hq2 : q < 2 ^ (b + 1)) : At p q (flI p q ((a : Int) - b)) := by
  have q0 : 0 < q := Nat.lt_of_lt_of_le (Nat.two_pow_pos b) hq
  obtain ⟨s, hs⟩ : ∃ s : Int, s = (a : Int) - b := ⟨_, rfl⟩
  rw [← hs]
  have hup : upN p s < 2 * dnN q s := by
    unfold upN dnN
    have e1 : p * 2 ^ (-s).toNat < 2 ^ (a + 1) * 2 ^ (-s).toNat := Nat.mul_lt_mul_of_pos_right hp2 (Nat.two_pow_pos _)
    have e2 : 2 ^ b * 2 ^ s.toNat ≤ q * 2 ^ s.toNat := Nat.mul_le_mul_right _ hq
    have e3 : 2 ^ (a + 1) * 2 ^ (-s).toNat = 2 * (2 ^ b * 2 ^ s.toNat) := by
      rw [← Nat.pow_add, ← Nat.pow_add, ← Nat.pow_succ']
      congr 1
      omega
    omega
  have hlo : dnN q s < 2 * upN p s := by
    unfold upN dnN
    have e1 : q * 2 ^ s.toNat < 2 ^ (b + 1) * 2 ^ s.toNat := Nat.mul_lt_mul_of_pos_right hq2 (Nat.two_pow_pos _)
    have e2 : 2 ^ a * 2 ^ (-s).toNat ≤ p * 2 ^ (-s).toNat := Nat.mul_le_mul_right _ hp
    have e3 : 2 ^ (b + 1) * 2 ^ s.toNat = 2 * (2 ^ a * 2 ^ (-s).toNat) := by
      rw [← Nat.pow_add, ← Nat.pow_add, ← Nat.pow_succ']
      congr 1
      omega
    omega
  unfold flI
  split
  · rename_i h
    have k1 := unit_lt (p := p) q0 (s - 1) 1 1
    have e : s - 1 + ((1 : Nat) : Int) = s := by omega
    rw [e] at k1
    have h' : upN p s < 1 * dnN q s := by omega
    have k2 := k1.1 h'
    have k3 := unit_up p q (s - 1) 1
    rw [e] at k3
    refine ⟨?_, by simpa using k2⟩
    have p1 := dnN_pos q0 (s - 1)
    have p2 := dnN_pos q0 s
    refine Nat.le_of_mul_le_mul_right (c := dnN q s) ?_ p2
    rw [k3]
    have : dnN q s * dnN q (s - 1) ≤ 2 * upN p s * dnN q (s - 1) := Nat.mul_le_mul_right _ (Nat.le_of_lt hlo)
    grind
  exact ⟨by omega, hup⟩
def unI (e : Int) : Int := if e - 52 < -1074 then -1074 else e - 52
def ctN (p q : Nat) (u : Int) : Nat := nearN (upN p u) (dnN q u)
theorem At.lt {p q : Nat} {e : Int} (h : At p q e) (hq : 0 < q) : upN p (unI e) < 9007199254740992 * dnN q (unI e) := by
  obtain ⟨k, hk⟩ : ∃ k : Nat, unI e = e - 52 + k := ⟨(unI e - (e - 52)).toNat, by unfold unI; split <;> omega⟩
  have h1 := (unit_lt (p := p) hq (e - 52) 52 2)
  rw [show e - 52 + ((52 : Nat) : Int) = e by omega] at h1
  have h2 := h1.1 h.2
  rw [hk, unit_lt hq]
  have : 1 ≤ 2 ^ k := Nat.one_le_two_pow
  have h3 : 9007199254740992 * 1 * dnN q (e - 52) ≤ 9007199254740992 * 2 ^ k * dnN q (e - 52) := Nat.mul_le_mul_right _ (Nat.mul_le_mul_left _ this)
  omega
theorem At.ct {p q : Nat} {e : Int} (h : At p q e) (hq : 0 < q) : ctN p q (unI e) ≤ 9007199254740992 := nearN_le (dnN_pos hq _) (h.lt hq)
theorem At.ge {p q : Nat} {e : Int} (h : At p q e) (hq : 0 < q) (hu : unI e = e - 52) : 4503599627370496 * dnN q (unI e) ≤ upN p (unI e) := by
  have h1 := (unit_le (p := p) hq (e - 52) 52 1)
  rw [show e - 52 + ((52 : Nat) : Int) = e by omega] at h1
  have := h1.1 (by have := h.1; omega)
  rw [hu]
  omega
theorem At.ct_ge {p q : Nat} {e : Int} (h : At p q e) (hq : 0 < q) (hu : unI e = e - 52) : 4503599627370496 ≤ ctN p q (unI e) := nearN_ge (dnN_pos hq _) (h.ge hq hu)
theorem At.one {p q : Nat} {e f : Int} (h : At p q e) (k : At p q f) (hq : 0 < q) : e = f := by
  have key : ∀ {e f : Int}, At p q e → At p q f → e ≤ f := by
    intro e f h k
    rcases Int.lt_or_le f e with hh | hh
    · exfalso
      obtain ⟨j, hj⟩ : ∃ j : Nat, e = f + j := ⟨(e - f).toNat, by omega⟩
      have h1 := (unit_le (p := p) hq f j 1)
      rw [← hj] at h1
      have h2 := h1.1 (by have := h.1; omega)
      have h3 : 2 ^ 1 ≤ 2 ^ j := Nat.pow_le_pow_right (by omega) (by omega)
      have h4 : 1 * 2 * dnN q f ≤ 1 * 2 ^ j * dnN q f := Nat.mul_le_mul_right _ (by omega)
      have := k.2
      omega
    exact hh
  have := key h k
  have := key k h
  omega
theorem nearN_zero {p q : Nat} (h : 2 * p < q) : nearN p q = 0 := by
  have h1 : p / q = 0 := Nat.div_eq_of_lt (by omega)
  have h2 : p % q = p := Nat.mod_eq_of_lt (by omega)
  unfold nearN
  rw [h1, h2, if_pos h]
theorem At.low {p q : Nat} {e : Int} (h : At p q e) (hq : 0 < q) (he : e ≤ -1076) : unI e = -1074 ∧ ctN p q (unI e) = 0 := by
  have hu : unI e = -1074 := by unfold unI; split <;> omega
  refine ⟨hu, ?_⟩
  rw [hu]
  obtain ⟨k, hk⟩ : ∃ k : Nat, (-1075 : Int) = e + (k + 1 : Nat) := ⟨(-1076 - e).toNat, by omega⟩
  have h1 := unit_lt (p := p) hq e (k + 1) 1
  rw [← hk] at h1
  have h2 : upN p (-1075) < 1 * dnN q (-1075) := by
    rw [h1]
    have h3 : 2 ^ 1 ≤ 2 ^ (k + 1) := Nat.pow_le_pow_right (by omega) (by omega)
    have h4 : 1 * 2 * dnN q e ≤ 1 * 2 ^ (k + 1) * dnN q e := Nat.mul_le_mul_right _ (by omega)
    have := h.2
    omega
  refine nearN_zero ?_
  have e1 : upN p (-1075) = 2 * upN p (-1074) := by
    obtain ⟨m, hm⟩ : ∃ m : Nat, m = 1074 := ⟨_, rfl⟩
    unfold upN
    rw [show (-(-1075 : Int)).toNat = m + 1 by omega, show (-(-1074 : Int)).toNat = m by omega, Nat.pow_succ]
    grind
  have e2 : dnN q (-1075) = dnN q (-1074) := by
    unfold dnN
    rw [show (-1075 : Int).toNat = (-1074 : Int).toNat by decide]
  omega
def bitsAt (p q : Nat) (e : Int) : Nat := (unI e + 1074).toNat * 4503599627370496 + ctN p q (unI e)
theorem At.high {p q : Nat} {e : Int} (h : At p q e) (hq : 0 < q) (he : 1024 ≤ e) : 9218868437227405312 ≤ bitsAt p q e := by
  have hu : unI e = e - 52 := by unfold unI; split <;> omega
  have := h.ct_ge hq hu
  unfold bitsAt
  have : 2046 ≤ (unI e + 1074).toNat := by omega
  have : 2046 * 4503599627370496 ≤ (unI e + 1074).toNat * 4503599627370496 := Nat.mul_le_mul_right _ this
  omega
theorem At.bits_low {p q : Nat} {e : Int} (h : At p q e) (hq : 0 < q) (he : e ≤ -1076) : bitsAt p q e = 0 := by
  obtain ⟨h1, h2⟩ := h.low hq he
  unfold bitsAt
  rw [h2, h1]
  rfl
theorem unit_cross {p q r s : Nat} (u : Int) (h : p * s ≤ r * q) : upN p u * dnN s u ≤ upN r u * dnN q u := by
  unfold upN dnN
  have : p * s * (2 ^ (-u).toNat * 2 ^ u.toNat) ≤ r * q * (2 ^ (-u).toNat * 2 ^ u.toNat) := Nat.mul_le_mul_right _ h
  grind
theorem At.mono {p q r s : Nat} {e f : Int} (h : At p q e) (k : At r s f) (hq : 0 < q) (hs : 0 < s) (hle : p * s ≤ r * q) : e ≤ f := by
  rcases Int.lt_or_le f e with hh | hh
  · exfalso
    obtain ⟨j, hj⟩ : ∃ j : Nat, e = f + (j + 1 : Nat) := ⟨(e - f - 1).toNat, by omega⟩
    have h1 := unit_le (p := p) hq f (j + 1) 1
    rw [← hj] at h1
    have h2 := h1.1 (by have := h.1; omega)
    have h3 : 2 ^ 1 ≤ 2 ^ (j + 1) := Nat.pow_le_pow_right (by omega) (by omega)
    have h4 : 1 * 2 * dnN q f ≤ 1 * 2 ^ (j + 1) * dnN q f := Nat.mul_le_mul_right _ (by omega)
    have h5 : 2 * dnN q f ≤ upN p f := by omega
    have h6 := unit_cross f hle
    have h7 := k.2
    have p1 := dnN_pos hq f
    have p2 := dnN_pos hs f
    have h8 : 2 * dnN q f * dnN s f ≤ upN p f * dnN s f := Nat.mul_le_mul_right _ h5
    have h9 : upN r f * dnN q f < 2 * dnN s f * dnN q f := Nat.mul_lt_mul_of_pos_right h7 p1
    grind
  exact hh
set_option maxRecDepth 100000
set_option maxHeartbeats 4000000 in
theorem inUnits_neg (v u : Value) (p q t : Nat) (s : Int) (w : World) (h : IsNat w v p) (k : IsNat w u q) (hp : Fits p) (hs : s = -(t : Int)) (ht0 : 0 < t) (ht : t ≤ 16777216) :
    Calls Tryz.prog 104 #[v, u, .int .i64 s] w (Makes2N w (p * 2 ^ t) q) := by
  obtain ⟨a, n, c, rfl⟩ := h.isAgg
  obtain ⟨a', n', c', rfl⟩ := k.isAgg
  have S1 : Hid _ := (((((((sx_start w).addN h).addN k).box1 (.slice a n c) 45 _ rfl).box1 (.slice a' n' c') 45 _ rfl).box1 (.slice none 0 0) 45 _ rfl).box1 (.slice none 0 0) 45 _ rfl)
  simp only [World.size_alloc] at S1
  obtain ⟨w0, hw0⟩ : ∃ w0, w0 = (((w.alloc (.cells #[.slice a n c] 45)).alloc (.cells #[.slice a' n' c'] 45)).alloc (.cells #[.slice none 0 0] 45)).alloc (.cells #[.slice none 0 0] 45) := ⟨_, rfl⟩
  have f0 : w0.frozen? ⟨w.heap.size, 0, none⟩ = false := by rw [hw0]; simp [go_sem]
  have f1 : w0.frozen? ⟨w.heap.size + 1 + 1, 0, none⟩ = false := by rw [hw0]; simp [go_sem]
  have f2 : w0.frozen? ⟨w.heap.size + 1 + 1 + 1, 0, none⟩ = false := by rw [hw0]; simp [go_sem]
  have HH : Hid (Fits p ∧ t ≤ 16777216) := ⟨hp, ht⟩
  have d1 : decide (s < 0) = true := decide_eq_true (by omega)
  have m1 : IntKind.i64.wrap (-s) = (t : Int) := by rw [IntKind.wrap_i64]; omega
  clear h k hp hs ht0 ht
  go_enter Tryz.func104, Tryz.ntmps104
  go_wp2_with fail
  rw [← hw0] at S1
  rw [← hw0]
  obtain ⟨b2, hb2⟩ : ∃ b2, b2 = w.heap.size := ⟨_, rfl⟩
  have HB : Hid (w.heap.size ≤ b2) := by show _ ≤ _; omega
  rw [← hb2] at S1 f0 f1 f2
  rw [← hb2]
  clear hw0 hb2
  refine (left_yes _ p t _ (S1.out.at (.agg #[.slice a n c]) p) HH.out.1 HH.out.2).mono ?_
  rintro e w1 ⟨v1, rfl, hv1, hb1⟩
  obtain ⟨a1, n1, k1, rfl⟩ := hv1.isAgg
  have z0 := cell_later hb1 (S1.out.cel b2 0 (.slice a n c))
  have z1 := cell_later hb1 (S1.out.cel (b2 + 1) 0 (.slice a' n' c'))
  have z2 := cell_later hb1 (S1.out.cel (b2 + 1 + 1) 0 (.slice none 0 0))
  have z3 := cell_later hb1 (S1.out.cel (b2 + 1 + 1 + 1) 0 (.slice none 0 0))
  have g0 := (hb1.frozen (World.block_lt_of_cell? _ _ (S1.out.cel b2 0 (.slice a n c)))).trans f0
  have g1 := (hb1.frozen (World.block_lt_of_cell? _ _ (S1.out.cel (b2 + 1 + 1) 0 (.slice none 0 0)))).trans f1
  have g2 := (hb1.frozen (World.block_lt_of_cell? _ _ (S1.out.cel (b2 + 1 + 1 + 1) 0 (.slice none 0 0)))).trans f2
  have I1 : Hid (IsNat w1 (.agg #[.slice a1 n1 k1]) (p * 2 ^ t) ∧ IsNat w1 (.agg #[.slice a' n' c']) q ∧ Below w.heap.size w w1) := ⟨hv1, (S1.out.at (.agg #[.slice a' n' c']) q).mono hb1, bel_go S1.out.bel hb1⟩
  clear hv1 hb1 S1 f0 f1 f2
  go_wp2_with fail
  obtain ⟨W, hW⟩ : ∃ W, W = w1.setCell ⟨b2, 0, none⟩ (.slice a1 n1 k1) := ⟨_, rfl⟩
  have y0 : W.cell? ⟨b2, 0, none⟩ = some (.slice a1 n1 k1) := by rw [hW]; simp [go_sem, z0]
  have y1 : W.cell? ⟨b2 + 1, 0, none⟩ = some (.slice a' n' c') := by rw [hW]; simp [go_sem, z1]
  have y2 : W.cell? ⟨b2 + 1 + 1, 0, none⟩ = some (.slice none 0 0) := by rw [hW]; simp [go_sem, z2]
  have y3 : W.cell? ⟨b2 + 1 + 1 + 1, 0, none⟩ = some (.slice none 0 0) := by rw [hW]; simp [go_sem, z3]
  have h1 : W.frozen? ⟨b2 + 1 + 1, 0, none⟩ = false := by rw [hW]; simp [World.frozen?_setCell, g1]
  have h2 : W.frozen? ⟨b2 + 1 + 1 + 1, 0, none⟩ = false := by rw [hW]; simp [World.frozen?_setCell, g2]
  have I2 : Hid (IsNat W (.agg #[.slice a1 n1 k1]) (p * 2 ^ t) ∧ IsNat W (.agg #[.slice a' n' c']) q ∧ Below w.heap.size w W) := by
    rw [hW]
    exact ⟨I1.out.1.setCell (no_int_slice z0) _, I1.out.2.1.setCell (no_int_slice z0) _, I1.out.2.2.setCell HB.out _⟩
  rw [← hW]
  clear hW I1 z0 z1 z2 z3 g0 g1 g2
  have Z : Hid _ := nat_put2 (r := b2 + 1 + 1) (x := .slice a1 n1 k1) (y := .slice a' n' c') y2 y3 I2.out.1 I2.out.2.1 I2.out.2.2 (by have := HB.out; omega)
  go_region
  go_wp2_with fail
  refine bodyPost_ret (v := .tuple #[.agg #[.slice a1 n1 k1], .agg #[.slice a' n' c']]) (by simp [results, Tryz.results104, go_sem, y2, y3]) rfl ⟨_, _, rfl, Z.out.1.mono (bel_dr (bel_refl _)), Z.out.2.1.mono (bel_dr (bel_refl _)), bel_dr Z.out.2.2⟩
set_option maxHeartbeats 4000000 in
theorem inUnits_pos (v u : Value) (p q t : Nat) (s : Int) (w : World) (h : IsNat w v p) (k : IsNat w u q) (hp : Fits q) (hs : s = (t : Int)) (ht : t ≤ 16777216) :
    Calls Tryz.prog 104 #[v, u, .int .i64 s] w (Makes2N w p (q * 2 ^ t)) := by
  obtain ⟨a, n, c, rfl⟩ := h.isAgg
  obtain ⟨a', n', c', rfl⟩ := k.isAgg
  have S1 : Hid _ := (((((((sx_start w).addN h).addN k).box1 (.slice a n c) 45 _ rfl).box1 (.slice a' n' c') 45 _ rfl).box1 (.slice none 0 0) 45 _ rfl).box1 (.slice none 0 0) 45 _ rfl)
  simp only [World.size_alloc] at S1
  obtain ⟨w0, hw0⟩ : ∃ w0, w0 = (((w.alloc (.cells #[.slice a n c] 45)).alloc (.cells #[.slice a' n' c'] 45)).alloc (.cells #[.slice none 0 0] 45)).alloc (.cells #[.slice none 0 0] 45) := ⟨_, rfl⟩
  have f0 : w0.frozen? ⟨w.heap.size + 1, 0, none⟩ = false := by rw [hw0]; simp [go_sem]
  have f1 : w0.frozen? ⟨w.heap.size + 1 + 1, 0, none⟩ = false := by rw [hw0]; simp [go_sem]
  have f2 : w0.frozen? ⟨w.heap.size + 1 + 1 + 1, 0, none⟩ = false := by rw [hw0]; simp [go_sem]
  have HH : Hid (Fits q ∧ t ≤ 16777216) := ⟨hp, ht⟩
  have d1 : decide ((t : Int) < 0) = false := decide_eq_false (by omega)
  subst hs
  clear h k hp ht
  go_enter Tryz.func104, Tryz.ntmps104
  go_wp2_with fail
  rw [← hw0] at S1
  rw [← hw0]
  obtain ⟨b2, hb2⟩ : ∃ b2, b2 = w.heap.size := ⟨_, rfl⟩
  have HB : Hid (w.heap.size ≤ b2) := by show _ ≤ _; omega
  rw [← hb2] at S1 f0 f1 f2
  rw [← hb2]
  clear hw0 hb2
  refine (left_yes _ q t _ (S1.out.at (.agg #[.slice a' n' c']) q) HH.out.1 HH.out.2).mono ?_
  rintro e w1 ⟨v1, rfl, hv1, hb1⟩
  obtain ⟨a1, n1, k1, rfl⟩ := hv1.isAgg
  have z0 := cell_later hb1 (S1.out.cel b2 0 (.slice a n c))
  have z1 := cell_later hb1 (S1.out.cel (b2 + 1) 0 (.slice a' n' c'))
  have z2 := cell_later hb1 (S1.out.cel (b2 + 1 + 1) 0 (.slice none 0 0))
  have z3 := cell_later hb1 (S1.out.cel (b2 + 1 + 1 + 1) 0 (.slice none 0 0))
  have g0 := (hb1.frozen (World.block_lt_of_cell? _ _ (S1.out.cel (b2 + 1) 0 (.slice a' n' c')))).trans f0
  have g1 := (hb1.frozen (World.block_lt_of_cell? _ _ (S1.out.cel (b2 + 1 + 1) 0 (.slice none 0 0)))).trans f1
  have g2 := (hb1.frozen (World.block_lt_of_cell? _ _ (S1.out.cel (b2 + 1 + 1 + 1) 0 (.slice none 0 0)))).trans f2
  have I1 : Hid (IsNat w1 (.agg #[.slice a n c]) p ∧ IsNat w1 (.agg #[.slice a1 n1 k1]) (q * 2 ^ t) ∧ Below w.heap.size w w1) := ⟨(S1.out.at (.agg #[.slice a n c]) p).mono hb1, hv1, bel_go S1.out.bel hb1⟩
  clear hv1 hb1 S1 f0 f1 f2
  go_wp2_with fail
  obtain ⟨W, hW⟩ : ∃ W, W = w1.setCell ⟨b2 + 1, 0, none⟩ (.slice a1 n1 k1) := ⟨_, rfl⟩
  have y0 : W.cell? ⟨b2, 0, none⟩ = some (.slice a n c) := by rw [hW]; simp [go_sem, z0]
  have y1 : W.cell? ⟨b2 + 1, 0, none⟩ = some (.slice a1 n1 k1) := by rw [hW]; simp [go_sem, z1]
  have y2 : W.cell? ⟨b2 + 1 + 1, 0, none⟩ = some (.slice none 0 0) := by rw [hW]; simp [go_sem, z2]
  have y3 : W.cell? ⟨b2 + 1 + 1 + 1, 0, none⟩ = some (.slice none 0 0) := by rw [hW]; simp [go_sem, z3]
  have h1 : W.frozen? ⟨b2 + 1 + 1, 0, none⟩ = false := by rw [hW]; simp [World.frozen?_setCell, g1]
  have h2 : W.frozen? ⟨b2 + 1 + 1 + 1, 0, none⟩ = false := by rw [hW]; simp [World.frozen?_setCell, g2]
  have I2 : Hid (IsNat W (.agg #[.slice a n c]) p ∧ IsNat W (.agg #[.slice a1 n1 k1]) (q * 2 ^ t) ∧ Below w.heap.size w W) := by
    rw [hW]
    exact ⟨I1.out.1.setCell (no_int_slice z1) _, I1.out.2.1.setCell (no_int_slice z1) _, I1.out.2.2.setCell (by have := HB.out; show _ ≤ b2 + 1; omega) _⟩
  rw [← hW]
  clear hW I1 z0 z1 z2 z3 g0 g1 g2
  have Z : Hid _ := nat_put2 (r := b2 + 1 + 1) (x := .slice a n c) (y := .slice a1 n1 k1) y2 y3 I2.out.1 I2.out.2.1 I2.out.2.2 (by have := HB.out; omega)
  go_region
  go_wp2_with fail
  refine bodyPost_ret (v := .tuple #[.agg #[.slice a n c], .agg #[.slice a1 n1 k1]]) (by simp [results, Tryz.results104, go_sem, y2, y3]) rfl ⟨_, _, rfl, Z.out.1.mono (bel_dr (bel_refl _)), Z.out.2.1.mono (bel_dr (bel_refl _)), bel_dr Z.out.2.2⟩
theorem cmp_z (v u : Value) (x y : Nat) (z : Int) (w : World) (h : IsNat w v x) (k : IsNat w u y) (hx : Fits x) (hy : Fits y) (hz : cmpI x y = z) :
    Calls Tryz.prog 53 #[v, u] w fun e w' => e = .returned (.int .i64 z) ∧ Below w.heap.size w w' := by
  rw [← hz]
  exact cmp_any v u x y w h k hx hy
theorem bitOf_zero (x : Nat) : bitOf x 0 = decide (x % 2 = 1) := by
  unfold bitOf
  rw [Nat.pow_zero, Nat.div_one]
  by_cases h : x % 2 = 1 <;> simp [h]
set_option maxHeartbeats 8000000 in
theorem nearest_any (v u : Value) (p q : Nat) (w : World) (h : IsNat w v p) (k : IsNat w u q) (hp : p < P 198) (hq : q < P 198) (hq0 : 0 < q) :
    Calls Tryz.prog 105 #[v, u] w (Makes w (nearN p q)) := by
  obtain ⟨a, n, c, rfl⟩ := h.isAgg
  obtain ⟨a', n', c', rfl⟩ := k.isAgg
  have S1 : Hid _ := ((((((sy_start w).addN h).addN k).box1 (.slice a n c) 45 _ rfl).box1 (.slice a' n' c') 45 _ rfl).box1 (.slice none 0 0) 45 _ rfl)
  simp only [World.size_alloc] at S1
  obtain ⟨w0, hw0⟩ : ∃ w0, w0 = ((w.alloc (.cells #[.slice a n c] 45)).alloc (.cells #[.slice a' n' c'] 45)).alloc (.cells #[.slice none 0 0] 45) := ⟨_, rfl⟩
  obtain ⟨d, hd⟩ : ∃ d, d = p / q := ⟨_, rfl⟩
  obtain ⟨r, hr⟩ : ∃ r, r = p % q := ⟨_, rfl⟩
  have hrq : r < q := by rw [hr]; exact Nat.mod_lt _ hq0
  have hdp : d ≤ p := by rw [hd]; exact Nat.div_le_self _ _
  have sr : r < P 198 := Nat.lt_trans hrq hq
  have sd : d < P 198 := Nat.lt_of_le_of_lt hdp hp
  have s2 : r + r < P 199 := by
    have h1 : P 199 = P 198 * 18446744073709551616 := P_succ 198
    rw [h1]
    omega
  have HH : Hid (p < P 198 ∧ q < P 198 ∧ 0 < q ∧ Fits r ∧ Fits d ∧ Fits (r + r) ∧ Fits q ∧ d = p / q ∧ r = p % q) := ⟨hp, hq, hq0, fits_P sr (by omega), fits_P sd (by omega), fits_P s2 (by omega), fits_P hq (by omega), hd, hr⟩
  have HN : Hid (nearN p q = if 2 * r < q then d else if 2 * r = q ∧ d % 2 = 0 then d else d + 1) := by show _ = _; unfold nearN; rw [← hd, ← hr]
  clear h k hp hq hq0 hd hr hrq hdp sr sd s2
  go_enter Tryz.func105, Tryz.ntmps105
  go_wp2_with fail
  rw [← hw0] at S1
  rw [← hw0]
  obtain ⟨b, hb⟩ : ∃ b, b = w.heap.size := ⟨_, rfl⟩
  rw [← hb] at S1
  rw [← hb]
  clear hw0 hb
  refine (divMod_198 _ _ p q _ (S1.out.at (.agg #[.slice a n c]) p) (S1.out.at (.agg #[.slice a' n' c']) q) (small_198 HH.out.2.1) HH.out.2.2.1 HH.out.1 (small_198 HH.out.1)).mono ?_
  rintro e w1 ⟨v1, u1, rfl, hv1, hu1, hb1⟩
  rw [← HH.out.2.2.2.2.2.2.2.1] at hv1
  rw [← HH.out.2.2.2.2.2.2.2.2] at hu1
  obtain ⟨a1, n1, c1, rfl⟩ := hv1.isAgg
  obtain ⟨a2, n2, c2, rfl⟩ := hu1.isAgg
  have S2 : Hid _ := ((((S1.out.go hb1).addN hv1).addN hu1).box1 (.slice a1 n1 c1) 45 _ rfl).box1 (.slice a2 n2 c2) 45 _ rfl
  simp only [World.size_alloc] at S2
  clear hv1 hu1 hb1 S1
  go_wp2_with fail
  obtain ⟨w2, hw2⟩ : ∃ w2, w2 = (w1.alloc (.cells #[.slice a1 n1 c1] 45)).alloc (.cells #[.slice a2 n2 c2] 45) := ⟨_, rfl⟩
  obtain ⟨g, hg⟩ : ∃ g, g = w1.heap.size := ⟨_, rfl⟩
  rw [← hw2, ← hg] at S2
  rw [← hw2, ← hg]
  clear hw2 hg
  obtain ⟨z, hz⟩ : ∃ z, cmpI (r + r) q = z := ⟨_, rfl⟩
  have HZ : Hid (cmpI (r + r) q = z) := hz
  clear hz
  refine wp_region_inv (JB w2 [sNat (r), sNat (r), sNat (r + r), sNat (q), sEq (.int .i64 z)] []) 32 (by kernel_rfl) rfl (by kernel_rfl) (JB.start _ _ _) (fun HG HN => ⟨?_, ?_, ?_, ?_, ?_, trivial⟩) ?_
  · intro L vs a w' hJ hF hP hL
    have q6 : (a.tmps[6]?).getD undef = .pointer (some ⟨g + 1, 0, none⟩) := hF.old 6 rfl
    have cb := cell_later hJ.bel (S2.out.cell (g + 1) (.slice a2 n2 c2))
    exact run_val (v := .agg #[.slice a2 n2 c2]) rfl (by simp [execOp, go_sem, q6, cb]) ⟨_, rfl, hJ.step hL rfl (Below.refl _ _) (by exact ((S2.out.at (.agg #[.slice a2 n2 c2]) (r)).mono hJ.bel))⟩
  · intro L vs a w' hJ hF hP hL
    have q6 : (a.tmps[6]?).getD undef = .pointer (some ⟨g + 1, 0, none⟩) := hF.old 6 rfl
    have cb := cell_later hJ.bel (S2.out.cell (g + 1) (.slice a2 n2 c2))
    exact run_val (v := .agg #[.slice a2 n2 c2]) rfl (by simp [execOp, go_sem, q6, cb]) ⟨_, rfl, hJ.step hL rfl (Below.refl _ _) (by exact ((S2.out.at (.agg #[.slice a2 n2 c2]) (r)).mono hJ.bel))⟩
  · intro L vs a w' hJ hF hP hL
    have p0 : L 0 = true := hP ⟨0, .data⟩ (by simp) rfl
    have s0 : IsNat w' (vs 0) (r) := hJ.sp 0 p0
    have q15 := hF.slot 0 15 rfl p0
    have p1 : L 1 = true := hP ⟨1, .data⟩ (by simp) rfl
    have s1 : IsNat w' (vs 1) (r) := hJ.sp 1 p1
    have q16 := hF.slot 1 16 rfl p1
    refine run_call (f := 26) (args := #[vs 0, vs 1]) rfl (by simp [go_sem, q15, q16]) (add_any _ _ r r _ s0 s1 HH.out.2.2.2.1 HH.out.2.2.2.1) ?_
    rintro e w2 ⟨v, rfl, hv, hb⟩
    exact ⟨_, rfl, _, rfl, hJ.step hL rfl hb (by exact hv)⟩
  · intro L vs a w' hJ hF hP hL
    have q3 : (a.tmps[3]?).getD undef = .pointer (some ⟨b + 1, 0, none⟩) := hF.old 3 rfl
    have cb := cell_later hJ.bel (S2.out.cell (b + 1) (.slice a' n' c'))
    exact run_val (v := .agg #[.slice a' n' c']) rfl (by simp [execOp, go_sem, q3, cb]) ⟨_, rfl, hJ.step hL rfl (Below.refl _ _) (by exact ((S2.out.at (.agg #[.slice a' n' c']) (q)).mono hJ.bel))⟩
  · intro L vs a w' hJ hF hP hL
    have p2 : L 2 = true := hP ⟨2, .data⟩ (by simp) rfl
    have s2 : IsNat w' (vs 2) (r + r) := hJ.sp 2 p2
    have q17 := hF.slot 2 17 rfl p2
    have p3 : L 3 = true := hP ⟨3, .data⟩ (by simp) rfl
    have s3 : IsNat w' (vs 3) (q) := hJ.sp 3 p3
    have q18 := hF.slot 3 18 rfl p3
    refine run_call (f := 53) (args := #[vs 2, vs 3]) rfl (by simp [go_sem, q17, q18]) (cmp_z _ _ (r + r) q z _ s2 s3 HH.out.2.2.2.2.2.1 HH.out.2.2.2.2.2.2.1 HZ.out) ?_
    rintro e w2 ⟨rfl, hb⟩
    exact ⟨_, rfl, _, rfl, hJ.step hL rfl hb (by exact rfl)⟩
  intro L vs w' hA hJ
  have s4 : vs 4 = .int .i64 z := hJ.sp 4 (hA 4 (by simp))
  simp only [putL, Act.put, List.setIfInBounds_toArray, List.set_cons_zero, List.set_cons_succ, Nat.reduceAdd]
  simp only [s4]
  obtain ⟨w3, ew3⟩ : ∃ w3, w3 = w' := ⟨_, rfl⟩
  have S3 : Hid _ := S2.out.go (ew3 ▸ hJ.bel : Below w2.heap.size w2 w3)
  rw [← ew3]
  clear ew3 hJ hA s4 S2
  rcases Nat.lt_trichotomy (r + r) q with h1 | h1 | h1
  · obtain rfl : z = -1 := by rw [← HZ.out]; exact cmpI_lt h1
    have HV : Hid (nearN p q = d) := by show _ = _; rw [HN.out, if_pos (by omega)]
    clear h1 HZ HN
    have k1 := S3.out.cel (g) 0 (.slice a1 n1 c1)
    have k2 := S3.out.cel (b + 1 + 1) 0 (.slice none 0 0)
    have k3 := S3.out.fz (b + 1 + 1) 0
    have Z : Hid _ := S3.out.ret1 (r := b + 1 + 1) k2 (by simp) (S3.out.at (.agg #[.slice a1 n1 c1]) d) (.slice a1 n1 c1)
    go_wp2_with fail
    exact bodyPost_ret (v := .agg #[.slice a1 n1 c1]) (by simp [results, Tryz.results105, go_sem, k2]) rfl ⟨_, rfl, by rw [HV.out]; exact Z.out.1, Z.out.2⟩
  · obtain rfl : z = 0 := by rw [← HZ.out]; exact cmpI_same h1
    have k1 := S3.out.cel (g) 0 (.slice a1 n1 c1)
    go_wp2_with fail
    refine (bit_any _ d 0 _ (S3.out.at (.agg #[.slice a1 n1 c1]) d) HH.out.2.2.2.2.1 (by omega) (by omega)).mono ?_
    rintro e w4 ⟨rfl, hb4⟩
    have S4 : Hid _ := S3.out.go hb4
    clear hb4 S3 k1
    by_cases ho : d % 2 = 0
    · have t1 : (decide ((0 : Int) ≤ 0) && bitOf d (0 : Int).toNat) = false := by rw [show (0 : Int).toNat = 0 from rfl, bitOf_zero]; simp; omega
      have HV : Hid (nearN p q = d) := by show _ = _; rw [HN.out, if_neg (by omega), if_pos ⟨by omega, ho⟩]
      rw [t1]
      clear h1 HZ HN ho t1
      have k1 := S4.out.cel (g) 0 (.slice a1 n1 c1)
      have k2 := S4.out.cel (b + 1 + 1) 0 (.slice none 0 0)
      have k3 := S4.out.fz (b + 1 + 1) 0
      have Z : Hid _ := S4.out.ret1 (r := b + 1 + 1) k2 (by simp) (S4.out.at (.agg #[.slice a1 n1 c1]) d) (.slice a1 n1 c1)
      go_wp2_with fail
      exact bodyPost_ret (v := .agg #[.slice a1 n1 c1]) (by simp [results, Tryz.results105, go_sem, k2]) rfl ⟨_, rfl, by rw [HV.out]; exact Z.out.1, Z.out.2⟩
    have t1 : (decide ((0 : Int) ≤ 0) && bitOf d (0 : Int).toNat) = true := by rw [show (0 : Int).toNat = 0 from rfl, bitOf_zero]; simp; omega
    have HV : Hid (nearN p q = d + 1) := by show _ = _; rw [HN.out, if_neg (by omega), if_neg (fun hh => ho hh.2)]
    rw [t1]
    clear h1 HZ HN ho t1
    go_wp2_with fail
    refine wp_region_inv (JD w4 [sNat (d), sNat (1), sNat (d + 1), sAny] [[], [], [0, 1], [2]] 3 2 [0, 1, 2] (Sto1 (b + 1 + 1))) 32 (by kernel_rfl) rfl (by kernel_rfl) (JD.start _ _ _ _ _ _ _) (fun HG HN => ⟨?_, ?_, ?_, ?_, trivial⟩) ?_
    · intro L vs a w' hJ hF hP hL
      have hK := hJ
      have hJ := hK.open hL (by decide)
      have q5 : (a.tmps[5]?).getD undef = .pointer (some ⟨g, 0, none⟩) := hF.old 5 rfl
      have cb := cell_later hJ.bel (S4.out.cell (g) (.slice a1 n1 c1))
      exact run_val (v := .agg #[.slice a1 n1 c1]) rfl (by simp [execOp, go_sem, q5, cb]) ⟨_, rfl, hK.step hL (by decide) (by decide) rfl (nd_nil) <| hJ.step hL rfl (Below.refl _ _) (by exact ((S4.out.at (.agg #[.slice a1 n1 c1]) (d)).mono hJ.bel))⟩
    · intro L vs a w' hJ hF hP hL
      have hK := hJ
      have hJ := hK.open hL (by decide)
      refine run_call (f := 27) (args := #[.int .u64 1]) rfl (by simp [go_sem]) (of_any 1 _ (by omega)) ?_
      rintro e w2 ⟨v, rfl, hv, hb⟩
      exact ⟨_, rfl, _, rfl, hK.step hL (by decide) (by decide) rfl (nd_nil) <| hJ.step hL rfl hb (by exact hv)⟩
    · intro L vs a w' hJ hF hP hL
      have hK := hJ
      have hJ := hK.open hL (by decide)
      have p0 : L 0 = true := hP ⟨0, .data⟩ (by simp) rfl
      have s0 : IsNat w' (vs 0) (d) := hJ.sp 0 p0
      have q29 := hF.slot 0 29 rfl p0
      have p1 : L 1 = true := hP ⟨1, .data⟩ (by simp) rfl
      have s1 : IsNat w' (vs 1) (1) := hJ.sp 1 p1
      have q30 := hF.slot 1 30 rfl p1
      refine run_call (f := 26) (args := #[vs 0, vs 1]) rfl (by simp [go_sem, q29, q30]) (add_any _ _ d 1 _ s0 s1 HH.out.2.2.2.2.1 (fits_P (n := 1) (by rw [P_one]; omega) (by omega))) ?_
      rintro e w2 ⟨v, rfl, hv, hb⟩
      exact ⟨_, rfl, _, rfl, hK.step hL (by decide) (by decide) rfl (nd_cons p0 (nd_cons p1 (nd_nil))) <| hJ.step hL rfl hb (by exact hv)⟩
    · intro L vs a w' hJ hF hP hL
      have hK := hJ
      have hJ := hK.core hL
      have q4 : (a.tmps[4]?).getD undef = .pointer (some ⟨b + 1 + 1, 0, none⟩) := hF.old 4 rfl
      have p2 : L 2 = true := hP ⟨2, .data⟩ (by simp) rfl
      have s2 : IsNat w' (vs 2) (d + 1) := hJ.sp 2 p2
      have q31 := hF.slot 2 31 rfl p2
      have p0 : L 0 = true := hK.cl 2 p2 0 (by simp)
      have p1 : L 1 = true := hK.cl 2 p2 1 (by simp)
      have x0 := cell_later hJ.bel (S4.out.cel (b + 1 + 1) 0 (.slice none 0 0))
      have y0 := (hJ.bel.frozen (World.block_lt_of_cell? _ _ (S4.out.cel (b + 1 + 1) 0 (.slice none 0 0)))).trans (S4.out.fz (b + 1 + 1) 0)
      obtain ⟨aa, nn, cc, e8⟩ := s2.isAgg
      exact run_unit (w' := (w'.setCell ⟨b + 1 + 1, 0, none⟩ (.slice aa nn cc))) rfl (by simp [execOp, go_sem, q4, q31, e8, x0, y0]) ⟨undef, rfl, hK.put hL (by decide) rfl (nd_cons p2 (nd_nil)) (nd_cons p0 (nd_cons p1 (nd_cons p2 (nd_nil)))) p2 ⟨_, e8, rfl⟩⟩
    intro L vs w' hA hK
    obtain ⟨_, w1, hb1, sv, u1, ev, ew⟩ := hK.fin (hA 3 (by simp))
    replace sv : IsNat w1 (vs 2) (d + 1) := sv
    simp only [putL, Act.put, List.setIfInBounds_toArray, List.set_cons_zero, List.set_cons_succ, Nat.reduceAdd]
    obtain ⟨aa, nn, cc, e9⟩ := sv.isAgg
    have S9 : Hid _ := S4.out.go hb1
    have k2 := S9.out.cel (b + 1 + 1) 0 (.slice none 0 0)
    have Z : Hid _ := S9.out.ret1 (r := b + 1 + 1) k2 (by simp) sv u1
    clear S4
    rw [ew]
    rw [ev] at Z sv
    go_wp2_with fail
    exact bodyPost_ret (v := .agg #[u1]) (by simp [results, Tryz.results105, go_sem, k2]) rfl ⟨_, rfl, by rw [HV.out]; exact Z.out.1, Z.out.2⟩
  obtain rfl : z = 1 := by rw [← HZ.out]; exact cmpI_gt h1
  have HV : Hid (nearN p q = d + 1) := by show _ = _; rw [HN.out, if_neg (by omega), if_neg (fun hh => by omega)]
  clear h1 HZ HN
  go_wp2_with fail
  refine wp_region_inv (JD w3 [sNat (d), sNat (1), sNat (d + 1), sAny] [[], [], [0, 1], [2]] 3 2 [0, 1, 2] (Sto1 (b + 1 + 1))) 32 (by kernel_rfl) rfl (by kernel_rfl) (JD.start _ _ _ _ _ _ _) (fun HG HN => ⟨?_, ?_, ?_, ?_, trivial⟩) ?_
  · intro L vs a w' hJ hF hP hL
    have hK := hJ
    have hJ := hK.open hL (by decide)
    have q5 : (a.tmps[5]?).getD undef = .pointer (some ⟨g, 0, none⟩) := hF.old 5 rfl
    have cb := cell_later hJ.bel (S3.out.cell (g) (.slice a1 n1 c1))
    exact run_val (v := .agg #[.slice a1 n1 c1]) rfl (by simp [execOp, go_sem, q5, cb]) ⟨_, rfl, hK.step hL (by decide) (by decide) rfl (nd_nil) <| hJ.step hL rfl (Below.refl _ _) (by exact ((S3.out.at (.agg #[.slice a1 n1 c1]) (d)).mono hJ.bel))⟩
  · intro L vs a w' hJ hF hP hL
    have hK := hJ
    have hJ := hK.open hL (by decide)
    refine run_call (f := 27) (args := #[.int .u64 1]) rfl (by simp [go_sem]) (of_any 1 _ (by omega)) ?_
    rintro e w2 ⟨v, rfl, hv, hb⟩
    exact ⟨_, rfl, _, rfl, hK.step hL (by decide) (by decide) rfl (nd_nil) <| hJ.step hL rfl hb (by exact hv)⟩
  · intro L vs a w' hJ hF hP hL
    have hK := hJ
    have hJ := hK.open hL (by decide)
    have p0 : L 0 = true := hP ⟨0, .data⟩ (by simp) rfl
    have s0 : IsNat w' (vs 0) (d) := hJ.sp 0 p0
    have q29 := hF.slot 0 29 rfl p0
    have p1 : L 1 = true := hP ⟨1, .data⟩ (by simp) rfl
    have s1 : IsNat w' (vs 1) (1) := hJ.sp 1 p1
    have q30 := hF.slot 1 30 rfl p1
    refine run_call (f := 26) (args := #[vs 0, vs 1]) rfl (by simp [go_sem, q29, q30]) (add_any _ _ d 1 _ s0 s1 HH.out.2.2.2.2.1 (fits_P (n := 1) (by rw [P_one]; omega) (by omega))) ?_
    rintro e w2 ⟨v, rfl, hv, hb⟩
    exact ⟨_, rfl, _, rfl, hK.step hL (by decide) (by decide) rfl (nd_cons p0 (nd_cons p1 (nd_nil))) <| hJ.step hL rfl hb (by exact hv)⟩
  · intro L vs a w' hJ hF hP hL
    have hK := hJ
    have hJ := hK.core hL
    have q4 : (a.tmps[4]?).getD undef = .pointer (some ⟨b + 1 + 1, 0, none⟩) := hF.old 4 rfl
    have p2 : L 2 = true := hP ⟨2, .data⟩ (by simp) rfl
    have s2 : IsNat w' (vs 2) (d + 1) := hJ.sp 2 p2
    have q31 := hF.slot 2 31 rfl p2
    have p0 : L 0 = true := hK.cl 2 p2 0 (by simp)
    have p1 : L 1 = true := hK.cl 2 p2 1 (by simp)
    have x0 := cell_later hJ.bel (S3.out.cel (b + 1 + 1) 0 (.slice none 0 0))
    have y0 := (hJ.bel.frozen (World.block_lt_of_cell? _ _ (S3.out.cel (b + 1 + 1) 0 (.slice none 0 0)))).trans (S3.out.fz (b + 1 + 1) 0)
    obtain ⟨aa, nn, cc, e8⟩ := s2.isAgg
    exact run_unit (w' := (w'.setCell ⟨b + 1 + 1, 0, none⟩ (.slice aa nn cc))) rfl (by simp [execOp, go_sem, q4, q31, e8, x0, y0]) ⟨undef, rfl, hK.put hL (by decide) rfl (nd_cons p2 (nd_nil)) (nd_cons p0 (nd_cons p1 (nd_cons p2 (nd_nil)))) p2 ⟨_, e8, rfl⟩⟩
  intro L vs w' hA hK
  obtain ⟨_, w1, hb1, sv, u1, ev, ew⟩ := hK.fin (hA 3 (by simp))
  replace sv : IsNat w1 (vs 2) (d + 1) := sv
  simp only [putL, Act.put, List.setIfInBounds_toArray, List.set_cons_zero, List.set_cons_succ, Nat.reduceAdd]
  obtain ⟨aa, nn, cc, e9⟩ := sv.isAgg
  have S9 : Hid _ := S3.out.go hb1
  have k2 := S9.out.cel (b + 1 + 1) 0 (.slice none 0 0)
  have Z : Hid _ := S9.out.ret1 (r := b + 1 + 1) k2 (by simp) sv u1
  clear S3
  rw [ew]
  rw [ev] at Z sv
  go_wp2_with fail
  exact bodyPost_ret (v := .agg #[u1]) (by simp [results, Tryz.results105, go_sem, k2]) rfl ⟨_, rfl, by rw [HV.out]; exact Z.out.1, Z.out.2⟩
def fm (u : Nat) : Nat := if u / 4503599627370496 = 0 then u % 4503599627370496 else u % 4503599627370496 + 4503599627370496
theorem f64frombits (u : Nat) (w : World) : (callFunc 132 #[.int .u64 (u : Int)]).run Tryz.prog w = .ok (.value (.float .f64 u)) w := by
  rw [run_callFunc_extern Tryz.func132 (by kernel_rfl) (by kernel_rfl) (by kernel_rfl) (e := Extern.MathFloatBits.float64frombits) (by kernel_rfl)]
  rfl
set_option maxHeartbeats 400000 in
theorem float_any (u : Nat) (w : World) : Calls Tryz.prog 107 #[.int .u64 (u : Int)] w fun e w' => e = .returned (.float .f64 u) ∧ w' = w := by
  have h1 := f64frombits u
  go_enter Tryz.func107, Tryz.ntmps107
  go_wp2_with fail
  go_ret
  exact ⟨rfl, rfl⟩
def szI (p q : Nat) : Int := (bitLen p : Int) - (bitLen q : Int)
def tfB (p q : Nat) : Nat := bitsAt p q (flI p q (szI p q))
def tfV (p q : Nat) : Nat := if p = 0 then 0 else if tfB p q < 9218868437227405312 then tfB p q else 0
def tfOk (p q : Nat) : Bool := decide (p = 0) || decide (tfB p q < 9218868437227405312)
theorem sz_at {p q : Nat} (hp : 0 < p) (hq : 0 < q) : At p q (flI p q (szI p q)) := by
  obtain ⟨h1, h2⟩ := bitLen_spec p
  obtain ⟨k1, k2⟩ := bitLen_spec q
  have p1 := bitLen_pos hp
  have q1 := bitLen_pos hq
  have := flI_at (p := p) (q := q) (a := bitLen p - 1) (b := bitLen q - 1) (h2 (by omega)) (by rw [show bitLen p - 1 + 1 = bitLen p by omega]; exact h1) (k2 (by omega)) (by rw [show bitLen q - 1 + 1 = bitLen q by omega]; exact k1)
  rw [show ((bitLen p - 1 : Nat) : Int) - ((bitLen q - 1 : Nat) : Int) = szI p q by unfold szI; omega] at this
  exact this
theorem flI_le (p q : Nat) (s : Int) : flI p q s ≤ s ∧ s - 1 ≤ flI p q s := by unfold flI; split <;> omega
theorem tf_low {p q : Nat} (hp : 0 < p) (hq : 0 < q) (h : szI p q < -1075) : tfV p q = 0 ∧ tfOk p q = true := by
  have h1 := (sz_at hp hq).bits_low hq (by have := (flI_le p q (szI p q)).1; omega)
  unfold tfV tfOk tfB
  rw [h1]
  simp
theorem tf_high {p q : Nat} (hp : 0 < p) (hq : 0 < q) (h : 1024 < szI p q) : tfV p q = 0 ∧ tfOk p q = false := by
  have h1 := (sz_at hp hq).high hq (by have := (flI_le p q (szI p q)).2; omega)
  unfold tfV tfOk tfB
  rw [if_neg (by omega), if_neg (by omega)]
  simp
  omega
theorem tf_over {p q : Nat} (hp : 0 < p) (h : ¬ tfB p q < 9218868437227405312) : tfV p q = 0 ∧ tfOk p q = false := by
  unfold tfV tfOk
  rw [if_neg (by omega), if_neg h]
  simp
  omega
theorem tf_in {p q : Nat} (hp : 0 < p) (h : tfB p q < 9218868437227405312) : tfV p q = tfB p q ∧ tfOk p q = true := by
  unfold tfV tfOk
  rw [if_neg (by omega), if_pos h]
  simp [h]
theorem inUnits_any (v u : Value) (p q : Nat) (s : Int) (w : World) (h : IsNat w v p) (k : IsNat w u q) (hp : Fits p) (hq : Fits q) (h1 : -16777216 ≤ s) (h2 : s ≤ 16777216) :
    Calls Tryz.prog 104 #[v, u, .int .i64 s] w (Makes2N w (upN p s) (dnN q s)) := by
  unfold upN dnN
  by_cases hs : s < 0
  · have := inUnits_neg v u p q (-s).toNat s w h k hp (by omega) (by omega) (by omega)
    rw [show s.toNat = 0 by omega, Nat.pow_zero, Nat.mul_one]
    exact this
  have := inUnits_pos v u p q s.toNat s w h k hq (by omega) (by omega)
  rw [show (-s).toNat = 0 by omega, Nat.pow_zero, Nat.mul_one]
  exact this
theorem up_P {p n m : Nat} {s : Int} (h : p < P n) (hs : -64 * (m : Int) < s) (hm : 0 < m) : upN p s < P (n + m) := by
  unfold upN
  rw [P_add]
  exact Nat.mul_lt_mul'' h (by rw [P_two]; exact Nat.pow_lt_pow_right (by omega) (by omega))
theorem dn_P {p n m : Nat} {s : Int} (h : p < P n) (hs : s < 64 * (m : Int)) (hm : 0 < m) : dnN p s < P (n + m) := by
  unfold dnN
  rw [P_add]
  exact Nat.mul_lt_mul'' h (by rw [P_two]; exact Nat.pow_lt_pow_right (by omega) (by omega))
theorem tf_rules {u : Int} {x y ct B : Nat} (hx : x = (u + 1074).toNat) (hy : y = x * 4503599627370496) (hB : y + ct = B) (h1 : -1074 ≤ u) (h2 : x ≤ 2046) (h3 : ct ≤ 9007199254740992) :
    wrap64 (u + 1074) = (x : Int) ∧ IntKind.u64.wrap (x : Int) = (x : Int) ∧ IntKind.u64.wrap ((x : Int) * 4503599627370496) = (y : Int) ∧ IntKind.u64.wrap ((y : Int) + (ct : Int)) = (B : Int) :=
  ⟨by rw [IntWalk.wrap64_in _ ⟨by omega, by omega⟩]; omega, by rw [IntKind.wrap_u64]; omega, by rw [IntKind.wrap_u64]; omega, by rw [IntKind.wrap_u64]; omega⟩
set_option maxHeartbeats 8000000 in
theorem toFloat_any (v : Value) (p q : Nat) (w : World) (h : Rt w v p q) (hp : RS p) (hq : RS q) (hq0 : 0 < q) :
    Calls Tryz.prog 80 #[v] w fun e w' => e = .returned (.tuple #[.float .f64 (tfV p q), .bool (tfOk p q)]) ∧ Below w.heap.size w w' := by
  have h' := h
  obtain ⟨a, n, c, a', n', c', e0, _, _⟩ := h'.raw
  subst e0
  have S1 : Hid _ := ((sy_start w).addF h).box (.slice a n c) (.slice a' n' c') 47 _ rfl
  obtain ⟨s, hs⟩ : ∃ s : Int, s = szI p q := ⟨_, rfl⟩
  have lp : bitLen p ≤ 5760 := bitLen_P hp.lt
  have lq : bitLen q ≤ 5760 := bitLen_P hq.lt
  have m1 : IntKind.i64.wrap ((bitLen p : Int) - (bitLen q : Int)) = s := by rw [IntKind.wrap_i64, hs]; unfold szI; omega
  have HS : Hid (s = szI p q ∧ -5760 ≤ s ∧ s ≤ 5760) := ⟨hs, by rw [hs]; unfold szI; omega, by rw [hs]; unfold szI; omega⟩
  have HH : Hid (RS p ∧ RS q ∧ 0 < q) := ⟨hp, hq, hq0⟩
  have HL : Hid (p ≠ 0 → 0 < bitLen p) := fun hh => bitLen_pos (by omega)
  clear h h' hp hq hq0 hs
  go_enter Tryz.func80, Tryz.ntmps80
  go_wp2_with fail
  refine (parts_any _ p q _ (S1.out.fr (.agg #[.slice a n c, .slice a' n' c']) p q) HH.out.2.1.fits).mono ?_
  rintro e w1 ⟨v1, u1, rfl, hv1, hu1, hb1⟩
  obtain ⟨a1, n1, c1, rfl⟩ := hv1.isAgg
  obtain ⟨a2, n2, c2, rfl⟩ := hu1.isAgg
  have S2 : Hid _ := ((((S1.out.go hb1).addN hv1).addN hu1).box1 (.slice a1 n1 c1) 45 _ rfl).box1 (.slice a2 n2 c2) 45 _ rfl
  simp only [World.size_alloc] at S2
  clear hv1 hu1 hb1 S1
  go_wp2_with fail
  obtain ⟨w2, hw2⟩ : ∃ w2, w2 = (w1.alloc (.cells #[.slice a1 n1 c1] 45)).alloc (.cells #[.slice a2 n2 c2] 45) := ⟨_, rfl⟩
  obtain ⟨g, hg⟩ : ∃ g, g = w1.heap.size := ⟨_, rfl⟩
  rw [← hw2, ← hg] at S2
  rw [← hw2, ← hg]
  clear hw2 hg
  refine wp_region_inv (JB w2 [sNat (p), sEq (.int .i64 ((bitLen p : Nat) : Int)), sNat (q), sEq (.int .i64 ((bitLen q : Nat) : Int)), sEq (.int .i64 s), sEq (.int .i64 s)] []) 71 (by kernel_rfl) rfl (by kernel_rfl) (JB.start _ _ _) (fun HG HN => ⟨?_, ?_, ?_, ?_, ?_, ?_, trivial⟩) ?_
  · intro L vs a w' hJ hF hP hL
    have q4 : (a.tmps[4]?).getD undef = .pointer (some ⟨g, 0, none⟩) := hF.old 4 rfl
    have cb := cell_later hJ.bel (S2.out.cell (g) (.slice a1 n1 c1))
    exact run_val (v := .agg #[.slice a1 n1 c1]) rfl (by simp [execOp, go_sem, q4, cb]) ⟨_, rfl, hJ.step hL rfl (Below.refl _ _) (by exact ((S2.out.at (.agg #[.slice a1 n1 c1]) (p)).mono hJ.bel))⟩
  · intro L vs a w' hJ hF hP hL
    have p0 : L 0 = true := hP ⟨0, .data⟩ (by simp) rfl
    have s0 : IsNat w' (vs 0) (p) := hJ.sp 0 p0
    have q18 := hF.slot 0 18 rfl p0
    refine run_call (f := 76) (args := #[vs 0]) rfl (by simp [go_sem, q18]) (len_any _ p _ s0 HH.out.1.fits) ?_
    rintro e w2 ⟨rfl, hb⟩
    exact ⟨_, rfl, _, rfl, hJ.step hL rfl hb (by exact rfl)⟩
  · intro L vs a w' hJ hF hP hL
    have q5 : (a.tmps[5]?).getD undef = .pointer (some ⟨g + 1, 0, none⟩) := hF.old 5 rfl
    have cb := cell_later hJ.bel (S2.out.cell (g + 1) (.slice a2 n2 c2))
    exact run_val (v := .agg #[.slice a2 n2 c2]) rfl (by simp [execOp, go_sem, q5, cb]) ⟨_, rfl, hJ.step hL rfl (Below.refl _ _) (by exact ((S2.out.at (.agg #[.slice a2 n2 c2]) (q)).mono hJ.bel))⟩
  · intro L vs a w' hJ hF hP hL
    have p2 : L 2 = true := hP ⟨2, .data⟩ (by simp) rfl
    have s2 : IsNat w' (vs 2) (q) := hJ.sp 2 p2
    have q20 := hF.slot 2 20 rfl p2
    refine run_call (f := 76) (args := #[vs 2]) rfl (by simp [go_sem, q20]) (len_any _ q _ s2 HH.out.2.1.fits) ?_
    rintro e w2 ⟨rfl, hb⟩
    exact ⟨_, rfl, _, rfl, hJ.step hL rfl hb (by exact rfl)⟩
  · intro L vs a w' hJ hF hP hL
    have p1 : L 1 = true := hP ⟨1, .data⟩ (by simp) rfl
    have s1 : vs 1 = .int .i64 ((bitLen p : Nat) : Int) := hJ.sp 1 p1
    have q19 := hF.slot 1 19 rfl p1
    have p3 : L 3 = true := hP ⟨3, .data⟩ (by simp) rfl
    have s3 : vs 3 = .int .i64 ((bitLen q : Nat) : Int) := hJ.sp 3 p3
    have q21 := hF.slot 3 21 rfl p3
    exact run_val (v := .int .i64 s) rfl (by simp [execOp, go_sem, q19, s1, q21, s3, m1]) ⟨_, rfl, hJ.step hL rfl (Below.refl _ _) (by exact rfl)⟩
  · intro L vs a w' hJ hF hP hL
    have p4 : L 4 = true := hP ⟨4, .data⟩ (by simp) rfl
    have s4 : vs 4 = .int .i64 s := hJ.sp 4 p4
    have q22 := hF.slot 4 22 rfl p4
    exact run_val (v := .int .i64 s) rfl (by simp [execOp, go_sem, q22, s4]) ⟨_, rfl, hJ.step hL rfl (Below.refl _ _) (by exact rfl)⟩
  intro L vs w' hA hJ
  have s5 : vs 5 = .int .i64 s := hJ.sp 5 (hA 5 (by simp))
  simp only [putL, Act.put, List.setIfInBounds_toArray, List.set_cons_zero, List.set_cons_succ, Nat.reduceAdd]
  simp only [s5]
  obtain ⟨w3, ew3⟩ : ∃ w3, w3 = w' := ⟨_, rfl⟩
  have S3 : Hid _ := S2.out.go (ew3 ▸ hJ.bel : Below w2.heap.size w2 w3)
  rw [← ew3]
  clear ew3 hJ hA s5 S2 m1 lp lq
  have k1 := S3.out.cel g 0 (.slice a1 n1 c1)
  go_wp2_with fail
  refine (len_any _ p _ (S3.out.at (.agg #[.slice a1 n1 c1]) p) HH.out.1.fits).mono ?_
  rintro e w4 ⟨rfl, hb4⟩
  have S4 : Hid _ := S3.out.go hb4
  clear hb4 S3 k1
  by_cases h0 : p = 0
  · have t1 : bitLen p = 0 := by rw [h0]; exact bitLen_zero
    have HV : Hid (tfV p q = 0 ∧ tfOk p q = true) := by constructor <;> simp [tfV, tfOk, h0]
    rw [t1]
    clear h0 t1
    go_wp2_with fail
    exact bodyPost_ret (v := .tuple #[.float .f64 (0), .bool true]) (by simp [results, Tryz.results80, go_sem]) rfl ⟨by rw [HV.out.1, HV.out.2], S4.out.bel⟩
  obtain ⟨l, hl⟩ : ∃ l, bitLen p = l := ⟨_, rfl⟩
  rw [hl]
  have t1 : ((l : Int) == 0) = false := by have := HL.out h0; simp; omega
  have t2 : decide ((l : Int) = 0) = false := by have := HL.out h0; exact decide_eq_false (by omega)
  have HP : Hid (0 < p) := by show _ < _; omega
  clear h0 hl HL
  by_cases h1 : s < -1075
  · have t3 : decide (s < -1075) = true := decide_eq_true h1
    have HV : Hid (tfV p q = 0 ∧ tfOk p q = true) := tf_low HP.out HH.out.2.2 (by rw [← HS.out.1]; exact h1)
    clear h1
    go_wp2_with fail
    exact bodyPost_ret (v := .tuple #[.float .f64 (0), .bool true]) (by simp [results, Tryz.results80, go_sem]) rfl ⟨by rw [HV.out.1, HV.out.2], S4.out.bel⟩
  have t3 : decide (s < -1075) = false := decide_eq_false h1
  by_cases h2 : 1024 < s
  · have t4 : decide (1024 < s) = true := decide_eq_true h2
    have HV : Hid (tfV p q = 0 ∧ tfOk p q = false) := tf_high HP.out HH.out.2.2 (by rw [← HS.out.1]; exact h2)
    clear h1 h2
    go_wp2_with fail
    exact bodyPost_ret (v := .tuple #[.float .f64 (0), .bool false]) (by simp [results, Tryz.results80, go_sem]) rfl ⟨by rw [HV.out.1, HV.out.2], S4.out.bel⟩
  have t4 : decide (1024 < s) = false := decide_eq_false h2
  have HB : Hid (-1075 ≤ s ∧ s ≤ 1024) := ⟨by omega, by omega⟩
  have k1 := S4.out.cel g 0 (.slice a1 n1 c1)
  have k2 := S4.out.cel (g + 1) 0 (.slice a2 n2 c2)
  clear h1 h2
  go_wp2_with fail
  refine (inUnits_any _ _ p q s _ (S4.out.at (.agg #[.slice a1 n1 c1]) p) (S4.out.at (.agg #[.slice a2 n2 c2]) q) HH.out.1.fits HH.out.2.1.fits (by have := HB.out; omega) (by have := HB.out; omega)).mono ?_
  rintro e w5 ⟨v5, u5, rfl, hv5, hu5, hb5⟩
  obtain ⟨a5, n5, c5, rfl⟩ := hv5.isAgg
  obtain ⟨a6, n6, c6, rfl⟩ := hu5.isAgg
  have S5 : Hid _ := ((((S4.out.go hb5).addN hv5).addN hu5).box1 (.slice a5 n5 c5) 45 _ rfl).box1 (.slice a6 n6 c6) 45 _ rfl
  simp only [World.size_alloc] at S5
  clear hv5 hu5 hb5 S4 k1 k2
  go_wp2_with fail
  obtain ⟨w6, hw6⟩ : ∃ w6, w6 = (w5.alloc (.cells #[.slice a5 n5 c5] 45)).alloc (.cells #[.slice a6 n6 c6] 45) := ⟨_, rfl⟩
  rw [← hw6] at S5
  rw [← hw6]
  clear hw6
  obtain ⟨z, hz⟩ : ∃ z, cmpI (upN p s) (dnN q s) = z := ⟨_, rfl⟩
  obtain ⟨f, hf⟩ : ∃ f : Int, f = flI p q s := ⟨_, rfl⟩
  obtain ⟨u, hu⟩ : ∃ u : Int, u = unI f := ⟨_, rfl⟩
  have HF : Hid (f = flI p q s ∧ u = unI f ∧ (z < 0 ↔ upN p s < dnN q s) ∧ cmpI (upN p s) (dnN q s) = z) := ⟨hf, hu, by rw [← hz]; unfold cmpI; split <;> (try split) <;> omega, hz⟩
  have SU : Hid (upN p s < P 107 ∧ dnN q s < P 107) := ⟨up_P (n := 90) (m := 17) HH.out.1.lt (by have := HB.out; omega) (by omega), dn_P (n := 90) (m := 17) HH.out.2.1.lt (by have := HB.out; omega) (by omega)⟩
  clear hz hf hu
  refine (cmp_z _ _ (upN p s) (dnN q s) z _ (S5.out.at (.agg #[.slice a5 n5 c5]) (upN p s)) (S5.out.at (.agg #[.slice a6 n6 c6]) (dnN q s)) (fits_P SU.out.1 (by omega)) (fits_P SU.out.2 (by omega)) HF.out.2.2.2).mono ?_
  rintro e w7 ⟨rfl, hb7⟩
  have S7 : Hid _ := S5.out.go hb7
  clear hb7 S5 SU
  have hAt := sz_at HP.out HH.out.2.2
  rw [← HS.out.1, ← HF.out.1] at hAt
  have hfb := flI_le p q s
  rw [← HF.out.1] at hfb
  have hub : -1074 ≤ u ∧ u ≤ 972 := by rw [HF.out.2.1]; have := HB.out; unfold unI; split <;> omega
  have hct := hAt.ct HH.out.2.2
  rw [← HF.out.2.1] at hct
  obtain ⟨ct, ect⟩ : ∃ ct, ct = ctN p q u := ⟨_, rfl⟩
  rw [← ect] at hct
  obtain ⟨B, hB⟩ : ∃ B : Nat, B = (u + 1074).toNat * 4503599627370496 + ct := ⟨_, rfl⟩
  have hTB : tfB p q = B := by unfold tfB bitsAt; rw [← HS.out.1, ← HF.out.1, ← HF.out.2.1, ← ect, ← hB]
  have k1 := S7.out.cel g 0 (.slice a1 n1 c1)
  have k2 := S7.out.cel (g + 1) 0 (.slice a2 n2 c2)
  have g1 : wrap64 (f - 52) = f - 52 := IntWalk.wrap64_in _ ⟨by have := HB.out; omega, by have := HB.out; omega⟩
  have g2 : (if f - 52 < -1074 then (-1074 : Int) else f - 52) = u := by rw [HF.out.2.1]; rfl
  have g3 : max (f - 52) (-1074) = u := by rw [HF.out.2.1]; unfold unI; split <;> omega
  obtain ⟨x, hx⟩ : ∃ x : Nat, x = (u + 1074).toNat := ⟨_, rfl⟩
  obtain ⟨y, hy⟩ : ∃ y : Nat, y = x * 4503599627370496 := ⟨_, rfl⟩
  have hyB : y + ct = B := by rw [hB, ← hx, hy]
  have hx2 : x ≤ 2046 := by omega
  have hyl : y ≤ 9214364837600034816 := by omega
  obtain ⟨g4, g5, g6, g8⟩ := tf_rules (u := u) hx hy hyB hub.1 hx2 hct
  have HC : Hid (ct < 18446744073709551616 ∧ upN p u < P 107 ∧ dnN q u < P 107 ∧ 0 < dnN q u ∧ -16777216 ≤ u ∧ u ≤ 16777216 ∧ ct = nearN (upN p u) (dnN q u) ∧ tfB p q = B) := ⟨by omega, up_P (n := 90) (m := 17) HH.out.1.lt (by omega) (by omega), dn_P (n := 90) (m := 17) HH.out.2.1.lt (by omega) (by omega), dnN_pos HH.out.2.2 u, by omega, by omega, ect, hTB⟩
  have HG : Hid (wrap64 (f - 52) = f - 52) := g1
  clear hAt hfb hub hct ect hTB hx hx2 hB g1 hy hyB hyl
  by_cases h3 : z < 0
  · have t5 : decide (z < 0) = true := decide_eq_true h3
    have t6 : wrap64 (s - 1) = f := by rw [IntWalk.wrap64_in _ ⟨by have := HB.out; omega, by have := HB.out; omega⟩, HF.out.1]; unfold flI; rw [if_pos (HF.out.2.2.1.1 h3)]
    have g1 := HG.out
    clear h3
    go_wp2_with fail
    refine (inUnits_any _ _ p q u _ (S7.out.at (.agg #[.slice a1 n1 c1]) p) (S7.out.at (.agg #[.slice a2 n2 c2]) q) HH.out.1.fits HH.out.2.1.fits HC.out.2.2.2.2.1 HC.out.2.2.2.2.2.1).mono ?_
    rintro e w8 ⟨v8, u8, rfl, hv8, hu8, hb8⟩
    have S8 : Hid _ := (((S7.out.go hb8).addN hv8).addN hu8)
    clear hv8 hu8 hb8 S7 k1 k2
    go_wp2_with fail
    refine (nearest_any v8 u8 (upN p u) (dnN q u) _ (S8.out.at v8 (upN p u)) (S8.out.at u8 (dnN q u)) (P_up HC.out.2.1 (by omega)) (P_up HC.out.2.2.1 (by omega)) HC.out.2.2.2.1).mono ?_
    rintro e w9 ⟨v9, rfl, hv9, hb9⟩
    rw [← HC.out.2.2.2.2.2.2.1] at hv9
    have S9 : Hid _ := (S8.out.go hb9).addN hv9
    clear hv9 hb9 S8
    go_wp2_with fail
    refine (uint_yes v9 ct _ (S9.out.at v9 ct) HC.out.1).mono ?_
    rintro e w10 ⟨rfl, hb10⟩
    have S10 : Hid _ := S9.out.go hb10
    clear hb10 S9
    by_cases h3 : B < 9218868437227405312
    · have t5 : decide (9218868437227405312 ≤ B) = false := decide_eq_false (by omega)
      have t6 : decide ((9218868437227405312 : Int) ≤ (B : Int)) = false := decide_eq_false (by omega)
      have HV : Hid (tfV p q = B ∧ tfOk p q = true) := by have := tf_in (q := q) HP.out (by rw [HC.out.2.2.2.2.2.2.2]; exact h3); rw [HC.out.2.2.2.2.2.2.2] at this; exact this
      clear h3
      go_wp2_with fail
      refine (float_any B _).mono ?_
      rintro e w11 ⟨rfl, hw11⟩
      rw [hw11]
      clear hw11
      go_wp2_with fail
      exact bodyPost_ret (v := .tuple #[.float .f64 (B), .bool true]) (by simp [results, Tryz.results80, go_sem]) rfl ⟨by rw [HV.out.1, HV.out.2], S10.out.bel⟩
            
    have t5 : decide (9218868437227405312 ≤ B) = true := decide_eq_true (by omega)
    have t6 : decide ((9218868437227405312 : Int) ≤ (B : Int)) = true := decide_eq_true (by omega)
    have HV : Hid (tfV p q = 0 ∧ tfOk p q = false) := tf_over HP.out (by rw [HC.out.2.2.2.2.2.2.2]; exact h3)
    clear h3
    go_wp2_with fail
    exact bodyPost_ret (v := .tuple #[.float .f64 (0), .bool false]) (by simp [results, Tryz.results80, go_sem]) rfl ⟨by rw [HV.out.1, HV.out.2], S10.out.bel⟩
            
  have t5 : decide (z < 0) = false := decide_eq_false h3
  obtain rfl : f = s := by rw [HF.out.1]; unfold flI; rw [if_neg (fun hh => h3 (HF.out.2.2.1.2 hh))]
  have g1 := HG.out
  clear h3
  go_wp2_with fail
  refine (inUnits_any _ _ p q u _ (S7.out.at (.agg #[.slice a1 n1 c1]) p) (S7.out.at (.agg #[.slice a2 n2 c2]) q) HH.out.1.fits HH.out.2.1.fits HC.out.2.2.2.2.1 HC.out.2.2.2.2.2.1).mono ?_
  rintro e w8 ⟨v8, u8, rfl, hv8, hu8, hb8⟩
  have S8 : Hid _ := (((S7.out.go hb8).addN hv8).addN hu8)
  clear hv8 hu8 hb8 S7 k1 k2
  go_wp2_with fail
  refine (nearest_any v8 u8 (upN p u) (dnN q u) _ (S8.out.at v8 (upN p u)) (S8.out.at u8 (dnN q u)) (P_up HC.out.2.1 (by omega)) (P_up HC.out.2.2.1 (by omega)) HC.out.2.2.2.1).mono ?_
  rintro e w9 ⟨v9, rfl, hv9, hb9⟩
  rw [← HC.out.2.2.2.2.2.2.1] at hv9
  have S9 : Hid _ := (S8.out.go hb9).addN hv9
  clear hv9 hb9 S8
  go_wp2_with fail
  refine (uint_yes v9 ct _ (S9.out.at v9 ct) HC.out.1).mono ?_
  rintro e w10 ⟨rfl, hb10⟩
  have S10 : Hid _ := S9.out.go hb10
  clear hb10 S9
  by_cases h3 : B < 9218868437227405312
  · have t5 : decide (9218868437227405312 ≤ B) = false := decide_eq_false (by omega)
    have t6 : decide ((9218868437227405312 : Int) ≤ (B : Int)) = false := decide_eq_false (by omega)
    have HV : Hid (tfV p q = B ∧ tfOk p q = true) := by have := tf_in (q := q) HP.out (by rw [HC.out.2.2.2.2.2.2.2]; exact h3); rw [HC.out.2.2.2.2.2.2.2] at this; exact this
    clear h3
    go_wp2_with fail
    refine (float_any B _).mono ?_
    rintro e w11 ⟨rfl, hw11⟩
    rw [hw11]
    clear hw11
    go_wp2_with fail
    exact bodyPost_ret (v := .tuple #[.float .f64 (B), .bool true]) (by simp [results, Tryz.results80, go_sem]) rfl ⟨by rw [HV.out.1, HV.out.2], S10.out.bel⟩
            
  have t5 : decide (9218868437227405312 ≤ B) = true := decide_eq_true (by omega)
  have t6 : decide ((9218868437227405312 : Int) ≤ (B : Int)) = true := decide_eq_true (by omega)
  have HV : Hid (tfV p q = 0 ∧ tfOk p q = false) := tf_over HP.out (by rw [HC.out.2.2.2.2.2.2.2]; exact h3)
  clear h3
  go_wp2_with fail
  exact bodyPost_ret (v := .tuple #[.float .f64 (0), .bool false]) (by simp [results, Tryz.results80, go_sem]) rfl ⟨by rw [HV.out.1, HV.out.2], S10.out.bel⟩
            
set_option maxHeartbeats 2000000 in
theorem near_any (v : Value) (p q : Nat) (w : World) (h : Rt w v p q) (hp : RS p) (hq : RS q) :
    Calls Tryz.prog 50 #[v] w fun e w' => e = .returned (.float .f64 (tfV p q)) ∧ Below w.heap.size w w' := by
  obtain ⟨a, n, c, a', n', c', rfl⟩ := rt_slices h
  have bl := bel_al (o := .cells #[.slice a n c, .slice a' n' c'] 47) (bel_refl w)
  have cT : Hid (Calls Tryz.prog 80 #[.agg #[.slice a n c, .slice a' n' c']] (w.alloc (.cells #[.slice a n c, .slice a' n' c'] 47)) fun e w' => e = .returned (.tuple #[.float .f64 (tfV p q), .bool (tfOk p q)]) ∧ Below (w.alloc (.cells #[.slice a n c, .slice a' n' c'] 47)).heap.size (w.alloc (.cells #[.slice a n c, .slice a' n' c'] 47)) w') := toFloat_any _ p q _ (h.mono bl) hp hq h.pos
  have B1 : Hid _ := bl
  clear h hp hq bl
  go_enter Tryz.func50, Tryz.ntmps50
  go_wp2_with fail
  refine cT.out.mono ?_
  rintro e w1 ⟨rfl, hb⟩
  go_wp2_with fail
  go_ret
  exact ⟨rfl, bel_go B1.out hb⟩
set_option maxHeartbeats 2000000 in
theorem gwhole_any (k : Nat) (w : World) (hk : k ≤ 9223372036854775807) (hT : Tab w) : Calls Tryz.prog 49 #[.int .i64 (k : Int)] w (MakesR w k 1) := by
  have S0 : Hid _ := (sx_start w).box (.slice none 0 0) (.slice none 0 0) 47 _ rfl
  obtain ⟨w0, hw0⟩ : ∃ w0, w0 = w.alloc (.cells #[.slice none 0 0, .slice none 0 0] 47) := ⟨_, rfl⟩
  have f6 : w0.frozen? ⟨w.heap.size, 0, none⟩ = false := by rw [hw0]; simp [go_sem]
  have f7 : w0.frozen? ⟨w.heap.size, 1, none⟩ = false := by rw [hw0]; simp [go_sem]
  rw [← hw0] at S0
  have cO : Hid (Calls Tryz.prog 20 #[.int .i64 (k : Int), .int .i64 1] w0 (MakesRB w0 k 1 true)) := by
    have h := ratOf_yes k 1 w0 hk (by omega) (by omega) (hT.go S0.out.bel)
    rw [Nat.gcd_one_right, Nat.div_one] at h
    exact h
  clear hT
  go_enter Tryz.func49, Tryz.ntmps49
  go_wp2_with fail
  rw [← hw0]
  obtain ⟨b, hb⟩ : ∃ b, b = w.heap.size := ⟨_, rfl⟩
  have HB : Hid (w.heap.size ≤ b) := by show _ ≤ _; omega
  rw [← hb] at S0 f6 f7
  rw [← hb]
  clear hw0 hb
  refine cO.out.mono ?_
  rintro e w1 ⟨v, rfl, hv, hb⟩
  obtain ⟨a, n, c, a', n', c', rfl⟩ := rt_slices hv
  have S1 : Hid _ := ((S0.out.go hb).addF hv).box (.slice a n c) (.slice a' n' c') 47 _ rfl
  have bl := bel_al (o := .cells #[.slice a n c, .slice a' n' c'] 47) (bel_refl w1)
  have y0 := S1.out.cel b 0 (.slice none 0 0)
  have y1 := S1.out.cel b 1 (.slice none 0 0)
  have g6 := ((bel_go hb bl).frozen (World.block_lt_of_cell? _ _ (S0.out.cel b 0 (.slice none 0 0)))).trans f6
  have g7 := ((bel_go hb bl).frozen (World.block_lt_of_cell? _ _ (S0.out.cel b 1 (.slice none 0 0)))).trans f7
  have Z : Hid _ := rat_put (w0 := w) (v := .slice a n c) (u := .slice a' n' c') y0 y1 (S1.out.fr (.agg #[.slice a n c, .slice a' n' c']) k 1) S1.out.bel HB.out
  clear hb hv bl S0 f6 f7 HB
  obtain ⟨c3, hc3⟩ : ∃ c3, c3 = w1.heap.size := ⟨_, rfl⟩
  have l0 := S1.out.cel w1.heap.size 0 (.slice a n c)
  have l1 := S1.out.cel w1.heap.size 1 (.slice a' n' c')
  clear S1
  go_wp2_with fail
  exact bodyPost_ret (v := .agg #[.slice a n c, .slice a' n' c']) (by simp [results, Tryz.results49, go_sem, y0, y1]) rfl ⟨_, rfl, Z.out.1, Z.out.2⟩
end Go.Proofs.YtfkkomppfghagaaGreatDoor
