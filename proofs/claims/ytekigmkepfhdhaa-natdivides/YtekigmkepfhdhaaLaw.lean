/- What the laws share: cut; a slice of bytes that came in. -/
import Derived.Test.YtekigmkepfhdhaaStarted
namespace Go.Proofs.Ytekigmkepfhdhaa
open Go.RowKit
set_option maxRecDepth 100000
set_option linter.unusedVariables false
set_option maxHeartbeats 1000000 in
theorem cut_any (a : Option Addr) (len cap : Nat) (D : Nat → Nat) (w : World) (h : BSl w a len cap D) :
    Calls Try.prog 9 #[.slice a len cap] w fun e w' => (∃ n, e = .returned (.slice a n cap) ∧ BSl w a n cap D ∧ n ≤ 600) ∧ w' = w := by
  have hl2 : (len : Int) ≤ 9223372036854775807 := by have := h.1; have := h.2.1; omega
  by_cases hl : 600 < len
  · obtain ⟨b, o, rfl, hw⟩ : ∃ b o, a = some ⟨b, o, none⟩ ∧ ∀ i, i < len → w.cell? ⟨b, o + i, none⟩ = some (.int .u8 (D i : Nat)) := h.2.2.2.resolve_left (by omega)
    have sl : ∀ w, (Instr.slice 23 (.slice (some ⟨b, o, none⟩) len cap) none (some (.int .i64 600)) none).run Try.prog w = .ok (.slice (some ⟨b, o, none⟩) 600 cap) w := slice_bh b o len cap 600 (by have := h.1; omega)
    have hcz : ¬ cap = 0 := by have := h.1; omega
    have hcz2 : (600 : Int) ≤ cap := by have := h.1; omega
    have haz : (⟨b, o, none⟩ : Addr).add 0 = ⟨b, o, none⟩ := by simp [Addr.add]
    have hd : decide (600 < (len : Int)) = true := decide_eq_true (by omega)
    have HH : Hid (BSl w (some ⟨b, o, none⟩) 600 cap D) := ⟨by have := h.1; omega, h.2.1, fun i hi => h.2.2.1 i (by omega), .inr ⟨b, o, rfl, fun i hi => hw i (by omega)⟩⟩
    clear h hw
    go_enter Try.func9, Try.ntmps9
    go_wp2_with fail
    go_ret
    exact ⟨⟨600, rfl, HH.out, Nat.le_refl _⟩, rfl⟩
  · have hd : decide (600 < (len : Int)) = false := decide_eq_false (by omega)
    have HH : Hid (BSl w a len cap D) := h
    clear h
    go_enter Try.func9, Try.ntmps9
    go_wp2_with fail
    go_ret
    exact ⟨⟨len, rfl, HH.out, by omega⟩, rfl⟩
theorem BV_lt {D : Nat → Nat} : ∀ {n : Nat}, (∀ i, i < n → D i < 256) → BV D n < 256 ^ n
  | 0, _ => by simp [BV]
  | n + 1, h => by
    have h1 := BV_lt (n := n) fun i hi => h i (by omega)
    have h2 := h n (by omega)
    rw [BV, Nat.pow_succ]
    omega
theorem BV_P' {D : Nat → Nat} {n k : Nat} (hD : ∀ i, i < n → D i < 256) (hn : n ≤ 8 * k) : BV D n < P k := by
  refine Nat.lt_of_lt_of_le (BV_lt hD) ?_
  rw [P_256]
  exact Nat.pow_le_pow_right (by omega) hn
theorem BV_P {D : Nat → Nat} {n : Nat} (hD : ∀ i, i < n → D i < 256) (hn : n ≤ 600) : BV D n < P 75 := BV_P' hD (by omega)
/-- A number of at most 600 bytes. -/
structure Mid (x : Nat) : Prop where
  lt : x < P 75
theorem Mid.tx {x : Nat} (h : Mid x) : Tx x := ⟨Nat.lt_trans h.lt (P_lt (by omega))⟩
theorem Mid.fits {x : Nat} (h : Mid x) : Fits x := h.tx.fits
theorem Mid.small {x : Nat} (h : Mid x) : Small x := h.tx.small
theorem Mid.p99 {x : Nat} (h : Mid x) : x < P 99 := Nat.lt_trans h.lt (P_lt (by omega))
theorem Mid.le {x y : Nat} (h : Mid x) (hy : y ≤ x) : Mid y := ⟨Nat.lt_of_le_of_lt hy h.lt⟩
/-- A number of at most 1,200 bytes. -/
theorem Mid.mul {x y : Nat} (h : Mid x) (k : Mid y) : x * y < P 150 := by
  rw [show 150 = 75 + 75 from rfl, P_add]
  exact Nat.mul_lt_mul'' h.lt k.lt
theorem Mid.add {x y : Nat} (h : Mid x) (k : Mid y) : x + y < P 76 := by
  have h1 := h.lt
  have h2 := k.lt
  rw [show 76 = 75 + 1 from rfl, P_succ]
  have := P_pos 75
  omega
theorem tx_of {x n : Nat} (h : x < P n) (hn : n ≤ 225) : Tx x := ⟨Nat.lt_of_lt_of_le h (P_le hn)⟩
theorem ite_no {c : Prop} [Decidable c] {A B : Prop} (h : ¬ c) (hb : B) : if c then A else B := by rw [if_neg h]; exact hb
/-- A number lies in a variable of its own. -/
def OneVar (w2 wx : World) (Q : Nat) (p : Value) : Prop := ∃ (bp : Nat) (a5 : Option Addr) (n5 c5 : Nat), p = .pointer (some ⟨bp, 0, none⟩) ∧ wx.cell? ⟨bp, 0, none⟩ = some (.slice a5 n5 c5) ∧ IsNat wx (.agg #[.slice a5 n5 c5]) Q ∧ Below w2.heap.size w2 wx ∧ w2.heap.size ≤ bp
/-- What is known of a world: numbers, boxes, and that what was is as it was. -/
structure St (w0 w : World) (N : List (Value × Nat)) (C : List (Nat × Value)) : Prop where
  nats : ∀ p ∈ N, IsNat w p.1 p.2
  cells : ∀ p ∈ C, w.cell? ⟨p.1, 0, none⟩ = some p.2
  bel : Below w0.heap.size w0 w
theorem St.go {w0 w w' : World} {N : List (Value × Nat)} {C : List (Nat × Value)} (h : St w0 w N C) (hb : Below w.heap.size w w') : St w0 w' N C :=
  ⟨fun p hp => (h.nats p hp).mono hb, fun p hp => cell_later hb (h.cells p hp), bel_go h.bel hb⟩
theorem St.at {w0 w : World} {N : List (Value × Nat)} {C : List (Nat × Value)} (h : St w0 w N C) (v : Value) (x : Nat) (hm : (v, x) ∈ N := by simp) : IsNat w v x := h.nats _ hm
theorem St.cell {w0 w : World} {N : List (Value × Nat)} {C : List (Nat × Value)} (h : St w0 w N C) (b : Nat) (u : Value) (hm : (b, u) ∈ C := by simp) : w.cell? ⟨b, 0, none⟩ = some u := h.cells _ hm
theorem bitLen_zero : bitLen 0 = 0 := by simp [bitLen]
theorem bitLen_pos {x : Nat} (h : 0 < x) : 0 < bitLen x := by
  rcases Nat.eq_zero_or_pos (bitLen x) with e | e
  · have := bitLen_lt x
    rw [e] at this
    omega
  · exact e
theorem St.god {w0 w w' : World} {N : List (Value × Nat)} {C : List (Nat × Value)} (h : St w0 w N C) (hb : Below w.drew.heap.size w.drew w') : St w0 w' N C := h.go (bel_undrew hb)
theorem St.nat {w0 w : World} {N : List (Value × Nat)} {C : List (Nat × Value)} (h : St w0 w N C) {v : Value} {x : Nat} (hp : IsNat w v x) : St w0 w ((v, x) :: N) C :=
  ⟨fun p hp' => by
    rcases List.mem_cons.1 hp' with e | e
    · subst e; exact hp
    · exact h.nats p e, h.cells, h.bel⟩
theorem St.box {w0 w : World} {N : List (Value × Nat)} {C : List (Nat × Value)} (h : St w0 w N C) (u : Value) (t : TypeId) (g : Nat) (hg : g = w.heap.size) : St w0 (w.alloc (.cells #[u] t)) N ((g, u) :: C) := by
  subst hg
  have h' := h.go (w' := w.alloc (.cells #[u] t)) (bel_al (Below.refl _ _))
  refine ⟨h'.nats, fun p hp => ?_, h'.bel⟩
  rcases List.mem_cons.1 hp with e | e
  · subst e
    simp
  · exact h'.cells p e
end Go.Proofs.Ytekigmkepfhdhaa
