/- Contracts of the program's functions, part 17: own work, joined in build order. -/
import Derived.Test.YtmiiaomdenpceaaGreatDoorJ16
namespace Go.Proofs.YtmiiaomdenpceaaGreatDoor
open Go.RowKit
set_option maxRecDepth 100000
set_option linter.unusedVariables false
/-- An invariant: while the answer is not stored, all is as without boxes; once it is, all else is done. -/
structure JD (w0 : World) (specs : List Spec) (needs : List (List Nat)) (st val : Nat) (oth : List Nat) (Sto : World → Value → World → Prop) (L : Nat → Bool) (vs : Nat → Value) (w : World) : Prop where
  core : L st = false → JB w0 specs [] L vs w
  cl : ∀ j, L j = true → ∀ k ∈ needs.getD j [], L k = true
  fin : L st = true → (∀ j ∈ oth, L j = true) ∧ ∃ w1, Below w0.heap.size w0 w1 ∧ (specs.getD val sAny).1 w1 (vs val) ∧ Sto w1 (vs val) w
theorem JD.start (w : World) (specs : List Spec) (needs : List (List Nat)) (st val : Nat) (oth : List Nat) (Sto : World → Value → World → Prop) : JD w specs needs st val oth Sto (fun _ => false) (fun _ => undef) w.drew :=
  ⟨fun _ => JB.start _ _ _, (fun _ h => by cases h), (fun h => by cases h)⟩
theorem nd_nil {L : Nat → Bool} : ∀ k ∈ ([] : List Nat), L k = true := fun _ h => by cases h
theorem nd_cons {L : Nat → Bool} {a : Nat} {l : List Nat} (h : L a = true) (k : ∀ j ∈ l, L j = true) : ∀ j ∈ a :: l, L j = true := fun j hj => by
  rcases List.mem_cons.1 hj with e | e
  · rw [e]; exact h
  · exact k j e
theorem JD.open {w0 : World} {specs : List Spec} {needs : List (List Nat)} {st val : Nat} {oth : List Nat} {Sto : World → Value → World → Prop} {L : Nat → Bool} {vs : Nat → Value} {w : World} (h : JD w0 specs needs st val oth Sto L vs w) {i : Nat} (hL : L i = false) (hi : i ∈ oth) : JB w0 specs [] L vs w :=
  h.core (by
    cases e : L st
    · rfl
    · have := (h.fin e).1 i hi
      rw [hL] at this
      cases this)
theorem JD.step {w0 : World} {specs : List Spec} {needs : List (List Nat)} {st val : Nat} {oth : List Nat} {Sto : World → Value → World → Prop} {L : Nat → Bool} {vs : Nat → Value} {w : World} (h : JD w0 specs needs st val oth Sto L vs w) {i : Nat} (hL : L i = false) (hi : i ∈ oth) (hne : i ≠ st) {nd : List Nat} (he : needs.getD i [] = nd) (hn : ∀ k ∈ nd, L k = true) {v : Value} {w' : World} (k : JB w0 specs [] (updB L i) (updV vs i v) w') : JD w0 specs needs st val oth Sto (updB L i) (updV vs i v) w' := by
  refine ⟨fun _ => k, fun j hj m hm => ?_, fun hs => ?_⟩
  · by_cases e : j = i
    · subst e
      rw [he] at hm
      have := hn m hm
      unfold updB; split <;> simp_all
    · have := h.cl j (by simpa [updB, e] using hj) m hm
      unfold updB; split <;> simp_all
  · have hs' : L st = true := by simpa [updB, hne.symm] using hs
    have := (h.fin hs').1 i hi
    rw [hL] at this
    cases this
theorem JD.put {w0 : World} {specs : List Spec} {needs : List (List Nat)} {st val : Nat} {oth : List Nat} {Sto : World → Value → World → Prop} {L : Nat → Bool} {vs : Nat → Value} {w : World} (h : JD w0 specs needs st val oth Sto L vs w) (hL : L st = false) (hv : val ≠ st) {nd : List Nat} (he : needs.getD st [] = nd) (hn : ∀ k ∈ nd, L k = true) (ho : ∀ j ∈ oth, L j = true) (hV : L val = true) {w' : World} (hs : Sto w (vs val) w') : JD w0 specs needs st val oth Sto (updB L st) (updV vs st undef) w' := by
  have J := h.core hL
  refine ⟨fun e => ?_, fun j hj m hm => ?_, fun _ => ⟨fun j hj => ?_, w, J.bel, ?_, ?_⟩⟩
  · simp [updB] at e
  · by_cases e : j = st
    · subst e
      rw [he] at hm
      have := hn m hm
      unfold updB; split <;> simp_all
    · have := h.cl j (by simpa [updB, e] using hj) m hm
      unfold updB; split <;> simp_all
  · have := ho j hj
    unfold updB; split <;> simp_all
  · have : updV vs st undef val = vs val := by simp [updV, hv]
    rw [this]
    exact J.sp val hV
  · have : updV vs st undef val = vs val := by simp [updV, hv]
    rw [this]
    exact hs
end Go.Proofs.YtmiiaomdenpceaaGreatDoor

namespace Go.Proofs.YtmiiaomdenpceaaGreatDoor
open Go.RowKit
set_option maxRecDepth 100000
set_option linter.unusedVariables false
/-- What is known of a world; Z: blocks of ours that may be written. -/
structure SY (w0 w : World) (N M : List (Value × Nat)) (F G : List (Value × Nat × Nat)) (C : List (Nat × Nat × Value)) (Z : List Nat) : Prop where
  sx : SX w0 w N M F G C
  fzs : ∀ b ∈ Z, (∀ i, w.frozen? ⟨b, i, none⟩ = false) ∧ w0.heap.size ≤ b ∧ b < w.heap.size
/-- One cell of a box takes the answer. -/
def Sto1 (R : Nat) (w : World) (v : Value) (w' : World) : Prop := ∃ u, v = .agg #[u] ∧ w' = w.setCell ⟨R, 0, none⟩ u
section
variable {w0 w : World} {N M : List (Value × Nat)} {F G : List (Value × Nat × Nat)} {C : List (Nat × Nat × Value)} {Z : List Nat}
theorem sy_start (w : World) : SY w w [] [] [] [] [] [] := ⟨sx_start w, fun _ h => by cases h⟩
theorem SY.bel (h : SY w0 w N M F G C Z) : Below w0.heap.size w0 w := h.sx.bel
theorem SY.go (h : SY w0 w N M F G C Z) {w' : World} (hb : Below w.heap.size w w') : SY w0 w' N M F G C Z :=
  ⟨h.sx.go hb, fun b hz => ⟨fun i => (hb.frozen (p := ⟨b, i, none⟩) (h.fzs b hz).2.2).trans ((h.fzs b hz).1 i), (h.fzs b hz).2.1, Nat.lt_of_lt_of_le (h.fzs b hz).2.2 hb.size⟩⟩
theorem SY.at (h : SY w0 w N M F G C Z) (v : Value) (x : Nat) (hm : (v, x) ∈ N := by simp) : IsNat w v x := h.sx.nats _ hm
theorem SY.rat (h : SY w0 w N M F G C Z) (v : Value) (x : Nat) (hm : (v, x) ∈ M := by simp) : RNat w v x := h.sx.rnats _ hm
theorem SY.fr (h : SY w0 w N M F G C Z) (v : Value) (p q : Nat) (hm : (v, p, q) ∈ F := by simp) : Rt w v p q := h.sx.frs _ hm
theorem SY.rfr (h : SY w0 w N M F G C Z) (v : Value) (p q : Nat) (hm : (v, p, q) ∈ G := by simp) : RRt w v p q := h.sx.rfrs _ hm
theorem SY.cel (h : SY w0 w N M F G C Z) (b i : Nat) (u : Value) (hm : (b, i, u) ∈ C := by simp) : w.cell? ⟨b, i, none⟩ = some u := h.sx.cells _ hm
theorem SY.cell (h : SY w0 w N M F G C Z) (b : Nat) (u : Value) (hm : (b, 0, u) ∈ C := by simp) : w.cell? ⟨b, 0, none⟩ = some u := h.sx.cells _ hm
theorem SY.fz (h : SY w0 w N M F G C Z) (b i : Nat) (hm : b ∈ Z := by simp) : w.frozen? ⟨b, i, none⟩ = false := (h.fzs b hm).1 i
theorem SY.lo (h : SY w0 w N M F G C Z) (b : Nat) (hm : b ∈ Z := by simp) : w0.heap.size ≤ b := (h.fzs b hm).2.1
theorem SY.lt (h : SY w0 w N M F G C Z) (b : Nat) (hm : b ∈ Z := by simp) : b < w.heap.size := (h.fzs b hm).2.2
theorem SY.addN (h : SY w0 w N M F G C Z) {v : Value} {x : Nat} (hv : IsNat w v x) : SY w0 w ((v, x) :: N) M F G C Z := ⟨h.sx.addN hv, h.fzs⟩
theorem SY.addM (h : SY w0 w N M F G C Z) {v : Value} {x : Nat} (hv : RNat w v x) : SY w0 w N ((v, x) :: M) F G C Z := ⟨h.sx.addM hv, h.fzs⟩
theorem SY.addF (h : SY w0 w N M F G C Z) {v : Value} {x y : Nat} (hv : Rt w v x y) : SY w0 w N M ((v, x, y) :: F) G C Z := ⟨h.sx.addF hv, h.fzs⟩
theorem SY.addG (h : SY w0 w N M F G C Z) {v : Value} {x y : Nat} (hv : RRt w v x y) : SY w0 w N M F ((v, x, y) :: G) C Z := ⟨h.sx.addG hv, h.fzs⟩
theorem SY.addC (h : SY w0 w N M F G C Z) {b i : Nat} {v : Value} (hv : w.cell? ⟨b, i, none⟩ = some v) : SY w0 w N M F G ((b, i, v) :: C) Z := ⟨h.sx.addC hv, h.fzs⟩
theorem SY.addZ (h : SY w0 w N M F G C Z) {b : Nat} (hv : ∀ i, w.frozen? ⟨b, i, none⟩ = false) (h1 : w0.heap.size ≤ b) (h2 : b < w.heap.size) : SY w0 w N M F G C (b :: Z) :=
  ⟨h.sx, fun x hx => by
    rcases List.mem_cons.1 hx with e | e
    · subst e; exact ⟨hv, h1, h2⟩
    · exact h.fzs x e⟩
theorem SY.box1 (h : SY w0 w N M F G C Z) (u : Value) (t : TypeId) (g : Nat) (hg : g = w.heap.size) : SY w0 (w.alloc (.cells #[u] t)) N M F G ((g, 0, u) :: C) (g :: Z) := by
  subst hg
  have k := h.go (w' := w.alloc (.cells #[u] t)) (bel_al (Below.refl _ _))
  exact SY.addZ ⟨h.sx.box1 u t _ rfl, k.fzs⟩ (fun i => by simp [go_sem]) h.bel.size (by simp)
theorem SY.box (h : SY w0 w N M F G C Z) (u u' : Value) (t : TypeId) (g : Nat) (hg : g = w.heap.size) : SY w0 (w.alloc (.cells #[u, u'] t)) N M F G ((g, 0, u) :: (g, 1, u') :: C) (g :: Z) := by
  subst hg
  have k := h.go (w' := w.alloc (.cells #[u, u'] t)) (bel_al (Below.refl _ _))
  exact SY.addZ ⟨h.sx.box u u' t _ rfl, k.fzs⟩ (fun i => by simp [go_sem]) h.bel.size (by simp)
/-- A cell is written over: what lay elsewhere stays. -/
theorem SY.set (h : SY w0 w N M F G C Z) {b i : Nat} {a : Option Addr} {n c : Nat} (hc : w.cell? ⟨b, i, none⟩ = some (.slice a n c)) (hlo : w0.heap.size ≤ b) (C' : List (Nat × Nat × Value)) (hC : ∀ p ∈ C', p ∈ C ∧ p.1 ≠ b) (u : Value) : SY w0 (w.setCell ⟨b, i, none⟩ u) N M F G C' Z :=
  ⟨h.sx.set hc hlo C' hC u, fun x hx => ⟨fun j => by rw [World.frozen?_setCell]; exact (h.fzs x hx).1 j, (h.fzs x hx).2.1, by simpa [go_sem] using (h.fzs x hx).2.2⟩⟩
theorem SY.sub (h : SY w0 w N M F G C Z) (N' M' : List (Value × Nat)) (F' G' : List (Value × Nat × Nat)) (C' : List (Nat × Nat × Value)) (Z' : List Nat) (h1 : ∀ p ∈ N', p ∈ N) (h2 : ∀ p ∈ M', p ∈ M) (h3 : ∀ p ∈ F', p ∈ F) (h4 : ∀ p ∈ G', p ∈ G) (h5 : ∀ p ∈ C', p ∈ C) (h6 : ∀ p ∈ Z', p ∈ Z) : SY w0 w N' M' F' G' C' Z' :=
  ⟨⟨fun p hp => h.sx.nats p (h1 p hp), fun p hp => h.sx.rnats p (h2 p hp), fun p hp => h.sx.frs p (h3 p hp), fun p hp => h.sx.rfrs p (h4 p hp), fun p hp => h.sx.cells p (h5 p hp), h.sx.bel⟩, fun b hb => h.fzs b (h6 b hb)⟩
/-- The result's cell is written: what is told. -/
theorem SY.ret1 (h : SY w0 w N M F G C Z) {r : Nat} {v : Value} {x : Nat} (hc : w.cell? ⟨r, 0, none⟩ = some (.slice none 0 0)) (hz : r ∈ Z) (hv : IsNat w v x) (u : Value) : IsNat (w.setCell ⟨r, 0, none⟩ u) v x ∧ Below w0.heap.size w0 (w.setCell ⟨r, 0, none⟩ u) :=
  ⟨hv.setCell (no_int_slice hc) u, h.bel.setCell (p := ⟨r, 0, none⟩) (h.lo r hz) u⟩
end
end Go.Proofs.YtmiiaomdenpceaaGreatDoor

namespace Go.Proofs.YtmiiaomdenpceaaGreatDoor
open Go.RowKit
set_option linter.unusedVariables false
/-- The whole number nearest to p / q, of two as near the even one. -/
def nearN (p q : Nat) : Nat := if 2 * (p % q) < q then p / q else if 2 * (p % q) = q ∧ p / q % 2 = 0 then p / q else p / q + 1
theorem nearN_le {p q c : Nat} (hq : 0 < q) (h : p < c * q) : nearN p q ≤ c := by
  have h1 : p / q < c := (Nat.div_lt_iff_lt_mul hq).2 h
  unfold nearN
  split
  · omega
  · split <;> omega
theorem nearN_ge {p q c : Nat} (hq : 0 < q) (h : c * q ≤ p) : c ≤ nearN p q := by
  have h1 : c ≤ p / q := (Nat.le_div_iff_mul_le hq).2 h
  unfold nearN
  split
  · omega
  · split <;> omega
def upN (p : Nat) (u : Int) : Nat := p * 2 ^ (-u).toNat
def dnN (q : Nat) (u : Int) : Nat := q * 2 ^ u.toNat
theorem dnN_pos {q : Nat} (h : 0 < q) (u : Int) : 0 < dnN q u := Nat.mul_pos h (Nat.two_pow_pos _)
/-- A unit that is 2^k times as great. -/
theorem unit_up (p q : Nat) (u : Int) (k : Nat) : upN p u * dnN q (u + k) = upN p (u + k) * dnN q u * 2 ^ k := by
  unfold upN dnN
  have e : 2 ^ (-u).toNat * 2 ^ (u + k).toNat = 2 ^ (-(u + k)).toNat * 2 ^ u.toNat * 2 ^ k := by
    rw [← Nat.pow_add, ← Nat.pow_add, ← Nat.pow_add]
    congr 1
    omega
  calc p * 2 ^ (-u).toNat * (q * 2 ^ (u + k).toNat) = p * q * (2 ^ (-u).toNat * 2 ^ (u + k).toNat) := by grind
    _ = p * q * (2 ^ (-(u + k)).toNat * 2 ^ u.toNat * 2 ^ k) := by rw [e]
    _ = p * 2 ^ (-(u + k)).toNat * (q * 2 ^ u.toNat) * 2 ^ k := by grind
/-- Below c units of 2^k times the size: below c 2^k units. -/
theorem unit_lt {p q : Nat} (hq : 0 < q) (u : Int) (k c : Nat) : upN p (u + k) < c * dnN q (u + k) ↔ upN p u < c * 2 ^ k * dnN q u := by
  have h := unit_up p q u k
  have h1 := dnN_pos hq u
  have h2 := dnN_pos hq (u + k)
  have h3 : 0 < 2 ^ k := Nat.two_pow_pos k
  have h4 : 0 < dnN q u * 2 ^ k := Nat.mul_pos h1 h3
  constructor
  · intro hh
    have a : upN p (u + k) * (dnN q u * 2 ^ k) < c * dnN q (u + k) * (dnN q u * 2 ^ k) := Nat.mul_lt_mul_of_pos_right hh h4
    refine Nat.lt_of_mul_lt_mul_right (a := dnN q (u + k)) ?_
    rw [h]
    calc upN p (u + k) * dnN q u * 2 ^ k = upN p (u + k) * (dnN q u * 2 ^ k) := by grind
      _ < c * dnN q (u + k) * (dnN q u * 2 ^ k) := a
      _ = c * 2 ^ k * dnN q u * dnN q (u + k) := by grind
  · intro hh
    have a : upN p u * dnN q (u + k) < c * 2 ^ k * dnN q u * dnN q (u + k) := Nat.mul_lt_mul_of_pos_right hh h2
    rw [h] at a
    refine Nat.lt_of_mul_lt_mul_right (a := dnN q u * 2 ^ k) ?_
    calc upN p (u + k) * (dnN q u * 2 ^ k) = upN p (u + k) * dnN q u * 2 ^ k := by grind
      _ < c * 2 ^ k * dnN q u * dnN q (u + k) := a
      _ = c * dnN q (u + k) * (dnN q u * 2 ^ k) := by grind
theorem unit_le {p q : Nat} (hq : 0 < q) (u : Int) (k c : Nat) : c * dnN q (u + k) ≤ upN p (u + k) ↔ c * 2 ^ k * dnN q u ≤ upN p u := by
  rw [← Nat.not_lt, ← Nat.not_lt, unit_lt hq u k c]
/-- p / q lies in the first units from 2^e to 2^(e+1). -/
def At (p q : Nat) (e : Int) : Prop := dnN q e ≤ upN p e ∧ upN p e < 2 * dnN q e
/-- Where the first bit lies. -/
def flI (p q : Nat) (s : Int) : Int := if upN p s < dnN q s then s - 1 else s
theorem flI_at {p q a b : Nat} (hp : 2 ^ a ≤ p) (hp2 : p < 2 ^ (a + 1)) (hq : 2 ^ b ≤ q) (hq2 : q < 2 ^ (b + 1)) : At p q (flI p q ((a : Int) - b)) := by
  have q0 : 0 < q := Nat.lt_of_lt_of_le (Nat.two_pow_pos b) hq
  obtain ⟨s, hs⟩ : ∃ s : Int, s = (a : Int) - b := ⟨_, rfl⟩
  rw [← hs]
  have hup : upN p s < 2 * dnN q s := by
    unfold upN dnN
    have e1 : p * 2 ^ (-s).toNat < 2 ^ (a + 1) * 2 ^ (-s).toNat := Nat.mul_lt_mul_of_pos_right hp2 (Nat.two_pow_pos _)
    have e2 : 2 ^ b * 2 ^ s.toNat ≤ q * 2 ^ s.toNat := Nat.mul_le_mul_right _ hq
    have e3 : 2 ^ (a + 1) * 2 ^ (-s).toNat = 2 * (2 ^ b * 2 ^ s.toNat) := by
      rw [← Nat.pow_add, ← Nat.pow_add, ← Nat.pow_succ']
      congr 1
      omega
    omega
  have hlo : dnN q s < 2 * upN p s := by
    unfold upN dnN
    have e1 : q * 2 ^ s.toNat < 2 ^ (b + 1) * 2 ^ s.toNat := Nat.mul_lt_mul_of_pos_right hq2 (Nat.two_pow_pos _)
    have e2 : 2 ^ a * 2 ^ (-s).toNat ≤ p * 2 ^ (-s).toNat := Nat.mul_le_mul_right _ hp
    have e3 : 2 ^ (b + 1) * 2 ^ s.toNat = 2 * (2 ^ a * 2 ^ (-s).toNat) := by
      rw [← Nat.pow_add, ← Nat.pow_add, ← Nat.pow_succ']
      congr 1
      omega
    omega
  unfold flI
  split
  · rename_i h
    have k1 := unit_lt (p := p) q0 (s - 1) 1 1
    have e : s - 1 + ((1 : Nat) : Int) = s := by omega
    rw [e] at k1
    have h' : upN p s < 1 * dnN q s := by omega
    have k2 := k1.1 h'
    have k3 := unit_up p q (s - 1) 1
    rw [e] at k3
    refine ⟨?_, by simpa using k2⟩
    have p1 := dnN_pos q0 (s - 1)
    have p2 := dnN_pos q0 s
    refine Nat.le_of_mul_le_mul_right (c := dnN q s) ?_ p2
    rw [k3]
    have : dnN q s * dnN q (s - 1) ≤ 2 * upN p s * dnN q (s - 1) := Nat.mul_le_mul_right _ (Nat.le_of_lt hlo)
    grind
  · exact ⟨by omega, hup⟩
def unI (e : Int) : Int := if e - 52 < -1074 then -1074 else e - 52
def ctN (p q : Nat) (u : Int) : Nat := nearN (upN p u) (dnN q u)
theorem At.lt {p q : Nat} {e : Int} (h : At p q e) (hq : 0 < q) : upN p (unI e) < 9007199254740992 * dnN q (unI e) := by
  obtain ⟨k, hk⟩ : ∃ k : Nat, unI e = e - 52 + k := ⟨(unI e - (e - 52)).toNat, by unfold unI; split <;> omega⟩
  have h1 := (unit_lt (p := p) hq (e - 52) 52 2)
  rw [show e - 52 + ((52 : Nat) : Int) = e by omega] at h1
  have h2 := h1.1 h.2
  rw [hk, unit_lt hq]
  have : 1 ≤ 2 ^ k := Nat.one_le_two_pow
  have h3 : 9007199254740992 * 1 * dnN q (e - 52) ≤ 9007199254740992 * 2 ^ k * dnN q (e - 52) := Nat.mul_le_mul_right _ (Nat.mul_le_mul_left _ this)
  omega
theorem At.ct {p q : Nat} {e : Int} (h : At p q e) (hq : 0 < q) : ctN p q (unI e) ≤ 9007199254740992 := nearN_le (dnN_pos hq _) (h.lt hq)
theorem At.ge {p q : Nat} {e : Int} (h : At p q e) (hq : 0 < q) (hu : unI e = e - 52) : 4503599627370496 * dnN q (unI e) ≤ upN p (unI e) := by
  have h1 := (unit_le (p := p) hq (e - 52) 52 1)
  rw [show e - 52 + ((52 : Nat) : Int) = e by omega] at h1
  have := h1.1 (by have := h.1; omega)
  rw [hu]
  omega
theorem At.ct_ge {p q : Nat} {e : Int} (h : At p q e) (hq : 0 < q) (hu : unI e = e - 52) : 4503599627370496 ≤ ctN p q (unI e) := nearN_ge (dnN_pos hq _) (h.ge hq hu)
/-- Where the first bit lies is one place. -/
theorem At.one {p q : Nat} {e f : Int} (h : At p q e) (k : At p q f) (hq : 0 < q) : e = f := by
  have key : ∀ {e f : Int}, At p q e → At p q f → e ≤ f := by
    intro e f h k
    rcases Int.lt_or_le f e with hh | hh
    · exfalso
      obtain ⟨j, hj⟩ : ∃ j : Nat, e = f + j := ⟨(e - f).toNat, by omega⟩
      have h1 := (unit_le (p := p) hq f j 1)
      rw [← hj] at h1
      have h2 := h1.1 (by have := h.1; omega)
      have h3 : 2 ^ 1 ≤ 2 ^ j := Nat.pow_le_pow_right (by omega) (by omega)
      have h4 : 1 * 2 * dnN q f ≤ 1 * 2 ^ j * dnN q f := Nat.mul_le_mul_right _ (by omega)
      have := k.2
      omega
    · exact hh
  have := key h k
  have := key k h
  omega
theorem nearN_zero {p q : Nat} (h : 2 * p < q) : nearN p q = 0 := by
  have h1 : p / q = 0 := Nat.div_eq_of_lt (by omega)
  have h2 : p % q = p := Nat.mod_eq_of_lt (by omega)
  unfold nearN
  rw [h1, h2, if_pos h]
theorem At.low {p q : Nat} {e : Int} (h : At p q e) (hq : 0 < q) (he : e ≤ -1076) : unI e = -1074 ∧ ctN p q (unI e) = 0 := by
  have hu : unI e = -1074 := by unfold unI; split <;> omega
  refine ⟨hu, ?_⟩
  rw [hu]
  obtain ⟨k, hk⟩ : ∃ k : Nat, (-1075 : Int) = e + (k + 1 : Nat) := ⟨(-1076 - e).toNat, by omega⟩
  have h1 := unit_lt (p := p) hq e (k + 1) 1
  rw [← hk] at h1
  have h2 : upN p (-1075) < 1 * dnN q (-1075) := by
    rw [h1]
    have h3 : 2 ^ 1 ≤ 2 ^ (k + 1) := Nat.pow_le_pow_right (by omega) (by omega)
    have h4 : 1 * 2 * dnN q e ≤ 1 * 2 ^ (k + 1) * dnN q e := Nat.mul_le_mul_right _ (by omega)
    have := h.2
    omega
  refine nearN_zero ?_
  have e1 : upN p (-1075) = 2 * upN p (-1074) := by
    obtain ⟨m, hm⟩ : ∃ m : Nat, m = 1074 := ⟨_, rfl⟩
    unfold upN
    rw [show (-(-1075 : Int)).toNat = m + 1 by omega, show (-(-1074 : Int)).toNat = m by omega, Nat.pow_succ]
    grind
  have e2 : dnN q (-1075) = dnN q (-1074) := by
    unfold dnN
    rw [show (-1075 : Int).toNat = (-1074 : Int).toNat by decide]
  omega
/-- The bits that p / q has whose first bit lies at e. -/
def bitsAt (p q : Nat) (e : Int) : Nat := (unI e + 1074).toNat * 4503599627370496 + ctN p q (unI e)
theorem At.high {p q : Nat} {e : Int} (h : At p q e) (hq : 0 < q) (he : 1024 ≤ e) : 9218868437227405312 ≤ bitsAt p q e := by
  have hu : unI e = e - 52 := by unfold unI; split <;> omega
  have := h.ct_ge hq hu
  unfold bitsAt
  have : 2046 ≤ (unI e + 1074).toNat := by omega
  have : 2046 * 4503599627370496 ≤ (unI e + 1074).toNat * 4503599627370496 := Nat.mul_le_mul_right _ this
  omega
theorem At.bits_low {p q : Nat} {e : Int} (h : At p q e) (hq : 0 < q) (he : e ≤ -1076) : bitsAt p q e = 0 := by
  obtain ⟨h1, h2⟩ := h.low hq he
  unfold bitsAt
  rw [h2, h1]
  rfl
theorem unit_cross {p q r s : Nat} (u : Int) (h : p * s ≤ r * q) : upN p u * dnN s u ≤ upN r u * dnN q u := by
  unfold upN dnN
  have : p * s * (2 ^ (-u).toNat * 2 ^ u.toNat) ≤ r * q * (2 ^ (-u).toNat * 2 ^ u.toNat) := Nat.mul_le_mul_right _ h
  grind
theorem At.mono {p q r s : Nat} {e f : Int} (h : At p q e) (k : At r s f) (hq : 0 < q) (hs : 0 < s) (hle : p * s ≤ r * q) : e ≤ f := by
  rcases Int.lt_or_le f e with hh | hh
  · exfalso
    obtain ⟨j, hj⟩ : ∃ j : Nat, e = f + (j + 1 : Nat) := ⟨(e - f - 1).toNat, by omega⟩
    have h1 := unit_le (p := p) hq f (j + 1) 1
    rw [← hj] at h1
    have h2 := h1.1 (by have := h.1; omega)
    have h3 : 2 ^ 1 ≤ 2 ^ (j + 1) := Nat.pow_le_pow_right (by omega) (by omega)
    have h4 : 1 * 2 * dnN q f ≤ 1 * 2 ^ (j + 1) * dnN q f := Nat.mul_le_mul_right _ (by omega)
    have h5 : 2 * dnN q f ≤ upN p f := by omega
    have h6 := unit_cross f hle
    have h7 := k.2
    have p1 := dnN_pos hq f
    have p2 := dnN_pos hs f
    have h8 : 2 * dnN q f * dnN s f ≤ upN p f * dnN s f := Nat.mul_le_mul_right _ h5
    have h9 : upN r f * dnN q f < 2 * dnN s f * dnN q f := Nat.mul_lt_mul_of_pos_right h7 p1
    grind
  · exact hh
end Go.Proofs.YtmiiaomdenpceaaGreatDoor

namespace Go.Proofs.YtmiiaomdenpceaaGreatDoor
open Go.RowKit
set_option maxRecDepth 100000
set_option linter.unusedVariables false
/-- Two fractions in lowest terms that are the same have the same parts. -/
theorem low_one {a b c d : Nat} (h1 : Nat.gcd a b = 1) (h2 : Nat.gcd c d = 1) (hb : 0 < b) (hd : 0 < d) (e : a * d = c * b) : a = c ∧ b = d := by
  have h1' : Nat.Coprime a b := h1
  have h2' : Nat.Coprime c d := h2
  have d1 : b ∣ d := h1'.symm.dvd_of_dvd_mul_left ⟨c, by rw [e, Nat.mul_comm]⟩
  have d2 : d ∣ b := h2'.symm.dvd_of_dvd_mul_left ⟨a, by rw [← e, Nat.mul_comm]⟩
  have hbd : b = d := Nat.dvd_antisymm d1 d2
  subst hbd
  exact ⟨Nat.eq_of_mul_eq_mul_right hb e, rfl⟩
/-- A fraction is brought to lowest terms. -/
theorem low_terms (x Y : Nat) (hY : 0 < Y) : Nat.gcd (x / Nat.gcd x Y) (Y / Nat.gcd x Y) = 1 ∧ x / Nat.gcd x Y * Y = x * (Y / Nat.gcd x Y) ∧ 0 < Y / Nat.gcd x Y := by
  have g0 : 0 < Nat.gcd x Y := Nat.gcd_pos_of_pos_right _ hY
  refine ⟨?_, ?_, Nat.div_pos (Nat.gcd_le_right _ hY) g0⟩
  · rw [Nat.gcd_div (Nat.gcd_dvd_left _ _) (Nat.gcd_dvd_right _ _), Nat.div_self g0]
  · obtain ⟨a, ha⟩ := Nat.gcd_dvd_left x Y
    obtain ⟨b, hb⟩ := Nat.gcd_dvd_right x Y
    generalize Nat.gcd x Y = g at *
    subst ha hb
    rw [Nat.mul_div_cancel_left _ g0, Nat.mul_div_cancel_left _ g0]
    grind
end Go.Proofs.YtmiiaomdenpceaaGreatDoor

namespace Go.Proofs.YtmiiaomdenpceaaGreatDoor
open Go.RowKit
set_option maxRecDepth 100000
set_option linter.unusedVariables false
def mulP (p q x y : Nat) : Nat := p / Nat.gcd p y * (x / Nat.gcd x q)
def mulQ (p q x y : Nat) : Nat := q / Nat.gcd x q * (y / Nat.gcd p y)
theorem mul_low {p q x y : Nat} (hq : 0 < q) (hy : 0 < y) (h1 : Nat.gcd p q = 1) (h2 : Nat.gcd x y = 1) : Nat.gcd (mulP p q x y) (mulQ p q x y) = 1 ∧ 0 < mulQ p q x y ∧ mulP p q x y * (q * y) = p * x * mulQ p q x y := by
  have l0 : 0 < Nat.gcd p y := Nat.gcd_pos_of_pos_right _ hy
  have r0 : 0 < Nat.gcd x q := Nat.gcd_pos_of_pos_right _ hq
  obtain ⟨a, ha⟩ := Nat.gcd_dvd_left p y
  obtain ⟨b, hb⟩ := Nat.gcd_dvd_right p y
  obtain ⟨c, hc⟩ := Nat.gcd_dvd_left x q
  obtain ⟨d, hd⟩ := Nat.gcd_dvd_right x q
  have cab : Nat.Coprime (p / Nat.gcd p y) (y / Nat.gcd p y) := by
    have := Nat.gcd_div (Nat.gcd_dvd_left p y) (Nat.gcd_dvd_right p y)
    rw [Nat.div_self l0] at this
    exact this
  have ccd : Nat.Coprime (x / Nat.gcd x q) (q / Nat.gcd x q) := by
    have := Nat.gcd_div (Nat.gcd_dvd_left x q) (Nat.gcd_dvd_right x q)
    rw [Nat.div_self r0] at this
    exact this
  unfold mulP mulQ
  generalize Nat.gcd p y = l at *
  generalize Nat.gcd x q = r at *
  have e1 : p / l = a := by rw [ha, Nat.mul_div_cancel_left _ l0]
  have e2 : y / l = b := by rw [hb, Nat.mul_div_cancel_left _ l0]
  have e3 : x / r = c := by rw [hc, Nat.mul_div_cancel_left _ r0]
  have e4 : q / r = d := by rw [hd, Nat.mul_div_cancel_left _ r0]
  rw [e1, e2] at cab
  rw [e3, e4] at ccd
  rw [e1, e2, e3, e4]
  have h1' : Nat.Coprime p q := h1
  have h2' : Nat.Coprime x y := h2
  have k1 : Nat.Coprime a d := (h1'.coprime_dvd_left ⟨l, by rw [ha, Nat.mul_comm]⟩).coprime_dvd_right ⟨r, by rw [hd, Nat.mul_comm]⟩
  have k2 : Nat.Coprime c b := (h2'.coprime_dvd_left ⟨r, by rw [hc, Nat.mul_comm]⟩).coprime_dvd_right ⟨l, by rw [hb, Nat.mul_comm]⟩
  refine ⟨Nat.Coprime.mul_left (Nat.Coprime.mul_right k1 cab) (Nat.Coprime.mul_right ccd k2), Nat.mul_pos ?_ ?_, ?_⟩
  · rcases Nat.eq_zero_or_pos d with e | e
    · rw [e] at hd; omega
    · exact e
  · rcases Nat.eq_zero_or_pos b with e | e
    · rw [e] at hb; omega
    · exact e
  · rw [ha, hb, hc, hd]
    grind
set_option maxHeartbeats 8000000 in
theorem ratMul_any (v u : Value) (p q x y : Nat) (w : World) (h : Rt w v p q) (k : Rt w u x y) (hp : RS p) (hq : RS q) (hx : RS x) (hy : RS y) (hT : Tab w) :
    Calls Tryz.prog 82 #[v, u] w (MakesR w (mulP p q x y) (mulQ p q x y)) := by
  obtain ⟨p1, n1, c1, p2, n2, c2, e0, _, _⟩ := h.raw
  subst e0
  obtain ⟨p3, n3, c3, p4, n4, c4, e1, _, _⟩ := k.raw
  subst e1
  have low := mul_low h.pos k.pos h.low k.low
  have S0 : Hid _ := ((((sx_start w).addF h).addF k).box (.slice p1 n1 c1) (.slice p2 n2 c2) 28 _ rfl).box (.slice p3 n3 c3) (.slice p4 n4 c4) 28 _ rfl
  simp only [World.size_alloc] at S0
  have S1 : Hid _ := S0.out.box (.slice none 0 0) (.slice none 0 0) 28 _ rfl
  simp only [World.size_alloc] at S1
  obtain ⟨w0, hw0⟩ : ∃ w0, w0 = ((w.alloc (.cells #[.slice p1 n1 c1, .slice p2 n2 c2] 28)).alloc (.cells #[.slice p3 n3 c3, .slice p4 n4 c4] 28)).alloc (.cells #[.slice none 0 0, .slice none 0 0] 28) := ⟨_, rfl⟩
  have f6 : w0.frozen? ⟨w.heap.size + 1 + 1, 0, none⟩ = false := by rw [hw0]; simp [go_sem]
  have f7 : w0.frozen? ⟨w.heap.size + 1 + 1, 1, none⟩ = false := by rw [hw0]; simp [go_sem]
  have HH : Hid (RS p ∧ RS q ∧ RS x ∧ RS y ∧ Tab w) := ⟨hp, hq, hx, hy, hT⟩
  have l0 : 0 < Nat.gcd p y := Nat.gcd_pos_of_pos_right _ k.pos
  have r0 : 0 < Nat.gcd x q := Nat.gcd_pos_of_pos_right _ h.pos
  have hl : RS (Nat.gcd p y) := hy.le (Nat.gcd_le_right _ k.pos)
  have hr : RS (Nat.gcd x q) := hq.le (Nat.gcd_le_right _ h.pos)
  have d1 : RS (p / Nat.gcd p y) := hp.le (Nat.div_le_self _ _)
  have d2 : RS (x / Nat.gcd x q) := hx.le (Nat.div_le_self _ _)
  have d3 : RS (q / Nat.gcd x q) := hq.le (Nat.div_le_self _ _)
  have d4 : RS (y / Nat.gcd p y) := hy.le (Nat.div_le_self _ _)
  have HL : Hid (0 < Nat.gcd p y ∧ 0 < Nat.gcd x q ∧ RS (Nat.gcd p y) ∧ RS (Nat.gcd x q) ∧ RS (p / Nat.gcd p y) ∧ RS (x / Nat.gcd x q) ∧ RS (q / Nat.gcd x q) ∧ RS (y / Nat.gcd p y)) := ⟨l0, r0, hl, hr, d1, d2, d3, d4⟩
  have HM : Hid (Nat.gcd (mulP p q x y) (mulQ p q x y) = 1 ∧ 0 < mulQ p q x y ∧ Fits (mulP p q x y)) := ⟨low.1, low.2.1, fits_P (d1.mul d2) (by omega)⟩
  clear h k hp hq hx hy hT low l0 r0 hl hr d1 d2 d3 d4 S0
  go_enter Tryz.func82, Tryz.ntmps82
  go_wp2_with fail
  rw [← hw0] at S1
  rw [← hw0]
  obtain ⟨b2, hb2⟩ : ∃ b2, b2 = w.heap.size := ⟨_, rfl⟩
  have HB : Hid (w.heap.size ≤ b2 + 1 + 1) := by show _ ≤ _; omega
  rw [← hb2] at S1 f6 f7
  rw [← hb2]
  clear hw0 hb2
  have FZ : Hid (w0.frozen? ⟨b2 + 1 + 1, 0, none⟩ = false ∧ w0.frozen? ⟨b2 + 1 + 1, 1, none⟩ = false) := ⟨f6, f7⟩
  clear f6 f7
  refine (parts_any _ p q _ (S1.out.fr (.agg #[.slice p1 n1 c1, .slice p2 n2 c2]) p q) HH.out.2.1.fits).mono ?_
  rintro e v5w ⟨v5, v6, rfl, hv, hu, hb⟩
  obtain ⟨a5, n5, c5, rfl⟩ := hv.isAgg
  obtain ⟨a6, n6, c6, rfl⟩ := hu.isAgg
  have hbb := bel_go hb (bel_al (o := .cells #[.slice a6 n6 c6] 26) (bel_al (o := .cells #[.slice a5 n5 c5] 26) (bel_refl _)))
  have FZ : Hid (((v5w.alloc (.cells #[.slice a5 n5 c5] 26)).alloc (.cells #[.slice a6 n6 c6] 26)).frozen? ⟨b2 + 1 + 1, 0, none⟩ = false ∧ ((v5w.alloc (.cells #[.slice a5 n5 c5] 26)).alloc (.cells #[.slice a6 n6 c6] 26)).frozen? ⟨b2 + 1 + 1, 1, none⟩ = false) := ⟨(hbb.frozen (World.block_lt_of_cell? _ _ (S1.out.cel (b2 + 1 + 1) 0 (.slice none 0 0)))).trans FZ.out.1, (hbb.frozen (World.block_lt_of_cell? _ _ (S1.out.cel (b2 + 1 + 1) 1 (.slice none 0 0)))).trans FZ.out.2⟩
  have S2 : Hid _ := ((((S1.out.go hb).addN hv).addN hu).box1 (.slice a5 n5 c5) 26 _ rfl).box1 (.slice a6 n6 c6) 26 _ rfl
  clear hv hu hb hbb S1
  simp only [World.size_alloc] at S2
  have z3 := S2.out.cel (b2 + 1) 0 (.slice p3 n3 c3)
  have z4 := S2.out.cel (b2 + 1) 1 (.slice p4 n4 c4)
  go_wp2_with fail
  obtain ⟨w5, hw⟩ : ∃ w5, w5 = (v5w.alloc (.cells #[.slice a5 n5 c5] 26)).alloc (.cells #[.slice a6 n6 c6] 26) := ⟨_, rfl⟩
  obtain ⟨b5, hb⟩ : ∃ b5, b5 = v5w.heap.size := ⟨_, rfl⟩
  rw [← hw, ← hb] at S2
  rw [← hw] at FZ
  rw [← hw, ← hb]
  clear hw hb
  obtain ⟨b6, hb⟩ : ∃ b6, b6 = b5 + 1 := ⟨_, rfl⟩
  rw [← hb] at S2
  rw [← hb]
  clear hb
  clear z3 z4
  refine (parts_any _ x y _ (S2.out.fr (.agg #[.slice p3 n3 c3, .slice p4 n4 c4]) x y) HH.out.2.2.2.1.fits).mono ?_
  rintro e v7w ⟨v7, v8, rfl, hv, hu, hb⟩
  obtain ⟨a7, n7, c7, rfl⟩ := hv.isAgg
  obtain ⟨a8, n8, c8, rfl⟩ := hu.isAgg
  have hbb := bel_go hb (bel_al (o := .cells #[.slice a8 n8 c8] 26) (bel_al (o := .cells #[.slice a7 n7 c7] 26) (bel_refl _)))
  have FZ : Hid (((v7w.alloc (.cells #[.slice a7 n7 c7] 26)).alloc (.cells #[.slice a8 n8 c8] 26)).frozen? ⟨b2 + 1 + 1, 0, none⟩ = false ∧ ((v7w.alloc (.cells #[.slice a7 n7 c7] 26)).alloc (.cells #[.slice a8 n8 c8] 26)).frozen? ⟨b2 + 1 + 1, 1, none⟩ = false) := ⟨(hbb.frozen (World.block_lt_of_cell? _ _ (S2.out.cel (b2 + 1 + 1) 0 (.slice none 0 0)))).trans FZ.out.1, (hbb.frozen (World.block_lt_of_cell? _ _ (S2.out.cel (b2 + 1 + 1) 1 (.slice none 0 0)))).trans FZ.out.2⟩
  have S3 : Hid _ := ((((S2.out.go hb).addN hv).addN hu).box1 (.slice a7 n7 c7) 26 _ rfl).box1 (.slice a8 n8 c8) 26 _ rfl
  clear hv hu hb hbb S2
  simp only [World.size_alloc] at S3
  go_wp2_with fail
  obtain ⟨w7, hw⟩ : ∃ w7, w7 = (v7w.alloc (.cells #[.slice a7 n7 c7] 26)).alloc (.cells #[.slice a8 n8 c8] 26) := ⟨_, rfl⟩
  obtain ⟨b7, hb⟩ : ∃ b7, b7 = v7w.heap.size := ⟨_, rfl⟩
  rw [← hw, ← hb] at S3
  rw [← hw] at FZ
  rw [← hw, ← hb]
  clear hw hb
  obtain ⟨b8, hb⟩ : ∃ b8, b8 = b7 + 1 := ⟨_, rfl⟩
  rw [← hb] at S3
  rw [← hb]
  clear hb
  refine wp_region_inv (JB w7 [sNat (p), sNat (y), sNat (Nat.gcd p y), sNat (x), sNat (q), sNat (Nat.gcd x q), sAny, sAny, sAny, sAny] [(6, 8, 2), (7, 9, 5)]) 46 (by kernel_rfl) rfl (by kernel_rfl) (JB.start _ _ _) (fun HG HN => ⟨?_, ?_, ?_, ?_, ?_, ?_, ?_, ?_, ?_, ?_, trivial⟩) ?_
  · intro L vs a w' hJ hF hP hL
    have q5 : (a.tmps[5]?).getD undef = .pointer (some ⟨b5, 0, none⟩) := hF.old 5 rfl
    have cb := cell_later hJ.bel (S3.out.cell (b5) (.slice a5 n5 c5))
    exact run_val (v := .agg #[.slice a5 n5 c5]) rfl (by simp [execOp, go_sem, q5, cb]) ⟨_, rfl, hJ.step hL rfl (Below.refl _ _) (by exact ((S3.out.at (.agg #[.slice a5 n5 c5]) (p)).mono hJ.bel))⟩
  · intro L vs a w' hJ hF hP hL
    have q8 : (a.tmps[8]?).getD undef = .pointer (some ⟨b8, 0, none⟩) := hF.old 8 rfl
    have cb := cell_later hJ.bel (S3.out.cell (b8) (.slice a8 n8 c8))
    exact run_val (v := .agg #[.slice a8 n8 c8]) rfl (by simp [execOp, go_sem, q8, cb]) ⟨_, rfl, hJ.step hL rfl (Below.refl _ _) (by exact ((S3.out.at (.agg #[.slice a8 n8 c8]) (y)).mono hJ.bel))⟩
  · intro L vs a w' hJ hF hP hL
    have p0 : L 0 = true := hP ⟨0, .data⟩ (by simp) rfl
    have s0 : IsNat w' (vs 0) (p) := hJ.sp 0 p0
    have q23 := hF.slot 0 23 rfl p0
    have p1 : L 1 = true := hP ⟨1, .data⟩ (by simp) rfl
    have s1 : IsNat w' (vs 1) (y) := hJ.sp 1 p1
    have q24 := hF.slot 1 24 rfl p1
    refine run_call (f := 64) (args := #[vs 0, vs 1]) rfl (by simp [go_sem, q23, q24]) (gcd_any _ _ p y _ s0 s1 HH.out.1.p198 HH.out.2.2.2.1.p198 (HH.out.2.2.2.2.go (bel_go S3.out.bel hJ.bel))) ?_
    rintro e w2 ⟨v, rfl, hv, hb⟩
    exact ⟨_, rfl, _, rfl, hJ.step hL rfl hb (by exact hv)⟩
  · intro L vs a w' hJ hF hP hL
    have q7 : (a.tmps[7]?).getD undef = .pointer (some ⟨b7, 0, none⟩) := hF.old 7 rfl
    have cb := cell_later hJ.bel (S3.out.cell (b7) (.slice a7 n7 c7))
    exact run_val (v := .agg #[.slice a7 n7 c7]) rfl (by simp [execOp, go_sem, q7, cb]) ⟨_, rfl, hJ.step hL rfl (Below.refl _ _) (by exact ((S3.out.at (.agg #[.slice a7 n7 c7]) (x)).mono hJ.bel))⟩
  · intro L vs a w' hJ hF hP hL
    have q6 : (a.tmps[6]?).getD undef = .pointer (some ⟨b6, 0, none⟩) := hF.old 6 rfl
    have cb := cell_later hJ.bel (S3.out.cell (b6) (.slice a6 n6 c6))
    exact run_val (v := .agg #[.slice a6 n6 c6]) rfl (by simp [execOp, go_sem, q6, cb]) ⟨_, rfl, hJ.step hL rfl (Below.refl _ _) (by exact ((S3.out.at (.agg #[.slice a6 n6 c6]) (q)).mono hJ.bel))⟩
  · intro L vs a w' hJ hF hP hL
    have p3 : L 3 = true := hP ⟨3, .data⟩ (by simp) rfl
    have s3 : IsNat w' (vs 3) (x) := hJ.sp 3 p3
    have q26 := hF.slot 3 26 rfl p3
    have p4 : L 4 = true := hP ⟨4, .data⟩ (by simp) rfl
    have s4 : IsNat w' (vs 4) (q) := hJ.sp 4 p4
    have q27 := hF.slot 4 27 rfl p4
    refine run_call (f := 64) (args := #[vs 3, vs 4]) rfl (by simp [go_sem, q26, q27]) (gcd_any _ _ x q _ s3 s4 HH.out.2.2.1.p198 HH.out.2.1.p198 (HH.out.2.2.2.2.go (bel_go S3.out.bel hJ.bel))) ?_
    rintro e w2 ⟨v, rfl, hv, hb⟩
    exact ⟨_, rfl, _, rfl, hJ.step hL rfl hb (by exact hv)⟩
  · intro L vs a w' hJ hF hP hL
    exact run_val (v := .pointer (some ⟨w'.heap.size, 0, none⟩)) (w' := w'.alloc (.cells #[.slice none 0 0] 26)) rfl (by simp [execOp, go_sem]) ⟨_, rfl, hJ.alloc hL rfl rfl _⟩
  · intro L vs a w' hJ hF hP hL
    exact run_val (v := .pointer (some ⟨w'.heap.size, 0, none⟩)) (w' := w'.alloc (.cells #[.slice none 0 0] 26)) rfl (by simp [execOp, go_sem]) ⟨_, rfl, hJ.alloc hL rfl rfl _⟩
  · intro L vs a w' hJ hF hP hL
    have p6 : L 6 = true := hP ⟨6, .data⟩ (by simp) rfl
    have q9 := hF.slot 6 9 rfl p6
    have p2 : L 2 = true := hP ⟨2, .data⟩ (by simp) rfl
    have s2 : IsNat w' (vs 2) (Nat.gcd p y) := hJ.sp 2 p2
    have q25 := hF.slot 2 25 rfl p2
    obtain ⟨bk, e1, e2, e3, e4, e5, e6⟩ := hJ.bx (6, 8, 2) (by simp) p6
    have e7 := e5 hL
    obtain ⟨aa, nn, cc, e8⟩ := s2.isAgg
    exact run_unit (w' := w'.setCell ⟨bk, 0, none⟩ (.slice aa nn cc)) rfl (by simp [execOp, go_sem, q9, q25, e1, e8, e7, e4]) ⟨undef, rfl, hJ.store (b := (6, 8, 2)) (by simp) hL p6 p2 (by decide) rfl e1 e8⟩
  · intro L vs a w' hJ hF hP hL
    have p7 : L 7 = true := hP ⟨7, .data⟩ (by simp) rfl
    have q10 := hF.slot 7 10 rfl p7
    have p5 : L 5 = true := hP ⟨5, .data⟩ (by simp) rfl
    have s5 : IsNat w' (vs 5) (Nat.gcd x q) := hJ.sp 5 p5
    have q28 := hF.slot 5 28 rfl p5
    obtain ⟨bk, e1, e2, e3, e4, e5, e6⟩ := hJ.bx (7, 9, 5) (by simp) p7
    have e7 := e5 hL
    obtain ⟨aa, nn, cc, e8⟩ := s5.isAgg
    exact run_unit (w' := w'.setCell ⟨bk, 0, none⟩ (.slice aa nn cc)) rfl (by simp [execOp, go_sem, q10, q28, e1, e8, e7, e4]) ⟨undef, rfl, hJ.store (b := (7, 9, 5)) (by simp) hL p7 p5 (by decide) rfl e1 e8⟩
  intro L vs w' hA hJ
  have s2 : IsNat w' (vs 2) (Nat.gcd p y) := hJ.sp 2 (hA 2 (by simp))
  have s5 : IsNat w' (vs 5) (Nat.gcd x q) := hJ.sp 5 (hA 5 (by simp))
  obtain ⟨bk6, eb6, ge6, lt6, fz6, _, e6⟩ := hJ.bx (6, 8, 2) (by simp) (hA 6 (by simp))
  obtain ⟨_, u6, eu6, ce6⟩ := e6 (hA 8 (by simp))
  clear e6
  obtain ⟨bk7, eb7, ge7, lt7, fz7, _, e6⟩ := hJ.bx (7, 9, 5) (by simp) (hA 7 (by simp))
  obtain ⟨_, u7, eu7, ce7⟩ := e6 (hA 9 (by simp))
  clear e6
  simp only [putL, Act.put, List.setIfInBounds_toArray, List.set_cons_zero, List.set_cons_succ, Nat.reduceAdd]
  obtain ⟨a9, n9, c9, q1⟩ := s2.isAgg
  obtain ⟨a10, n10, c10, q2⟩ := s5.isAgg
  rw [q1] at s2 eu6
  rw [q2] at s5 eu7
  obtain rfl : u6 = .slice a9 n9 c9 := by simpa using eu6.symm
  obtain rfl : u7 = .slice a10 n10 c10 := by simpa using eu7.symm
  simp only [eb6, eb7]
  obtain ⟨w9, ew⟩ : ∃ w9, w9 = w' := ⟨_, rfl⟩
  obtain ⟨b9, e1⟩ : ∃ b9, b9 = bk6 := ⟨_, rfl⟩
  obtain ⟨b10, e2⟩ : ∃ b10, b10 = bk7 := ⟨_, rfl⟩
  have FZ : Hid (w'.frozen? ⟨b2 + 1 + 1, 0, none⟩ = false ∧ w'.frozen? ⟨b2 + 1 + 1, 1, none⟩ = false) := ⟨(hJ.bel.frozen (World.block_lt_of_cell? _ _ (S3.out.cel (b2 + 1 + 1) 0 (.slice none 0 0)))).trans FZ.out.1, (hJ.bel.frozen (World.block_lt_of_cell? _ _ (S3.out.cel (b2 + 1 + 1) 1 (.slice none 0 0)))).trans FZ.out.2⟩
  have S4 : Hid _ := ((((S3.out.go hJ.bel).addN s2).addN s5).addC ce6).addC ce7
  rw [← ew, ← e1, ← e2] at S4
  rw [← ew] at FZ
  rw [← ew, ← e1, ← e2]
  clear ew e1 e2 q1 q2 s2 s5 eu6 eu7 eb6 eb7 ce6 ce7 ge6 ge7 lt6 lt7 fz6 fz7 hJ hA S3
  go_wp2_with fail
  refine wp_region_inv (JB w9 [sNat (p), sNat (Nat.gcd p y), sNat (p / Nat.gcd p y), sNat (x), sNat (Nat.gcd x q), sNat (x / Nat.gcd x q), sNat (p / Nat.gcd p y * (x / Nat.gcd x q)), sAny, sAny] [(7, 8, 6)]) 46 (by kernel_rfl) rfl (by kernel_rfl) (JB.start _ _ _) (fun HG HN => ⟨?_, ?_, ?_, ?_, ?_, ?_, ?_, ?_, ?_, trivial⟩) ?_
  · intro L vs a w' hJ hF hP hL
    have q5 : (a.tmps[5]?).getD undef = .pointer (some ⟨b5, 0, none⟩) := hF.old 5 rfl
    have cb := cell_later hJ.bel (S4.out.cell (b5) (.slice a5 n5 c5))
    exact run_val (v := .agg #[.slice a5 n5 c5]) rfl (by simp [execOp, go_sem, q5, cb]) ⟨_, rfl, hJ.step hL rfl (Below.refl _ _) (by exact ((S4.out.at (.agg #[.slice a5 n5 c5]) (p)).mono hJ.bel))⟩
  · intro L vs a w' hJ hF hP hL
    have q9 : (a.tmps[9]?).getD undef = .pointer (some ⟨b9, 0, none⟩) := hF.old 9 rfl
    have cb := cell_later hJ.bel (S4.out.cell (b9) (.slice a9 n9 c9))
    exact run_val (v := .agg #[.slice a9 n9 c9]) rfl (by simp [execOp, go_sem, q9, cb]) ⟨_, rfl, hJ.step hL rfl (Below.refl _ _) (by exact ((S4.out.at (.agg #[.slice a9 n9 c9]) (Nat.gcd p y)).mono hJ.bel))⟩
  · intro L vs a w' hJ hF hP hL
    have p0 : L 0 = true := hP ⟨0, .data⟩ (by simp) rfl
    have s0 : IsNat w' (vs 0) (p) := hJ.sp 0 p0
    have q29 := hF.slot 0 29 rfl p0
    have p1 : L 1 = true := hP ⟨1, .data⟩ (by simp) rfl
    have s1 : IsNat w' (vs 1) (Nat.gcd p y) := hJ.sp 1 p1
    have q30 := hF.slot 1 30 rfl p1
    refine run_call (f := 66) (args := #[vs 0, vs 1]) rfl (by simp [go_sem, q29, q30]) (over_any _ _ p (Nat.gcd p y) _ s0 s1 HH.out.1.p198 HL.out.2.2.1.p198 HL.out.1) ?_
    rintro e w2 ⟨v, rfl, hv, hb⟩
    exact ⟨_, rfl, _, rfl, hJ.step hL rfl hb (by exact hv)⟩
  · intro L vs a w' hJ hF hP hL
    have q7 : (a.tmps[7]?).getD undef = .pointer (some ⟨b7, 0, none⟩) := hF.old 7 rfl
    have cb := cell_later hJ.bel (S4.out.cell (b7) (.slice a7 n7 c7))
    exact run_val (v := .agg #[.slice a7 n7 c7]) rfl (by simp [execOp, go_sem, q7, cb]) ⟨_, rfl, hJ.step hL rfl (Below.refl _ _) (by exact ((S4.out.at (.agg #[.slice a7 n7 c7]) (x)).mono hJ.bel))⟩
  · intro L vs a w' hJ hF hP hL
    have q10 : (a.tmps[10]?).getD undef = .pointer (some ⟨b10, 0, none⟩) := hF.old 10 rfl
    have cb := cell_later hJ.bel (S4.out.cell (b10) (.slice a10 n10 c10))
    exact run_val (v := .agg #[.slice a10 n10 c10]) rfl (by simp [execOp, go_sem, q10, cb]) ⟨_, rfl, hJ.step hL rfl (Below.refl _ _) (by exact ((S4.out.at (.agg #[.slice a10 n10 c10]) (Nat.gcd x q)).mono hJ.bel))⟩
  · intro L vs a w' hJ hF hP hL
    have p3 : L 3 = true := hP ⟨3, .data⟩ (by simp) rfl
    have s3 : IsNat w' (vs 3) (x) := hJ.sp 3 p3
    have q32 := hF.slot 3 32 rfl p3
    have p4 : L 4 = true := hP ⟨4, .data⟩ (by simp) rfl
    have s4 : IsNat w' (vs 4) (Nat.gcd x q) := hJ.sp 4 p4
    have q33 := hF.slot 4 33 rfl p4
    refine run_call (f := 66) (args := #[vs 3, vs 4]) rfl (by simp [go_sem, q32, q33]) (over_any _ _ x (Nat.gcd x q) _ s3 s4 HH.out.2.2.1.p198 HL.out.2.2.2.1.p198 HL.out.2.1) ?_
    rintro e w2 ⟨v, rfl, hv, hb⟩
    exact ⟨_, rfl, _, rfl, hJ.step hL rfl hb (by exact hv)⟩
  · intro L vs a w' hJ hF hP hL
    have p2 : L 2 = true := hP ⟨2, .data⟩ (by simp) rfl
    have s2 : IsNat w' (vs 2) (p / Nat.gcd p y) := hJ.sp 2 p2
    have q31 := hF.slot 2 31 rfl p2
    have p5 : L 5 = true := hP ⟨5, .data⟩ (by simp) rfl
    have s5 : IsNat w' (vs 5) (x / Nat.gcd x q) := hJ.sp 5 p5
    have q34 := hF.slot 5 34 rfl p5
    refine run_call (f := 70) (args := #[vs 2, vs 5]) rfl (by simp [go_sem, q31, q34]) (mul_short _ _ (p / Nat.gcd p y) (x / Nat.gcd x q) _ s2 s5 HL.out.2.2.2.2.1.fits HL.out.2.2.2.2.2.1.fits (.inl HL.out.2.2.2.2.1.p99)) ?_
    rintro e w2 ⟨v, rfl, hv, hb⟩
    exact ⟨_, rfl, _, rfl, hJ.step hL rfl hb (by exact hv)⟩
  · intro L vs a w' hJ hF hP hL
    exact run_val (v := .pointer (some ⟨w'.heap.size, 0, none⟩)) (w' := w'.alloc (.cells #[.slice none 0 0] 26)) rfl (by simp [execOp, go_sem]) ⟨_, rfl, hJ.alloc hL rfl rfl _⟩
  · intro L vs a w' hJ hF hP hL
    have p7 : L 7 = true := hP ⟨7, .data⟩ (by simp) rfl
    have q11 := hF.slot 7 11 rfl p7
    have p6 : L 6 = true := hP ⟨6, .data⟩ (by simp) rfl
    have s6 : IsNat w' (vs 6) (p / Nat.gcd p y * (x / Nat.gcd x q)) := hJ.sp 6 p6
    have q35 := hF.slot 6 35 rfl p6
    obtain ⟨bk, e1, e2, e3, e4, e5, e6⟩ := hJ.bx (7, 8, 6) (by simp) p7
    have e7 := e5 hL
    obtain ⟨aa, nn, cc, e8⟩ := s6.isAgg
    exact run_unit (w' := w'.setCell ⟨bk, 0, none⟩ (.slice aa nn cc)) rfl (by simp [execOp, go_sem, q11, q35, e1, e8, e7, e4]) ⟨undef, rfl, hJ.store (b := (7, 8, 6)) (by simp) hL p7 p6 (by decide) rfl e1 e8⟩
  intro L vs w' hA hJ
  have s6 : IsNat w' (vs 6) (p / Nat.gcd p y * (x / Nat.gcd x q)) := hJ.sp 6 (hA 6 (by simp))
  obtain ⟨bk7, eb7, ge7, lt7, fz7, _, e6⟩ := hJ.bx (7, 8, 6) (by simp) (hA 7 (by simp))
  obtain ⟨_, u7, eu7, ce7⟩ := e6 (hA 8 (by simp))
  clear e6
  simp only [putL, Act.put, List.setIfInBounds_toArray, List.set_cons_zero, List.set_cons_succ, Nat.reduceAdd]
  obtain ⟨a11, n11, c11, q1⟩ := s6.isAgg
  rw [q1] at s6 eu7
  obtain rfl : u7 = .slice a11 n11 c11 := by simpa using eu7.symm
  simp only [eb7]
  obtain ⟨w11, ew⟩ : ∃ w11, w11 = w' := ⟨_, rfl⟩
  obtain ⟨b11, e1⟩ : ∃ b11, b11 = bk7 := ⟨_, rfl⟩
  have FZ : Hid (w'.frozen? ⟨b2 + 1 + 1, 0, none⟩ = false ∧ w'.frozen? ⟨b2 + 1 + 1, 1, none⟩ = false) := ⟨(hJ.bel.frozen (World.block_lt_of_cell? _ _ (S4.out.cel (b2 + 1 + 1) 0 (.slice none 0 0)))).trans FZ.out.1, (hJ.bel.frozen (World.block_lt_of_cell? _ _ (S4.out.cel (b2 + 1 + 1) 1 (.slice none 0 0)))).trans FZ.out.2⟩
  have S5 : Hid _ := ((S4.out.go hJ.bel).addN s6).addC ce7
  rw [← ew, ← e1] at S5
  rw [← ew] at FZ
  rw [← ew, ← e1]
  clear ew e1 q1 s6 eu7 eb7 ce7 ge7 lt7 fz7 hJ hA S4
  go_wp2_with fail
  refine wp_region_inv (JB w11 [sNat (q), sNat (Nat.gcd x q), sNat (q / Nat.gcd x q), sNat (y), sNat (Nat.gcd p y), sNat (y / Nat.gcd p y), sNat (q / Nat.gcd x q * (y / Nat.gcd p y)), sAny, sAny] [(7, 8, 6)]) 46 (by kernel_rfl) rfl (by kernel_rfl) (JB.start _ _ _) (fun HG HN => ⟨?_, ?_, ?_, ?_, ?_, ?_, ?_, ?_, ?_, trivial⟩) ?_
  · intro L vs a w' hJ hF hP hL
    have q6 : (a.tmps[6]?).getD undef = .pointer (some ⟨b6, 0, none⟩) := hF.old 6 rfl
    have cb := cell_later hJ.bel (S5.out.cell (b6) (.slice a6 n6 c6))
    exact run_val (v := .agg #[.slice a6 n6 c6]) rfl (by simp [execOp, go_sem, q6, cb]) ⟨_, rfl, hJ.step hL rfl (Below.refl _ _) (by exact ((S5.out.at (.agg #[.slice a6 n6 c6]) (q)).mono hJ.bel))⟩
  · intro L vs a w' hJ hF hP hL
    have q10 : (a.tmps[10]?).getD undef = .pointer (some ⟨b10, 0, none⟩) := hF.old 10 rfl
    have cb := cell_later hJ.bel (S5.out.cell (b10) (.slice a10 n10 c10))
    exact run_val (v := .agg #[.slice a10 n10 c10]) rfl (by simp [execOp, go_sem, q10, cb]) ⟨_, rfl, hJ.step hL rfl (Below.refl _ _) (by exact ((S5.out.at (.agg #[.slice a10 n10 c10]) (Nat.gcd x q)).mono hJ.bel))⟩
  · intro L vs a w' hJ hF hP hL
    have p0 : L 0 = true := hP ⟨0, .data⟩ (by simp) rfl
    have s0 : IsNat w' (vs 0) (q) := hJ.sp 0 p0
    have q36 := hF.slot 0 36 rfl p0
    have p1 : L 1 = true := hP ⟨1, .data⟩ (by simp) rfl
    have s1 : IsNat w' (vs 1) (Nat.gcd x q) := hJ.sp 1 p1
    have q37 := hF.slot 1 37 rfl p1
    refine run_call (f := 66) (args := #[vs 0, vs 1]) rfl (by simp [go_sem, q36, q37]) (over_any _ _ q (Nat.gcd x q) _ s0 s1 HH.out.2.1.p198 HL.out.2.2.2.1.p198 HL.out.2.1) ?_
    rintro e w2 ⟨v, rfl, hv, hb⟩
    exact ⟨_, rfl, _, rfl, hJ.step hL rfl hb (by exact hv)⟩
  · intro L vs a w' hJ hF hP hL
    have q8 : (a.tmps[8]?).getD undef = .pointer (some ⟨b8, 0, none⟩) := hF.old 8 rfl
    have cb := cell_later hJ.bel (S5.out.cell (b8) (.slice a8 n8 c8))
    exact run_val (v := .agg #[.slice a8 n8 c8]) rfl (by simp [execOp, go_sem, q8, cb]) ⟨_, rfl, hJ.step hL rfl (Below.refl _ _) (by exact ((S5.out.at (.agg #[.slice a8 n8 c8]) (y)).mono hJ.bel))⟩
  · intro L vs a w' hJ hF hP hL
    have q9 : (a.tmps[9]?).getD undef = .pointer (some ⟨b9, 0, none⟩) := hF.old 9 rfl
    have cb := cell_later hJ.bel (S5.out.cell (b9) (.slice a9 n9 c9))
    exact run_val (v := .agg #[.slice a9 n9 c9]) rfl (by simp [execOp, go_sem, q9, cb]) ⟨_, rfl, hJ.step hL rfl (Below.refl _ _) (by exact ((S5.out.at (.agg #[.slice a9 n9 c9]) (Nat.gcd p y)).mono hJ.bel))⟩
  · intro L vs a w' hJ hF hP hL
    have p3 : L 3 = true := hP ⟨3, .data⟩ (by simp) rfl
    have s3 : IsNat w' (vs 3) (y) := hJ.sp 3 p3
    have q39 := hF.slot 3 39 rfl p3
    have p4 : L 4 = true := hP ⟨4, .data⟩ (by simp) rfl
    have s4 : IsNat w' (vs 4) (Nat.gcd p y) := hJ.sp 4 p4
    have q40 := hF.slot 4 40 rfl p4
    refine run_call (f := 66) (args := #[vs 3, vs 4]) rfl (by simp [go_sem, q39, q40]) (over_any _ _ y (Nat.gcd p y) _ s3 s4 HH.out.2.2.2.1.p198 HL.out.2.2.1.p198 HL.out.1) ?_
    rintro e w2 ⟨v, rfl, hv, hb⟩
    exact ⟨_, rfl, _, rfl, hJ.step hL rfl hb (by exact hv)⟩
  · intro L vs a w' hJ hF hP hL
    have p2 : L 2 = true := hP ⟨2, .data⟩ (by simp) rfl
    have s2 : IsNat w' (vs 2) (q / Nat.gcd x q) := hJ.sp 2 p2
    have q38 := hF.slot 2 38 rfl p2
    have p5 : L 5 = true := hP ⟨5, .data⟩ (by simp) rfl
    have s5 : IsNat w' (vs 5) (y / Nat.gcd p y) := hJ.sp 5 p5
    have q41 := hF.slot 5 41 rfl p5
    refine run_call (f := 70) (args := #[vs 2, vs 5]) rfl (by simp [go_sem, q38, q41]) (mul_short _ _ (q / Nat.gcd x q) (y / Nat.gcd p y) _ s2 s5 HL.out.2.2.2.2.2.2.1.fits HL.out.2.2.2.2.2.2.2.fits (.inl HL.out.2.2.2.2.2.2.1.p99)) ?_
    rintro e w2 ⟨v, rfl, hv, hb⟩
    exact ⟨_, rfl, _, rfl, hJ.step hL rfl hb (by exact hv)⟩
  · intro L vs a w' hJ hF hP hL
    exact run_val (v := .pointer (some ⟨w'.heap.size, 0, none⟩)) (w' := w'.alloc (.cells #[.slice none 0 0] 26)) rfl (by simp [execOp, go_sem]) ⟨_, rfl, hJ.alloc hL rfl rfl _⟩
  · intro L vs a w' hJ hF hP hL
    have p7 : L 7 = true := hP ⟨7, .data⟩ (by simp) rfl
    have q12 := hF.slot 7 12 rfl p7
    have p6 : L 6 = true := hP ⟨6, .data⟩ (by simp) rfl
    have s6 : IsNat w' (vs 6) (q / Nat.gcd x q * (y / Nat.gcd p y)) := hJ.sp 6 p6
    have q42 := hF.slot 6 42 rfl p6
    obtain ⟨bk, e1, e2, e3, e4, e5, e6⟩ := hJ.bx (7, 8, 6) (by simp) p7
    have e7 := e5 hL
    obtain ⟨aa, nn, cc, e8⟩ := s6.isAgg
    exact run_unit (w' := w'.setCell ⟨bk, 0, none⟩ (.slice aa nn cc)) rfl (by simp [execOp, go_sem, q12, q42, e1, e8, e7, e4]) ⟨undef, rfl, hJ.store (b := (7, 8, 6)) (by simp) hL p7 p6 (by decide) rfl e1 e8⟩
  intro L vs w' hA hJ
  have s6 : IsNat w' (vs 6) (q / Nat.gcd x q * (y / Nat.gcd p y)) := hJ.sp 6 (hA 6 (by simp))
  obtain ⟨bk7, eb7, ge7, lt7, fz7, _, e6⟩ := hJ.bx (7, 8, 6) (by simp) (hA 7 (by simp))
  obtain ⟨_, u7, eu7, ce7⟩ := e6 (hA 8 (by simp))
  clear e6
  simp only [putL, Act.put, List.setIfInBounds_toArray, List.set_cons_zero, List.set_cons_succ, Nat.reduceAdd]
  obtain ⟨a12, n12, c12, q1⟩ := s6.isAgg
  rw [q1] at s6 eu7
  obtain rfl : u7 = .slice a12 n12 c12 := by simpa using eu7.symm
  simp only [eb7]
  obtain ⟨w12, ew⟩ : ∃ w12, w12 = w' := ⟨_, rfl⟩
  obtain ⟨b12, e1⟩ : ∃ b12, b12 = bk7 := ⟨_, rfl⟩
  have FZ : Hid (w'.frozen? ⟨b2 + 1 + 1, 0, none⟩ = false ∧ w'.frozen? ⟨b2 + 1 + 1, 1, none⟩ = false) := ⟨(hJ.bel.frozen (World.block_lt_of_cell? _ _ (S5.out.cel (b2 + 1 + 1) 0 (.slice none 0 0)))).trans FZ.out.1, (hJ.bel.frozen (World.block_lt_of_cell? _ _ (S5.out.cel (b2 + 1 + 1) 1 (.slice none 0 0)))).trans FZ.out.2⟩
  have S6 : Hid _ := ((S5.out.go hJ.bel).addN s6).addC ce7
  rw [← ew, ← e1] at S6
  rw [← ew] at FZ
  rw [← ew, ← e1]
  clear ew e1 q1 s6 eu7 eb7 ce7 ge7 lt7 fz7 hJ hA S5
  have z11 := S6.out.cell b11 (.slice a11 n11 c11)
  have z12 := S6.out.cell b12 (.slice a12 n12 c12)
  go_wp2_with fail
  refine (inLowest_any _ _ (mulP p q x y) (mulQ p q x y) _ (S6.out.at (.agg #[.slice a11 n11 c11]) (p / Nat.gcd p y * (x / Nat.gcd x q))) (S6.out.at (.agg #[.slice a12 n12 c12]) (q / Nat.gcd x q * (y / Nat.gcd p y))) HM.out.2.2 HM.out.2.1 HM.out.1).mono ?_
  rintro e w13 ⟨v13, rfl, hv, hb⟩
  obtain ⟨p7, q7, r7, p8, q8, r8, ev, _, _⟩ := hv.raw
  subst ev
  have x0 := cell_later hb (S6.out.cel (b2 + 1 + 1) 0 (.slice none 0 0))
  have x1 := cell_later hb (S6.out.cel (b2 + 1 + 1) 1 (.slice none 0 0))
  have FZ : Hid (w13.frozen? ⟨b2 + 1 + 1, 0, none⟩ = false ∧ w13.frozen? ⟨b2 + 1 + 1, 1, none⟩ = false) := ⟨(hb.frozen (World.block_lt_of_cell? _ _ (S6.out.cel (b2 + 1 + 1) 0 (.slice none 0 0)))).trans FZ.out.1, (hb.frozen (World.block_lt_of_cell? _ _ (S6.out.cel (b2 + 1 + 1) 1 (.slice none 0 0)))).trans FZ.out.2⟩
  have f0 := FZ.out.1
  have f1 := FZ.out.2
  have Z : Hid _ := rat_put (w0 := w) (v := .slice p7 q7 r7) (u := .slice p8 q8 r8) x0 x1 hv (bel_go S6.out.bel hb) HB.out
  clear hv hb S6 z11 z12 FZ
  go_wp2_with fail
  exact bodyPost_ret (v := .agg #[.slice p7 q7 r7, .slice p8 q8 r8]) (by simp [results, Tryz.results82, go_sem, x0, x1]) rfl ⟨_, rfl, Z.out.1, Z.out.2⟩
end Go.Proofs.YtmiiaomdenpceaaGreatDoor

