/- Contracts of the program's functions, part 15: own work, joined in build order. -/
import Derived.Test.YthogfecnbddfoaaGreatDoorJ14
namespace Go.Proofs.YthogfecnbddfoaaGreatDoor
open Go.RowKit
set_option maxRecDepth 100000
set_option linter.unusedVariables false
/-- What is known of a world: numbers and fractions of both kinds, what lies in cells, and that what was is as it was. -/
structure SX (w0 w : World) (N M : List (Value × Nat)) (F G : List (Value × Nat × Nat)) (C : List (Nat × Nat × Value)) : Prop where
  nats : ∀ p ∈ N, IsNat w p.1 p.2
  rnats : ∀ p ∈ M, RNat w p.1 p.2
  frs : ∀ p ∈ F, Rt w p.1 p.2.1 p.2.2
  rfrs : ∀ p ∈ G, RRt w p.1 p.2.1 p.2.2
  cells : ∀ p ∈ C, w.cell? ⟨p.1, p.2.1, none⟩ = some p.2.2
  bel : Below w0.heap.size w0 w
theorem SX.go {w0 w : World} {N M : List (Value × Nat)} {F G : List (Value × Nat × Nat)} {C : List (Nat × Nat × Value)} (h : SX w0 w N M F G C) {w' : World} (hb : Below w.heap.size w w') : SX w0 w' N M F G C :=
  ⟨fun p hp => (h.nats p hp).mono hb, fun p hp => (h.rnats p hp).mono hb, fun p hp => (h.frs p hp).mono hb, fun p hp => (h.rfrs p hp).mono hb, fun p hp => cell_later hb (h.cells p hp), bel_go h.bel hb⟩
theorem SX.at {w0 w : World} {N M : List (Value × Nat)} {F G : List (Value × Nat × Nat)} {C : List (Nat × Nat × Value)} (h : SX w0 w N M F G C) (v : Value) (x : Nat) (hm : (v, x) ∈ N := by simp) : IsNat w v x := h.nats _ hm
theorem SX.rat {w0 w : World} {N M : List (Value × Nat)} {F G : List (Value × Nat × Nat)} {C : List (Nat × Nat × Value)} (h : SX w0 w N M F G C) (v : Value) (x : Nat) (hm : (v, x) ∈ M := by simp) : RNat w v x := h.rnats _ hm
theorem SX.fr {w0 w : World} {N M : List (Value × Nat)} {F G : List (Value × Nat × Nat)} {C : List (Nat × Nat × Value)} (h : SX w0 w N M F G C) (v : Value) (p q : Nat) (hm : (v, p, q) ∈ F := by simp) : Rt w v p q := h.frs _ hm
theorem SX.rfr {w0 w : World} {N M : List (Value × Nat)} {F G : List (Value × Nat × Nat)} {C : List (Nat × Nat × Value)} (h : SX w0 w N M F G C) (v : Value) (p q : Nat) (hm : (v, p, q) ∈ G := by simp) : RRt w v p q := h.rfrs _ hm
theorem SX.cel {w0 w : World} {N M : List (Value × Nat)} {F G : List (Value × Nat × Nat)} {C : List (Nat × Nat × Value)} (h : SX w0 w N M F G C) (b i : Nat) (u : Value) (hm : (b, i, u) ∈ C := by simp) : w.cell? ⟨b, i, none⟩ = some u := h.cells _ hm
theorem SX.cell {w0 w : World} {N M : List (Value × Nat)} {F G : List (Value × Nat × Nat)} {C : List (Nat × Nat × Value)} (h : SX w0 w N M F G C) (b : Nat) (u : Value) (hm : (b, 0, u) ∈ C := by simp) : w.cell? ⟨b, 0, none⟩ = some u := h.cells _ hm
theorem SX.addN {w0 w : World} {N M : List (Value × Nat)} {F G : List (Value × Nat × Nat)} {C : List (Nat × Nat × Value)} (h : SX w0 w N M F G C) {v : Value} {x : Nat} (hv : IsNat w v x) : SX w0 w ((v, x) :: N) M F G C :=
  ⟨fun p hp => by
    rcases List.mem_cons.1 hp with e | e
    · subst e; exact hv
    · exact h.nats p e, h.rnats, h.frs, h.rfrs, h.cells, h.bel⟩
theorem SX.addM {w0 w : World} {N M : List (Value × Nat)} {F G : List (Value × Nat × Nat)} {C : List (Nat × Nat × Value)} (h : SX w0 w N M F G C) {v : Value} {x : Nat} (hv : RNat w v x) : SX w0 w N ((v, x) :: M) F G C :=
  ⟨h.nats, fun p hp => by
    rcases List.mem_cons.1 hp with e | e
    · subst e; exact hv
    · exact h.rnats p e, h.frs, h.rfrs, h.cells, h.bel⟩
theorem SX.addF {w0 w : World} {N M : List (Value × Nat)} {F G : List (Value × Nat × Nat)} {C : List (Nat × Nat × Value)} (h : SX w0 w N M F G C) {v : Value} {x y : Nat} (hv : Rt w v x y) : SX w0 w N M ((v, x, y) :: F) G C :=
  ⟨h.nats, h.rnats, fun p hp => by
    rcases List.mem_cons.1 hp with e | e
    · subst e; exact hv
    · exact h.frs p e, h.rfrs, h.cells, h.bel⟩
theorem SX.addG {w0 w : World} {N M : List (Value × Nat)} {F G : List (Value × Nat × Nat)} {C : List (Nat × Nat × Value)} (h : SX w0 w N M F G C) {v : Value} {x y : Nat} (hv : RRt w v x y) : SX w0 w N M F ((v, x, y) :: G) C :=
  ⟨h.nats, h.rnats, h.frs, fun p hp => by
    rcases List.mem_cons.1 hp with e | e
    · subst e; exact hv
    · exact h.rfrs p e, h.cells, h.bel⟩
theorem SX.addC {w0 w : World} {N M : List (Value × Nat)} {F G : List (Value × Nat × Nat)} {C : List (Nat × Nat × Value)} (h : SX w0 w N M F G C) {b i : Nat} {v : Value} (hv : w.cell? ⟨b, i, none⟩ = some v) : SX w0 w N M F G ((b, i, v) :: C) :=
  ⟨h.nats, h.rnats, h.frs, h.rfrs, fun p hp => by
    rcases List.mem_cons.1 hp with e | e
    · subst e; exact hv
    · exact h.cells p e, h.bel⟩
theorem SX.box1 {w0 w : World} {N M : List (Value × Nat)} {F G : List (Value × Nat × Nat)} {C : List (Nat × Nat × Value)} (h : SX w0 w N M F G C) (u : Value) (t : TypeId) (g : Nat) (hg : g = w.heap.size) : SX w0 (w.alloc (.cells #[u] t)) N M F G ((g, 0, u) :: C) := by
  subst hg
  exact (h.go (w' := w.alloc (.cells #[u] t)) (bel_al (Below.refl _ _))).addC (by simp)
theorem SX.box {w0 w : World} {N M : List (Value × Nat)} {F G : List (Value × Nat × Nat)} {C : List (Nat × Nat × Value)} (h : SX w0 w N M F G C) (u u' : Value) (t : TypeId) (g : Nat) (hg : g = w.heap.size) : SX w0 (w.alloc (.cells #[u, u'] t)) N M F G ((g, 0, u) :: (g, 1, u') :: C) := by
  subst hg
  have h' := h.go (w' := w.alloc (.cells #[u, u'] t)) (bel_al (Below.refl _ _))
  exact (h'.addC (b := w.heap.size) (i := 1) (v := u') (by simp)).addC (by simp)
/-- A cell is written over: what lay elsewhere stays. -/
theorem SX.set {w0 w : World} {N M : List (Value × Nat)} {F G : List (Value × Nat × Nat)} {C : List (Nat × Nat × Value)} (h : SX w0 w N M F G C) {b i : Nat} {a : Option Addr} {n c : Nat} (hc : w.cell? ⟨b, i, none⟩ = some (.slice a n c)) (hlo : w0.heap.size ≤ b) (C' : List (Nat × Nat × Value)) (hC : ∀ p ∈ C', p ∈ C ∧ p.1 ≠ b) (u : Value) : SX w0 (w.setCell ⟨b, i, none⟩ u) N M F G C' :=
  ⟨fun p hp => (h.nats p hp).setCell (no_int_slice hc) u, fun p hp => (h.rnats p hp).setCell (no_int_slice hc) u, fun p hp => (h.frs p hp).setCell (no_int_slice hc) u, fun p hp => (h.rfrs p hp).setCell (no_int_slice hc) u,
    fun p hp => by
      rw [World.cell?_setCell_far _ _ _ _ (by simpa using Ne.symm (hC p hp).2)]
      exact h.cells p (hC p hp).1,
    h.bel.setCell (p := ⟨b, i, none⟩) hlo u⟩
theorem sx_start (w : World) : SX w w [] [] [] [] [] := ⟨(fun _ h => by cases h), (fun _ h => by cases h), (fun _ h => by cases h), (fun _ h => by cases h), (fun _ h => by cases h), Below.refl _ _⟩
end Go.Proofs.YthogfecnbddfoaaGreatDoor

namespace Go.Proofs.YthogfecnbddfoaaGreatDoor
open Go.RowKit
set_option maxRecDepth 100000
set_option linter.unusedVariables false
/-- An invariant: while the answer is not stored, all is as without boxes; once it is, all else is done. -/
structure JD (w0 : World) (specs : List Spec) (needs : List (List Nat)) (st val : Nat) (oth : List Nat) (Sto : World → Value → World → Prop) (L : Nat → Bool) (vs : Nat → Value) (w : World) : Prop where
  core : L st = false → JB w0 specs [] L vs w
  cl : ∀ j, L j = true → ∀ k ∈ needs.getD j [], L k = true
  fin : L st = true → (∀ j ∈ oth, L j = true) ∧ ∃ w1, Below w0.heap.size w0 w1 ∧ (specs.getD val sAny).1 w1 (vs val) ∧ Sto w1 (vs val) w
theorem JD.start (w : World) (specs : List Spec) (needs : List (List Nat)) (st val : Nat) (oth : List Nat) (Sto : World → Value → World → Prop) : JD w specs needs st val oth Sto (fun _ => false) (fun _ => undef) w.drew :=
  ⟨fun _ => JB.start _ _ _, (fun _ h => by cases h), (fun h => by cases h)⟩
theorem nd_nil {L : Nat → Bool} : ∀ k ∈ ([] : List Nat), L k = true := fun _ h => by cases h
theorem nd_cons {L : Nat → Bool} {a : Nat} {l : List Nat} (h : L a = true) (k : ∀ j ∈ l, L j = true) : ∀ j ∈ a :: l, L j = true := fun j hj => by
  rcases List.mem_cons.1 hj with e | e
  · rw [e]; exact h
  · exact k j e
theorem JD.open {w0 : World} {specs : List Spec} {needs : List (List Nat)} {st val : Nat} {oth : List Nat} {Sto : World → Value → World → Prop} {L : Nat → Bool} {vs : Nat → Value} {w : World} (h : JD w0 specs needs st val oth Sto L vs w) {i : Nat} (hL : L i = false) (hi : i ∈ oth) : JB w0 specs [] L vs w :=
  h.core (by
    cases e : L st
    · rfl
    · have := (h.fin e).1 i hi
      rw [hL] at this
      cases this)
theorem JD.step {w0 : World} {specs : List Spec} {needs : List (List Nat)} {st val : Nat} {oth : List Nat} {Sto : World → Value → World → Prop} {L : Nat → Bool} {vs : Nat → Value} {w : World} (h : JD w0 specs needs st val oth Sto L vs w) {i : Nat} (hL : L i = false) (hi : i ∈ oth) (hne : i ≠ st) {nd : List Nat} (he : needs.getD i [] = nd) (hn : ∀ k ∈ nd, L k = true) {v : Value} {w' : World} (k : JB w0 specs [] (updB L i) (updV vs i v) w') : JD w0 specs needs st val oth Sto (updB L i) (updV vs i v) w' := by
  refine ⟨fun _ => k, fun j hj m hm => ?_, fun hs => ?_⟩
  · by_cases e : j = i
    · subst e
      rw [he] at hm
      have := hn m hm
      unfold updB; split <;> simp_all
    · have := h.cl j (by simpa [updB, e] using hj) m hm
      unfold updB; split <;> simp_all
  · have hs' : L st = true := by simpa [updB, hne.symm] using hs
    have := (h.fin hs').1 i hi
    rw [hL] at this
    cases this
theorem JD.put {w0 : World} {specs : List Spec} {needs : List (List Nat)} {st val : Nat} {oth : List Nat} {Sto : World → Value → World → Prop} {L : Nat → Bool} {vs : Nat → Value} {w : World} (h : JD w0 specs needs st val oth Sto L vs w) (hL : L st = false) (hv : val ≠ st) {nd : List Nat} (he : needs.getD st [] = nd) (hn : ∀ k ∈ nd, L k = true) (ho : ∀ j ∈ oth, L j = true) (hV : L val = true) {w' : World} (hs : Sto w (vs val) w') : JD w0 specs needs st val oth Sto (updB L st) (updV vs st undef) w' := by
  have J := h.core hL
  refine ⟨fun e => ?_, fun j hj m hm => ?_, fun _ => ⟨fun j hj => ?_, w, J.bel, ?_, ?_⟩⟩
  · simp [updB] at e
  · by_cases e : j = st
    · subst e
      rw [he] at hm
      have := hn m hm
      unfold updB; split <;> simp_all
    · have := h.cl j (by simpa [updB, e] using hj) m hm
      unfold updB; split <;> simp_all
  · have := ho j hj
    unfold updB; split <;> simp_all
  · have : updV vs st undef val = vs val := by simp [updV, hv]
    rw [this]
    exact J.sp val hV
  · have : updV vs st undef val = vs val := by simp [updV, hv]
    rw [this]
    exact hs
/-- Two cells of a box take the answer. -/
def Sto2 (R : Nat) (w : World) (v : Value) (w' : World) : Prop := ∃ u u', v = .agg #[u, u'] ∧ w' = (w.setCell ⟨R, 0, none⟩ u).setCell ⟨R, 1, none⟩ u'
end Go.Proofs.YthogfecnbddfoaaGreatDoor

namespace Go.Proofs.YthogfecnbddfoaaGreatDoor
open Go.RowKit
set_option maxRecDepth 100000
set_option linter.unusedVariables false
/-- Two fractions in lowest terms that are the same have the same parts. -/
theorem low_one {a b c d : Nat} (h1 : Nat.gcd a b = 1) (h2 : Nat.gcd c d = 1) (hb : 0 < b) (hd : 0 < d) (e : a * d = c * b) : a = c ∧ b = d := by
  have h1' : Nat.Coprime a b := h1
  have h2' : Nat.Coprime c d := h2
  have d1 : b ∣ d := h1'.symm.dvd_of_dvd_mul_left ⟨c, by rw [e, Nat.mul_comm]⟩
  have d2 : d ∣ b := h2'.symm.dvd_of_dvd_mul_left ⟨a, by rw [← e, Nat.mul_comm]⟩
  have hbd : b = d := Nat.dvd_antisymm d1 d2
  subst hbd
  exact ⟨Nat.eq_of_mul_eq_mul_right hb e, rfl⟩
/-- A fraction is brought to lowest terms. -/
theorem low_terms (x Y : Nat) (hY : 0 < Y) : Nat.gcd (x / Nat.gcd x Y) (Y / Nat.gcd x Y) = 1 ∧ x / Nat.gcd x Y * Y = x * (Y / Nat.gcd x Y) ∧ 0 < Y / Nat.gcd x Y := by
  have g0 : 0 < Nat.gcd x Y := Nat.gcd_pos_of_pos_right _ hY
  refine ⟨?_, ?_, Nat.div_pos (Nat.gcd_le_right _ hY) g0⟩
  · rw [Nat.gcd_div (Nat.gcd_dvd_left _ _) (Nat.gcd_dvd_right _ _), Nat.div_self g0]
  · obtain ⟨a, ha⟩ := Nat.gcd_dvd_left x Y
    obtain ⟨b, hb⟩ := Nat.gcd_dvd_right x Y
    generalize Nat.gcd x Y = g at *
    subst ha hb
    rw [Nat.mul_div_cancel_left _ g0, Nat.mul_div_cancel_left _ g0]
    grind
theorem radd_parts {w0 w : World} {r : Nat} {p q : Nat} {a6 a7 : Option Addr} {n6 k6 n7 k7 : Nat} (x0 : w.cell? ⟨r, 0, none⟩ = some (.slice none 0 0)) (x1 : w.cell? ⟨r, 1, none⟩ = some (.slice none 0 0)) :
    ((w.setCell ⟨r, 0, none⟩ (.slice a6 n6 k6)).setCell ⟨r, 1, none⟩ (.slice a7 n7 k7)).cell? ⟨r, 0, none⟩ = some (.slice a6 n6 k6) ∧ ((w.setCell ⟨r, 0, none⟩ (.slice a6 n6 k6)).setCell ⟨r, 1, none⟩ (.slice a7 n7 k7)).cell? ⟨r, 1, none⟩ = some (.slice a7 n7 k7) := by
  have hd : (w.setCell ⟨r, 0, none⟩ (.slice a6 n6 k6)).cell? ⟨r, 1, none⟩ = some (.slice none 0 0) := by rw [World.cell?_setCell_other (h := by simp), x1]
  constructor
  · rw [World.cell?_setCell_other (h := by simp)]
    simp [go_sem, x0]
  · simp [go_sem, hd]
set_option maxHeartbeats 4000000 in
theorem radd2_any (v u : Value) (p q x y : Nat) (w : World) (h : RRt w v p q) (k : RRt w u x y) (hp : RS p) (hq : RS q) (hx : RS x) (hy : RS y) (hq0 : 0 < q) (hy0 : 0 < y) :
    Calls Tryz.prog 12 #[v, u] w (MakesRR w ((p * y + x * q) / Nat.gcd (p * y + x * q) (q * y)) ((q * y) / Nat.gcd (p * y + x * q) (q * y))) := by
  obtain ⟨p1, n1, c1, p2, n2, c2, e0, g1, g2⟩ := h
  subst e0
  obtain ⟨p3, n3, c3, p4, n4, c4, e1, g3, g4⟩ := k
  subst e1
  have S0 : Hid _ := ((((((sx_start w).addM g1).addM g2).addM g3).addM g4).box (.slice p1 n1 c1) (.slice p2 n2 c2) 35 _ rfl).box (.slice p3 n3 c3) (.slice p4 n4 c4) 35 _ rfl
  simp only [World.size_alloc] at S0
  have S1 : Hid _ := S0.out.box (.slice none 0 0) (.slice none 0 0) 35 _ rfl
  simp only [World.size_alloc] at S1
  obtain ⟨w0, hw0⟩ : ∃ w0, w0 = ((w.alloc (.cells #[.slice p1 n1 c1, .slice p2 n2 c2] 35)).alloc (.cells #[.slice p3 n3 c3, .slice p4 n4 c4] 35)).alloc (.cells #[.slice none 0 0, .slice none 0 0] 35) := ⟨_, rfl⟩
  have f6 : w0.frozen? ⟨w.heap.size + 1 + 1, 0, none⟩ = false := by rw [hw0]; simp [go_sem]
  have f7 : w0.frozen? ⟨w.heap.size + 1 + 1, 1, none⟩ = false := by rw [hw0]; simp [go_sem]
  have s1 : RSome (p * y + x * q) := ⟨Nat.lt_of_lt_of_le (by rw [← P_B]; exact P_twice (hp.mul hy) (hx.mul hq)) (B_le (show 2 * 181 ≤ 1000000 by omega))⟩
  have s2 : RSome (q * y) := ⟨Nat.lt_of_lt_of_le (by rw [← P_B]; exact hq.mul hy) (B_le (show 2 * 180 ≤ 1000000 by omega))⟩
  have HH : Hid (RS p ∧ RS q ∧ RS x ∧ RS y ∧ RFits (p * y) ∧ RFits (x * q) ∧ RSome (p * y + x * q) ∧ RSome (q * y) ∧ 0 < q * y) := ⟨hp, hq, hx, hy, rfits_P (hp.mul hy) (by omega), rfits_P (hx.mul hq) (by omega), s1, s2, Nat.mul_pos hq0 hy0⟩
  clear g1 g2 g3 g4 hp hq hx hy hq0 hy0 s1 s2 S0
  go_enter Tryz.func12, Tryz.ntmps12
  go_wp2_with fail
  rw [← hw0] at S1
  rw [← hw0]
  obtain ⟨b2, hb2⟩ : ∃ b2, b2 = w.heap.size := ⟨_, rfl⟩
  have HB : Hid (w.heap.size ≤ b2 + 1 + 1) := by show _ ≤ _; omega
  rw [← hb2] at S1 f6 f7
  rw [← hb2]
  clear hw0 hb2
  have e6 := S1.out.cel (b2 + 1 + 1) 0 (.slice none 0 0)
  have e7 := S1.out.cel (b2 + 1 + 1) 1 (.slice none 0 0)
  refine wp_region_inv (JD w0 [sEq (.pointer (some ⟨b2, 0, none⟩)), sR (p), sEq (.pointer (some ⟨b2 + 1, 1, none⟩)), sR (y), sR (p * y), sEq (.pointer (some ⟨b2 + 1, 0, none⟩)), sR (x), sEq (.pointer (some ⟨b2, 1, none⟩)), sR (q), sR (x * q), sR (p * y + x * q), sEq (.pointer (some ⟨b2, 1, none⟩)), sR (q), sEq (.pointer (some ⟨b2 + 1, 1, none⟩)), sR (y), sR (q * y), sRRt ((p * y + x * q) / Nat.gcd (p * y + x * q) (q * y)) ((q * y) / Nat.gcd (p * y + x * q) (q * y)), sAny] [[], [0], [], [2], [1, 3], [], [5], [], [7], [6, 8], [4, 9], [], [11], [], [13], [12, 14], [10, 15], [16]] 17 16 [0, 1, 2, 3, 4, 5, 6, 7, 8, 9, 10, 11, 12, 13, 14, 15, 16] (Sto2 (b2 + 1 + 1))) 22 (by kernel_rfl) rfl (by kernel_rfl) (JD.start _ _ _ _ _ _ _) (fun HG HN => ⟨?_, ?_, ?_, ?_, ?_, ?_, ?_, ?_, ?_, ?_, ?_, ?_, ?_, ?_, ?_, ?_, ?_, ?_, trivial⟩) ?_
  · intro L vs a w' hJ hF hP hL
    have hK := hJ
    have hJ := hK.open hL (by decide)
    have q2 : (a.tmps[2]?).getD undef = .pointer (some ⟨b2, 0, none⟩) := hF.old 2 rfl
    exact run_val (v := .pointer (some ⟨b2, 0, none⟩)) rfl (by simp [execOp, go_sem, q2]) ⟨_, rfl, hK.step hL (by decide) (by decide) rfl (nd_nil) <| hJ.step hL rfl (Below.refl _ _) (by exact rfl)⟩
  · intro L vs a w' hJ hF hP hL
    have hK := hJ
    have hJ := hK.open hL (by decide)
    have p0 : L 0 = true := hP ⟨0, .data⟩ (by simp) rfl
    have s0 : vs 0 = .pointer (some ⟨b2, 0, none⟩) := hJ.sp 0 p0
    have q5 := hF.slot 0 5 rfl p0
    have cb := cell_later hJ.bel (S1.out.cel (b2) 0 (.slice p1 n1 c1))
    exact run_val (v := .agg #[.slice p1 n1 c1]) rfl (by simp [execOp, go_sem, q5, s0, cb]) ⟨_, rfl, hK.step hL (by decide) (by decide) rfl (nd_cons p0 (nd_nil)) <| hJ.step hL rfl (Below.refl _ _) (by exact ((S1.out.rat (.agg #[.slice p1 n1 c1]) (p)).mono hJ.bel))⟩
  · intro L vs a w' hJ hF hP hL
    have hK := hJ
    have hJ := hK.open hL (by decide)
    have q3 : (a.tmps[3]?).getD undef = .pointer (some ⟨b2 + 1, 0, none⟩) := hF.old 3 rfl
    exact run_val (v := .pointer (some ⟨b2 + 1, 1, none⟩)) rfl (by simp [execOp, go_sem, q3]) ⟨_, rfl, hK.step hL (by decide) (by decide) rfl (nd_nil) <| hJ.step hL rfl (Below.refl _ _) (by exact rfl)⟩
  · intro L vs a w' hJ hF hP hL
    have hK := hJ
    have hJ := hK.open hL (by decide)
    have p2 : L 2 = true := hP ⟨2, .data⟩ (by simp) rfl
    have s2 : vs 2 = .pointer (some ⟨b2 + 1, 1, none⟩) := hJ.sp 2 p2
    have q7 := hF.slot 2 7 rfl p2
    have cb := cell_later hJ.bel (S1.out.cel (b2 + 1) 1 (.slice p4 n4 c4))
    exact run_val (v := .agg #[.slice p4 n4 c4]) rfl (by simp [execOp, go_sem, q7, s2, cb]) ⟨_, rfl, hK.step hL (by decide) (by decide) rfl (nd_cons p2 (nd_nil)) <| hJ.step hL rfl (Below.refl _ _) (by exact ((S1.out.rat (.agg #[.slice p4 n4 c4]) (y)).mono hJ.bel))⟩
  · intro L vs a w' hJ hF hP hL
    have hK := hJ
    have hJ := hK.open hL (by decide)
    have p1 : L 1 = true := hP ⟨1, .data⟩ (by simp) rfl
    have s1 : RNat w' (vs 1) (p) := hJ.sp 1 p1
    have q6 := hF.slot 1 6 rfl p1
    have p3 : L 3 = true := hP ⟨3, .data⟩ (by simp) rfl
    have s3 : RNat w' (vs 3) (y) := hJ.sp 3 p3
    have q8 := hF.slot 3 8 rfl p3
    refine run_call (f := 30) (args := #[vs 1, vs 3]) rfl (by simp [go_sem, q6, q8]) (rtimes_any _ _ p y _ s1 s3 HH.out.1.rfits HH.out.2.2.2.1.rfits) ?_
    rintro e w2 ⟨v, rfl, hv, hb⟩
    exact ⟨_, rfl, _, rfl, hK.step hL (by decide) (by decide) rfl (nd_cons p1 (nd_cons p3 (nd_nil))) <| hJ.step hL rfl hb (by exact hv)⟩
  · intro L vs a w' hJ hF hP hL
    have hK := hJ
    have hJ := hK.open hL (by decide)
    have q3 : (a.tmps[3]?).getD undef = .pointer (some ⟨b2 + 1, 0, none⟩) := hF.old 3 rfl
    exact run_val (v := .pointer (some ⟨b2 + 1, 0, none⟩)) rfl (by simp [execOp, go_sem, q3]) ⟨_, rfl, hK.step hL (by decide) (by decide) rfl (nd_nil) <| hJ.step hL rfl (Below.refl _ _) (by exact rfl)⟩
  · intro L vs a w' hJ hF hP hL
    have hK := hJ
    have hJ := hK.open hL (by decide)
    have p5 : L 5 = true := hP ⟨5, .data⟩ (by simp) rfl
    have s5 : vs 5 = .pointer (some ⟨b2 + 1, 0, none⟩) := hJ.sp 5 p5
    have q10 := hF.slot 5 10 rfl p5
    have cb := cell_later hJ.bel (S1.out.cel (b2 + 1) 0 (.slice p3 n3 c3))
    exact run_val (v := .agg #[.slice p3 n3 c3]) rfl (by simp [execOp, go_sem, q10, s5, cb]) ⟨_, rfl, hK.step hL (by decide) (by decide) rfl (nd_cons p5 (nd_nil)) <| hJ.step hL rfl (Below.refl _ _) (by exact ((S1.out.rat (.agg #[.slice p3 n3 c3]) (x)).mono hJ.bel))⟩
  · intro L vs a w' hJ hF hP hL
    have hK := hJ
    have hJ := hK.open hL (by decide)
    have q2 : (a.tmps[2]?).getD undef = .pointer (some ⟨b2, 0, none⟩) := hF.old 2 rfl
    exact run_val (v := .pointer (some ⟨b2, 1, none⟩)) rfl (by simp [execOp, go_sem, q2]) ⟨_, rfl, hK.step hL (by decide) (by decide) rfl (nd_nil) <| hJ.step hL rfl (Below.refl _ _) (by exact rfl)⟩
  · intro L vs a w' hJ hF hP hL
    have hK := hJ
    have hJ := hK.open hL (by decide)
    have p7 : L 7 = true := hP ⟨7, .data⟩ (by simp) rfl
    have s7 : vs 7 = .pointer (some ⟨b2, 1, none⟩) := hJ.sp 7 p7
    have q12 := hF.slot 7 12 rfl p7
    have cb := cell_later hJ.bel (S1.out.cel (b2) 1 (.slice p2 n2 c2))
    exact run_val (v := .agg #[.slice p2 n2 c2]) rfl (by simp [execOp, go_sem, q12, s7, cb]) ⟨_, rfl, hK.step hL (by decide) (by decide) rfl (nd_cons p7 (nd_nil)) <| hJ.step hL rfl (Below.refl _ _) (by exact ((S1.out.rat (.agg #[.slice p2 n2 c2]) (q)).mono hJ.bel))⟩
  · intro L vs a w' hJ hF hP hL
    have hK := hJ
    have hJ := hK.open hL (by decide)
    have p6 : L 6 = true := hP ⟨6, .data⟩ (by simp) rfl
    have s6 : RNat w' (vs 6) (x) := hJ.sp 6 p6
    have q11 := hF.slot 6 11 rfl p6
    have p8 : L 8 = true := hP ⟨8, .data⟩ (by simp) rfl
    have s8 : RNat w' (vs 8) (q) := hJ.sp 8 p8
    have q13 := hF.slot 8 13 rfl p8
    refine run_call (f := 30) (args := #[vs 6, vs 8]) rfl (by simp [go_sem, q11, q13]) (rtimes_any _ _ x q _ s6 s8 HH.out.2.2.1.rfits HH.out.2.1.rfits) ?_
    rintro e w2 ⟨v, rfl, hv, hb⟩
    exact ⟨_, rfl, _, rfl, hK.step hL (by decide) (by decide) rfl (nd_cons p6 (nd_cons p8 (nd_nil))) <| hJ.step hL rfl hb (by exact hv)⟩
  · intro L vs a w' hJ hF hP hL
    have hK := hJ
    have hJ := hK.open hL (by decide)
    have p4 : L 4 = true := hP ⟨4, .data⟩ (by simp) rfl
    have s4 : RNat w' (vs 4) (p * y) := hJ.sp 4 p4
    have q9 := hF.slot 4 9 rfl p4
    have p9 : L 9 = true := hP ⟨9, .data⟩ (by simp) rfl
    have s9 : RNat w' (vs 9) (x * q) := hJ.sp 9 p9
    have q14 := hF.slot 9 14 rfl p9
    refine run_call (f := 29) (args := #[vs 4, vs 9]) rfl (by simp [go_sem, q9, q14]) (rplus_any _ _ (p * y) (x * q) _ s4 s9 HH.out.2.2.2.2.1 HH.out.2.2.2.2.2.1) ?_
    rintro e w2 ⟨v, rfl, hv, hb⟩
    exact ⟨_, rfl, _, rfl, hK.step hL (by decide) (by decide) rfl (nd_cons p4 (nd_cons p9 (nd_nil))) <| hJ.step hL rfl hb (by exact hv)⟩
  · intro L vs a w' hJ hF hP hL
    have hK := hJ
    have hJ := hK.open hL (by decide)
    have q2 : (a.tmps[2]?).getD undef = .pointer (some ⟨b2, 0, none⟩) := hF.old 2 rfl
    exact run_val (v := .pointer (some ⟨b2, 1, none⟩)) rfl (by simp [execOp, go_sem, q2]) ⟨_, rfl, hK.step hL (by decide) (by decide) rfl (nd_nil) <| hJ.step hL rfl (Below.refl _ _) (by exact rfl)⟩
  · intro L vs a w' hJ hF hP hL
    have hK := hJ
    have hJ := hK.open hL (by decide)
    have p11 : L 11 = true := hP ⟨11, .data⟩ (by simp) rfl
    have s11 : vs 11 = .pointer (some ⟨b2, 1, none⟩) := hJ.sp 11 p11
    have q16 := hF.slot 11 16 rfl p11
    have cb := cell_later hJ.bel (S1.out.cel (b2) 1 (.slice p2 n2 c2))
    exact run_val (v := .agg #[.slice p2 n2 c2]) rfl (by simp [execOp, go_sem, q16, s11, cb]) ⟨_, rfl, hK.step hL (by decide) (by decide) rfl (nd_cons p11 (nd_nil)) <| hJ.step hL rfl (Below.refl _ _) (by exact ((S1.out.rat (.agg #[.slice p2 n2 c2]) (q)).mono hJ.bel))⟩
  · intro L vs a w' hJ hF hP hL
    have hK := hJ
    have hJ := hK.open hL (by decide)
    have q3 : (a.tmps[3]?).getD undef = .pointer (some ⟨b2 + 1, 0, none⟩) := hF.old 3 rfl
    exact run_val (v := .pointer (some ⟨b2 + 1, 1, none⟩)) rfl (by simp [execOp, go_sem, q3]) ⟨_, rfl, hK.step hL (by decide) (by decide) rfl (nd_nil) <| hJ.step hL rfl (Below.refl _ _) (by exact rfl)⟩
  · intro L vs a w' hJ hF hP hL
    have hK := hJ
    have hJ := hK.open hL (by decide)
    have p13 : L 13 = true := hP ⟨13, .data⟩ (by simp) rfl
    have s13 : vs 13 = .pointer (some ⟨b2 + 1, 1, none⟩) := hJ.sp 13 p13
    have q18 := hF.slot 13 18 rfl p13
    have cb := cell_later hJ.bel (S1.out.cel (b2 + 1) 1 (.slice p4 n4 c4))
    exact run_val (v := .agg #[.slice p4 n4 c4]) rfl (by simp [execOp, go_sem, q18, s13, cb]) ⟨_, rfl, hK.step hL (by decide) (by decide) rfl (nd_cons p13 (nd_nil)) <| hJ.step hL rfl (Below.refl _ _) (by exact ((S1.out.rat (.agg #[.slice p4 n4 c4]) (y)).mono hJ.bel))⟩
  · intro L vs a w' hJ hF hP hL
    have hK := hJ
    have hJ := hK.open hL (by decide)
    have p12 : L 12 = true := hP ⟨12, .data⟩ (by simp) rfl
    have s12 : RNat w' (vs 12) (q) := hJ.sp 12 p12
    have q17 := hF.slot 12 17 rfl p12
    have p14 : L 14 = true := hP ⟨14, .data⟩ (by simp) rfl
    have s14 : RNat w' (vs 14) (y) := hJ.sp 14 p14
    have q19 := hF.slot 14 19 rfl p14
    refine run_call (f := 30) (args := #[vs 12, vs 14]) rfl (by simp [go_sem, q17, q19]) (rtimes_any _ _ q y _ s12 s14 HH.out.2.1.rfits HH.out.2.2.2.1.rfits) ?_
    rintro e w2 ⟨v, rfl, hv, hb⟩
    exact ⟨_, rfl, _, rfl, hK.step hL (by decide) (by decide) rfl (nd_cons p12 (nd_cons p14 (nd_nil))) <| hJ.step hL rfl hb (by exact hv)⟩
  · intro L vs a w' hJ hF hP hL
    have hK := hJ
    have hJ := hK.open hL (by decide)
    have p10 : L 10 = true := hP ⟨10, .data⟩ (by simp) rfl
    have s10 : RNat w' (vs 10) (p * y + x * q) := hJ.sp 10 p10
    have q15 := hF.slot 10 15 rfl p10
    have p15 : L 15 = true := hP ⟨15, .data⟩ (by simp) rfl
    have s15 : RNat w' (vs 15) (q * y) := hJ.sp 15 p15
    have q20 := hF.slot 15 20 rfl p15
    refine run_call (f := 28) (args := #[vs 10, vs 15]) rfl (by simp [go_sem, q15, q20]) (rmade_any _ _ (p * y + x * q) (q * y) _ s10 s15 HH.out.2.2.2.2.2.2.1 HH.out.2.2.2.2.2.2.2.1 HH.out.2.2.2.2.2.2.2.2) ?_
    rintro e w2 ⟨v, rfl, hv, hb⟩
    exact ⟨_, rfl, _, rfl, hK.step hL (by decide) (by decide) rfl (nd_cons p10 (nd_cons p15 (nd_nil))) <| hJ.step hL rfl hb (by exact hv)⟩
  · intro L vs a w' hJ hF hP hL
    have hK := hJ
    have hJ := hK.core hL
    have q4 : (a.tmps[4]?).getD undef = .pointer (some ⟨b2 + 1 + 1, 0, none⟩) := hF.old 4 rfl
    have p16 : L 16 = true := hP ⟨16, .data⟩ (by simp) rfl
    have s16 : RRt w' (vs 16) ((p * y + x * q) / Nat.gcd (p * y + x * q) (q * y)) ((q * y) / Nat.gcd (p * y + x * q) (q * y)) := hJ.sp 16 p16
    have q21 := hF.slot 16 21 rfl p16
    have p10 : L 10 = true := hK.cl 16 p16 10 (by simp)
    have p4 : L 4 = true := hK.cl 10 p10 4 (by simp)
    have p1 : L 1 = true := hK.cl 4 p4 1 (by simp)
    have p0 : L 0 = true := hK.cl 1 p1 0 (by simp)
    have p3 : L 3 = true := hK.cl 4 p4 3 (by simp)
    have p2 : L 2 = true := hK.cl 3 p3 2 (by simp)
    have p9 : L 9 = true := hK.cl 10 p10 9 (by simp)
    have p6 : L 6 = true := hK.cl 9 p9 6 (by simp)
    have p5 : L 5 = true := hK.cl 6 p6 5 (by simp)
    have p8 : L 8 = true := hK.cl 9 p9 8 (by simp)
    have p7 : L 7 = true := hK.cl 8 p8 7 (by simp)
    have p15 : L 15 = true := hK.cl 16 p16 15 (by simp)
    have p12 : L 12 = true := hK.cl 15 p15 12 (by simp)
    have p11 : L 11 = true := hK.cl 12 p12 11 (by simp)
    have p14 : L 14 = true := hK.cl 15 p15 14 (by simp)
    have p13 : L 13 = true := hK.cl 14 p14 13 (by simp)
    have x0 := cell_later hJ.bel e6
    have y0 := (hJ.bel.frozen (World.block_lt_of_cell? _ _ e6)).trans f6
    have x1 := cell_later hJ.bel e7
    have y1 := (hJ.bel.frozen (World.block_lt_of_cell? _ _ e7)).trans f7
    have s16' := s16
    obtain ⟨aa, nn, cc, a2, n2, c2, e8, _, _⟩ := s16'
    exact run_unit (w' := (w'.setCell ⟨b2 + 1 + 1, 0, none⟩ (.slice aa nn cc)).setCell ⟨b2 + 1 + 1, 1, none⟩ (.slice a2 n2 c2)) rfl (by simp [execOp, go_sem, q4, q21, e8, x0, y0, x1, y1]) ⟨undef, rfl, hK.put hL (by decide) rfl (nd_cons p16 nd_nil) (nd_cons p0 (nd_cons p1 (nd_cons p2 (nd_cons p3 (nd_cons p4 (nd_cons p5 (nd_cons p6 (nd_cons p7 (nd_cons p8 (nd_cons p9 (nd_cons p10 (nd_cons p11 (nd_cons p12 (nd_cons p13 (nd_cons p14 (nd_cons p15 (nd_cons p16 (nd_nil)))))))))))))))))) p16 ⟨_, _, e8, rfl⟩⟩
  intro L vs w' hA hK
  obtain ⟨_, w1, hb1, sv, u1, u2, ev, ew⟩ := hK.fin (hA 17 (by simp))
  replace sv : RRt w1 (vs 16) ((p * y + x * q) / Nat.gcd (p * y + x * q) (q * y)) ((q * y) / Nat.gcd (p * y + x * q) (q * y)) := sv
  obtain ⟨a6, n6, k6, a7, n7, k7, e8, h6, h7⟩ := sv
  rw [e8] at ev
  obtain ⟨rfl, rfl⟩ : u1 = .slice a6 n6 k6 ∧ u2 = .slice a7 n7 k7 := by simpa [eq_comm] using ev
  have x0 := cell_later hb1 e6
  have x1 := cell_later hb1 e7
  have Z : Hid _ := rrat_put (w0 := w) (v := .slice a6 n6 k6) (u := .slice a7 n7 k7) x0 x1 (V := .agg #[.slice a6 n6 k6, .slice a7 n7 k7]) ⟨_, _, _, _, _, _, rfl, h6, h7⟩ (bel_go S1.out.bel hb1) HB.out
  obtain ⟨l6, l7⟩ := radd_parts (w0 := w) (p := p) (q := q) (a6 := a6) (n6 := n6) (k6 := k6) (a7 := a7) (n7 := n7) (k7 := k7) x0 x1
  rw [← ew] at Z l6 l7
  clear ew x0 x1 h6 h7 ev hb1 e8 hK hA e6 e7 f6 f7 S1
  simp only [putL, Act.put, List.setIfInBounds_toArray, List.set_cons_zero, List.set_cons_succ, Nat.reduceAdd]
  go_wp2_with fail
  exact bodyPost_ret (v := .agg #[.slice a6 n6 k6, .slice a7 n7 k7]) (by simp [results, Tryz.results12, go_sem, l6, l7]) rfl ⟨_, rfl, Z.out.1, Z.out.2⟩
end Go.Proofs.YthogfecnbddfoaaGreatDoor

namespace Go.Proofs.YthogfecnbddfoaaGreatDoor
open Go.RowKit
set_option maxRecDepth 100000
set_option linter.unusedVariables false
def mulP (p q x y : Nat) : Nat := p / Nat.gcd p y * (x / Nat.gcd x q)
def mulQ (p q x y : Nat) : Nat := q / Nat.gcd x q * (y / Nat.gcd p y)
theorem mul_low {p q x y : Nat} (hq : 0 < q) (hy : 0 < y) (h1 : Nat.gcd p q = 1) (h2 : Nat.gcd x y = 1) : Nat.gcd (mulP p q x y) (mulQ p q x y) = 1 ∧ 0 < mulQ p q x y ∧ mulP p q x y * (q * y) = p * x * mulQ p q x y := by
  have l0 : 0 < Nat.gcd p y := Nat.gcd_pos_of_pos_right _ hy
  have r0 : 0 < Nat.gcd x q := Nat.gcd_pos_of_pos_right _ hq
  obtain ⟨a, ha⟩ := Nat.gcd_dvd_left p y
  obtain ⟨b, hb⟩ := Nat.gcd_dvd_right p y
  obtain ⟨c, hc⟩ := Nat.gcd_dvd_left x q
  obtain ⟨d, hd⟩ := Nat.gcd_dvd_right x q
  have cab : Nat.Coprime (p / Nat.gcd p y) (y / Nat.gcd p y) := by
    have := Nat.gcd_div (Nat.gcd_dvd_left p y) (Nat.gcd_dvd_right p y)
    rw [Nat.div_self l0] at this
    exact this
  have ccd : Nat.Coprime (x / Nat.gcd x q) (q / Nat.gcd x q) := by
    have := Nat.gcd_div (Nat.gcd_dvd_left x q) (Nat.gcd_dvd_right x q)
    rw [Nat.div_self r0] at this
    exact this
  unfold mulP mulQ
  generalize Nat.gcd p y = l at *
  generalize Nat.gcd x q = r at *
  have e1 : p / l = a := by rw [ha, Nat.mul_div_cancel_left _ l0]
  have e2 : y / l = b := by rw [hb, Nat.mul_div_cancel_left _ l0]
  have e3 : x / r = c := by rw [hc, Nat.mul_div_cancel_left _ r0]
  have e4 : q / r = d := by rw [hd, Nat.mul_div_cancel_left _ r0]
  rw [e1, e2] at cab
  rw [e3, e4] at ccd
  rw [e1, e2, e3, e4]
  have h1' : Nat.Coprime p q := h1
  have h2' : Nat.Coprime x y := h2
  have k1 : Nat.Coprime a d := (h1'.coprime_dvd_left ⟨l, by rw [ha, Nat.mul_comm]⟩).coprime_dvd_right ⟨r, by rw [hd, Nat.mul_comm]⟩
  have k2 : Nat.Coprime c b := (h2'.coprime_dvd_left ⟨r, by rw [hc, Nat.mul_comm]⟩).coprime_dvd_right ⟨l, by rw [hb, Nat.mul_comm]⟩
  refine ⟨Nat.Coprime.mul_left (Nat.Coprime.mul_right k1 cab) (Nat.Coprime.mul_right ccd k2), Nat.mul_pos ?_ ?_, ?_⟩
  · rcases Nat.eq_zero_or_pos d with e | e
    · rw [e] at hd; omega
    · exact e
  · rcases Nat.eq_zero_or_pos b with e | e
    · rw [e] at hb; omega
    · exact e
  · rw [ha, hb, hc, hd]
    grind
set_option maxHeartbeats 8000000 in
theorem ratMul_any (v u : Value) (p q x y : Nat) (w : World) (h : Rt w v p q) (k : Rt w u x y) (hp : RS p) (hq : RS q) (hx : RS x) (hy : RS y) (hT : Tab w) :
    Calls Tryz.prog 51 #[v, u] w (MakesR w (mulP p q x y) (mulQ p q x y)) := by
  obtain ⟨p1, n1, c1, p2, n2, c2, e0, _, _⟩ := h.raw
  subst e0
  obtain ⟨p3, n3, c3, p4, n4, c4, e1, _, _⟩ := k.raw
  subst e1
  have low := mul_low h.pos k.pos h.low k.low
  have S0 : Hid _ := ((((sx_start w).addF h).addF k).box (.slice p1 n1 c1) (.slice p2 n2 c2) 51 _ rfl).box (.slice p3 n3 c3) (.slice p4 n4 c4) 51 _ rfl
  simp only [World.size_alloc] at S0
  have S1 : Hid _ := S0.out.box (.slice none 0 0) (.slice none 0 0) 51 _ rfl
  simp only [World.size_alloc] at S1
  obtain ⟨w0, hw0⟩ : ∃ w0, w0 = ((w.alloc (.cells #[.slice p1 n1 c1, .slice p2 n2 c2] 51)).alloc (.cells #[.slice p3 n3 c3, .slice p4 n4 c4] 51)).alloc (.cells #[.slice none 0 0, .slice none 0 0] 51) := ⟨_, rfl⟩
  have f6 : w0.frozen? ⟨w.heap.size + 1 + 1, 0, none⟩ = false := by rw [hw0]; simp [go_sem]
  have f7 : w0.frozen? ⟨w.heap.size + 1 + 1, 1, none⟩ = false := by rw [hw0]; simp [go_sem]
  have HH : Hid (RS p ∧ RS q ∧ RS x ∧ RS y ∧ Tab w) := ⟨hp, hq, hx, hy, hT⟩
  have l0 : 0 < Nat.gcd p y := Nat.gcd_pos_of_pos_right _ k.pos
  have r0 : 0 < Nat.gcd x q := Nat.gcd_pos_of_pos_right _ h.pos
  have hl : RS (Nat.gcd p y) := hy.le (Nat.gcd_le_right _ k.pos)
  have hr : RS (Nat.gcd x q) := hq.le (Nat.gcd_le_right _ h.pos)
  have d1 : RS (p / Nat.gcd p y) := hp.le (Nat.div_le_self _ _)
  have d2 : RS (x / Nat.gcd x q) := hx.le (Nat.div_le_self _ _)
  have d3 : RS (q / Nat.gcd x q) := hq.le (Nat.div_le_self _ _)
  have d4 : RS (y / Nat.gcd p y) := hy.le (Nat.div_le_self _ _)
  have HL : Hid (0 < Nat.gcd p y ∧ 0 < Nat.gcd x q ∧ RS (Nat.gcd p y) ∧ RS (Nat.gcd x q) ∧ RS (p / Nat.gcd p y) ∧ RS (x / Nat.gcd x q) ∧ RS (q / Nat.gcd x q) ∧ RS (y / Nat.gcd p y)) := ⟨l0, r0, hl, hr, d1, d2, d3, d4⟩
  have HM : Hid (Nat.gcd (mulP p q x y) (mulQ p q x y) = 1 ∧ 0 < mulQ p q x y ∧ Fits (mulP p q x y)) := ⟨low.1, low.2.1, fits_P (d1.mul d2) (by omega)⟩
  clear h k hp hq hx hy hT low l0 r0 hl hr d1 d2 d3 d4 S0
  go_enter Tryz.func51, Tryz.ntmps51
  go_wp2_with fail
  rw [← hw0] at S1
  rw [← hw0]
  obtain ⟨b2, hb2⟩ : ∃ b2, b2 = w.heap.size := ⟨_, rfl⟩
  have HB : Hid (w.heap.size ≤ b2 + 1 + 1) := by show _ ≤ _; omega
  rw [← hb2] at S1 f6 f7
  rw [← hb2]
  clear hw0 hb2
  have FZ : Hid (w0.frozen? ⟨b2 + 1 + 1, 0, none⟩ = false ∧ w0.frozen? ⟨b2 + 1 + 1, 1, none⟩ = false) := ⟨f6, f7⟩
  clear f6 f7
  refine (parts_any _ p q _ (S1.out.fr (.agg #[.slice p1 n1 c1, .slice p2 n2 c2]) p q) HH.out.2.1.fits).mono ?_
  rintro e v5w ⟨v5, v6, rfl, hv, hu, hb⟩
  obtain ⟨a5, n5, c5, rfl⟩ := hv.isAgg
  obtain ⟨a6, n6, c6, rfl⟩ := hu.isAgg
  have hbb := bel_go hb (bel_al (o := .cells #[.slice a6 n6 c6] 49) (bel_al (o := .cells #[.slice a5 n5 c5] 49) (bel_refl _)))
  have FZ : Hid (((v5w.alloc (.cells #[.slice a5 n5 c5] 49)).alloc (.cells #[.slice a6 n6 c6] 49)).frozen? ⟨b2 + 1 + 1, 0, none⟩ = false ∧ ((v5w.alloc (.cells #[.slice a5 n5 c5] 49)).alloc (.cells #[.slice a6 n6 c6] 49)).frozen? ⟨b2 + 1 + 1, 1, none⟩ = false) := ⟨(hbb.frozen (World.block_lt_of_cell? _ _ (S1.out.cel (b2 + 1 + 1) 0 (.slice none 0 0)))).trans FZ.out.1, (hbb.frozen (World.block_lt_of_cell? _ _ (S1.out.cel (b2 + 1 + 1) 1 (.slice none 0 0)))).trans FZ.out.2⟩
  have S2 : Hid _ := ((((S1.out.go hb).addN hv).addN hu).box1 (.slice a5 n5 c5) 49 _ rfl).box1 (.slice a6 n6 c6) 49 _ rfl
  clear hv hu hb hbb S1
  simp only [World.size_alloc] at S2
  have z3 := S2.out.cel (b2 + 1) 0 (.slice p3 n3 c3)
  have z4 := S2.out.cel (b2 + 1) 1 (.slice p4 n4 c4)
  go_wp2_with fail
  obtain ⟨w5, hw⟩ : ∃ w5, w5 = (v5w.alloc (.cells #[.slice a5 n5 c5] 49)).alloc (.cells #[.slice a6 n6 c6] 49) := ⟨_, rfl⟩
  obtain ⟨b5, hb⟩ : ∃ b5, b5 = v5w.heap.size := ⟨_, rfl⟩
  rw [← hw, ← hb] at S2
  rw [← hw] at FZ
  rw [← hw, ← hb]
  clear hw hb
  obtain ⟨b6, hb⟩ : ∃ b6, b6 = b5 + 1 := ⟨_, rfl⟩
  rw [← hb] at S2
  rw [← hb]
  clear hb
  clear z3 z4
  refine (parts_any _ x y _ (S2.out.fr (.agg #[.slice p3 n3 c3, .slice p4 n4 c4]) x y) HH.out.2.2.2.1.fits).mono ?_
  rintro e v7w ⟨v7, v8, rfl, hv, hu, hb⟩
  obtain ⟨a7, n7, c7, rfl⟩ := hv.isAgg
  obtain ⟨a8, n8, c8, rfl⟩ := hu.isAgg
  have hbb := bel_go hb (bel_al (o := .cells #[.slice a8 n8 c8] 49) (bel_al (o := .cells #[.slice a7 n7 c7] 49) (bel_refl _)))
  have FZ : Hid (((v7w.alloc (.cells #[.slice a7 n7 c7] 49)).alloc (.cells #[.slice a8 n8 c8] 49)).frozen? ⟨b2 + 1 + 1, 0, none⟩ = false ∧ ((v7w.alloc (.cells #[.slice a7 n7 c7] 49)).alloc (.cells #[.slice a8 n8 c8] 49)).frozen? ⟨b2 + 1 + 1, 1, none⟩ = false) := ⟨(hbb.frozen (World.block_lt_of_cell? _ _ (S2.out.cel (b2 + 1 + 1) 0 (.slice none 0 0)))).trans FZ.out.1, (hbb.frozen (World.block_lt_of_cell? _ _ (S2.out.cel (b2 + 1 + 1) 1 (.slice none 0 0)))).trans FZ.out.2⟩
  have S3 : Hid _ := ((((S2.out.go hb).addN hv).addN hu).box1 (.slice a7 n7 c7) 49 _ rfl).box1 (.slice a8 n8 c8) 49 _ rfl
  clear hv hu hb hbb S2
  simp only [World.size_alloc] at S3
  go_wp2_with fail
  obtain ⟨w7, hw⟩ : ∃ w7, w7 = (v7w.alloc (.cells #[.slice a7 n7 c7] 49)).alloc (.cells #[.slice a8 n8 c8] 49) := ⟨_, rfl⟩
  obtain ⟨b7, hb⟩ : ∃ b7, b7 = v7w.heap.size := ⟨_, rfl⟩
  rw [← hw, ← hb] at S3
  rw [← hw] at FZ
  rw [← hw, ← hb]
  clear hw hb
  obtain ⟨b8, hb⟩ : ∃ b8, b8 = b7 + 1 := ⟨_, rfl⟩
  rw [← hb] at S3
  rw [← hb]
  clear hb
  refine wp_region_inv (JB w7 [sNat (p), sNat (y), sNat (Nat.gcd p y), sNat (x), sNat (q), sNat (Nat.gcd x q), sAny, sAny, sAny, sAny] [(6, 8, 2), (7, 9, 5)]) 46 (by kernel_rfl) rfl (by kernel_rfl) (JB.start _ _ _) (fun HG HN => ⟨?_, ?_, ?_, ?_, ?_, ?_, ?_, ?_, ?_, ?_, trivial⟩) ?_
  · intro L vs a w' hJ hF hP hL
    have q5 : (a.tmps[5]?).getD undef = .pointer (some ⟨b5, 0, none⟩) := hF.old 5 rfl
    have cb := cell_later hJ.bel (S3.out.cell (b5) (.slice a5 n5 c5))
    exact run_val (v := .agg #[.slice a5 n5 c5]) rfl (by simp [execOp, go_sem, q5, cb]) ⟨_, rfl, hJ.step hL rfl (Below.refl _ _) (by exact ((S3.out.at (.agg #[.slice a5 n5 c5]) (p)).mono hJ.bel))⟩
  · intro L vs a w' hJ hF hP hL
    have q8 : (a.tmps[8]?).getD undef = .pointer (some ⟨b8, 0, none⟩) := hF.old 8 rfl
    have cb := cell_later hJ.bel (S3.out.cell (b8) (.slice a8 n8 c8))
    exact run_val (v := .agg #[.slice a8 n8 c8]) rfl (by simp [execOp, go_sem, q8, cb]) ⟨_, rfl, hJ.step hL rfl (Below.refl _ _) (by exact ((S3.out.at (.agg #[.slice a8 n8 c8]) (y)).mono hJ.bel))⟩
  · intro L vs a w' hJ hF hP hL
    have p0 : L 0 = true := hP ⟨0, .data⟩ (by simp) rfl
    have s0 : IsNat w' (vs 0) (p) := hJ.sp 0 p0
    have q23 := hF.slot 0 23 rfl p0
    have p1 : L 1 = true := hP ⟨1, .data⟩ (by simp) rfl
    have s1 : IsNat w' (vs 1) (y) := hJ.sp 1 p1
    have q24 := hF.slot 1 24 rfl p1
    refine run_call (f := 58) (args := #[vs 0, vs 1]) rfl (by simp [go_sem, q23, q24]) (gcd_any _ _ p y _ s0 s1 HH.out.1.p198 HH.out.2.2.2.1.p198 (HH.out.2.2.2.2.go (bel_go S3.out.bel hJ.bel))) ?_
    rintro e w2 ⟨v, rfl, hv, hb⟩
    exact ⟨_, rfl, _, rfl, hJ.step hL rfl hb (by exact hv)⟩
  · intro L vs a w' hJ hF hP hL
    have q7 : (a.tmps[7]?).getD undef = .pointer (some ⟨b7, 0, none⟩) := hF.old 7 rfl
    have cb := cell_later hJ.bel (S3.out.cell (b7) (.slice a7 n7 c7))
    exact run_val (v := .agg #[.slice a7 n7 c7]) rfl (by simp [execOp, go_sem, q7, cb]) ⟨_, rfl, hJ.step hL rfl (Below.refl _ _) (by exact ((S3.out.at (.agg #[.slice a7 n7 c7]) (x)).mono hJ.bel))⟩
  · intro L vs a w' hJ hF hP hL
    have q6 : (a.tmps[6]?).getD undef = .pointer (some ⟨b6, 0, none⟩) := hF.old 6 rfl
    have cb := cell_later hJ.bel (S3.out.cell (b6) (.slice a6 n6 c6))
    exact run_val (v := .agg #[.slice a6 n6 c6]) rfl (by simp [execOp, go_sem, q6, cb]) ⟨_, rfl, hJ.step hL rfl (Below.refl _ _) (by exact ((S3.out.at (.agg #[.slice a6 n6 c6]) (q)).mono hJ.bel))⟩
  · intro L vs a w' hJ hF hP hL
    have p3 : L 3 = true := hP ⟨3, .data⟩ (by simp) rfl
    have s3 : IsNat w' (vs 3) (x) := hJ.sp 3 p3
    have q26 := hF.slot 3 26 rfl p3
    have p4 : L 4 = true := hP ⟨4, .data⟩ (by simp) rfl
    have s4 : IsNat w' (vs 4) (q) := hJ.sp 4 p4
    have q27 := hF.slot 4 27 rfl p4
    refine run_call (f := 58) (args := #[vs 3, vs 4]) rfl (by simp [go_sem, q26, q27]) (gcd_any _ _ x q _ s3 s4 HH.out.2.2.1.p198 HH.out.2.1.p198 (HH.out.2.2.2.2.go (bel_go S3.out.bel hJ.bel))) ?_
    rintro e w2 ⟨v, rfl, hv, hb⟩
    exact ⟨_, rfl, _, rfl, hJ.step hL rfl hb (by exact hv)⟩
  · intro L vs a w' hJ hF hP hL
    exact run_val (v := .pointer (some ⟨w'.heap.size, 0, none⟩)) (w' := w'.alloc (.cells #[.slice none 0 0] 49)) rfl (by simp [execOp, go_sem]) ⟨_, rfl, hJ.alloc hL rfl rfl _⟩
  · intro L vs a w' hJ hF hP hL
    exact run_val (v := .pointer (some ⟨w'.heap.size, 0, none⟩)) (w' := w'.alloc (.cells #[.slice none 0 0] 49)) rfl (by simp [execOp, go_sem]) ⟨_, rfl, hJ.alloc hL rfl rfl _⟩
  · intro L vs a w' hJ hF hP hL
    have p6 : L 6 = true := hP ⟨6, .data⟩ (by simp) rfl
    have q9 := hF.slot 6 9 rfl p6
    have p2 : L 2 = true := hP ⟨2, .data⟩ (by simp) rfl
    have s2 : IsNat w' (vs 2) (Nat.gcd p y) := hJ.sp 2 p2
    have q25 := hF.slot 2 25 rfl p2
    obtain ⟨bk, e1, e2, e3, e4, e5, e6⟩ := hJ.bx (6, 8, 2) (by simp) p6
    have e7 := e5 hL
    obtain ⟨aa, nn, cc, e8⟩ := s2.isAgg
    exact run_unit (w' := w'.setCell ⟨bk, 0, none⟩ (.slice aa nn cc)) rfl (by simp [execOp, go_sem, q9, q25, e1, e8, e7, e4]) ⟨undef, rfl, hJ.store (b := (6, 8, 2)) (by simp) hL p6 p2 (by decide) rfl e1 e8⟩
  · intro L vs a w' hJ hF hP hL
    have p7 : L 7 = true := hP ⟨7, .data⟩ (by simp) rfl
    have q10 := hF.slot 7 10 rfl p7
    have p5 : L 5 = true := hP ⟨5, .data⟩ (by simp) rfl
    have s5 : IsNat w' (vs 5) (Nat.gcd x q) := hJ.sp 5 p5
    have q28 := hF.slot 5 28 rfl p5
    obtain ⟨bk, e1, e2, e3, e4, e5, e6⟩ := hJ.bx (7, 9, 5) (by simp) p7
    have e7 := e5 hL
    obtain ⟨aa, nn, cc, e8⟩ := s5.isAgg
    exact run_unit (w' := w'.setCell ⟨bk, 0, none⟩ (.slice aa nn cc)) rfl (by simp [execOp, go_sem, q10, q28, e1, e8, e7, e4]) ⟨undef, rfl, hJ.store (b := (7, 9, 5)) (by simp) hL p7 p5 (by decide) rfl e1 e8⟩
  intro L vs w' hA hJ
  have s2 : IsNat w' (vs 2) (Nat.gcd p y) := hJ.sp 2 (hA 2 (by simp))
  have s5 : IsNat w' (vs 5) (Nat.gcd x q) := hJ.sp 5 (hA 5 (by simp))
  obtain ⟨bk6, eb6, ge6, lt6, fz6, _, e6⟩ := hJ.bx (6, 8, 2) (by simp) (hA 6 (by simp))
  obtain ⟨_, u6, eu6, ce6⟩ := e6 (hA 8 (by simp))
  clear e6
  obtain ⟨bk7, eb7, ge7, lt7, fz7, _, e6⟩ := hJ.bx (7, 9, 5) (by simp) (hA 7 (by simp))
  obtain ⟨_, u7, eu7, ce7⟩ := e6 (hA 9 (by simp))
  clear e6
  simp only [putL, Act.put, List.setIfInBounds_toArray, List.set_cons_zero, List.set_cons_succ, Nat.reduceAdd]
  obtain ⟨a9, n9, c9, q1⟩ := s2.isAgg
  obtain ⟨a10, n10, c10, q2⟩ := s5.isAgg
  rw [q1] at s2 eu6
  rw [q2] at s5 eu7
  obtain rfl : u6 = .slice a9 n9 c9 := by simpa using eu6.symm
  obtain rfl : u7 = .slice a10 n10 c10 := by simpa using eu7.symm
  simp only [eb6, eb7]
  obtain ⟨w9, ew⟩ : ∃ w9, w9 = w' := ⟨_, rfl⟩
  obtain ⟨b9, e1⟩ : ∃ b9, b9 = bk6 := ⟨_, rfl⟩
  obtain ⟨b10, e2⟩ : ∃ b10, b10 = bk7 := ⟨_, rfl⟩
  have FZ : Hid (w'.frozen? ⟨b2 + 1 + 1, 0, none⟩ = false ∧ w'.frozen? ⟨b2 + 1 + 1, 1, none⟩ = false) := ⟨(hJ.bel.frozen (World.block_lt_of_cell? _ _ (S3.out.cel (b2 + 1 + 1) 0 (.slice none 0 0)))).trans FZ.out.1, (hJ.bel.frozen (World.block_lt_of_cell? _ _ (S3.out.cel (b2 + 1 + 1) 1 (.slice none 0 0)))).trans FZ.out.2⟩
  have S4 : Hid _ := ((((S3.out.go hJ.bel).addN s2).addN s5).addC ce6).addC ce7
  rw [← ew, ← e1, ← e2] at S4
  rw [← ew] at FZ
  rw [← ew, ← e1, ← e2]
  clear ew e1 e2 q1 q2 s2 s5 eu6 eu7 eb6 eb7 ce6 ce7 ge6 ge7 lt6 lt7 fz6 fz7 hJ hA S3
  go_wp2_with fail
  refine wp_region_inv (JB w9 [sNat (p), sNat (Nat.gcd p y), sNat (p / Nat.gcd p y), sNat (x), sNat (Nat.gcd x q), sNat (x / Nat.gcd x q), sNat (p / Nat.gcd p y * (x / Nat.gcd x q)), sAny, sAny] [(7, 8, 6)]) 46 (by kernel_rfl) rfl (by kernel_rfl) (JB.start _ _ _) (fun HG HN => ⟨?_, ?_, ?_, ?_, ?_, ?_, ?_, ?_, ?_, trivial⟩) ?_
  · intro L vs a w' hJ hF hP hL
    have q5 : (a.tmps[5]?).getD undef = .pointer (some ⟨b5, 0, none⟩) := hF.old 5 rfl
    have cb := cell_later hJ.bel (S4.out.cell (b5) (.slice a5 n5 c5))
    exact run_val (v := .agg #[.slice a5 n5 c5]) rfl (by simp [execOp, go_sem, q5, cb]) ⟨_, rfl, hJ.step hL rfl (Below.refl _ _) (by exact ((S4.out.at (.agg #[.slice a5 n5 c5]) (p)).mono hJ.bel))⟩
  · intro L vs a w' hJ hF hP hL
    have q9 : (a.tmps[9]?).getD undef = .pointer (some ⟨b9, 0, none⟩) := hF.old 9 rfl
    have cb := cell_later hJ.bel (S4.out.cell (b9) (.slice a9 n9 c9))
    exact run_val (v := .agg #[.slice a9 n9 c9]) rfl (by simp [execOp, go_sem, q9, cb]) ⟨_, rfl, hJ.step hL rfl (Below.refl _ _) (by exact ((S4.out.at (.agg #[.slice a9 n9 c9]) (Nat.gcd p y)).mono hJ.bel))⟩
  · intro L vs a w' hJ hF hP hL
    have p0 : L 0 = true := hP ⟨0, .data⟩ (by simp) rfl
    have s0 : IsNat w' (vs 0) (p) := hJ.sp 0 p0
    have q29 := hF.slot 0 29 rfl p0
    have p1 : L 1 = true := hP ⟨1, .data⟩ (by simp) rfl
    have s1 : IsNat w' (vs 1) (Nat.gcd p y) := hJ.sp 1 p1
    have q30 := hF.slot 1 30 rfl p1
    refine run_call (f := 59) (args := #[vs 0, vs 1]) rfl (by simp [go_sem, q29, q30]) (over_any _ _ p (Nat.gcd p y) _ s0 s1 HH.out.1.p198 HL.out.2.2.1.p198 HL.out.1) ?_
    rintro e w2 ⟨v, rfl, hv, hb⟩
    exact ⟨_, rfl, _, rfl, hJ.step hL rfl hb (by exact hv)⟩
  · intro L vs a w' hJ hF hP hL
    have q7 : (a.tmps[7]?).getD undef = .pointer (some ⟨b7, 0, none⟩) := hF.old 7 rfl
    have cb := cell_later hJ.bel (S4.out.cell (b7) (.slice a7 n7 c7))
    exact run_val (v := .agg #[.slice a7 n7 c7]) rfl (by simp [execOp, go_sem, q7, cb]) ⟨_, rfl, hJ.step hL rfl (Below.refl _ _) (by exact ((S4.out.at (.agg #[.slice a7 n7 c7]) (x)).mono hJ.bel))⟩
  · intro L vs a w' hJ hF hP hL
    have q10 : (a.tmps[10]?).getD undef = .pointer (some ⟨b10, 0, none⟩) := hF.old 10 rfl
    have cb := cell_later hJ.bel (S4.out.cell (b10) (.slice a10 n10 c10))
    exact run_val (v := .agg #[.slice a10 n10 c10]) rfl (by simp [execOp, go_sem, q10, cb]) ⟨_, rfl, hJ.step hL rfl (Below.refl _ _) (by exact ((S4.out.at (.agg #[.slice a10 n10 c10]) (Nat.gcd x q)).mono hJ.bel))⟩
  · intro L vs a w' hJ hF hP hL
    have p3 : L 3 = true := hP ⟨3, .data⟩ (by simp) rfl
    have s3 : IsNat w' (vs 3) (x) := hJ.sp 3 p3
    have q32 := hF.slot 3 32 rfl p3
    have p4 : L 4 = true := hP ⟨4, .data⟩ (by simp) rfl
    have s4 : IsNat w' (vs 4) (Nat.gcd x q) := hJ.sp 4 p4
    have q33 := hF.slot 4 33 rfl p4
    refine run_call (f := 59) (args := #[vs 3, vs 4]) rfl (by simp [go_sem, q32, q33]) (over_any _ _ x (Nat.gcd x q) _ s3 s4 HH.out.2.2.1.p198 HL.out.2.2.2.1.p198 HL.out.2.1) ?_
    rintro e w2 ⟨v, rfl, hv, hb⟩
    exact ⟨_, rfl, _, rfl, hJ.step hL rfl hb (by exact hv)⟩
  · intro L vs a w' hJ hF hP hL
    have p2 : L 2 = true := hP ⟨2, .data⟩ (by simp) rfl
    have s2 : IsNat w' (vs 2) (p / Nat.gcd p y) := hJ.sp 2 p2
    have q31 := hF.slot 2 31 rfl p2
    have p5 : L 5 = true := hP ⟨5, .data⟩ (by simp) rfl
    have s5 : IsNat w' (vs 5) (x / Nat.gcd x q) := hJ.sp 5 p5
    have q34 := hF.slot 5 34 rfl p5
    refine run_call (f := 60) (args := #[vs 2, vs 5]) rfl (by simp [go_sem, q31, q34]) (mul_short _ _ (p / Nat.gcd p y) (x / Nat.gcd x q) _ s2 s5 HL.out.2.2.2.2.1.fits HL.out.2.2.2.2.2.1.fits (.inl HL.out.2.2.2.2.1.p99)) ?_
    rintro e w2 ⟨v, rfl, hv, hb⟩
    exact ⟨_, rfl, _, rfl, hJ.step hL rfl hb (by exact hv)⟩
  · intro L vs a w' hJ hF hP hL
    exact run_val (v := .pointer (some ⟨w'.heap.size, 0, none⟩)) (w' := w'.alloc (.cells #[.slice none 0 0] 49)) rfl (by simp [execOp, go_sem]) ⟨_, rfl, hJ.alloc hL rfl rfl _⟩
  · intro L vs a w' hJ hF hP hL
    have p7 : L 7 = true := hP ⟨7, .data⟩ (by simp) rfl
    have q11 := hF.slot 7 11 rfl p7
    have p6 : L 6 = true := hP ⟨6, .data⟩ (by simp) rfl
    have s6 : IsNat w' (vs 6) (p / Nat.gcd p y * (x / Nat.gcd x q)) := hJ.sp 6 p6
    have q35 := hF.slot 6 35 rfl p6
    obtain ⟨bk, e1, e2, e3, e4, e5, e6⟩ := hJ.bx (7, 8, 6) (by simp) p7
    have e7 := e5 hL
    obtain ⟨aa, nn, cc, e8⟩ := s6.isAgg
    exact run_unit (w' := w'.setCell ⟨bk, 0, none⟩ (.slice aa nn cc)) rfl (by simp [execOp, go_sem, q11, q35, e1, e8, e7, e4]) ⟨undef, rfl, hJ.store (b := (7, 8, 6)) (by simp) hL p7 p6 (by decide) rfl e1 e8⟩
  intro L vs w' hA hJ
  have s6 : IsNat w' (vs 6) (p / Nat.gcd p y * (x / Nat.gcd x q)) := hJ.sp 6 (hA 6 (by simp))
  obtain ⟨bk7, eb7, ge7, lt7, fz7, _, e6⟩ := hJ.bx (7, 8, 6) (by simp) (hA 7 (by simp))
  obtain ⟨_, u7, eu7, ce7⟩ := e6 (hA 8 (by simp))
  clear e6
  simp only [putL, Act.put, List.setIfInBounds_toArray, List.set_cons_zero, List.set_cons_succ, Nat.reduceAdd]
  obtain ⟨a11, n11, c11, q1⟩ := s6.isAgg
  rw [q1] at s6 eu7
  obtain rfl : u7 = .slice a11 n11 c11 := by simpa using eu7.symm
  simp only [eb7]
  obtain ⟨w11, ew⟩ : ∃ w11, w11 = w' := ⟨_, rfl⟩
  obtain ⟨b11, e1⟩ : ∃ b11, b11 = bk7 := ⟨_, rfl⟩
  have FZ : Hid (w'.frozen? ⟨b2 + 1 + 1, 0, none⟩ = false ∧ w'.frozen? ⟨b2 + 1 + 1, 1, none⟩ = false) := ⟨(hJ.bel.frozen (World.block_lt_of_cell? _ _ (S4.out.cel (b2 + 1 + 1) 0 (.slice none 0 0)))).trans FZ.out.1, (hJ.bel.frozen (World.block_lt_of_cell? _ _ (S4.out.cel (b2 + 1 + 1) 1 (.slice none 0 0)))).trans FZ.out.2⟩
  have S5 : Hid _ := ((S4.out.go hJ.bel).addN s6).addC ce7
  rw [← ew, ← e1] at S5
  rw [← ew] at FZ
  rw [← ew, ← e1]
  clear ew e1 q1 s6 eu7 eb7 ce7 ge7 lt7 fz7 hJ hA S4
  go_wp2_with fail
  refine wp_region_inv (JB w11 [sNat (q), sNat (Nat.gcd x q), sNat (q / Nat.gcd x q), sNat (y), sNat (Nat.gcd p y), sNat (y / Nat.gcd p y), sNat (q / Nat.gcd x q * (y / Nat.gcd p y)), sAny, sAny] [(7, 8, 6)]) 46 (by kernel_rfl) rfl (by kernel_rfl) (JB.start _ _ _) (fun HG HN => ⟨?_, ?_, ?_, ?_, ?_, ?_, ?_, ?_, ?_, trivial⟩) ?_
  · intro L vs a w' hJ hF hP hL
    have q6 : (a.tmps[6]?).getD undef = .pointer (some ⟨b6, 0, none⟩) := hF.old 6 rfl
    have cb := cell_later hJ.bel (S5.out.cell (b6) (.slice a6 n6 c6))
    exact run_val (v := .agg #[.slice a6 n6 c6]) rfl (by simp [execOp, go_sem, q6, cb]) ⟨_, rfl, hJ.step hL rfl (Below.refl _ _) (by exact ((S5.out.at (.agg #[.slice a6 n6 c6]) (q)).mono hJ.bel))⟩
  · intro L vs a w' hJ hF hP hL
    have q10 : (a.tmps[10]?).getD undef = .pointer (some ⟨b10, 0, none⟩) := hF.old 10 rfl
    have cb := cell_later hJ.bel (S5.out.cell (b10) (.slice a10 n10 c10))
    exact run_val (v := .agg #[.slice a10 n10 c10]) rfl (by simp [execOp, go_sem, q10, cb]) ⟨_, rfl, hJ.step hL rfl (Below.refl _ _) (by exact ((S5.out.at (.agg #[.slice a10 n10 c10]) (Nat.gcd x q)).mono hJ.bel))⟩
  · intro L vs a w' hJ hF hP hL
    have p0 : L 0 = true := hP ⟨0, .data⟩ (by simp) rfl
    have s0 : IsNat w' (vs 0) (q) := hJ.sp 0 p0
    have q36 := hF.slot 0 36 rfl p0
    have p1 : L 1 = true := hP ⟨1, .data⟩ (by simp) rfl
    have s1 : IsNat w' (vs 1) (Nat.gcd x q) := hJ.sp 1 p1
    have q37 := hF.slot 1 37 rfl p1
    refine run_call (f := 59) (args := #[vs 0, vs 1]) rfl (by simp [go_sem, q36, q37]) (over_any _ _ q (Nat.gcd x q) _ s0 s1 HH.out.2.1.p198 HL.out.2.2.2.1.p198 HL.out.2.1) ?_
    rintro e w2 ⟨v, rfl, hv, hb⟩
    exact ⟨_, rfl, _, rfl, hJ.step hL rfl hb (by exact hv)⟩
  · intro L vs a w' hJ hF hP hL
    have q8 : (a.tmps[8]?).getD undef = .pointer (some ⟨b8, 0, none⟩) := hF.old 8 rfl
    have cb := cell_later hJ.bel (S5.out.cell (b8) (.slice a8 n8 c8))
    exact run_val (v := .agg #[.slice a8 n8 c8]) rfl (by simp [execOp, go_sem, q8, cb]) ⟨_, rfl, hJ.step hL rfl (Below.refl _ _) (by exact ((S5.out.at (.agg #[.slice a8 n8 c8]) (y)).mono hJ.bel))⟩
  · intro L vs a w' hJ hF hP hL
    have q9 : (a.tmps[9]?).getD undef = .pointer (some ⟨b9, 0, none⟩) := hF.old 9 rfl
    have cb := cell_later hJ.bel (S5.out.cell (b9) (.slice a9 n9 c9))
    exact run_val (v := .agg #[.slice a9 n9 c9]) rfl (by simp [execOp, go_sem, q9, cb]) ⟨_, rfl, hJ.step hL rfl (Below.refl _ _) (by exact ((S5.out.at (.agg #[.slice a9 n9 c9]) (Nat.gcd p y)).mono hJ.bel))⟩
  · intro L vs a w' hJ hF hP hL
    have p3 : L 3 = true := hP ⟨3, .data⟩ (by simp) rfl
    have s3 : IsNat w' (vs 3) (y) := hJ.sp 3 p3
    have q39 := hF.slot 3 39 rfl p3
    have p4 : L 4 = true := hP ⟨4, .data⟩ (by simp) rfl
    have s4 : IsNat w' (vs 4) (Nat.gcd p y) := hJ.sp 4 p4
    have q40 := hF.slot 4 40 rfl p4
    refine run_call (f := 59) (args := #[vs 3, vs 4]) rfl (by simp [go_sem, q39, q40]) (over_any _ _ y (Nat.gcd p y) _ s3 s4 HH.out.2.2.2.1.p198 HL.out.2.2.1.p198 HL.out.1) ?_
    rintro e w2 ⟨v, rfl, hv, hb⟩
    exact ⟨_, rfl, _, rfl, hJ.step hL rfl hb (by exact hv)⟩
  · intro L vs a w' hJ hF hP hL
    have p2 : L 2 = true := hP ⟨2, .data⟩ (by simp) rfl
    have s2 : IsNat w' (vs 2) (q / Nat.gcd x q) := hJ.sp 2 p2
    have q38 := hF.slot 2 38 rfl p2
    have p5 : L 5 = true := hP ⟨5, .data⟩ (by simp) rfl
    have s5 : IsNat w' (vs 5) (y / Nat.gcd p y) := hJ.sp 5 p5
    have q41 := hF.slot 5 41 rfl p5
    refine run_call (f := 60) (args := #[vs 2, vs 5]) rfl (by simp [go_sem, q38, q41]) (mul_short _ _ (q / Nat.gcd x q) (y / Nat.gcd p y) _ s2 s5 HL.out.2.2.2.2.2.2.1.fits HL.out.2.2.2.2.2.2.2.fits (.inl HL.out.2.2.2.2.2.2.1.p99)) ?_
    rintro e w2 ⟨v, rfl, hv, hb⟩
    exact ⟨_, rfl, _, rfl, hJ.step hL rfl hb (by exact hv)⟩
  · intro L vs a w' hJ hF hP hL
    exact run_val (v := .pointer (some ⟨w'.heap.size, 0, none⟩)) (w' := w'.alloc (.cells #[.slice none 0 0] 49)) rfl (by simp [execOp, go_sem]) ⟨_, rfl, hJ.alloc hL rfl rfl _⟩
  · intro L vs a w' hJ hF hP hL
    have p7 : L 7 = true := hP ⟨7, .data⟩ (by simp) rfl
    have q12 := hF.slot 7 12 rfl p7
    have p6 : L 6 = true := hP ⟨6, .data⟩ (by simp) rfl
    have s6 : IsNat w' (vs 6) (q / Nat.gcd x q * (y / Nat.gcd p y)) := hJ.sp 6 p6
    have q42 := hF.slot 6 42 rfl p6
    obtain ⟨bk, e1, e2, e3, e4, e5, e6⟩ := hJ.bx (7, 8, 6) (by simp) p7
    have e7 := e5 hL
    obtain ⟨aa, nn, cc, e8⟩ := s6.isAgg
    exact run_unit (w' := w'.setCell ⟨bk, 0, none⟩ (.slice aa nn cc)) rfl (by simp [execOp, go_sem, q12, q42, e1, e8, e7, e4]) ⟨undef, rfl, hJ.store (b := (7, 8, 6)) (by simp) hL p7 p6 (by decide) rfl e1 e8⟩
  intro L vs w' hA hJ
  have s6 : IsNat w' (vs 6) (q / Nat.gcd x q * (y / Nat.gcd p y)) := hJ.sp 6 (hA 6 (by simp))
  obtain ⟨bk7, eb7, ge7, lt7, fz7, _, e6⟩ := hJ.bx (7, 8, 6) (by simp) (hA 7 (by simp))
  obtain ⟨_, u7, eu7, ce7⟩ := e6 (hA 8 (by simp))
  clear e6
  simp only [putL, Act.put, List.setIfInBounds_toArray, List.set_cons_zero, List.set_cons_succ, Nat.reduceAdd]
  obtain ⟨a12, n12, c12, q1⟩ := s6.isAgg
  rw [q1] at s6 eu7
  obtain rfl : u7 = .slice a12 n12 c12 := by simpa using eu7.symm
  simp only [eb7]
  obtain ⟨w12, ew⟩ : ∃ w12, w12 = w' := ⟨_, rfl⟩
  obtain ⟨b12, e1⟩ : ∃ b12, b12 = bk7 := ⟨_, rfl⟩
  have FZ : Hid (w'.frozen? ⟨b2 + 1 + 1, 0, none⟩ = false ∧ w'.frozen? ⟨b2 + 1 + 1, 1, none⟩ = false) := ⟨(hJ.bel.frozen (World.block_lt_of_cell? _ _ (S5.out.cel (b2 + 1 + 1) 0 (.slice none 0 0)))).trans FZ.out.1, (hJ.bel.frozen (World.block_lt_of_cell? _ _ (S5.out.cel (b2 + 1 + 1) 1 (.slice none 0 0)))).trans FZ.out.2⟩
  have S6 : Hid _ := ((S5.out.go hJ.bel).addN s6).addC ce7
  rw [← ew, ← e1] at S6
  rw [← ew] at FZ
  rw [← ew, ← e1]
  clear ew e1 q1 s6 eu7 eb7 ce7 ge7 lt7 fz7 hJ hA S5
  have z11 := S6.out.cell b11 (.slice a11 n11 c11)
  have z12 := S6.out.cell b12 (.slice a12 n12 c12)
  go_wp2_with fail
  refine (inLowest_any _ _ (mulP p q x y) (mulQ p q x y) _ (S6.out.at (.agg #[.slice a11 n11 c11]) (p / Nat.gcd p y * (x / Nat.gcd x q))) (S6.out.at (.agg #[.slice a12 n12 c12]) (q / Nat.gcd x q * (y / Nat.gcd p y))) HM.out.2.2 HM.out.2.1 HM.out.1).mono ?_
  rintro e w13 ⟨v13, rfl, hv, hb⟩
  obtain ⟨p7, q7, r7, p8, q8, r8, ev, _, _⟩ := hv.raw
  subst ev
  have x0 := cell_later hb (S6.out.cel (b2 + 1 + 1) 0 (.slice none 0 0))
  have x1 := cell_later hb (S6.out.cel (b2 + 1 + 1) 1 (.slice none 0 0))
  have FZ : Hid (w13.frozen? ⟨b2 + 1 + 1, 0, none⟩ = false ∧ w13.frozen? ⟨b2 + 1 + 1, 1, none⟩ = false) := ⟨(hb.frozen (World.block_lt_of_cell? _ _ (S6.out.cel (b2 + 1 + 1) 0 (.slice none 0 0)))).trans FZ.out.1, (hb.frozen (World.block_lt_of_cell? _ _ (S6.out.cel (b2 + 1 + 1) 1 (.slice none 0 0)))).trans FZ.out.2⟩
  have f0 := FZ.out.1
  have f1 := FZ.out.2
  have Z : Hid _ := rat_put (w0 := w) (v := .slice p7 q7 r7) (u := .slice p8 q8 r8) x0 x1 hv (bel_go S6.out.bel hb) HB.out
  clear hv hb S6 z11 z12 FZ
  go_wp2_with fail
  exact bodyPost_ret (v := .agg #[.slice p7 q7 r7, .slice p8 q8 r8]) (by simp [results, Tryz.results51, go_sem, x0, x1]) rfl ⟨_, rfl, Z.out.1, Z.out.2⟩
end Go.Proofs.YthogfecnbddfoaaGreatDoor

