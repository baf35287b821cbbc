/- Contracts of the program's functions, part 10: own work, joined in build order. -/
import Derived.Test.YtfkkomppfghagaaGreatDoorJ9
namespace Go.Proofs.YtfkkomppfghagaaGreatDoor
open Go.RowKit
set_option maxRecDepth 100000
set_option linter.unusedVariables false
def sRt (p q : Nat) : Spec := ⟨fun w v => Rt w v p q, ⟨fun h hb => h.mono hb, fun h hp u => h.setCell hp u⟩⟩
def Box2 (w0 : World) (L : Nat → Bool) (vs : Nat → Value) (w : World) (b : Nat × Nat × Nat) : Prop :=
  ∃ bk, vs b.1 = .pointer (some ⟨bk, 0, none⟩) ∧ w0.heap.size ≤ bk ∧ bk < w.heap.size ∧ w.frozen? ⟨bk, 0, none⟩ = false ∧ w.frozen? ⟨bk, 1, none⟩ = false ∧ (L b.2.1 = false → w.cell? ⟨bk, 0, none⟩ = some (.slice none 0 0) ∧ w.cell? ⟨bk, 1, none⟩ = some (.slice none 0 0)) ∧ (L b.2.1 = true → L b.2.2 = true ∧ ∃ u u', vs b.2.2 = .agg #[u, u'] ∧ w.cell? ⟨bk, 0, none⟩ = some u ∧ w.cell? ⟨bk, 1, none⟩ = some u')
structure JC (w0 : World) (specs : List Spec) (b : Nat × Nat × Nat) (L : Nat → Bool) (vs : Nat → Value) (w : World) : Prop where
  bel : Below w0.heap.size w0 w
  sp : ∀ i, L i = true → (specs.getD i sAny).1 w (vs i)
  bx : L b.1 = true → Box2 w0 L vs w b
  cl : L b.2.1 = true → L b.1 = true
theorem JC.start (w : World) (specs : List Spec) (b : Nat × Nat × Nat) : JC w specs b (fun _ => false) (fun _ => undef) w.drew :=
  ⟨bel_dr (Below.refl _ _), (fun _ h => by cases h), (fun h => by cases h), (fun h => by cases h)⟩
theorem JC.step {w0 : World} {specs : List Spec} {b : Nat × Nat × Nat} {L : Nat → Bool} {vs : Nat → Value} {w w' : World} (h : JC w0 specs b L vs w) {i : Nat} (hL : L i = false) (hf : freeB [b] i = true) (hb : Below w.heap.size w w') {v : Value} (hs : (specs.getD i sAny).1 w' v) : JC w0 specs b (updB L i) (updV vs i v) w' := by
  have hne : b.1 ≠ i ∧ b.2.1 ≠ i := by simpa [freeB] using hf
  have oldV : ∀ j, L j = true → updV vs i v j = vs j := fun j hj => by
    have : j ≠ i := fun e => by rw [e, hL] at hj; cases hj
    simp [updV, this]
  refine ⟨bel_go h.bel hb, fun j hj => ?_, fun hLb => ?_, fun hs' => ?_⟩
  · by_cases e : j = i
    · subst e
      simpa [updV] using hs
    have hj' : L j = true := by simpa [updB, e] using hj
    rw [oldV j hj']
    exact (specs.getD j sAny).2.mono (h.sp j hj') hb
  · have hLb' : L b.1 = true := by simpa [updB, hne.1] using hLb
    obtain ⟨bk, e1, e2, e3, e4, e4', e5, e6⟩ := h.bx hLb'
    have hc0 : w'.cell? ⟨bk, 0, none⟩ = w.cell? ⟨bk, 0, none⟩ := hb.cell (p := ⟨bk, 0, none⟩) e3
    have hc1 : w'.cell? ⟨bk, 1, none⟩ = w.cell? ⟨bk, 1, none⟩ := hb.cell (p := ⟨bk, 1, none⟩) e3
    refine ⟨bk, by rw [oldV _ hLb']; exact e1, e2, Nat.lt_of_lt_of_le e3 hb.size, (hb.frozen (p := ⟨bk, 0, none⟩) e3).trans e4, (hb.frozen (p := ⟨bk, 1, none⟩) e3).trans e4', fun hs' => ?_, fun hs' => ?_⟩
    · rw [hc0, hc1]
      exact e5 (by simpa [updB, hne.2] using hs')
    obtain ⟨q1, u, u', q2, q3, q4⟩ := e6 (by simpa [updB, hne.2] using hs')
    refine ⟨by unfold updB; split <;> simp_all, u, u', ?_, by rw [hc0]; exact q3, by rw [hc1]; exact q4⟩
    rw [oldV _ q1]
    exact q2
  have := h.cl (by simpa [updB, hne.2] using hs')
  unfold updB; split <;> simp_all
theorem JC.alloc {w0 : World} {specs : List Spec} {b : Nat × Nat × Nat} {L : Nat → Bool} {vs : Nat → Value} {w : World} (h : JC w0 specs b L vs w) {i : Nat} (hL : L i = false) (hi : b.1 = i) (hns : b.2.1 ≠ i) (hsp : specs.getD i sAny = sAny) (t : TypeId) :
    JC w0 specs b (updB L i) (updV vs i (.pointer (some ⟨w.heap.size, 0, none⟩))) (w.alloc (.cells #[.slice none 0 0, .slice none 0 0] t)) := by
  have hb : Below w.heap.size w (w.alloc (.cells #[.slice none 0 0, .slice none 0 0] t)) := (Below.refl _ _).alloc (Nat.le_refl _) _
  have oldV : ∀ j, L j = true → updV vs i (.pointer (some ⟨w.heap.size, 0, none⟩)) j = vs j := fun j hj => by
    have : j ≠ i := fun e => by rw [e, hL] at hj; cases hj
    simp [updV, this]
  have hst : L b.2.1 = false := by
    cases hs' : L b.2.1
    · rfl
    have := h.cl hs'
    rw [hi, hL] at this
    cases this
  refine ⟨bel_go h.bel hb, fun j hj => ?_, fun _ => ?_, fun hs' => ?_⟩
  · by_cases e : j = i
    · subst e
      rw [hsp]
      trivial
    have hj' : L j = true := by simpa [updB, e] using hj
    rw [oldV j hj']
    exact (specs.getD j sAny).2.mono (h.sp j hj') hb
  · refine ⟨w.heap.size, by rw [hi]; simp [updV], h.bel.size, by simp, by simp [go_sem], by simp [go_sem], fun _ => by simp [go_sem], fun hs' => ?_⟩
    simp [updB, hns, hst] at hs'
  simp [updB, hns, hst] at hs'
theorem JC.store {w0 : World} {specs : List Spec} {b : Nat × Nat × Nat} {L : Nat → Bool} {vs : Nat → Value} {w : World} (h : JC w0 specs b L vs w) (hL : L b.2.1 = false) (hA : L b.1 = true) (hV : L b.2.2 = true) (hone : b.1 ≠ b.2.1) (hsp : specs.getD b.2.1 sAny = sAny) {bk : Nat} {u u' : Value} (hp : vs b.1 = .pointer (some ⟨bk, 0, none⟩)) (hu : vs b.2.2 = .agg #[u, u']) :
    JC w0 specs b (updB L b.2.1) (updV vs b.2.1 undef) ((w.setCell ⟨bk, 0, none⟩ u).setCell ⟨bk, 1, none⟩ u') := by
  have oldV : ∀ j, L j = true → updV vs b.2.1 undef j = vs j := fun j hj => by
    have : j ≠ b.2.1 := fun e => by rw [e, hL] at hj; cases hj
    simp [updV, this]
  obtain ⟨bk', e1, e2, e3, e4, e4', e5, e6⟩ := h.bx hA
  obtain rfl : bk' = bk := by rw [e1] at hp; cases hp; rfl
  obtain ⟨hc0, hc1⟩ := e5 hL
  obtain ⟨n1, n2⟩ := two_set hc0 hc1 u
  have hd : (w.setCell ⟨bk', 0, none⟩ u).cell? ⟨bk', 1, none⟩ = some (.slice none 0 0) := by rw [World.cell?_setCell_other (h := by simp), hc1]
  refine ⟨(h.bel.setCell (p := ⟨bk', 0, none⟩) e2 u).setCell (p := ⟨bk', 1, none⟩) e2 u', fun j hj => ?_, fun _ => ?_, fun _ => ?_⟩
  · by_cases e : j = b.2.1
    · subst e
      rw [hsp]
      trivial
    have hj' : L j = true := by simpa [updB, e] using hj
    rw [oldV j hj']
    exact (specs.getD j sAny).2.set ((specs.getD j sAny).2.set (h.sp j hj') n1 u) n2 u'
  · refine ⟨bk', by rw [oldV _ hA]; exact e1, e2, by simpa [World.setCell] using e3, by simp [World.frozen?_setCell, e4], by simp [World.frozen?_setCell, e4'], fun hs' => ?_, fun _ => ⟨?_, u, u', ?_, ?_, ?_⟩⟩
    · simp [updB] at hs'
    · unfold updB; split <;> simp_all
    · rw [oldV _ hV]; exact hu
    · rw [World.cell?_setCell_other (h := by simp)]
      simp [go_sem, hc0]
    simp [go_sem, hd]
  simp [updB, hone, hA]
structure RG (x : Nat) : Prop where
  lt : x < P 900
theorem RG.fits {x : Nat} (h : RG x) : Fits x := fits_P h.lt (by omega)
theorem RS.g {x : Nat} (h : RS x) : RG x := ⟨Nat.lt_trans h.lt (P_lt (by omega))⟩
structure SX (w0 w : World) (N M : List (Value × Nat)) (F G : List (Value × Nat × Nat)) (C : List (Nat × Nat × Value)) : Prop where
  nats : ∀ p ∈ N, IsNat w p.1 p.2
  rnats : ∀ p ∈ M, RNat w p.1 p.2
  frs : ∀ p ∈ F, Rt w p.1 p.2.1 p.2.2
  rfrs : ∀ p ∈ G, RRt w p.1 p.2.1 p.2.2
  cells : ∀ p ∈ C, w.cell? ⟨p.1, p.2.1, none⟩ = some p.2.2
  bel : Below w0.heap.size w0 w
theorem SX.go {w0 w : World} {N M : List (Value × Nat)} {F G : List (Value × Nat × Nat)} {C : List (Nat × Nat × Value)} (h : SX w0 w N M F G C) {w' : World} (hb : Below w.heap.size w w') : SX w0 w' N M F G C :=
  ⟨fun p hp => (h.nats p hp).mono hb, fun p hp => (h.rnats p hp).mono hb, fun p hp => (h.frs p hp).mono hb, fun p hp => (h.rfrs p hp).mono hb, fun p hp => cell_later hb (h.cells p hp), bel_go h.bel hb⟩
theorem SX.at {w0 w : World} {N M : List (Value × Nat)} {F G : List (Value × Nat × Nat)} {C : List (Nat × Nat × Value)} (h : SX w0 w N M F G C) (v : Value) (x : Nat) (hm : (v, x) ∈ N := by simp) : IsNat w v x := h.nats _ hm
theorem SX.rat {w0 w : World} {N M : List (Value × Nat)} {F G : List (Value × Nat × Nat)} {C : List (Nat × Nat × Value)} (h : SX w0 w N M F G C) (v : Value) (x : Nat) (hm : (v, x) ∈ M := by simp) : RNat w v x := h.rnats _ hm
theorem SX.fr {w0 w : World} {N M : List (Value × Nat)} {F G : List (Value × Nat × Nat)} {C : List (Nat × Nat × Value)} (h : SX w0 w N M F G C) (v : Value) (p q : Nat) (hm : (v, p, q) ∈ F := by simp) : Rt w v p q := h.frs _ hm
theorem SX.cel {w0 w : World} {N M : List (Value × Nat)} {F G : List (Value × Nat × Nat)} {C : List (Nat × Nat × Value)} (h : SX w0 w N M F G C) (b i : Nat) (u : Value) (hm : (b, i, u) ∈ C := by simp) : w.cell? ⟨b, i, none⟩ = some u := h.cells _ hm
theorem SX.cell {w0 w : World} {N M : List (Value × Nat)} {F G : List (Value × Nat × Nat)} {C : List (Nat × Nat × Value)} (h : SX w0 w N M F G C) (b : Nat) (u : Value) (hm : (b, 0, u) ∈ C := by simp) : w.cell? ⟨b, 0, none⟩ = some u := h.cells _ hm
theorem SX.addN {w0 w : World} {N M : List (Value × Nat)} {F G : List (Value × Nat × Nat)} {C : List (Nat × Nat × Value)} (h : SX w0 w N M F G C) {v : Value} {x : Nat} (hv : IsNat w v x) : SX w0 w ((v, x) :: N) M F G C :=
  ⟨fun p hp => by
    rcases List.mem_cons.1 hp with e | e
    · subst e; exact hv
    exact h.nats p e, h.rnats, h.frs, h.rfrs, h.cells, h.bel⟩
theorem SX.addF {w0 w : World} {N M : List (Value × Nat)} {F G : List (Value × Nat × Nat)} {C : List (Nat × Nat × Value)} (h : SX w0 w N M F G C) {v : Value} {x y : Nat} (hv : Rt w v x y) : SX w0 w N M ((v, x, y) :: F) G C :=
  ⟨h.nats, h.rnats, fun p hp => by
    rcases List.mem_cons.1 hp with e | e
    · subst e; exact hv
    exact h.frs p e, h.rfrs, h.cells, h.bel⟩
theorem SX.addC {w0 w : World} {N M : List (Value × Nat)} {F G : List (Value × Nat × Nat)} {C : List (Nat × Nat × Value)} (h : SX w0 w N M F G C) {b i : Nat} {v : Value} (hv : w.cell? ⟨b, i, none⟩ = some v) : SX w0 w N M F G ((b, i, v) :: C) :=
  ⟨h.nats, h.rnats, h.frs, h.rfrs, fun p hp => by
    rcases List.mem_cons.1 hp with e | e
    · subst e; exact hv
    exact h.cells p e, h.bel⟩
theorem SX.box1 {w0 w : World} {N M : List (Value × Nat)} {F G : List (Value × Nat × Nat)} {C : List (Nat × Nat × Value)} (h : SX w0 w N M F G C) (u : Value) (t : TypeId) (g : Nat) (hg : g = w.heap.size) : SX w0 (w.alloc (.cells #[u] t)) N M F G ((g, 0, u) :: C) := by
  subst hg
  exact (h.go (w' := w.alloc (.cells #[u] t)) (bel_al (Below.refl _ _))).addC (by simp)
theorem SX.box {w0 w : World} {N M : List (Value × Nat)} {F G : List (Value × Nat × Nat)} {C : List (Nat × Nat × Value)} (h : SX w0 w N M F G C) (u u' : Value) (t : TypeId) (g : Nat) (hg : g = w.heap.size) : SX w0 (w.alloc (.cells #[u, u'] t)) N M F G ((g, 0, u) :: (g, 1, u') :: C) := by
  subst hg
  have h' := h.go (w' := w.alloc (.cells #[u, u'] t)) (bel_al (Below.refl _ _))
  exact (h'.addC (b := w.heap.size) (i := 1) (v := u') (by simp)).addC (by simp)
theorem SX.set {w0 w : World} {N M : List (Value × Nat)} {F G : List (Value × Nat × Nat)} {C : List (Nat × Nat × Value)} (h : SX w0 w N M F G C) {b i : Nat} {a : Option Addr} {n c : Nat} (hc : w.cell? ⟨b, i, none⟩ = some (.slice a n c)) (hlo : w0.heap.size ≤ b) (C' : List (Nat × Nat × Value)) (hC : ∀ p ∈ C', p ∈ C ∧ p.1 ≠ b) (u : Value) : SX w0 (w.setCell ⟨b, i, none⟩ u) N M F G C' :=
  ⟨fun p hp => (h.nats p hp).setCell (no_int_slice hc) u, fun p hp => (h.rnats p hp).setCell (no_int_slice hc) u, fun p hp => (h.frs p hp).setCell (no_int_slice hc) u, fun p hp => (h.rfrs p hp).setCell (no_int_slice hc) u,
    fun p hp => by
      rw [World.cell?_setCell_far _ _ _ _ (by simpa using Ne.symm (hC p hp).2)]
      exact h.cells p (hC p hp).1,
    h.bel.setCell (p := ⟨b, i, none⟩) hlo u⟩
theorem sx_start (w : World) : SX w w [] [] [] [] [] := ⟨(fun _ h => by cases h), (fun _ h => by cases h), (fun _ h => by cases h), (fun _ h => by cases h), (fun _ h => by cases h), Below.refl _ _⟩
structure JD (w0 : World) (specs : List Spec) (needs : List (List Nat)) (st val : Nat) (oth : List Nat) (Sto : World → Value → World → Prop) (L : Nat → Bool) (vs : Nat → Value) (w : World) : Prop where
  core : L st = false → JB w0 specs [] L vs w
  cl : ∀ j, L j = true → ∀ k ∈ needs.getD j [], L k = true
  fin : L st = true → (∀ j ∈ oth, L j = true) ∧ ∃ w1, Below w0.heap.size w0 w1 ∧ (specs.getD val sAny).1 w1 (vs val) ∧ Sto w1 (vs val) w
theorem JD.start (w : World) (specs : List Spec) (needs : List (List Nat)) (st val : Nat) (oth : List Nat) (Sto : World → Value → World → Prop) : JD w specs needs st val oth Sto (fun _ => false) (fun _ => undef) w.drew :=
  ⟨fun _ => JB.start _ _ _, (fun _ h => by cases h), (fun h => by cases h)⟩
theorem nd_nil {L : Nat → Bool} : ∀ k ∈ ([] : List Nat), L k = true := fun _ h => by cases h
theorem nd_cons {L : Nat → Bool} {a : Nat} {l : List Nat} (h : L a = true) (k : ∀ j ∈ l, L j = true) : ∀ j ∈ a :: l, L j = true := fun j hj => by
  rcases List.mem_cons.1 hj with e | e
  · rw [e]; exact h
  exact k j e
theorem JD.open {w0 : World} {specs : List Spec} {needs : List (List Nat)} {st val : Nat} {oth : List Nat} {Sto : World → Value → World → Prop} {L : Nat → Bool} {vs : Nat → Value} {w : World} (h : JD w0 specs needs st val oth Sto L vs w) {i : Nat} (hL : L i = false) (hi : i ∈ oth) : JB w0 specs [] L vs w :=
  h.core (by
    cases e : L st
    · rfl
    have := (h.fin e).1 i hi
    rw [hL] at this
    cases this)
theorem JD.step {w0 : World} {specs : List Spec} {needs : List (List Nat)} {st val : Nat} {oth : List Nat} {Sto : World → Value → World → Prop} {L : Nat → Bool} {vs : Nat → Value} {w : World} (h : JD w0 specs needs st val oth Sto L vs w) {i : Nat} (hL : L i = false) (hi : i ∈ oth) (hne : i ≠ st) {nd : List Nat} (he : needs.getD i [] = nd) (hn : ∀ k ∈ nd, L k = true) {v : Value} {w' : World} (k : JB w0 specs [] (updB L i) (updV vs i v) w') : JD w0 specs needs st val oth Sto (updB L i) (updV vs i v) w' := by
  refine ⟨fun _ => k, fun j hj m hm => ?_, fun hs => ?_⟩
  · by_cases e : j = i
    · subst e
      rw [he] at hm
      have := hn m hm
      unfold updB; split <;> simp_all
    have := h.cl j (by simpa [updB, e] using hj) m hm
    unfold updB; split <;> simp_all
  have hs' : L st = true := by simpa [updB, hne.symm] using hs
  have := (h.fin hs').1 i hi
  rw [hL] at this
  cases this
theorem JD.put {w0 : World} {specs : List Spec} {needs : List (List Nat)} {st val : Nat} {oth : List Nat} {Sto : World → Value → World → Prop} {L : Nat → Bool} {vs : Nat → Value} {w : World} (h : JD w0 specs needs st val oth Sto L vs w) (hL : L st = false) (hv : val ≠ st) {nd : List Nat} (he : needs.getD st [] = nd) (hn : ∀ k ∈ nd, L k = true) (ho : ∀ j ∈ oth, L j = true) (hV : L val = true) {w' : World} (hs : Sto w (vs val) w') : JD w0 specs needs st val oth Sto (updB L st) (updV vs st undef) w' := by
  have J := h.core hL
  refine ⟨fun e => ?_, fun j hj m hm => ?_, fun _ => ⟨fun j hj => ?_, w, J.bel, ?_, ?_⟩⟩
  · simp [updB] at e
  · by_cases e : j = st
    · subst e
      rw [he] at hm
      have := hn m hm
      unfold updB; split <;> simp_all
    have := h.cl j (by simpa [updB, e] using hj) m hm
    unfold updB; split <;> simp_all
  · have := ho j hj
    unfold updB; split <;> simp_all
  · have : updV vs st undef val = vs val := by simp [updV, hv]
    rw [this]
    exact J.sp val hV
  have : updV vs st undef val = vs val := by simp [updV, hv]
  rw [this]
  exact hs
theorem low_one {a b c d : Nat} (h1 : Nat.gcd a b = 1) (h2 : Nat.gcd c d = 1) (hb : 0 < b) (hd : 0 < d) (e : a * d = c * b) : a = c ∧ b = d := by
  have h1' : Nat.Coprime a b := h1
  have h2' : Nat.Coprime c d := h2
  have d1 : b ∣ d := h1'.symm.dvd_of_dvd_mul_left ⟨c, by rw [e, Nat.mul_comm]⟩
  have d2 : d ∣ b := h2'.symm.dvd_of_dvd_mul_left ⟨a, by rw [← e, Nat.mul_comm]⟩
  have hbd : b = d := Nat.dvd_antisymm d1 d2
  subst hbd
  exact ⟨Nat.eq_of_mul_eq_mul_right hb e, rfl⟩
theorem low_terms (x Y : Nat) (hY : 0 < Y) : Nat.gcd (x / Nat.gcd x Y) (Y / Nat.gcd x Y) = 1 ∧ x / Nat.gcd x Y * Y = x * (Y / Nat.gcd x Y) ∧ 0 < Y / Nat.gcd x Y := by
  have g0 : 0 < Nat.gcd x Y := Nat.gcd_pos_of_pos_right _ hY
  refine ⟨?_, ?_, Nat.div_pos (Nat.gcd_le_right _ hY) g0⟩
  · rw [Nat.gcd_div (Nat.gcd_dvd_left _ _) (Nat.gcd_dvd_right _ _), Nat.div_self g0]
  obtain ⟨a, ha⟩ := Nat.gcd_dvd_left x Y
  obtain ⟨b, hb⟩ := Nat.gcd_dvd_right x Y
  generalize Nat.gcd x Y = g at *
  subst ha hb
  rw [Nat.mul_div_cancel_left _ g0, Nat.mul_div_cancel_left _ g0]
  grind
def mulP (p q x y : Nat) : Nat := p / Nat.gcd p y * (x / Nat.gcd x q)
def mulQ (p q x y : Nat) : Nat := q / Nat.gcd x q * (y / Nat.gcd p y)
theorem mul_low {p q x y : Nat} (hq : 0 < q) (hy : 0 < y) (h1 : Nat.gcd p q = 1) (h2 : Nat.gcd x y = 1) : Nat.gcd (mulP p q x y) (mulQ p q x y) = 1 ∧ 0 < mulQ p q x y ∧ mulP p q x y * (q * y) = p * x * mulQ p q x y := by
  have l0 : 0 < Nat.gcd p y := Nat.gcd_pos_of_pos_right _ hy
  have r0 : 0 < Nat.gcd x q := Nat.gcd_pos_of_pos_right _ hq
  obtain ⟨a, ha⟩ := Nat.gcd_dvd_left p y
  obtain ⟨b, hb⟩ := Nat.gcd_dvd_right p y
  obtain ⟨c, hc⟩ := Nat.gcd_dvd_left x q
  obtain ⟨d, hd⟩ := Nat.gcd_dvd_right x q
  have cab : Nat.Coprime (p / Nat.gcd p y) (y / Nat.gcd p y) := by
    have := Nat.gcd_div (Nat.gcd_dvd_left p y) (Nat.gcd_dvd_right p y)
    rw [Nat.div_self l0] at this
    exact this
  have ccd : Nat.Coprime (x / Nat.gcd x q) (q / Nat.gcd x q) := by
    have := Nat.gcd_div (Nat.gcd_dvd_left x q) (Nat.gcd_dvd_right x q)
    rw [Nat.div_self r0] at this
    exact this
  unfold mulP mulQ
  generalize Nat.gcd p y = l at *
  generalize Nat.gcd x q = r at *
  have e1 : p / l = a := by rw [ha, Nat.mul_div_cancel_left _ l0]
  have e2 : y / l = b := by rw [hb, Nat.mul_div_cancel_left _ l0]
  have e3 : x / r = c := by rw [hc, Nat.mul_div_cancel_left _ r0]
  have e4 : q / r = d := by rw [hd, Nat.mul_div_cancel_left _ r0]
  rw [e1, e2] at cab
  rw [e3, e4] at ccd
  rw [e1, e2, e3, e4]
  have h1' : Nat.Coprime p q := h1
  have h2' : Nat.Coprime x y := h2
  have k1 : Nat.Coprime a d := (h1'.coprime_dvd_left ⟨l, by rw [ha, Nat.mul_comm]⟩).coprime_dvd_right ⟨r, by rw [hd, Nat.mul_comm]⟩
  have k2 : Nat.Coprime c b := (h2'.coprime_dvd_left ⟨r, by rw [hc, Nat.mul_comm]⟩).coprime_dvd_right ⟨l, by rw [hb, Nat.mul_comm]⟩
  refine ⟨Nat.Coprime.mul_left (Nat.Coprime.mul_right k1 cab) (Nat.Coprime.mul_right ccd k2), Nat.mul_pos ?_ ?_, ?_⟩
  · rcases Nat.eq_zero_or_pos d with e | e
    · rw [e] at hd; omega
    exact e
  · rcases Nat.eq_zero_or_pos b with e | e
    · rw [e] at hb; omega
    exact e
  rw [ha, hb, hc, hd]
  grind
set_option maxHeartbeats 8000000 in
theorem ratMul_any (v u : Value) (p q x y : Nat) (w : World) (h : Rt w v p q) (k : Rt w u x y) (hp : RS p) (hq : RS q) (hx : RS x) (hy : RS y) (hT : Tab w) :
    Calls Tryz.prog 36 #[v, u] w (MakesR w (mulP p q x y) (mulQ p q x y)) := by
  obtain ⟨p1, n1, c1, p2, n2, c2, e0, _, _⟩ := h.raw
  subst e0
  obtain ⟨p3, n3, c3, p4, n4, c4, e1, _, _⟩ := k.raw
  subst e1
  have low := mul_low h.pos k.pos h.low k.low
  have S0 : Hid _ := ((((sx_start w).addF h).addF k).box (.slice p1 n1 c1) (.slice p2 n2 c2) 47 _ rfl).box (.slice p3 n3 c3) (.slice p4 n4 c4) 47 _ rfl
  simp only [World.size_alloc] at S0
  have S1 : Hid _ := S0.out.box (.slice none 0 0) (.slice none 0 0) 47 _ rfl
  simp only [World.size_alloc] at S1
  obtain ⟨w0, hw0⟩ : ∃ w0, w0 = ((w.alloc (.cells #[.slice p1 n1 c1, .slice p2 n2 c2] 47)).alloc (.cells #[.slice p3 n3 c3, .slice p4 n4 c4] 47)).alloc (.cells #[.slice none 0 0, .slice none 0 0] 47) := ⟨_, rfl⟩
  have f6 : w0.frozen? ⟨w.heap.size + 1 + 1, 0, none⟩ = false := by rw [hw0]; simp [go_sem]
  have f7 : w0.frozen? ⟨w.heap.size + 1 + 1, 1, none⟩ = false := by rw [hw0]; simp [go_sem]
  have HH : Hid (RS p ∧ RS q ∧ RS x ∧ RS y ∧ Tab w) := ⟨hp, hq, hx, hy, hT⟩
  have l0 : 0 < Nat.gcd p y := Nat.gcd_pos_of_pos_right _ k.pos
  have r0 : 0 < Nat.gcd x q := Nat.gcd_pos_of_pos_right _ h.pos
  have hl : RS (Nat.gcd p y) := hy.le (Nat.gcd_le_right _ k.pos)
  have hr : RS (Nat.gcd x q) := hq.le (Nat.gcd_le_right _ h.pos)
  have d1 : RS (p / Nat.gcd p y) := hp.le (Nat.div_le_self _ _)
  have d2 : RS (x / Nat.gcd x q) := hx.le (Nat.div_le_self _ _)
  have d3 : RS (q / Nat.gcd x q) := hq.le (Nat.div_le_self _ _)
  have d4 : RS (y / Nat.gcd p y) := hy.le (Nat.div_le_self _ _)
  have HL : Hid (0 < Nat.gcd p y ∧ 0 < Nat.gcd x q ∧ RS (Nat.gcd p y) ∧ RS (Nat.gcd x q) ∧ RS (p / Nat.gcd p y) ∧ RS (x / Nat.gcd x q) ∧ RS (q / Nat.gcd x q) ∧ RS (y / Nat.gcd p y)) := ⟨l0, r0, hl, hr, d1, d2, d3, d4⟩
  have HM : Hid (Nat.gcd (mulP p q x y) (mulQ p q x y) = 1 ∧ 0 < mulQ p q x y ∧ Fits (mulP p q x y)) := ⟨low.1, low.2.1, fits_P (d1.mul d2) (by omega)⟩
  clear h k hp hq hx hy hT low l0 r0 hl hr d1 d2 d3 d4 S0
  go_enter Tryz.func36, Tryz.ntmps36
  go_wp2_with fail
  rw [← hw0] at S1
  rw [← hw0]
  obtain ⟨b2, hb2⟩ : ∃ b2, b2 = w.heap.size := ⟨_, rfl⟩
  have HB : Hid (w.heap.size ≤ b2 + 1 + 1) := by show _ ≤ _; omega
  rw [← hb2] at S1 f6 f7
  rw [← hb2]
  clear hw0 hb2
  have FZ : Hid (w0.frozen? ⟨b2 + 1 + 1, 0, none⟩ = false ∧ w0.frozen? ⟨b2 + 1 + 1, 1, none⟩ = false) := ⟨f6, f7⟩
  clear f6 f7
  refine (parts_any _ p q _ (S1.out.fr (.agg #[.slice p1 n1 c1, .slice p2 n2 c2]) p q) HH.out.2.1.fits).mono ?_
  rintro e v5w ⟨v5, v6, rfl, hv, hu, hb⟩
  obtain ⟨a5, n5, c5, rfl⟩ := hv.isAgg
  obtain ⟨a6, n6, c6, rfl⟩ := hu.isAgg
  have hbb := bel_go hb (bel_al (o := .cells #[.slice a6 n6 c6] 45) (bel_al (o := .cells #[.slice a5 n5 c5] 45) (bel_refl _)))
  have FZ : Hid (((v5w.alloc (.cells #[.slice a5 n5 c5] 45)).alloc (.cells #[.slice a6 n6 c6] 45)).frozen? ⟨b2 + 1 + 1, 0, none⟩ = false ∧ ((v5w.alloc (.cells #[.slice a5 n5 c5] 45)).alloc (.cells #[.slice a6 n6 c6] 45)).frozen? ⟨b2 + 1 + 1, 1, none⟩ = false) := ⟨(hbb.frozen (World.block_lt_of_cell? _ _ (S1.out.cel (b2 + 1 + 1) 0 (.slice none 0 0)))).trans FZ.out.1, (hbb.frozen (World.block_lt_of_cell? _ _ (S1.out.cel (b2 + 1 + 1) 1 (.slice none 0 0)))).trans FZ.out.2⟩
  have S2 : Hid _ := ((((S1.out.go hb).addN hv).addN hu).box1 (.slice a5 n5 c5) 45 _ rfl).box1 (.slice a6 n6 c6) 45 _ rfl
  clear hv hu hb hbb S1
  simp only [World.size_alloc] at S2
  have z3 := S2.out.cel (b2 + 1) 0 (.slice p3 n3 c3)
  have z4 := S2.out.cel (b2 + 1) 1 (.slice p4 n4 c4)
  go_wp2_with fail
  obtain ⟨w5, hw⟩ : ∃ w5, w5 = (v5w.alloc (.cells #[.slice a5 n5 c5] 45)).alloc (.cells #[.slice a6 n6 c6] 45) := ⟨_, rfl⟩
  obtain ⟨b5, hb⟩ : ∃ b5, b5 = v5w.heap.size := ⟨_, rfl⟩
  rw [← hw, ← hb] at S2
  rw [← hw] at FZ
  rw [← hw, ← hb]
  clear hw hb
  obtain ⟨b6, hb⟩ : ∃ b6, b6 = b5 + 1 := ⟨_, rfl⟩
  rw [← hb] at S2
  rw [← hb]
  clear hb
  clear z3 z4
  refine (parts_any _ x y _ (S2.out.fr (.agg #[.slice p3 n3 c3, .slice p4 n4 c4]) x y) HH.out.2.2.2.1.fits).mono ?_
  rintro e v7w ⟨v7, v8, rfl, hv, hu, hb⟩
  obtain ⟨a7, n7, c7, rfl⟩ := hv.isAgg
  obtain ⟨a8, n8, c8, rfl⟩ := hu.isAgg
  have hbb := bel_go hb (bel_al (o := .cells #[.slice a8 n8 c8] 45) (bel_al (o := .cells #[.slice a7 n7 c7] 45) (bel_refl _)))
  have FZ : Hid (((v7w.alloc (.cells #[.slice a7 n7 c7] 45)).alloc (.cells #[.slice a8 n8 c8] 45)).frozen? ⟨b2 + 1 + 1, 0, none⟩ = false ∧ ((v7w.alloc (.cells #[.slice a7 n7 c7] 45)).alloc (.cells #[.slice a8 n8 c8] 45)).frozen? ⟨b2 + 1 + 1, 1, none⟩ = false) := ⟨(hbb.frozen (World.block_lt_of_cell? _ _ (S2.out.cel (b2 + 1 + 1) 0 (.slice none 0 0)))).trans FZ.out.1, (hbb.frozen (World.block_lt_of_cell? _ _ (S2.out.cel (b2 + 1 + 1) 1 (.slice none 0 0)))).trans FZ.out.2⟩
  have S3 : Hid _ := ((((S2.out.go hb).addN hv).addN hu).box1 (.slice a7 n7 c7) 45 _ rfl).box1 (.slice a8 n8 c8) 45 _ rfl
  clear hv hu hb hbb S2
  simp only [World.size_alloc] at S3
  go_wp2_with fail
  obtain ⟨w7, hw⟩ : ∃ w7, w7 = (v7w.alloc (.cells #[.slice a7 n7 c7] 45)).alloc (.cells #[.slice a8 n8 c8] 45) := ⟨_, rfl⟩
  obtain ⟨b7, hb⟩ : ∃ b7, b7 = v7w.heap.size := ⟨_, rfl⟩
  rw [← hw, ← hb] at S3
  rw [← hw] at FZ
  rw [← hw, ← hb]
  clear hw hb
  obtain ⟨b8, hb⟩ : ∃ b8, b8 = b7 + 1 := ⟨_, rfl⟩
  rw [← hb] at S3
  rw [← hb]
  clear hb
  refine wp_region_inv (JB w7 [sNat (p), sNat (y), sNat (Nat.gcd p y), sNat (x), sNat (q), sNat (Nat.gcd x q), sAny, sAny, sAny, sAny] [(6, 8, 2), (7, 9, 5)]) 46 (by kernel_rfl) rfl (by kernel_rfl) (JB.start _ _ _) (fun HG HN => ⟨?_, ?_, ?_, ?_, ?_, ?_, ?_, ?_, ?_, ?_, trivial⟩) ?_
  · intro L vs a w' hJ hF hP hL
    have q5 : (a.tmps[5]?).getD undef = .pointer (some ⟨b5, 0, none⟩) := hF.old 5 rfl
    have cb := cell_later hJ.bel (S3.out.cell (b5) (.slice a5 n5 c5))
    exact run_val (v := .agg #[.slice a5 n5 c5]) rfl (by simp [execOp, go_sem, q5, cb]) ⟨_, rfl, hJ.step hL rfl (Below.refl _ _) (by exact ((S3.out.at (.agg #[.slice a5 n5 c5]) (p)).mono hJ.bel))⟩
  · intro L vs a w' hJ hF hP hL
    have q8 : (a.tmps[8]?).getD undef = .pointer (some ⟨b8, 0, none⟩) := hF.old 8 rfl
    have cb := cell_later hJ.bel (S3.out.cell (b8) (.slice a8 n8 c8))
    exact run_val (v := .agg #[.slice a8 n8 c8]) rfl (by simp [execOp, go_sem, q8, cb]) ⟨_, rfl, hJ.step hL rfl (Below.refl _ _) (by exact ((S3.out.at (.agg #[.slice a8 n8 c8]) (y)).mono hJ.bel))⟩
  · intro L vs a w' hJ hF hP hL
    have p0 : L 0 = true := hP ⟨0, .data⟩ (by simp) rfl
    have s0 : IsNat w' (vs 0) (p) := hJ.sp 0 p0
    have q23 := hF.slot 0 23 rfl p0
    have p1 : L 1 = true := hP ⟨1, .data⟩ (by simp) rfl
    have s1 : IsNat w' (vs 1) (y) := hJ.sp 1 p1
    have q24 := hF.slot 1 24 rfl p1
    refine run_call (f := 69) (args := #[vs 0, vs 1]) rfl (by simp [go_sem, q23, q24]) (gcd_any _ _ p y _ s0 s1 HH.out.1.p198 HH.out.2.2.2.1.p198 (HH.out.2.2.2.2.go (bel_go S3.out.bel hJ.bel))) ?_
    rintro e w2 ⟨v, rfl, hv, hb⟩
    exact ⟨_, rfl, _, rfl, hJ.step hL rfl hb (by exact hv)⟩
  · intro L vs a w' hJ hF hP hL
    have q7 : (a.tmps[7]?).getD undef = .pointer (some ⟨b7, 0, none⟩) := hF.old 7 rfl
    have cb := cell_later hJ.bel (S3.out.cell (b7) (.slice a7 n7 c7))
    exact run_val (v := .agg #[.slice a7 n7 c7]) rfl (by simp [execOp, go_sem, q7, cb]) ⟨_, rfl, hJ.step hL rfl (Below.refl _ _) (by exact ((S3.out.at (.agg #[.slice a7 n7 c7]) (x)).mono hJ.bel))⟩
  · intro L vs a w' hJ hF hP hL
    have q6 : (a.tmps[6]?).getD undef = .pointer (some ⟨b6, 0, none⟩) := hF.old 6 rfl
    have cb := cell_later hJ.bel (S3.out.cell (b6) (.slice a6 n6 c6))
    exact run_val (v := .agg #[.slice a6 n6 c6]) rfl (by simp [execOp, go_sem, q6, cb]) ⟨_, rfl, hJ.step hL rfl (Below.refl _ _) (by exact ((S3.out.at (.agg #[.slice a6 n6 c6]) (q)).mono hJ.bel))⟩
  · intro L vs a w' hJ hF hP hL
    have p3 : L 3 = true := hP ⟨3, .data⟩ (by simp) rfl
    have s3 : IsNat w' (vs 3) (x) := hJ.sp 3 p3
    have q26 := hF.slot 3 26 rfl p3
    have p4 : L 4 = true := hP ⟨4, .data⟩ (by simp) rfl
    have s4 : IsNat w' (vs 4) (q) := hJ.sp 4 p4
    have q27 := hF.slot 4 27 rfl p4
    refine run_call (f := 69) (args := #[vs 3, vs 4]) rfl (by simp [go_sem, q26, q27]) (gcd_any _ _ x q _ s3 s4 HH.out.2.2.1.p198 HH.out.2.1.p198 (HH.out.2.2.2.2.go (bel_go S3.out.bel hJ.bel))) ?_
    rintro e w2 ⟨v, rfl, hv, hb⟩
    exact ⟨_, rfl, _, rfl, hJ.step hL rfl hb (by exact hv)⟩
  · intro L vs a w' hJ hF hP hL
    exact run_val (v := .pointer (some ⟨w'.heap.size, 0, none⟩)) (w' := w'.alloc (.cells #[.slice none 0 0] 45)) rfl (by simp [execOp, go_sem]) ⟨_, rfl, hJ.alloc hL rfl rfl _⟩
  · intro L vs a w' hJ hF hP hL
    exact run_val (v := .pointer (some ⟨w'.heap.size, 0, none⟩)) (w' := w'.alloc (.cells #[.slice none 0 0] 45)) rfl (by simp [execOp, go_sem]) ⟨_, rfl, hJ.alloc hL rfl rfl _⟩
  · intro L vs a w' hJ hF hP hL
    have p6 : L 6 = true := hP ⟨6, .data⟩ (by simp) rfl
    have q9 := hF.slot 6 9 rfl p6
    have p2 : L 2 = true := hP ⟨2, .data⟩ (by simp) rfl
    have s2 : IsNat w' (vs 2) (Nat.gcd p y) := hJ.sp 2 p2
    have q25 := hF.slot 2 25 rfl p2
    obtain ⟨bk, e1, e2, e3, e4, e5, e6⟩ := hJ.bx (6, 8, 2) (by simp) p6
    have e7 := e5 hL
    obtain ⟨aa, nn, cc, e8⟩ := s2.isAgg
    exact run_unit (w' := w'.setCell ⟨bk, 0, none⟩ (.slice aa nn cc)) rfl (by simp [execOp, go_sem, q9, q25, e1, e8, e7, e4]) ⟨undef, rfl, hJ.store (b := (6, 8, 2)) (by simp) hL p6 p2 (by decide) rfl e1 e8⟩
  · intro L vs a w' hJ hF hP hL
    have p7 : L 7 = true := hP ⟨7, .data⟩ (by simp) rfl
    have q10 := hF.slot 7 10 rfl p7
    have p5 : L 5 = true := hP ⟨5, .data⟩ (by simp) rfl
    have s5 : IsNat w' (vs 5) (Nat.gcd x q) := hJ.sp 5 p5
    have q28 := hF.slot 5 28 rfl p5
    obtain ⟨bk, e1, e2, e3, e4, e5, e6⟩ := hJ.bx (7, 9, 5) (by simp) p7
    have e7 := e5 hL
    obtain ⟨aa, nn, cc, e8⟩ := s5.isAgg
    exact run_unit (w' := w'.setCell ⟨bk, 0, none⟩ (.slice aa nn cc)) rfl (by simp [execOp, go_sem, q10, q28, e1, e8, e7, e4]) ⟨undef, rfl, hJ.store (b := (7, 9, 5)) (by simp) hL p7 p5 (by decide) rfl e1 e8⟩
  intro L vs w' hA hJ
  have s2 : IsNat w' (vs 2) (Nat.gcd p y) := hJ.sp 2 (hA 2 (by simp))
  have s5 : IsNat w' (vs 5) (Nat.gcd x q) := hJ.sp 5 (hA 5 (by simp))
  obtain ⟨bk6, eb6, ge6, lt6, fz6, _, e6⟩ := hJ.bx (6, 8, 2) (by simp) (hA 6 (by simp))
  obtain ⟨_, u6, eu6, ce6⟩ := e6 (hA 8 (by simp))
  clear e6
  obtain ⟨bk7, eb7, ge7, lt7, fz7, _, e6⟩ := hJ.bx (7, 9, 5) (by simp) (hA 7 (by simp))
  obtain ⟨_, u7, eu7, ce7⟩ := e6 (hA 9 (by simp))
  clear e6
  simp only [putL, Act.put, List.setIfInBounds_toArray, List.set_cons_zero, List.set_cons_succ, Nat.reduceAdd]
  obtain ⟨a9, n9, c9, q1⟩ := s2.isAgg
  obtain ⟨a10, n10, c10, q2⟩ := s5.isAgg
  rw [q1] at s2 eu6
  rw [q2] at s5 eu7
  obtain rfl : u6 = .slice a9 n9 c9 := by simpa using eu6.symm
  obtain rfl : u7 = .slice a10 n10 c10 := by simpa using eu7.symm
  simp only [eb6, eb7]
  obtain ⟨w9, ew⟩ : ∃ w9, w9 = w' := ⟨_, rfl⟩
  obtain ⟨b9, e1⟩ : ∃ b9, b9 = bk6 := ⟨_, rfl⟩
  obtain ⟨b10, e2⟩ : ∃ b10, b10 = bk7 := ⟨_, rfl⟩
  have FZ : Hid (w'.frozen? ⟨b2 + 1 + 1, 0, none⟩ = false ∧ w'.frozen? ⟨b2 + 1 + 1, 1, none⟩ = false) := ⟨(hJ.bel.frozen (World.block_lt_of_cell? _ _ (S3.out.cel (b2 + 1 + 1) 0 (.slice none 0 0)))).trans FZ.out.1, (hJ.bel.frozen (World.block_lt_of_cell? _ _ (S3.out.cel (b2 + 1 + 1) 1 (.slice none 0 0)))).trans FZ.out.2⟩
  have S4 : Hid _ := ((((S3.out.go hJ.bel).addN s2).addN s5).addC ce6).addC ce7
  rw [← ew, ← e1, ← e2] at S4
  rw [← ew] at FZ
  rw [← ew, ← e1, ← e2]
  clear ew e1 e2 q1 q2 s2 s5 eu6 eu7 eb6 eb7 ce6 ce7 ge6 ge7 lt6 lt7 fz6 fz7 hJ hA S3
  go_wp2_with fail
  refine wp_region_inv (JB w9 [sNat (p), sNat (Nat.gcd p y), sNat (p / Nat.gcd p y), sNat (x), sNat (Nat.gcd x q), sNat (x / Nat.gcd x q), sNat (p / Nat.gcd p y * (x / Nat.gcd x q)), sAny, sAny] [(7, 8, 6)]) 46 (by kernel_rfl) rfl (by kernel_rfl) (JB.start _ _ _) (fun HG HN => ⟨?_, ?_, ?_, ?_, ?_, ?_, ?_, ?_, ?_, trivial⟩) ?_
  · intro L vs a w' hJ hF hP hL
    have q5 : (a.tmps[5]?).getD undef = .pointer (some ⟨b5, 0, none⟩) := hF.old 5 rfl
    have cb := cell_later hJ.bel (S4.out.cell (b5) (.slice a5 n5 c5))
    exact run_val (v := .agg #[.slice a5 n5 c5]) rfl (by simp [execOp, go_sem, q5, cb]) ⟨_, rfl, hJ.step hL rfl (Below.refl _ _) (by exact ((S4.out.at (.agg #[.slice a5 n5 c5]) (p)).mono hJ.bel))⟩
  · intro L vs a w' hJ hF hP hL
    have q9 : (a.tmps[9]?).getD undef = .pointer (some ⟨b9, 0, none⟩) := hF.old 9 rfl
    have cb := cell_later hJ.bel (S4.out.cell (b9) (.slice a9 n9 c9))
    exact run_val (v := .agg #[.slice a9 n9 c9]) rfl (by simp [execOp, go_sem, q9, cb]) ⟨_, rfl, hJ.step hL rfl (Below.refl _ _) (by exact ((S4.out.at (.agg #[.slice a9 n9 c9]) (Nat.gcd p y)).mono hJ.bel))⟩
  · intro L vs a w' hJ hF hP hL
    have p0 : L 0 = true := hP ⟨0, .data⟩ (by simp) rfl
    have s0 : IsNat w' (vs 0) (p) := hJ.sp 0 p0
    have q29 := hF.slot 0 29 rfl p0
    have p1 : L 1 = true := hP ⟨1, .data⟩ (by simp) rfl
    have s1 : IsNat w' (vs 1) (Nat.gcd p y) := hJ.sp 1 p1
    have q30 := hF.slot 1 30 rfl p1
    refine run_call (f := 70) (args := #[vs 0, vs 1]) rfl (by simp [go_sem, q29, q30]) (over_any _ _ p (Nat.gcd p y) _ s0 s1 HH.out.1.p198 HL.out.2.2.1.p198 HL.out.1) ?_
    rintro e w2 ⟨v, rfl, hv, hb⟩
    exact ⟨_, rfl, _, rfl, hJ.step hL rfl hb (by exact hv)⟩
  · intro L vs a w' hJ hF hP hL
    have q7 : (a.tmps[7]?).getD undef = .pointer (some ⟨b7, 0, none⟩) := hF.old 7 rfl
    have cb := cell_later hJ.bel (S4.out.cell (b7) (.slice a7 n7 c7))
    exact run_val (v := .agg #[.slice a7 n7 c7]) rfl (by simp [execOp, go_sem, q7, cb]) ⟨_, rfl, hJ.step hL rfl (Below.refl _ _) (by exact ((S4.out.at (.agg #[.slice a7 n7 c7]) (x)).mono hJ.bel))⟩
  · intro L vs a w' hJ hF hP hL
    have q10 : (a.tmps[10]?).getD undef = .pointer (some ⟨b10, 0, none⟩) := hF.old 10 rfl
    have cb := cell_later hJ.bel (S4.out.cell (b10) (.slice a10 n10 c10))
    exact run_val (v := .agg #[.slice a10 n10 c10]) rfl (by simp [execOp, go_sem, q10, cb]) ⟨_, rfl, hJ.step hL rfl (Below.refl _ _) (by exact ((S4.out.at (.agg #[.slice a10 n10 c10]) (Nat.gcd x q)).mono hJ.bel))⟩
  · intro L vs a w' hJ hF hP hL
    have p3 : L 3 = true := hP ⟨3, .data⟩ (by simp) rfl
    have s3 : IsNat w' (vs 3) (x) := hJ.sp 3 p3
    have q32 := hF.slot 3 32 rfl p3
    have p4 : L 4 = true := hP ⟨4, .data⟩ (by simp) rfl
    have s4 : IsNat w' (vs 4) (Nat.gcd x q) := hJ.sp 4 p4
    have q33 := hF.slot 4 33 rfl p4
    refine run_call (f := 70) (args := #[vs 3, vs 4]) rfl (by simp [go_sem, q32, q33]) (over_any _ _ x (Nat.gcd x q) _ s3 s4 HH.out.2.2.1.p198 HL.out.2.2.2.1.p198 HL.out.2.1) ?_
    rintro e w2 ⟨v, rfl, hv, hb⟩
    exact ⟨_, rfl, _, rfl, hJ.step hL rfl hb (by exact hv)⟩
  · intro L vs a w' hJ hF hP hL
    have p2 : L 2 = true := hP ⟨2, .data⟩ (by simp) rfl
    have s2 : IsNat w' (vs 2) (p / Nat.gcd p y) := hJ.sp 2 p2
    have q31 := hF.slot 2 31 rfl p2
    have p5 : L 5 = true := hP ⟨5, .data⟩ (by simp) rfl
    have s5 : IsNat w' (vs 5) (x / Nat.gcd x q) := hJ.sp 5 p5
    have q34 := hF.slot 5 34 rfl p5
    refine run_call (f := 52) (args := #[vs 2, vs 5]) rfl (by simp [go_sem, q31, q34]) (mul_short _ _ (p / Nat.gcd p y) (x / Nat.gcd x q) _ s2 s5 HL.out.2.2.2.2.1.fits HL.out.2.2.2.2.2.1.fits (.inl HL.out.2.2.2.2.1.p99)) ?_
    rintro e w2 ⟨v, rfl, hv, hb⟩
    exact ⟨_, rfl, _, rfl, hJ.step hL rfl hb (by exact hv)⟩
  · intro L vs a w' hJ hF hP hL
    exact run_val (v := .pointer (some ⟨w'.heap.size, 0, none⟩)) (w' := w'.alloc (.cells #[.slice none 0 0] 45)) rfl (by simp [execOp, go_sem]) ⟨_, rfl, hJ.alloc hL rfl rfl _⟩
  · intro L vs a w' hJ hF hP hL
    have p7 : L 7 = true := hP ⟨7, .data⟩ (by simp) rfl
    have q11 := hF.slot 7 11 rfl p7
    have p6 : L 6 = true := hP ⟨6, .data⟩ (by simp) rfl
    have s6 : IsNat w' (vs 6) (p / Nat.gcd p y * (x / Nat.gcd x q)) := hJ.sp 6 p6
    have q35 := hF.slot 6 35 rfl p6
    obtain ⟨bk, e1, e2, e3, e4, e5, e6⟩ := hJ.bx (7, 8, 6) (by simp) p7
    have e7 := e5 hL
    obtain ⟨aa, nn, cc, e8⟩ := s6.isAgg
    exact run_unit (w' := w'.setCell ⟨bk, 0, none⟩ (.slice aa nn cc)) rfl (by simp [execOp, go_sem, q11, q35, e1, e8, e7, e4]) ⟨undef, rfl, hJ.store (b := (7, 8, 6)) (by simp) hL p7 p6 (by decide) rfl e1 e8⟩
  intro L vs w' hA hJ
  have s6 : IsNat w' (vs 6) (p / Nat.gcd p y * (x / Nat.gcd x q)) := hJ.sp 6 (hA 6 (by simp))
  obtain ⟨bk7, eb7, ge7, lt7, fz7, _, e6⟩ := hJ.bx (7, 8, 6) (by simp) (hA 7 (by simp))
  obtain ⟨_, u7, eu7, ce7⟩ := e6 (hA 8 (by simp))
  clear e6
  simp only [putL, Act.put, List.setIfInBounds_toArray, List.set_cons_zero, List.set_cons_succ, Nat.reduceAdd]
  obtain ⟨a11, n11, c11, q1⟩ := s6.isAgg
  rw [q1] at s6 eu7
  obtain rfl : u7 = .slice a11 n11 c11 := by simpa using eu7.symm
  simp only [eb7]
  obtain ⟨w11, ew⟩ : ∃ w11, w11 = w' := ⟨_, rfl⟩
  obtain ⟨b11, e1⟩ : ∃ b11, b11 = bk7 := ⟨_, rfl⟩
  have FZ : Hid (w'.frozen? ⟨b2 + 1 + 1, 0, none⟩ = false ∧ w'.frozen? ⟨b2 + 1 + 1, 1, none⟩ = false) := ⟨(hJ.bel.frozen (World.block_lt_of_cell? _ _ (S4.out.cel (b2 + 1 + 1) 0 (.slice none 0 0)))).trans FZ.out.1, (hJ.bel.frozen (World.block_lt_of_cell? _ _ (S4.out.cel (b2 + 1 + 1) 1 (.slice none 0 0)))).trans FZ.out.2⟩
  have S5 : Hid _ := ((S4.out.go hJ.bel).addN s6).addC ce7
  rw [← ew, ← e1] at S5
  rw [← ew] at FZ
  rw [← ew, ← e1]
  clear ew e1 q1 s6 eu7 eb7 ce7 ge7 lt7 fz7 hJ hA S4
  go_wp2_with fail
  refine wp_region_inv (JB w11 [sNat (q), sNat (Nat.gcd x q), sNat (q / Nat.gcd x q), sNat (y), sNat (Nat.gcd p y), sNat (y / Nat.gcd p y), sNat (q / Nat.gcd x q * (y / Nat.gcd p y)), sAny, sAny] [(7, 8, 6)]) 46 (by kernel_rfl) rfl (by kernel_rfl) (JB.start _ _ _) (fun HG HN => ⟨?_, ?_, ?_, ?_, ?_, ?_, ?_, ?_, ?_, trivial⟩) ?_
  · intro L vs a w' hJ hF hP hL
    have q6 : (a.tmps[6]?).getD undef = .pointer (some ⟨b6, 0, none⟩) := hF.old 6 rfl
    have cb := cell_later hJ.bel (S5.out.cell (b6) (.slice a6 n6 c6))
    exact run_val (v := .agg #[.slice a6 n6 c6]) rfl (by simp [execOp, go_sem, q6, cb]) ⟨_, rfl, hJ.step hL rfl (Below.refl _ _) (by exact ((S5.out.at (.agg #[.slice a6 n6 c6]) (q)).mono hJ.bel))⟩
  · intro L vs a w' hJ hF hP hL
    have q10 : (a.tmps[10]?).getD undef = .pointer (some ⟨b10, 0, none⟩) := hF.old 10 rfl
    have cb := cell_later hJ.bel (S5.out.cell (b10) (.slice a10 n10 c10))
    exact run_val (v := .agg #[.slice a10 n10 c10]) rfl (by simp [execOp, go_sem, q10, cb]) ⟨_, rfl, hJ.step hL rfl (Below.refl _ _) (by exact ((S5.out.at (.agg #[.slice a10 n10 c10]) (Nat.gcd x q)).mono hJ.bel))⟩
  · intro L vs a w' hJ hF hP hL
    have p0 : L 0 = true := hP ⟨0, .data⟩ (by simp) rfl
    have s0 : IsNat w' (vs 0) (q) := hJ.sp 0 p0
    have q36 := hF.slot 0 36 rfl p0
    have p1 : L 1 = true := hP ⟨1, .data⟩ (by simp) rfl
    have s1 : IsNat w' (vs 1) (Nat.gcd x q) := hJ.sp 1 p1
    have q37 := hF.slot 1 37 rfl p1
    refine run_call (f := 70) (args := #[vs 0, vs 1]) rfl (by simp [go_sem, q36, q37]) (over_any _ _ q (Nat.gcd x q) _ s0 s1 HH.out.2.1.p198 HL.out.2.2.2.1.p198 HL.out.2.1) ?_
    rintro e w2 ⟨v, rfl, hv, hb⟩
    exact ⟨_, rfl, _, rfl, hJ.step hL rfl hb (by exact hv)⟩
  · intro L vs a w' hJ hF hP hL
    have q8 : (a.tmps[8]?).getD undef = .pointer (some ⟨b8, 0, none⟩) := hF.old 8 rfl
    have cb := cell_later hJ.bel (S5.out.cell (b8) (.slice a8 n8 c8))
    exact run_val (v := .agg #[.slice a8 n8 c8]) rfl (by simp [execOp, go_sem, q8, cb]) ⟨_, rfl, hJ.step hL rfl (Below.refl _ _) (by exact ((S5.out.at (.agg #[.slice a8 n8 c8]) (y)).mono hJ.bel))⟩
  · intro L vs a w' hJ hF hP hL
    have q9 : (a.tmps[9]?).getD undef = .pointer (some ⟨b9, 0, none⟩) := hF.old 9 rfl
    have cb := cell_later hJ.bel (S5.out.cell (b9) (.slice a9 n9 c9))
    exact run_val (v := .agg #[.slice a9 n9 c9]) rfl (by simp [execOp, go_sem, q9, cb]) ⟨_, rfl, hJ.step hL rfl (Below.refl _ _) (by exact ((S5.out.at (.agg #[.slice a9 n9 c9]) (Nat.gcd p y)).mono hJ.bel))⟩
  · intro L vs a w' hJ hF hP hL
    have p3 : L 3 = true := hP ⟨3, .data⟩ (by simp) rfl
    have s3 : IsNat w' (vs 3) (y) := hJ.sp 3 p3
    have q39 := hF.slot 3 39 rfl p3
    have p4 : L 4 = true := hP ⟨4, .data⟩ (by simp) rfl
    have s4 : IsNat w' (vs 4) (Nat.gcd p y) := hJ.sp 4 p4
    have q40 := hF.slot 4 40 rfl p4
    refine run_call (f := 70) (args := #[vs 3, vs 4]) rfl (by simp [go_sem, q39, q40]) (over_any _ _ y (Nat.gcd p y) _ s3 s4 HH.out.2.2.2.1.p198 HL.out.2.2.1.p198 HL.out.1) ?_
    rintro e w2 ⟨v, rfl, hv, hb⟩
    exact ⟨_, rfl, _, rfl, hJ.step hL rfl hb (by exact hv)⟩
  · intro L vs a w' hJ hF hP hL
    have p2 : L 2 = true := hP ⟨2, .data⟩ (by simp) rfl
    have s2 : IsNat w' (vs 2) (q / Nat.gcd x q) := hJ.sp 2 p2
    have q38 := hF.slot 2 38 rfl p2
    have p5 : L 5 = true := hP ⟨5, .data⟩ (by simp) rfl
    have s5 : IsNat w' (vs 5) (y / Nat.gcd p y) := hJ.sp 5 p5
    have q41 := hF.slot 5 41 rfl p5
    refine run_call (f := 52) (args := #[vs 2, vs 5]) rfl (by simp [go_sem, q38, q41]) (mul_short _ _ (q / Nat.gcd x q) (y / Nat.gcd p y) _ s2 s5 HL.out.2.2.2.2.2.2.1.fits HL.out.2.2.2.2.2.2.2.fits (.inl HL.out.2.2.2.2.2.2.1.p99)) ?_
    rintro e w2 ⟨v, rfl, hv, hb⟩
    exact ⟨_, rfl, _, rfl, hJ.step hL rfl hb (by exact hv)⟩
  · intro L vs a w' hJ hF hP hL
    exact run_val (v := .pointer (some ⟨w'.heap.size, 0, none⟩)) (w' := w'.alloc (.cells #[.slice none 0 0] 45)) rfl (by simp [execOp, go_sem]) ⟨_, rfl, hJ.alloc hL rfl rfl _⟩
  · intro L vs a w' hJ hF hP hL
    have p7 : L 7 = true := hP ⟨7, .data⟩ (by simp) rfl
    have q12 := hF.slot 7 12 rfl p7
    have p6 : L 6 = true := hP ⟨6, .data⟩ (by simp) rfl
    have s6 : IsNat w' (vs 6) (q / Nat.gcd x q * (y / Nat.gcd p y)) := hJ.sp 6 p6
    have q42 := hF.slot 6 42 rfl p6
    obtain ⟨bk, e1, e2, e3, e4, e5, e6⟩ := hJ.bx (7, 8, 6) (by simp) p7
    have e7 := e5 hL
    obtain ⟨aa, nn, cc, e8⟩ := s6.isAgg
    exact run_unit (w' := w'.setCell ⟨bk, 0, none⟩ (.slice aa nn cc)) rfl (by simp [execOp, go_sem, q12, q42, e1, e8, e7, e4]) ⟨undef, rfl, hJ.store (b := (7, 8, 6)) (by simp) hL p7 p6 (by decide) rfl e1 e8⟩
  intro L vs w' hA hJ
  have s6 : IsNat w' (vs 6) (q / Nat.gcd x q * (y / Nat.gcd p y)) := hJ.sp 6 (hA 6 (by simp))
  obtain ⟨bk7, eb7, ge7, lt7, fz7, _, e6⟩ := hJ.bx (7, 8, 6) (by simp) (hA 7 (by simp))
  obtain ⟨_, u7, eu7, ce7⟩ := e6 (hA 8 (by simp))
  clear e6
  simp only [putL, Act.put, List.setIfInBounds_toArray, List.set_cons_zero, List.set_cons_succ, Nat.reduceAdd]
  obtain ⟨a12, n12, c12, q1⟩ := s6.isAgg
  rw [q1] at s6 eu7
  obtain rfl : u7 = .slice a12 n12 c12 := by simpa using eu7.symm
  simp only [eb7]
  obtain ⟨w12, ew⟩ : ∃ w12, w12 = w' := ⟨_, rfl⟩
  obtain ⟨b12, e1⟩ : ∃ b12, b12 = bk7 := ⟨_, rfl⟩
  have FZ : Hid (w'.frozen? ⟨b2 + 1 + 1, 0, none⟩ = false ∧ w'.frozen? ⟨b2 + 1 + 1, 1, none⟩ = false) := ⟨(hJ.bel.frozen (World.block_lt_of_cell? _ _ (S5.out.cel (b2 + 1 + 1) 0 (.slice none 0 0)))).trans FZ.out.1, (hJ.bel.frozen (World.block_lt_of_cell? _ _ (S5.out.cel (b2 + 1 + 1) 1 (.slice none 0 0)))).trans FZ.out.2⟩
  have S6 : Hid _ := ((S5.out.go hJ.bel).addN s6).addC ce7
  rw [← ew, ← e1] at S6
  rw [← ew] at FZ
  rw [← ew, ← e1]
  clear ew e1 q1 s6 eu7 eb7 ce7 ge7 lt7 fz7 hJ hA S5
  have z11 := S6.out.cell b11 (.slice a11 n11 c11)
  have z12 := S6.out.cell b12 (.slice a12 n12 c12)
  go_wp2_with fail
  refine (inLowest_any _ _ (mulP p q x y) (mulQ p q x y) _ (S6.out.at (.agg #[.slice a11 n11 c11]) (p / Nat.gcd p y * (x / Nat.gcd x q))) (S6.out.at (.agg #[.slice a12 n12 c12]) (q / Nat.gcd x q * (y / Nat.gcd p y))) HM.out.2.2 HM.out.2.1 HM.out.1).mono ?_
  rintro e w13 ⟨v13, rfl, hv, hb⟩
  obtain ⟨p7, q7, r7, p8, q8, r8, ev, _, _⟩ := hv.raw
  subst ev
  have x0 := cell_later hb (S6.out.cel (b2 + 1 + 1) 0 (.slice none 0 0))
  have x1 := cell_later hb (S6.out.cel (b2 + 1 + 1) 1 (.slice none 0 0))
  have FZ : Hid (w13.frozen? ⟨b2 + 1 + 1, 0, none⟩ = false ∧ w13.frozen? ⟨b2 + 1 + 1, 1, none⟩ = false) := ⟨(hb.frozen (World.block_lt_of_cell? _ _ (S6.out.cel (b2 + 1 + 1) 0 (.slice none 0 0)))).trans FZ.out.1, (hb.frozen (World.block_lt_of_cell? _ _ (S6.out.cel (b2 + 1 + 1) 1 (.slice none 0 0)))).trans FZ.out.2⟩
  have f0 := FZ.out.1
  have f1 := FZ.out.2
  have Z : Hid _ := rat_put (w0 := w) (v := .slice p7 q7 r7) (u := .slice p8 q8 r8) x0 x1 hv (bel_go S6.out.bel hb) HB.out
  clear hv hb S6 z11 z12 FZ
  go_wp2_with fail
  exact bodyPost_ret (v := .agg #[.slice p7 q7 r7, .slice p8 q8 r8]) (by simp [results, Tryz.results36, go_sem, x0, x1]) rfl ⟨_, rfl, Z.out.1, Z.out.2⟩
set_option maxHeartbeats 8000000 in
theorem ratDiv_yes (v u : Value) (p q x y : Nat) (w : World) (h : Rt w v p q) (k : Rt w u x y) (hp : RS p) (hq : RS q) (hx : RS x) (hy : RS y) (hx0 : 0 < x) (hT : Tab w) :
    Calls Tryz.prog 38 #[v, u] w (MakesRB w (mulP p q y x) (mulQ p q y x) true) := by
  obtain ⟨p1, m1, d1, p2, m2, d2, e0, _, _⟩ := h.raw
  subst e0
  obtain ⟨p3, m3, d3, p4, m4, d4, e1, _, _⟩ := k.raw
  subst e1
  have S0 : Hid _ := ((((sx_start w).addF h).addF k).box (.slice p1 m1 d1) (.slice p2 m2 d2) 47 _ rfl).box (.slice p3 m3 d3) (.slice p4 m4 d4) 47 _ rfl
  simp only [World.size_alloc] at S0
  have S1 : Hid _ := S0.out.box (.slice none 0 0) (.slice none 0 0) 47 _ rfl
  simp only [World.size_alloc] at S1
  obtain ⟨w0, hw0⟩ : ∃ w0, w0 = ((w.alloc (.cells #[.slice p1 m1 d1, .slice p2 m2 d2] 47)).alloc (.cells #[.slice p3 m3 d3, .slice p4 m4 d4] 47)).alloc (.cells #[.slice none 0 0, .slice none 0 0] 47) := ⟨_, rfl⟩
  have f6 : w0.frozen? ⟨w.heap.size + 1 + 1, 0, none⟩ = false := by rw [hw0]; simp [go_sem]
  have f7 : w0.frozen? ⟨w.heap.size + 1 + 1, 1, none⟩ = false := by rw [hw0]; simp [go_sem]
  have HH : Hid (RS p ∧ RS q ∧ RS x ∧ RS y ∧ Tab w) := ⟨hp, hq, hx, hy, hT⟩
  have HD : Hid (decide (x = 0) = false) := decide_eq_false (by omega)
  have HK : Hid (0 < x ∧ 0 < y ∧ Nat.gcd y x = 1) := ⟨hx0, k.pos, by rw [Nat.gcd_comm]; exact k.low⟩
  clear h k hp hq hx hy hT S0 hx0
  go_enter Tryz.func38, Tryz.ntmps38
  go_wp2_with fail
  rw [← hw0] at S1
  rw [← hw0]
  obtain ⟨b2, hb2⟩ : ∃ b2, b2 = w.heap.size := ⟨_, rfl⟩
  have HB : Hid (w.heap.size ≤ b2 + 1 + 1) := by show _ ≤ _; omega
  rw [← hb2] at S1 f6 f7
  rw [← hb2]
  clear hw0 hb2
  have FZ : Hid (w0.frozen? ⟨b2 + 1 + 1, 0, none⟩ = false ∧ w0.frozen? ⟨b2 + 1 + 1, 1, none⟩ = false) := ⟨f6, f7⟩
  clear f6 f7
  refine (parts_any _ x y _ (S1.out.fr (.agg #[.slice p3 m3 d3, .slice p4 m4 d4]) x y) HH.out.2.2.2.1.fits).mono ?_
  rintro e v7w ⟨v7, v8, rfl, hv, hu, hb⟩
  obtain ⟨a7, n7, c7, rfl⟩ := hv.isAgg
  obtain ⟨a8, n8, c8, rfl⟩ := hu.isAgg
  have hbb := bel_go hb (bel_al (o := .cells #[.slice a8 n8 c8] 45) (bel_al (o := .cells #[.slice a7 n7 c7] 45) (bel_refl _)))
  have FZ : Hid (((v7w.alloc (.cells #[.slice a7 n7 c7] 45)).alloc (.cells #[.slice a8 n8 c8] 45)).frozen? ⟨b2 + 1 + 1, 0, none⟩ = false ∧ ((v7w.alloc (.cells #[.slice a7 n7 c7] 45)).alloc (.cells #[.slice a8 n8 c8] 45)).frozen? ⟨b2 + 1 + 1, 1, none⟩ = false) := ⟨(hbb.frozen (World.block_lt_of_cell? _ _ (S1.out.cel (b2 + 1 + 1) 0 (.slice none 0 0)))).trans FZ.out.1, (hbb.frozen (World.block_lt_of_cell? _ _ (S1.out.cel (b2 + 1 + 1) 1 (.slice none 0 0)))).trans FZ.out.2⟩
  have S3 : Hid _ := ((((S1.out.go hb).addN hv).addN hu).box1 (.slice a7 n7 c7) 45 _ rfl).box1 (.slice a8 n8 c8) 45 _ rfl
  clear hv hu hb hbb S1
  simp only [World.size_alloc] at S3
  go_wp2_with fail
  obtain ⟨w7, hw⟩ : ∃ w7, w7 = (v7w.alloc (.cells #[.slice a7 n7 c7] 45)).alloc (.cells #[.slice a8 n8 c8] 45) := ⟨_, rfl⟩
  obtain ⟨b7, hb⟩ : ∃ b7, b7 = v7w.heap.size := ⟨_, rfl⟩
  rw [← hw, ← hb] at S3
  rw [← hw] at FZ
  rw [← hw, ← hb]
  clear hw hb
  have IZ := isZero_any _ x _ (S3.out.at (.agg #[.slice a7 n7 c7]) x) HH.out.2.2.1.fits
  rw [HD.out] at IZ
  refine IZ.mono ?_
  clear IZ
  rintro e w9 ⟨rfl, hb⟩
  have FZ : Hid (w9.frozen? ⟨b2 + 1 + 1, 0, none⟩ = false ∧ w9.frozen? ⟨b2 + 1 + 1, 1, none⟩ = false) := ⟨(hb.frozen (World.block_lt_of_cell? _ _ (S3.out.cel (b2 + 1 + 1) 0 (.slice none 0 0)))).trans FZ.out.1, (hb.frozen (World.block_lt_of_cell? _ _ (S3.out.cel (b2 + 1 + 1) 1 (.slice none 0 0)))).trans FZ.out.2⟩
  have S4 : Hid _ := S3.out.go hb
  clear hb S3
  have z1 := S4.out.cel b2 0 (.slice p1 m1 d1)
  have z2 := S4.out.cel b2 1 (.slice p2 m2 d2)
  have z7 := S4.out.cel b7 0 (.slice a7 n7 c7)
  have z8 := S4.out.cel (b7 + 1) 0 (.slice a8 n8 c8)
  go_wp2_with fail
  clear z1 z2 z7 z8
  have TU : Rt w9 (.agg #[.slice a8 n8 c8, .slice a7 n7 c7]) y x := ⟨⟨_, _, _, _, _, _, rfl, S4.out.at (.agg #[.slice a8 n8 c8]) y, by
    rw [if_neg (by have := HK.out.2.1; omega)]
    exact S4.out.at (.agg #[.slice a7 n7 c7]) x⟩, HK.out.1, HK.out.2.2⟩
  refine (ratMul_any _ _ p q y x _ (S4.out.fr (.agg #[.slice p1 m1 d1, .slice p2 m2 d2]) p q) TU HH.out.1 HH.out.2.1 HH.out.2.2.2.1 HH.out.2.2.1 (HH.out.2.2.2.2.go S4.out.bel)).mono ?_
  clear TU
  rintro e w13 ⟨v13, rfl, hv, hb⟩
  obtain ⟨p7, q7, r7, p8, q8, r8, ev, _, _⟩ := hv.raw
  subst ev
  have x0 := cell_later hb (S4.out.cel (b2 + 1 + 1) 0 (.slice none 0 0))
  have x1 := cell_later hb (S4.out.cel (b2 + 1 + 1) 1 (.slice none 0 0))
  have FZ : Hid (w13.frozen? ⟨b2 + 1 + 1, 0, none⟩ = false ∧ w13.frozen? ⟨b2 + 1 + 1, 1, none⟩ = false) := ⟨(hb.frozen (World.block_lt_of_cell? _ _ (S4.out.cel (b2 + 1 + 1) 0 (.slice none 0 0)))).trans FZ.out.1, (hb.frozen (World.block_lt_of_cell? _ _ (S4.out.cel (b2 + 1 + 1) 1 (.slice none 0 0)))).trans FZ.out.2⟩
  have f0 := FZ.out.1
  have f1 := FZ.out.2
  have Z : Hid _ := rat_put (w0 := w) (v := .slice p7 q7 r7) (u := .slice p8 q8 r8) x0 x1 hv (bel_go S4.out.bel hb) HB.out
  clear hv hb S4 FZ
  go_wp2_with fail
  exact bodyPost_ret (v := .tuple #[.agg #[.slice p7 q7 r7, .slice p8 q8 r8], .bool true]) (by simp [results, Tryz.results38, go_sem, x0, x1]) rfl ⟨_, rfl, Z.out.1, Z.out.2⟩
set_option maxHeartbeats 8000000 in
theorem ratDiv_no (v u : Value) (p q x y : Nat) (w : World) (h : Rt w v p q) (k : Rt w u x y) (hp : RS p) (hq : RS q) (hx : RS x) (hy : RS y) (hx0 : x = 0) (hT : Tab w) :
    Calls Tryz.prog 38 #[v, u] w (MakesRB w 0 1 false) := by
  obtain ⟨p1, m1, d1, p2, m2, d2, e0, _, _⟩ := h.raw
  subst e0
  obtain ⟨p3, m3, d3, p4, m4, d4, e1, _, _⟩ := k.raw
  subst e1
  have S0 : Hid _ := ((((sx_start w).addF h).addF k).box (.slice p1 m1 d1) (.slice p2 m2 d2) 47 _ rfl).box (.slice p3 m3 d3) (.slice p4 m4 d4) 47 _ rfl
  simp only [World.size_alloc] at S0
  have S1 : Hid _ := S0.out.box (.slice none 0 0) (.slice none 0 0) 47 _ rfl
  simp only [World.size_alloc] at S1
  obtain ⟨w0, hw0⟩ : ∃ w0, w0 = ((w.alloc (.cells #[.slice p1 m1 d1, .slice p2 m2 d2] 47)).alloc (.cells #[.slice p3 m3 d3, .slice p4 m4 d4] 47)).alloc (.cells #[.slice none 0 0, .slice none 0 0] 47) := ⟨_, rfl⟩
  have f6 : w0.frozen? ⟨w.heap.size + 1 + 1, 0, none⟩ = false := by rw [hw0]; simp [go_sem]
  have f7 : w0.frozen? ⟨w.heap.size + 1 + 1, 1, none⟩ = false := by rw [hw0]; simp [go_sem]
  have HH : Hid (RS p ∧ RS q ∧ RS x ∧ RS y ∧ Tab w) := ⟨hp, hq, hx, hy, hT⟩
  have HD : Hid (decide (x = 0) = true) := decide_eq_true hx0
  clear h k hp hq hx hy hT S0 hx0
  go_enter Tryz.func38, Tryz.ntmps38
  go_wp2_with fail
  rw [← hw0] at S1
  rw [← hw0]
  obtain ⟨b2, hb2⟩ : ∃ b2, b2 = w.heap.size := ⟨_, rfl⟩
  have HB : Hid (w.heap.size ≤ b2 + 1 + 1) := by show _ ≤ _; omega
  rw [← hb2] at S1 f6 f7
  rw [← hb2]
  clear hw0 hb2
  have FZ : Hid (w0.frozen? ⟨b2 + 1 + 1, 0, none⟩ = false ∧ w0.frozen? ⟨b2 + 1 + 1, 1, none⟩ = false) := ⟨f6, f7⟩
  clear f6 f7
  refine (parts_any _ x y _ (S1.out.fr (.agg #[.slice p3 m3 d3, .slice p4 m4 d4]) x y) HH.out.2.2.2.1.fits).mono ?_
  rintro e v7w ⟨v7, v8, rfl, hv, hu, hb⟩
  obtain ⟨a7, n7, c7, rfl⟩ := hv.isAgg
  obtain ⟨a8, n8, c8, rfl⟩ := hu.isAgg
  have hbb := bel_go hb (bel_al (o := .cells #[.slice a8 n8 c8] 45) (bel_al (o := .cells #[.slice a7 n7 c7] 45) (bel_refl _)))
  have FZ : Hid (((v7w.alloc (.cells #[.slice a7 n7 c7] 45)).alloc (.cells #[.slice a8 n8 c8] 45)).frozen? ⟨b2 + 1 + 1, 0, none⟩ = false ∧ ((v7w.alloc (.cells #[.slice a7 n7 c7] 45)).alloc (.cells #[.slice a8 n8 c8] 45)).frozen? ⟨b2 + 1 + 1, 1, none⟩ = false) := ⟨(hbb.frozen (World.block_lt_of_cell? _ _ (S1.out.cel (b2 + 1 + 1) 0 (.slice none 0 0)))).trans FZ.out.1, (hbb.frozen (World.block_lt_of_cell? _ _ (S1.out.cel (b2 + 1 + 1) 1 (.slice none 0 0)))).trans FZ.out.2⟩
  have S3 : Hid _ := ((((S1.out.go hb).addN hv).addN hu).box1 (.slice a7 n7 c7) 45 _ rfl).box1 (.slice a8 n8 c8) 45 _ rfl
  clear hv hu hb hbb S1
  simp only [World.size_alloc] at S3
  go_wp2_with fail
  obtain ⟨w7, hw⟩ : ∃ w7, w7 = (v7w.alloc (.cells #[.slice a7 n7 c7] 45)).alloc (.cells #[.slice a8 n8 c8] 45) := ⟨_, rfl⟩
  obtain ⟨b7, hb⟩ : ∃ b7, b7 = v7w.heap.size := ⟨_, rfl⟩
  rw [← hw, ← hb] at S3
  rw [← hw] at FZ
  rw [← hw, ← hb]
  clear hw hb
  have IZ := isZero_any _ x _ (S3.out.at (.agg #[.slice a7 n7 c7]) x) HH.out.2.2.1.fits
  rw [HD.out] at IZ
  refine IZ.mono ?_
  clear IZ
  rintro e w9 ⟨rfl, hb⟩
  have FZ : Hid (w9.frozen? ⟨b2 + 1 + 1, 0, none⟩ = false ∧ w9.frozen? ⟨b2 + 1 + 1, 1, none⟩ = false) := ⟨(hb.frozen (World.block_lt_of_cell? _ _ (S3.out.cel (b2 + 1 + 1) 0 (.slice none 0 0)))).trans FZ.out.1, (hb.frozen (World.block_lt_of_cell? _ _ (S3.out.cel (b2 + 1 + 1) 1 (.slice none 0 0)))).trans FZ.out.2⟩
  have S4 : Hid _ := S3.out.go hb
  clear hb S3
  have x0 := S4.out.cel (b2 + 1 + 1) 0 (.slice none 0 0)
  have x1 := S4.out.cel (b2 + 1 + 1) 1 (.slice none 0 0)
  have f0 := FZ.out.1
  have f1 := FZ.out.2
  have Z : Hid _ := rat_put (w0 := w) (v := .slice none 0 0) (u := .slice none 0 0) x0 x1 (rt_zero _) S4.out.bel HB.out
  clear S4 FZ
  go_wp2_with fail
  exact bodyPost_ret (v := .tuple #[.agg #[.slice none 0 0, .slice none 0 0], .bool false]) (by simp [results, Tryz.results38, go_sem, x0, x1]) rfl ⟨_, rfl, Z.out.1, Z.out.2⟩
end Go.Proofs.YtfkkomppfghagaaGreatDoor
