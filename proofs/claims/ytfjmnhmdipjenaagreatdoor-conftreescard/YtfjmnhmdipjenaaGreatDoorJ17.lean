/- Contracts of the program's functions, part 17: own work, joined in build order. -/
import Derived.Test.YtfjmnhmdipjenaaGreatDoorJ16
import Derived.ArgAppend
import Derived.Laws.AppendOwnNone
namespace Go.Proofs.YtfjmnhmdipjenaaGreatDoor
open Go.RowKit
set_option maxRecDepth 100000
set_option linter.unusedVariables false
/-- What is known of a world: fractions of both kinds, what lies in cells, and that what was is as it was. -/
structure SQ (w0 w : World) (F G : List (Value × Nat × Nat)) (C : List (Nat × Nat × Value)) : Prop where
  frs : ∀ p ∈ F, Rt w p.1 p.2.1 p.2.2
  rfrs : ∀ p ∈ G, RRt w p.1 p.2.1 p.2.2
  cells : ∀ p ∈ C, w.cell? ⟨p.1, p.2.1, none⟩ = some p.2.2
  bel : Below w0.heap.size w0 w
theorem SQ.go {w0 w w' : World} {F G : List (Value × Nat × Nat)} {C : List (Nat × Nat × Value)} (h : SQ w0 w F G C) (hb : Below w.heap.size w w') : SQ w0 w' F G C :=
  ⟨fun p hp => (h.frs p hp).mono hb, fun p hp => (h.rfrs p hp).mono hb, fun p hp => cell_later hb (h.cells p hp), bel_go h.bel hb⟩
theorem SQ.fr {w0 w : World} {F G : List (Value × Nat × Nat)} {C : List (Nat × Nat × Value)} (h : SQ w0 w F G C) (v : Value) (p q : Nat) (hm : (v, p, q) ∈ F := by simp) : Rt w v p q := h.frs _ hm
theorem SQ.cel {w0 w : World} {F G : List (Value × Nat × Nat)} {C : List (Nat × Nat × Value)} (h : SQ w0 w F G C) (b i : Nat) (u : Value) (hm : (b, i, u) ∈ C := by simp) : w.cell? ⟨b, i, none⟩ = some u := h.cells _ hm
theorem SQ.addF {w0 w : World} {F G : List (Value × Nat × Nat)} {C : List (Nat × Nat × Value)} (h : SQ w0 w F G C) {v : Value} {p q : Nat} (hv : Rt w v p q) : SQ w0 w ((v, p, q) :: F) G C :=
  ⟨fun x hx => by
    rcases List.mem_cons.1 hx with e | e
    · subst e; exact hv
    · exact h.frs x e, h.rfrs, h.cells, h.bel⟩
theorem SQ.addC {w0 w : World} {F G : List (Value × Nat × Nat)} {C : List (Nat × Nat × Value)} (h : SQ w0 w F G C) {b i : Nat} {v : Value} (hv : w.cell? ⟨b, i, none⟩ = some v) : SQ w0 w F G ((b, i, v) :: C) :=
  ⟨h.frs, h.rfrs, fun x hx => by
    rcases List.mem_cons.1 hx with e | e
    · subst e; exact hv
    · exact h.cells x e, h.bel⟩
theorem SQ.box {w0 w : World} {F G : List (Value × Nat × Nat)} {C : List (Nat × Nat × Value)} (h : SQ w0 w F G C) (u u' : Value) (t : TypeId) (g : Nat) (hg : g = w.heap.size) : SQ w0 (w.alloc (.cells #[u, u'] t)) F G ((g, 0, u) :: (g, 1, u') :: C) := by
  subst hg
  have h' := h.go (w' := w.alloc (.cells #[u, u'] t)) (bel_al (Below.refl _ _))
  exact (h'.addC (b := w.heap.size) (i := 1) (v := u') (by simp)).addC (by simp)
/-- A new box of two cells (who makes it, who stores into it, whose value). -/
def Box2 (w0 : World) (L : Nat → Bool) (vs : Nat → Value) (w : World) (b : Nat × Nat × Nat) : Prop :=
  ∃ bk, vs b.1 = .pointer (some ⟨bk, 0, none⟩) ∧ w0.heap.size ≤ bk ∧ bk < w.heap.size ∧ w.frozen? ⟨bk, 0, none⟩ = false ∧ w.frozen? ⟨bk, 1, none⟩ = false ∧ (L b.2.1 = false → w.cell? ⟨bk, 0, none⟩ = some (.slice none 0 0) ∧ w.cell? ⟨bk, 1, none⟩ = some (.slice none 0 0)) ∧ (L b.2.1 = true → L b.2.2 = true ∧ ∃ u u', vs b.2.2 = .agg #[u, u'] ∧ w.cell? ⟨bk, 0, none⟩ = some u ∧ w.cell? ⟨bk, 1, none⟩ = some u')
structure JC (w0 : World) (specs : List Spec) (b : Nat × Nat × Nat) (L : Nat → Bool) (vs : Nat → Value) (w : World) : Prop where
  bel : Below w0.heap.size w0 w
  sp : ∀ i, L i = true → (specs.getD i sAny).1 w (vs i)
  bx : L b.1 = true → Box2 w0 L vs w b
  cl : L b.2.1 = true → L b.1 = true
theorem JC.start (w : World) (specs : List Spec) (b : Nat × Nat × Nat) : JC w specs b (fun _ => false) (fun _ => undef) w.drew :=
  ⟨bel_dr (Below.refl _ _), (fun _ h => by cases h), (fun h => by cases h), (fun h => by cases h)⟩
theorem JC.step {w0 : World} {specs : List Spec} {b : Nat × Nat × Nat} {L : Nat → Bool} {vs : Nat → Value} {w w' : World} (h : JC w0 specs b L vs w) {i : Nat} (hL : L i = false) (hf : freeB [b] i = true) (hb : Below w.heap.size w w') {v : Value} (hs : (specs.getD i sAny).1 w' v) : JC w0 specs b (updB L i) (updV vs i v) w' := by
  have hne : b.1 ≠ i ∧ b.2.1 ≠ i := by simpa [freeB] using hf
  have oldV : ∀ j, L j = true → updV vs i v j = vs j := fun j hj => by
    have : j ≠ i := fun e => by rw [e, hL] at hj; cases hj
    simp [updV, this]
  refine ⟨bel_go h.bel hb, fun j hj => ?_, fun hLb => ?_, fun hs' => ?_⟩
  · by_cases e : j = i
    · subst e
      simpa [updV] using hs
    · have hj' : L j = true := by simpa [updB, e] using hj
      rw [oldV j hj']
      exact (specs.getD j sAny).2.mono (h.sp j hj') hb
  · have hLb' : L b.1 = true := by simpa [updB, hne.1] using hLb
    obtain ⟨bk, e1, e2, e3, e4, e4', e5, e6⟩ := h.bx hLb'
    have hc0 : w'.cell? ⟨bk, 0, none⟩ = w.cell? ⟨bk, 0, none⟩ := hb.cell (p := ⟨bk, 0, none⟩) e3
    have hc1 : w'.cell? ⟨bk, 1, none⟩ = w.cell? ⟨bk, 1, none⟩ := hb.cell (p := ⟨bk, 1, none⟩) e3
    refine ⟨bk, by rw [oldV _ hLb']; exact e1, e2, Nat.lt_of_lt_of_le e3 hb.size, (hb.frozen (p := ⟨bk, 0, none⟩) e3).trans e4, (hb.frozen (p := ⟨bk, 1, none⟩) e3).trans e4', fun hs' => ?_, fun hs' => ?_⟩
    · rw [hc0, hc1]
      exact e5 (by simpa [updB, hne.2] using hs')
    · obtain ⟨q1, u, u', q2, q3, q4⟩ := e6 (by simpa [updB, hne.2] using hs')
      refine ⟨by unfold updB; split <;> simp_all, u, u', ?_, by rw [hc0]; exact q3, by rw [hc1]; exact q4⟩
      rw [oldV _ q1]
      exact q2
  · have := h.cl (by simpa [updB, hne.2] using hs')
    unfold updB; split <;> simp_all
theorem JC.alloc {w0 : World} {specs : List Spec} {b : Nat × Nat × Nat} {L : Nat → Bool} {vs : Nat → Value} {w : World} (h : JC w0 specs b L vs w) {i : Nat} (hL : L i = false) (hi : b.1 = i) (hns : b.2.1 ≠ i) (hsp : specs.getD i sAny = sAny) (t : TypeId) :
    JC w0 specs b (updB L i) (updV vs i (.pointer (some ⟨w.heap.size, 0, none⟩))) (w.alloc (.cells #[.slice none 0 0, .slice none 0 0] t)) := by
  have hb : Below w.heap.size w (w.alloc (.cells #[.slice none 0 0, .slice none 0 0] t)) := (Below.refl _ _).alloc (Nat.le_refl _) _
  have oldV : ∀ j, L j = true → updV vs i (.pointer (some ⟨w.heap.size, 0, none⟩)) j = vs j := fun j hj => by
    have : j ≠ i := fun e => by rw [e, hL] at hj; cases hj
    simp [updV, this]
  have hst : L b.2.1 = false := by
    cases hs' : L b.2.1
    · rfl
    · have := h.cl hs'
      rw [hi, hL] at this
      cases this
  refine ⟨bel_go h.bel hb, fun j hj => ?_, fun _ => ?_, fun hs' => ?_⟩
  · by_cases e : j = i
    · subst e
      rw [hsp]
      trivial
    · have hj' : L j = true := by simpa [updB, e] using hj
      rw [oldV j hj']
      exact (specs.getD j sAny).2.mono (h.sp j hj') hb
  · refine ⟨w.heap.size, by rw [hi]; simp [updV], h.bel.size, by simp, by simp [go_sem], by simp [go_sem], fun _ => by simp [go_sem], fun hs' => ?_⟩
    simp [updB, hns, hst] at hs'
  · simp [updB, hns, hst] at hs'
theorem JC.store {w0 : World} {specs : List Spec} {b : Nat × Nat × Nat} {L : Nat → Bool} {vs : Nat → Value} {w : World} (h : JC w0 specs b L vs w) (hL : L b.2.1 = false) (hA : L b.1 = true) (hV : L b.2.2 = true) (hone : b.1 ≠ b.2.1) (hsp : specs.getD b.2.1 sAny = sAny) {bk : Nat} {u u' : Value} (hp : vs b.1 = .pointer (some ⟨bk, 0, none⟩)) (hu : vs b.2.2 = .agg #[u, u']) :
    JC w0 specs b (updB L b.2.1) (updV vs b.2.1 undef) ((w.setCell ⟨bk, 0, none⟩ u).setCell ⟨bk, 1, none⟩ u') := by
  have oldV : ∀ j, L j = true → updV vs b.2.1 undef j = vs j := fun j hj => by
    have : j ≠ b.2.1 := fun e => by rw [e, hL] at hj; cases hj
    simp [updV, this]
  obtain ⟨bk', e1, e2, e3, e4, e4', e5, e6⟩ := h.bx hA
  obtain rfl : bk' = bk := by rw [e1] at hp; cases hp; rfl
  obtain ⟨hc0, hc1⟩ := e5 hL
  obtain ⟨n1, n2⟩ := two_set hc0 hc1 u
  have hd : (w.setCell ⟨bk', 0, none⟩ u).cell? ⟨bk', 1, none⟩ = some (.slice none 0 0) := by rw [World.cell?_setCell_other (h := by simp), hc1]
  refine ⟨(h.bel.setCell (p := ⟨bk', 0, none⟩) e2 u).setCell (p := ⟨bk', 1, none⟩) e2 u', fun j hj => ?_, fun _ => ?_, fun _ => ?_⟩
  · by_cases e : j = b.2.1
    · subst e
      rw [hsp]
      trivial
    · have hj' : L j = true := by simpa [updB, e] using hj
      rw [oldV j hj']
      exact (specs.getD j sAny).2.set ((specs.getD j sAny).2.set (h.sp j hj') n1 u) n2 u'
  · refine ⟨bk', by rw [oldV _ hA]; exact e1, e2, by simpa [World.setCell] using e3, by simp [World.frozen?_setCell, e4], by simp [World.frozen?_setCell, e4'], fun hs' => ?_, fun _ => ⟨?_, u, u', ?_, ?_, ?_⟩⟩
    · simp [updB] at hs'
    · unfold updB; split <;> simp_all
    · rw [oldV _ hV]; exact hu
    · rw [World.cell?_setCell_other (h := by simp)]
      simp [go_sem, hc0]
    · simp [go_sem, hd]
  · simp [updB, hone, hA]
end Go.Proofs.YtfjmnhmdipjenaaGreatDoor

namespace Go.Proofs.YtfjmnhmdipjenaaGreatDoor
open Go.RowKit
set_option maxRecDepth 100000
set_option linter.unusedVariables false
theorem BSl.min {w : World} {a : Option Addr} {n cap : Nat} {D : Nat → Nat} (h : BSl w a n cap D) (m : Nat) : BSl w a (Min.min n m) cap D := by
  obtain ⟨h1, h2, h3, h4⟩ := h
  refine ⟨by omega, h2, fun i hi => h3 i (by omega), ?_⟩
  rcases h4 with h4 | ⟨b, o, e, h4⟩
  · exact .inl (by omega)
  · exact .inr ⟨b, o, e, fun i hi => h4 i (by omega)⟩
end Go.Proofs.YtfjmnhmdipjenaaGreatDoor

namespace Go.Proofs.YtfjmnhmdipjenaaGreatDoor
open Go.RowKit
set_option maxRecDepth 100000
set_option linter.unusedVariables false
/-- A box of two cells that is still as it was made. -/
def Zer (w : World) (r : Nat) : Prop := ∀ i, i < 2 → w.cell? ⟨r, i, none⟩ = some (.slice none 0 0) ∧ w.frozen? ⟨r, i, none⟩ = false
theorem Zer.go {w w' : World} {r : Nat} (h : Zer w r) (hb : Below w.heap.size w w') : Zer w' r := fun i hi =>
  ⟨cell_later hb (h i hi).1, (hb.frozen (World.block_lt_of_cell? _ _ (h i hi).1)).trans (h i hi).2⟩
theorem Zer.set {w : World} {r g : Nat} (h : Zer w r) (hg : r ≠ g) (u : Value) : Zer (w.setCell ⟨g, 0, none⟩ u) r := fun i hi =>
  ⟨by rw [World.cell?_setCell_far _ _ _ _ (by simpa using Ne.symm hg)]; exact (h i hi).1, by simp [World.frozen?_setCell, (h i hi).2]⟩
/-- What Made knows of its world: four numbers in four boxes, two results. -/
structure MT (w0 w : World) (b g1 g2 h1 h2 : Nat) (a1 : Option Addr) (n1 c1 : Nat) (a2 : Option Addr) (n2 c2 : Nat) (a3 : Option Addr) (n3 c3 : Nat) (a4 : Option Addr) (n4 c4 : Nat) (x y y' : Nat) : Prop where
  nx : IsNat w (.agg #[.slice a1 n1 c1]) x
  ny : IsNat w (.agg #[.slice a2 n2 c2]) y
  rx : RNat w (.agg #[.slice a3 n3 c3]) x
  ry : RNat w (.agg #[.slice a4 n4 c4]) y'
  c1 : w.cell? ⟨g1, 0, none⟩ = some (.slice a1 n1 c1)
  c2 : w.cell? ⟨g2, 0, none⟩ = some (.slice a2 n2 c2)
  c3 : w.cell? ⟨h1, 0, none⟩ = some (.slice a3 n3 c3)
  c4 : w.cell? ⟨h2, 0, none⟩ = some (.slice a4 n4 c4)
  f2 : w.frozen? ⟨g2, 0, none⟩ = false
  f4 : w.frozen? ⟨h2, 0, none⟩ = false
  z1 : Zer w (b + 1)
  z2 : Zer w (b + 1 + 1)
  bel : Below w0.heap.size w0 w
  ne : g1 ≠ g2 ∧ g1 ≠ h2 ∧ h1 ≠ g2 ∧ h1 ≠ h2 ∧ g2 ≠ h2 ∧ b + 1 ≠ g2 ∧ b + 1 ≠ h2 ∧ b + 1 + 1 ≠ g2 ∧ b + 1 + 1 ≠ h2
  lo : w0.heap.size ≤ g2 ∧ w0.heap.size ≤ h2 ∧ w0.heap.size ≤ b
theorem MT.go {w0 w w' : World} {b g1 g2 h1 h2 : Nat} {a1 : Option Addr} {n1 c1 : Nat} {a2 : Option Addr} {n2 c2 : Nat} {a3 : Option Addr} {n3 c3 : Nat} {a4 : Option Addr} {n4 c4 : Nat} {x y y' : Nat} (h : MT w0 w b g1 g2 h1 h2 a1 n1 c1 a2 n2 c2 a3 n3 c3 a4 n4 c4 x y y') (hb : Below w.heap.size w w') : MT w0 w' b g1 g2 h1 h2 a1 n1 c1 a2 n2 c2 a3 n3 c3 a4 n4 c4 x y y' :=
  ⟨h.nx.mono hb, h.ny.mono hb, h.rx.mono hb, h.ry.mono hb, cell_later hb h.c1, cell_later hb h.c2, cell_later hb h.c3, cell_later hb h.c4, (hb.frozen (World.block_lt_of_cell? _ _ h.c2)).trans h.f2, (hb.frozen (World.block_lt_of_cell? _ _ h.c4)).trans h.f4, h.z1.go hb, h.z2.go hb, bel_go h.bel hb, h.ne, h.lo⟩
theorem far_cell {w : World} {g r : Nat} {u v : Value} (h : w.cell? ⟨r, 0, none⟩ = some v) (hg : r ≠ g) : (w.setCell ⟨g, 0, none⟩ u).cell? ⟨r, 0, none⟩ = some v := by
  rw [World.cell?_setCell_far _ _ _ _ (by simpa using Ne.symm hg)]
  exact h
theorem MT.setR {w0 w : World} {b g1 g2 h1 h2 : Nat} {a1 : Option Addr} {n1 c1 : Nat} {a2 : Option Addr} {n2 c2 : Nat} {a3 : Option Addr} {n3 c3 : Nat} {a4 : Option Addr} {n4 c4 : Nat} {x y y' : Nat} (h : MT w0 w b g1 g2 h1 h2 a1 n1 c1 a2 n2 c2 a3 n3 c3 a4 n4 c4 x y y') {a : Option Addr} {n c z : Nat} (hv : RNat w (.agg #[.slice a n c]) z) : MT w0 (w.setCell ⟨h2, 0, none⟩ (.slice a n c)) b g1 g2 h1 h2 a1 n1 c1 a2 n2 c2 a3 n3 c3 a n c x y z := by
  have hp := no_int_slice h.c4
  obtain ⟨e1, e2, e3, e4, e5, e6, e7, e8, e9⟩ := h.ne
  exact ⟨h.nx.setCell hp _, h.ny.setCell hp _, h.rx.setCell hp _, hv.setCell hp _, far_cell h.c1 e2, far_cell h.c2 e5, far_cell h.c3 e4, by simp [go_sem, h.c4], by simp [World.frozen?_setCell, h.f2], by simp [World.frozen?_setCell, h.f4], h.z1.set e7 _, h.z2.set e9 _, h.bel.setCell (p := ⟨h2, 0, none⟩) h.lo.2.1 _, h.ne, h.lo⟩
end Go.Proofs.YtfjmnhmdipjenaaGreatDoor

namespace Go.Proofs.YtfjmnhmdipjenaaGreatDoor
open Go.RowKit
set_option maxRecDepth 100000
set_option linter.unusedVariables false
/-- What is known of a world: numbers and fractions of both kinds, what lies in cells, and that what was is as it was. -/
structure SX (w0 w : World) (N M : List (Value × Nat)) (F G : List (Value × Nat × Nat)) (C : List (Nat × Nat × Value)) : Prop where
  nats : ∀ p ∈ N, IsNat w p.1 p.2
  rnats : ∀ p ∈ M, RNat w p.1 p.2
  frs : ∀ p ∈ F, Rt w p.1 p.2.1 p.2.2
  rfrs : ∀ p ∈ G, RRt w p.1 p.2.1 p.2.2
  cells : ∀ p ∈ C, w.cell? ⟨p.1, p.2.1, none⟩ = some p.2.2
  bel : Below w0.heap.size w0 w
theorem SX.go {w0 w : World} {N M : List (Value × Nat)} {F G : List (Value × Nat × Nat)} {C : List (Nat × Nat × Value)} (h : SX w0 w N M F G C) {w' : World} (hb : Below w.heap.size w w') : SX w0 w' N M F G C :=
  ⟨fun p hp => (h.nats p hp).mono hb, fun p hp => (h.rnats p hp).mono hb, fun p hp => (h.frs p hp).mono hb, fun p hp => (h.rfrs p hp).mono hb, fun p hp => cell_later hb (h.cells p hp), bel_go h.bel hb⟩
theorem SX.at {w0 w : World} {N M : List (Value × Nat)} {F G : List (Value × Nat × Nat)} {C : List (Nat × Nat × Value)} (h : SX w0 w N M F G C) (v : Value) (x : Nat) (hm : (v, x) ∈ N := by simp) : IsNat w v x := h.nats _ hm
theorem SX.rat {w0 w : World} {N M : List (Value × Nat)} {F G : List (Value × Nat × Nat)} {C : List (Nat × Nat × Value)} (h : SX w0 w N M F G C) (v : Value) (x : Nat) (hm : (v, x) ∈ M := by simp) : RNat w v x := h.rnats _ hm
theorem SX.fr {w0 w : World} {N M : List (Value × Nat)} {F G : List (Value × Nat × Nat)} {C : List (Nat × Nat × Value)} (h : SX w0 w N M F G C) (v : Value) (p q : Nat) (hm : (v, p, q) ∈ F := by simp) : Rt w v p q := h.frs _ hm
theorem SX.cel {w0 w : World} {N M : List (Value × Nat)} {F G : List (Value × Nat × Nat)} {C : List (Nat × Nat × Value)} (h : SX w0 w N M F G C) (b i : Nat) (u : Value) (hm : (b, i, u) ∈ C := by simp) : w.cell? ⟨b, i, none⟩ = some u := h.cells _ hm
theorem SX.cell {w0 w : World} {N M : List (Value × Nat)} {F G : List (Value × Nat × Nat)} {C : List (Nat × Nat × Value)} (h : SX w0 w N M F G C) (b : Nat) (u : Value) (hm : (b, 0, u) ∈ C := by simp) : w.cell? ⟨b, 0, none⟩ = some u := h.cells _ hm
theorem SX.addN {w0 w : World} {N M : List (Value × Nat)} {F G : List (Value × Nat × Nat)} {C : List (Nat × Nat × Value)} (h : SX w0 w N M F G C) {v : Value} {x : Nat} (hv : IsNat w v x) : SX w0 w ((v, x) :: N) M F G C :=
  ⟨fun p hp => by
    rcases List.mem_cons.1 hp with e | e
    · subst e; exact hv
    · exact h.nats p e, h.rnats, h.frs, h.rfrs, h.cells, h.bel⟩
theorem SX.addF {w0 w : World} {N M : List (Value × Nat)} {F G : List (Value × Nat × Nat)} {C : List (Nat × Nat × Value)} (h : SX w0 w N M F G C) {v : Value} {x y : Nat} (hv : Rt w v x y) : SX w0 w N M ((v, x, y) :: F) G C :=
  ⟨h.nats, h.rnats, fun p hp => by
    rcases List.mem_cons.1 hp with e | e
    · subst e; exact hv
    · exact h.frs p e, h.rfrs, h.cells, h.bel⟩
theorem SX.addC {w0 w : World} {N M : List (Value × Nat)} {F G : List (Value × Nat × Nat)} {C : List (Nat × Nat × Value)} (h : SX w0 w N M F G C) {b i : Nat} {v : Value} (hv : w.cell? ⟨b, i, none⟩ = some v) : SX w0 w N M F G ((b, i, v) :: C) :=
  ⟨h.nats, h.rnats, h.frs, h.rfrs, fun p hp => by
    rcases List.mem_cons.1 hp with e | e
    · subst e; exact hv
    · exact h.cells p e, h.bel⟩
theorem SX.box1 {w0 w : World} {N M : List (Value × Nat)} {F G : List (Value × Nat × Nat)} {C : List (Nat × Nat × Value)} (h : SX w0 w N M F G C) (u : Value) (t : TypeId) (g : Nat) (hg : g = w.heap.size) : SX w0 (w.alloc (.cells #[u] t)) N M F G ((g, 0, u) :: C) := by
  subst hg
  exact (h.go (w' := w.alloc (.cells #[u] t)) (bel_al (Below.refl _ _))).addC (by simp)
theorem SX.box {w0 w : World} {N M : List (Value × Nat)} {F G : List (Value × Nat × Nat)} {C : List (Nat × Nat × Value)} (h : SX w0 w N M F G C) (u u' : Value) (t : TypeId) (g : Nat) (hg : g = w.heap.size) : SX w0 (w.alloc (.cells #[u, u'] t)) N M F G ((g, 0, u) :: (g, 1, u') :: C) := by
  subst hg
  have h' := h.go (w' := w.alloc (.cells #[u, u'] t)) (bel_al (Below.refl _ _))
  exact (h'.addC (b := w.heap.size) (i := 1) (v := u') (by simp)).addC (by simp)
/-- A cell is written over: what lay elsewhere stays. -/
theorem SX.set {w0 w : World} {N M : List (Value × Nat)} {F G : List (Value × Nat × Nat)} {C : List (Nat × Nat × Value)} (h : SX w0 w N M F G C) {b i : Nat} {a : Option Addr} {n c : Nat} (hc : w.cell? ⟨b, i, none⟩ = some (.slice a n c)) (hlo : w0.heap.size ≤ b) (C' : List (Nat × Nat × Value)) (hC : ∀ p ∈ C', p ∈ C ∧ p.1 ≠ b) (u : Value) : SX w0 (w.setCell ⟨b, i, none⟩ u) N M F G C' :=
  ⟨fun p hp => (h.nats p hp).setCell (no_int_slice hc) u, fun p hp => (h.rnats p hp).setCell (no_int_slice hc) u, fun p hp => (h.frs p hp).setCell (no_int_slice hc) u, fun p hp => (h.rfrs p hp).setCell (no_int_slice hc) u,
    fun p hp => by
      rw [World.cell?_setCell_far _ _ _ _ (by simpa using Ne.symm (hC p hp).2)]
      exact h.cells p (hC p hp).1,
    h.bel.setCell (p := ⟨b, i, none⟩) hlo u⟩
theorem sx_start (w : World) : SX w w [] [] [] [] [] := ⟨(fun _ h => by cases h), (fun _ h => by cases h), (fun _ h => by cases h), (fun _ h => by cases h), (fun _ h => by cases h), Below.refl _ _⟩
end Go.Proofs.YtfjmnhmdipjenaaGreatDoor

namespace Go.Proofs.YtfjmnhmdipjenaaGreatDoor
open Go.RowKit
set_option maxRecDepth 100000
set_option linter.unusedVariables false
/-- An invariant: while the answer is not stored, all is as without boxes; once it is, all else is done. -/
structure JD (w0 : World) (specs : List Spec) (needs : List (List Nat)) (st val : Nat) (oth : List Nat) (Sto : World → Value → World → Prop) (L : Nat → Bool) (vs : Nat → Value) (w : World) : Prop where
  core : L st = false → JB w0 specs [] L vs w
  cl : ∀ j, L j = true → ∀ k ∈ needs.getD j [], L k = true
  fin : L st = true → (∀ j ∈ oth, L j = true) ∧ ∃ w1, Below w0.heap.size w0 w1 ∧ (specs.getD val sAny).1 w1 (vs val) ∧ Sto w1 (vs val) w
theorem JD.start (w : World) (specs : List Spec) (needs : List (List Nat)) (st val : Nat) (oth : List Nat) (Sto : World → Value → World → Prop) : JD w specs needs st val oth Sto (fun _ => false) (fun _ => undef) w.drew :=
  ⟨fun _ => JB.start _ _ _, (fun _ h => by cases h), (fun h => by cases h)⟩
theorem nd_nil {L : Nat → Bool} : ∀ k ∈ ([] : List Nat), L k = true := fun _ h => by cases h
theorem nd_cons {L : Nat → Bool} {a : Nat} {l : List Nat} (h : L a = true) (k : ∀ j ∈ l, L j = true) : ∀ j ∈ a :: l, L j = true := fun j hj => by
  rcases List.mem_cons.1 hj with e | e
  · rw [e]; exact h
  · exact k j e
theorem JD.open {w0 : World} {specs : List Spec} {needs : List (List Nat)} {st val : Nat} {oth : List Nat} {Sto : World → Value → World → Prop} {L : Nat → Bool} {vs : Nat → Value} {w : World} (h : JD w0 specs needs st val oth Sto L vs w) {i : Nat} (hL : L i = false) (hi : i ∈ oth) : JB w0 specs [] L vs w :=
  h.core (by
    cases e : L st
    · rfl
    · have := (h.fin e).1 i hi
      rw [hL] at this
      cases this)
theorem JD.step {w0 : World} {specs : List Spec} {needs : List (List Nat)} {st val : Nat} {oth : List Nat} {Sto : World → Value → World → Prop} {L : Nat → Bool} {vs : Nat → Value} {w : World} (h : JD w0 specs needs st val oth Sto L vs w) {i : Nat} (hL : L i = false) (hi : i ∈ oth) (hne : i ≠ st) {nd : List Nat} (he : needs.getD i [] = nd) (hn : ∀ k ∈ nd, L k = true) {v : Value} {w' : World} (k : JB w0 specs [] (updB L i) (updV vs i v) w') : JD w0 specs needs st val oth Sto (updB L i) (updV vs i v) w' := by
  refine ⟨fun _ => k, fun j hj m hm => ?_, fun hs => ?_⟩
  · by_cases e : j = i
    · subst e
      rw [he] at hm
      have := hn m hm
      unfold updB; split <;> simp_all
    · have := h.cl j (by simpa [updB, e] using hj) m hm
      unfold updB; split <;> simp_all
  · have hs' : L st = true := by simpa [updB, hne.symm] using hs
    have := (h.fin hs').1 i hi
    rw [hL] at this
    cases this
theorem JD.put {w0 : World} {specs : List Spec} {needs : List (List Nat)} {st val : Nat} {oth : List Nat} {Sto : World → Value → World → Prop} {L : Nat → Bool} {vs : Nat → Value} {w : World} (h : JD w0 specs needs st val oth Sto L vs w) (hL : L st = false) (hv : val ≠ st) {nd : List Nat} (he : needs.getD st [] = nd) (hn : ∀ k ∈ nd, L k = true) (ho : ∀ j ∈ oth, L j = true) (hV : L val = true) {w' : World} (hs : Sto w (vs val) w') : JD w0 specs needs st val oth Sto (updB L st) (updV vs st undef) w' := by
  have J := h.core hL
  refine ⟨fun e => ?_, fun j hj m hm => ?_, fun _ => ⟨fun j hj => ?_, w, J.bel, ?_, ?_⟩⟩
  · simp [updB] at e
  · by_cases e : j = st
    · subst e
      rw [he] at hm
      have := hn m hm
      unfold updB; split <;> simp_all
    · have := h.cl j (by simpa [updB, e] using hj) m hm
      unfold updB; split <;> simp_all
  · have := ho j hj
    unfold updB; split <;> simp_all
  · have : updV vs st undef val = vs val := by simp [updV, hv]
    rw [this]
    exact J.sp val hV
  · have : updV vs st undef val = vs val := by simp [updV, hv]
    rw [this]
    exact hs
end Go.Proofs.YtfjmnhmdipjenaaGreatDoor

namespace Go.Proofs.YtfjmnhmdipjenaaGreatDoor
open Go.RowKit
set_option maxRecDepth 100000
set_option linter.unusedVariables false
/-- What is known of a world; Z: blocks of ours that may be written. -/
structure SY (w0 w : World) (N M : List (Value × Nat)) (F G : List (Value × Nat × Nat)) (C : List (Nat × Nat × Value)) (Z : List Nat) : Prop where
  sx : SX w0 w N M F G C
  fzs : ∀ b ∈ Z, (∀ i, w.frozen? ⟨b, i, none⟩ = false) ∧ w0.heap.size ≤ b ∧ b < w.heap.size
/-- One cell of a box takes the answer. -/
def Sto1 (R : Nat) (w : World) (v : Value) (w' : World) : Prop := ∃ u, v = .agg #[u] ∧ w' = w.setCell ⟨R, 0, none⟩ u
section
variable {w0 w : World} {N M : List (Value × Nat)} {F G : List (Value × Nat × Nat)} {C : List (Nat × Nat × Value)} {Z : List Nat}
theorem sy_start (w : World) : SY w w [] [] [] [] [] [] := ⟨sx_start w, fun _ h => by cases h⟩
theorem SY.bel (h : SY w0 w N M F G C Z) : Below w0.heap.size w0 w := h.sx.bel
theorem SY.go (h : SY w0 w N M F G C Z) {w' : World} (hb : Below w.heap.size w w') : SY w0 w' N M F G C Z :=
  ⟨h.sx.go hb, fun b hz => ⟨fun i => (hb.frozen (p := ⟨b, i, none⟩) (h.fzs b hz).2.2).trans ((h.fzs b hz).1 i), (h.fzs b hz).2.1, Nat.lt_of_lt_of_le (h.fzs b hz).2.2 hb.size⟩⟩
theorem SY.at (h : SY w0 w N M F G C Z) (v : Value) (x : Nat) (hm : (v, x) ∈ N := by simp) : IsNat w v x := h.sx.nats _ hm
theorem SY.rat (h : SY w0 w N M F G C Z) (v : Value) (x : Nat) (hm : (v, x) ∈ M := by simp) : RNat w v x := h.sx.rnats _ hm
theorem SY.fr (h : SY w0 w N M F G C Z) (v : Value) (p q : Nat) (hm : (v, p, q) ∈ F := by simp) : Rt w v p q := h.sx.frs _ hm
theorem SY.cel (h : SY w0 w N M F G C Z) (b i : Nat) (u : Value) (hm : (b, i, u) ∈ C := by simp) : w.cell? ⟨b, i, none⟩ = some u := h.sx.cells _ hm
theorem SY.cell (h : SY w0 w N M F G C Z) (b : Nat) (u : Value) (hm : (b, 0, u) ∈ C := by simp) : w.cell? ⟨b, 0, none⟩ = some u := h.sx.cells _ hm
theorem SY.fz (h : SY w0 w N M F G C Z) (b i : Nat) (hm : b ∈ Z := by simp) : w.frozen? ⟨b, i, none⟩ = false := (h.fzs b hm).1 i
theorem SY.lo (h : SY w0 w N M F G C Z) (b : Nat) (hm : b ∈ Z := by simp) : w0.heap.size ≤ b := (h.fzs b hm).2.1
theorem SY.lt (h : SY w0 w N M F G C Z) (b : Nat) (hm : b ∈ Z := by simp) : b < w.heap.size := (h.fzs b hm).2.2
theorem SY.addN (h : SY w0 w N M F G C Z) {v : Value} {x : Nat} (hv : IsNat w v x) : SY w0 w ((v, x) :: N) M F G C Z := ⟨h.sx.addN hv, h.fzs⟩
theorem SY.addF (h : SY w0 w N M F G C Z) {v : Value} {x y : Nat} (hv : Rt w v x y) : SY w0 w N M ((v, x, y) :: F) G C Z := ⟨h.sx.addF hv, h.fzs⟩
theorem SY.addC (h : SY w0 w N M F G C Z) {b i : Nat} {v : Value} (hv : w.cell? ⟨b, i, none⟩ = some v) : SY w0 w N M F G ((b, i, v) :: C) Z := ⟨h.sx.addC hv, h.fzs⟩
theorem SY.addZ (h : SY w0 w N M F G C Z) {b : Nat} (hv : ∀ i, w.frozen? ⟨b, i, none⟩ = false) (h1 : w0.heap.size ≤ b) (h2 : b < w.heap.size) : SY w0 w N M F G C (b :: Z) :=
  ⟨h.sx, fun x hx => by
    rcases List.mem_cons.1 hx with e | e
    · subst e; exact ⟨hv, h1, h2⟩
    · exact h.fzs x e⟩
theorem SY.box1 (h : SY w0 w N M F G C Z) (u : Value) (t : TypeId) (g : Nat) (hg : g = w.heap.size) : SY w0 (w.alloc (.cells #[u] t)) N M F G ((g, 0, u) :: C) (g :: Z) := by
  subst hg
  have k := h.go (w' := w.alloc (.cells #[u] t)) (bel_al (Below.refl _ _))
  exact SY.addZ ⟨h.sx.box1 u t _ rfl, k.fzs⟩ (fun i => by simp [go_sem]) h.bel.size (by simp)
theorem SY.box (h : SY w0 w N M F G C Z) (u u' : Value) (t : TypeId) (g : Nat) (hg : g = w.heap.size) : SY w0 (w.alloc (.cells #[u, u'] t)) N M F G ((g, 0, u) :: (g, 1, u') :: C) (g :: Z) := by
  subst hg
  have k := h.go (w' := w.alloc (.cells #[u, u'] t)) (bel_al (Below.refl _ _))
  exact SY.addZ ⟨h.sx.box u u' t _ rfl, k.fzs⟩ (fun i => by simp [go_sem]) h.bel.size (by simp)
/-- A cell is written over: what lay elsewhere stays. -/
theorem SY.set (h : SY w0 w N M F G C Z) {b i : Nat} {a : Option Addr} {n c : Nat} (hc : w.cell? ⟨b, i, none⟩ = some (.slice a n c)) (hlo : w0.heap.size ≤ b) (C' : List (Nat × Nat × Value)) (hC : ∀ p ∈ C', p ∈ C ∧ p.1 ≠ b) (u : Value) : SY w0 (w.setCell ⟨b, i, none⟩ u) N M F G C' Z :=
  ⟨h.sx.set hc hlo C' hC u, fun x hx => ⟨fun j => by rw [World.frozen?_setCell]; exact (h.fzs x hx).1 j, (h.fzs x hx).2.1, by simpa [go_sem] using (h.fzs x hx).2.2⟩⟩
theorem SY.sub (h : SY w0 w N M F G C Z) (N' M' : List (Value × Nat)) (F' G' : List (Value × Nat × Nat)) (C' : List (Nat × Nat × Value)) (Z' : List Nat) (h1 : ∀ p ∈ N', p ∈ N) (h2 : ∀ p ∈ M', p ∈ M) (h3 : ∀ p ∈ F', p ∈ F) (h4 : ∀ p ∈ G', p ∈ G) (h5 : ∀ p ∈ C', p ∈ C) (h6 : ∀ p ∈ Z', p ∈ Z) : SY w0 w N' M' F' G' C' Z' :=
  ⟨⟨fun p hp => h.sx.nats p (h1 p hp), fun p hp => h.sx.rnats p (h2 p hp), fun p hp => h.sx.frs p (h3 p hp), fun p hp => h.sx.rfrs p (h4 p hp), fun p hp => h.sx.cells p (h5 p hp), h.sx.bel⟩, fun b hb => h.fzs b (h6 b hb)⟩
/-- The result's cell is written: what is told. -/
theorem SY.ret1 (h : SY w0 w N M F G C Z) {r : Nat} {v : Value} {x : Nat} (hc : w.cell? ⟨r, 0, none⟩ = some (.slice none 0 0)) (hz : r ∈ Z) (hv : IsNat w v x) (u : Value) : IsNat (w.setCell ⟨r, 0, none⟩ u) v x ∧ Below w0.heap.size w0 (w.setCell ⟨r, 0, none⟩ u) :=
  ⟨hv.setCell (no_int_slice hc) u, h.bel.setCell (p := ⟨r, 0, none⟩) (h.lo r hz) u⟩
end
end Go.Proofs.YtfjmnhmdipjenaaGreatDoor

namespace Go.Proofs.YtfjmnhmdipjenaaGreatDoor
open Go.RowKit
set_option linter.unusedVariables false
/-- The whole number nearest to p / q, of two as near the even one. -/
def nearN (p q : Nat) : Nat := if 2 * (p % q) < q then p / q else if 2 * (p % q) = q ∧ p / q % 2 = 0 then p / q else p / q + 1
theorem nearN_le {p q c : Nat} (hq : 0 < q) (h : p < c * q) : nearN p q ≤ c := by
  have h1 : p / q < c := (Nat.div_lt_iff_lt_mul hq).2 h
  unfold nearN
  split
  · omega
  · split <;> omega
theorem nearN_ge {p q c : Nat} (hq : 0 < q) (h : c * q ≤ p) : c ≤ nearN p q := by
  have h1 : c ≤ p / q := (Nat.le_div_iff_mul_le hq).2 h
  unfold nearN
  split
  · omega
  · split <;> omega
def upN (p : Nat) (u : Int) : Nat := p * 2 ^ (-u).toNat
def dnN (q : Nat) (u : Int) : Nat := q * 2 ^ u.toNat
theorem dnN_pos {q : Nat} (h : 0 < q) (u : Int) : 0 < dnN q u := Nat.mul_pos h (Nat.two_pow_pos _)
/-- A unit that is 2^k times as great. -/
theorem unit_up (p q : Nat) (u : Int) (k : Nat) : upN p u * dnN q (u + k) = upN p (u + k) * dnN q u * 2 ^ k := by
  unfold upN dnN
  have e : 2 ^ (-u).toNat * 2 ^ (u + k).toNat = 2 ^ (-(u + k)).toNat * 2 ^ u.toNat * 2 ^ k := by
    rw [← Nat.pow_add, ← Nat.pow_add, ← Nat.pow_add]
    congr 1
    omega
  calc p * 2 ^ (-u).toNat * (q * 2 ^ (u + k).toNat) = p * q * (2 ^ (-u).toNat * 2 ^ (u + k).toNat) := by grind
    _ = p * q * (2 ^ (-(u + k)).toNat * 2 ^ u.toNat * 2 ^ k) := by rw [e]
    _ = p * 2 ^ (-(u + k)).toNat * (q * 2 ^ u.toNat) * 2 ^ k := by grind
/-- Below c units of 2^k times the size: below c 2^k units. -/
theorem unit_lt {p q : Nat} (hq : 0 < q) (u : Int) (k c : Nat) : upN p (u + k) < c * dnN q (u + k) ↔ upN p u < c * 2 ^ k * dnN q u := by
  have h := unit_up p q u k
  have h1 := dnN_pos hq u
  have h2 := dnN_pos hq (u + k)
  have h3 : 0 < 2 ^ k := Nat.two_pow_pos k
  have h4 : 0 < dnN q u * 2 ^ k := Nat.mul_pos h1 h3
  constructor
  · intro hh
    have a : upN p (u + k) * (dnN q u * 2 ^ k) < c * dnN q (u + k) * (dnN q u * 2 ^ k) := Nat.mul_lt_mul_of_pos_right hh h4
    refine Nat.lt_of_mul_lt_mul_right (a := dnN q (u + k)) ?_
    rw [h]
    calc upN p (u + k) * dnN q u * 2 ^ k = upN p (u + k) * (dnN q u * 2 ^ k) := by grind
      _ < c * dnN q (u + k) * (dnN q u * 2 ^ k) := a
      _ = c * 2 ^ k * dnN q u * dnN q (u + k) := by grind
  · intro hh
    have a : upN p u * dnN q (u + k) < c * 2 ^ k * dnN q u * dnN q (u + k) := Nat.mul_lt_mul_of_pos_right hh h2
    rw [h] at a
    refine Nat.lt_of_mul_lt_mul_right (a := dnN q u * 2 ^ k) ?_
    calc upN p (u + k) * (dnN q u * 2 ^ k) = upN p (u + k) * dnN q u * 2 ^ k := by grind
      _ < c * 2 ^ k * dnN q u * dnN q (u + k) := a
      _ = c * dnN q (u + k) * (dnN q u * 2 ^ k) := by grind
theorem unit_le {p q : Nat} (hq : 0 < q) (u : Int) (k c : Nat) : c * dnN q (u + k) ≤ upN p (u + k) ↔ c * 2 ^ k * dnN q u ≤ upN p u := by
  rw [← Nat.not_lt, ← Nat.not_lt, unit_lt hq u k c]
/-- p / q lies in the first units from 2^e to 2^(e+1). -/
def At (p q : Nat) (e : Int) : Prop := dnN q e ≤ upN p e ∧ upN p e < 2 * dnN q e
/-- Where the first bit lies. -/
def flI (p q : Nat) (s : Int) : Int := if upN p s < dnN q s then s - 1 else s
theorem flI_at {p q a b : Nat} (hp : 2 ^ a ≤ p) (hp2 : p < 2 ^ (a + 1)) (hq : 2 ^ b ≤ q) (hq2 : q < 2 ^ (b + 1)) : At p q (flI p q ((a : Int) - b)) := by
  have q0 : 0 < q := Nat.lt_of_lt_of_le (Nat.two_pow_pos b) hq
  obtain ⟨s, hs⟩ : ∃ s : Int, s = (a : Int) - b := ⟨_, rfl⟩
  rw [← hs]
  have hup : upN p s < 2 * dnN q s := by
    unfold upN dnN
    have e1 : p * 2 ^ (-s).toNat < 2 ^ (a + 1) * 2 ^ (-s).toNat := Nat.mul_lt_mul_of_pos_right hp2 (Nat.two_pow_pos _)
    have e2 : 2 ^ b * 2 ^ s.toNat ≤ q * 2 ^ s.toNat := Nat.mul_le_mul_right _ hq
    have e3 : 2 ^ (a + 1) * 2 ^ (-s).toNat = 2 * (2 ^ b * 2 ^ s.toNat) := by
      rw [← Nat.pow_add, ← Nat.pow_add, ← Nat.pow_succ']
      congr 1
      omega
    omega
  have hlo : dnN q s < 2 * upN p s := by
    unfold upN dnN
    have e1 : q * 2 ^ s.toNat < 2 ^ (b + 1) * 2 ^ s.toNat := Nat.mul_lt_mul_of_pos_right hq2 (Nat.two_pow_pos _)
    have e2 : 2 ^ a * 2 ^ (-s).toNat ≤ p * 2 ^ (-s).toNat := Nat.mul_le_mul_right _ hp
    have e3 : 2 ^ (b + 1) * 2 ^ s.toNat = 2 * (2 ^ a * 2 ^ (-s).toNat) := by
      rw [← Nat.pow_add, ← Nat.pow_add, ← Nat.pow_succ']
      congr 1
      omega
    omega
  unfold flI
  split
  · rename_i h
    have k1 := unit_lt (p := p) q0 (s - 1) 1 1
    have e : s - 1 + ((1 : Nat) : Int) = s := by omega
    rw [e] at k1
    have h' : upN p s < 1 * dnN q s := by omega
    have k2 := k1.1 h'
    have k3 := unit_up p q (s - 1) 1
    rw [e] at k3
    refine ⟨?_, by simpa using k2⟩
    have p1 := dnN_pos q0 (s - 1)
    have p2 := dnN_pos q0 s
    refine Nat.le_of_mul_le_mul_right (c := dnN q s) ?_ p2
    rw [k3]
    have : dnN q s * dnN q (s - 1) ≤ 2 * upN p s * dnN q (s - 1) := Nat.mul_le_mul_right _ (Nat.le_of_lt hlo)
    grind
  · exact ⟨by omega, hup⟩
def unI (e : Int) : Int := if e - 52 < -1074 then -1074 else e - 52
def ctN (p q : Nat) (u : Int) : Nat := nearN (upN p u) (dnN q u)
theorem At.lt {p q : Nat} {e : Int} (h : At p q e) (hq : 0 < q) : upN p (unI e) < 9007199254740992 * dnN q (unI e) := by
  obtain ⟨k, hk⟩ : ∃ k : Nat, unI e = e - 52 + k := ⟨(unI e - (e - 52)).toNat, by unfold unI; split <;> omega⟩
  have h1 := (unit_lt (p := p) hq (e - 52) 52 2)
  rw [show e - 52 + ((52 : Nat) : Int) = e by omega] at h1
  have h2 := h1.1 h.2
  rw [hk, unit_lt hq]
  have : 1 ≤ 2 ^ k := Nat.one_le_two_pow
  have h3 : 9007199254740992 * 1 * dnN q (e - 52) ≤ 9007199254740992 * 2 ^ k * dnN q (e - 52) := Nat.mul_le_mul_right _ (Nat.mul_le_mul_left _ this)
  omega
theorem At.ct {p q : Nat} {e : Int} (h : At p q e) (hq : 0 < q) : ctN p q (unI e) ≤ 9007199254740992 := nearN_le (dnN_pos hq _) (h.lt hq)
theorem At.ge {p q : Nat} {e : Int} (h : At p q e) (hq : 0 < q) (hu : unI e = e - 52) : 4503599627370496 * dnN q (unI e) ≤ upN p (unI e) := by
  have h1 := (unit_le (p := p) hq (e - 52) 52 1)
  rw [show e - 52 + ((52 : Nat) : Int) = e by omega] at h1
  have := h1.1 (by have := h.1; omega)
  rw [hu]
  omega
theorem At.ct_ge {p q : Nat} {e : Int} (h : At p q e) (hq : 0 < q) (hu : unI e = e - 52) : 4503599627370496 ≤ ctN p q (unI e) := nearN_ge (dnN_pos hq _) (h.ge hq hu)
/-- Where the first bit lies is one place. -/
theorem At.one {p q : Nat} {e f : Int} (h : At p q e) (k : At p q f) (hq : 0 < q) : e = f := by
  have key : ∀ {e f : Int}, At p q e → At p q f → e ≤ f := by
    intro e f h k
    rcases Int.lt_or_le f e with hh | hh
    · exfalso
      obtain ⟨j, hj⟩ : ∃ j : Nat, e = f + j := ⟨(e - f).toNat, by omega⟩
      have h1 := (unit_le (p := p) hq f j 1)
      rw [← hj] at h1
      have h2 := h1.1 (by have := h.1; omega)
      have h3 : 2 ^ 1 ≤ 2 ^ j := Nat.pow_le_pow_right (by omega) (by omega)
      have h4 : 1 * 2 * dnN q f ≤ 1 * 2 ^ j * dnN q f := Nat.mul_le_mul_right _ (by omega)
      have := k.2
      omega
    · exact hh
  have := key h k
  have := key k h
  omega
theorem nearN_zero {p q : Nat} (h : 2 * p < q) : nearN p q = 0 := by
  have h1 : p / q = 0 := Nat.div_eq_of_lt (by omega)
  have h2 : p % q = p := Nat.mod_eq_of_lt (by omega)
  unfold nearN
  rw [h1, h2, if_pos h]
theorem At.low {p q : Nat} {e : Int} (h : At p q e) (hq : 0 < q) (he : e ≤ -1076) : unI e = -1074 ∧ ctN p q (unI e) = 0 := by
  have hu : unI e = -1074 := by unfold unI; split <;> omega
  refine ⟨hu, ?_⟩
  rw [hu]
  obtain ⟨k, hk⟩ : ∃ k : Nat, (-1075 : Int) = e + (k + 1 : Nat) := ⟨(-1076 - e).toNat, by omega⟩
  have h1 := unit_lt (p := p) hq e (k + 1) 1
  rw [← hk] at h1
  have h2 : upN p (-1075) < 1 * dnN q (-1075) := by
    rw [h1]
    have h3 : 2 ^ 1 ≤ 2 ^ (k + 1) := Nat.pow_le_pow_right (by omega) (by omega)
    have h4 : 1 * 2 * dnN q e ≤ 1 * 2 ^ (k + 1) * dnN q e := Nat.mul_le_mul_right _ (by omega)
    have := h.2
    omega
  refine nearN_zero ?_
  have e1 : upN p (-1075) = 2 * upN p (-1074) := by
    obtain ⟨m, hm⟩ : ∃ m : Nat, m = 1074 := ⟨_, rfl⟩
    unfold upN
    rw [show (-(-1075 : Int)).toNat = m + 1 by omega, show (-(-1074 : Int)).toNat = m by omega, Nat.pow_succ]
    grind
  have e2 : dnN q (-1075) = dnN q (-1074) := by
    unfold dnN
    rw [show (-1075 : Int).toNat = (-1074 : Int).toNat by decide]
  omega
/-- The bits that p / q has whose first bit lies at e. -/
def bitsAt (p q : Nat) (e : Int) : Nat := (unI e + 1074).toNat * 4503599627370496 + ctN p q (unI e)
theorem At.high {p q : Nat} {e : Int} (h : At p q e) (hq : 0 < q) (he : 1024 ≤ e) : 9218868437227405312 ≤ bitsAt p q e := by
  have hu : unI e = e - 52 := by unfold unI; split <;> omega
  have := h.ct_ge hq hu
  unfold bitsAt
  have : 2046 ≤ (unI e + 1074).toNat := by omega
  have : 2046 * 4503599627370496 ≤ (unI e + 1074).toNat * 4503599627370496 := Nat.mul_le_mul_right _ this
  omega
theorem At.bits_low {p q : Nat} {e : Int} (h : At p q e) (hq : 0 < q) (he : e ≤ -1076) : bitsAt p q e = 0 := by
  obtain ⟨h1, h2⟩ := h.low hq he
  unfold bitsAt
  rw [h2, h1]
  rfl
theorem unit_cross {p q r s : Nat} (u : Int) (h : p * s ≤ r * q) : upN p u * dnN s u ≤ upN r u * dnN q u := by
  unfold upN dnN
  have : p * s * (2 ^ (-u).toNat * 2 ^ u.toNat) ≤ r * q * (2 ^ (-u).toNat * 2 ^ u.toNat) := Nat.mul_le_mul_right _ h
  grind
theorem At.mono {p q r s : Nat} {e f : Int} (h : At p q e) (k : At r s f) (hq : 0 < q) (hs : 0 < s) (hle : p * s ≤ r * q) : e ≤ f := by
  rcases Int.lt_or_le f e with hh | hh
  · exfalso
    obtain ⟨j, hj⟩ : ∃ j : Nat, e = f + (j + 1 : Nat) := ⟨(e - f - 1).toNat, by omega⟩
    have h1 := unit_le (p := p) hq f (j + 1) 1
    rw [← hj] at h1
    have h2 := h1.1 (by have := h.1; omega)
    have h3 : 2 ^ 1 ≤ 2 ^ (j + 1) := Nat.pow_le_pow_right (by omega) (by omega)
    have h4 : 1 * 2 * dnN q f ≤ 1 * 2 ^ (j + 1) * dnN q f := Nat.mul_le_mul_right _ (by omega)
    have h5 : 2 * dnN q f ≤ upN p f := by omega
    have h6 := unit_cross f hle
    have h7 := k.2
    have p1 := dnN_pos hq f
    have p2 := dnN_pos hs f
    have h8 : 2 * dnN q f * dnN s f ≤ upN p f * dnN s f := Nat.mul_le_mul_right _ h5
    have h9 : upN r f * dnN q f < 2 * dnN s f * dnN q f := Nat.mul_lt_mul_of_pos_right h7 p1
    grind
  · exact hh
end Go.Proofs.YtfjmnhmdipjenaaGreatDoor

namespace Go.Proofs.YtfjmnhmdipjenaaGreatDoor
open Go.RowKit
set_option maxRecDepth 100000
set_option linter.unusedVariables false
end Go.Proofs.YtfjmnhmdipjenaaGreatDoor

namespace Go.Proofs.YtfjmnhmdipjenaaGreatDoor
open Go.RowKit
set_option maxRecDepth 100000
set_option linter.unusedVariables false
end Go.Proofs.YtfjmnhmdipjenaaGreatDoor

namespace Go.Proofs.YtfjmnhmdipjenaaGreatDoor
open Go.RowKit
set_option maxRecDepth 100000
set_option linter.unusedVariables false
end Go.Proofs.YtfjmnhmdipjenaaGreatDoor

namespace Go.Proofs.YtfjmnhmdipjenaaGreatDoor
open Go.RowKit
set_option maxRecDepth 100000
set_option linter.unusedVariables false
/-- What Sum knows of its world: the sum so far, in the box behind b; the answer's box b; the fractions, in block g. -/
structure SumS (w0 w : World) (b g n : Nat) (E E' : Nat → Value) (X Y : Nat → Nat) (p q : Nat) (a : Option Addr) (m c : Nat) (a' : Option Addr) (m' c' : Nat) : Prop where
  rt : Rt w (.agg #[.slice a m c, .slice a' m' c']) p q
  c0 : w.cell? ⟨b + 1, 0, none⟩ = some (.slice a m c)
  c1 : w.cell? ⟨b + 1, 1, none⟩ = some (.slice a' m' c')
  f0 : w.frozen? ⟨b + 1, 0, none⟩ = false
  f1 : w.frozen? ⟨b + 1, 1, none⟩ = false
  r0 : w.cell? ⟨b, 0, none⟩ = some (.slice none 0 0)
  r1 : w.cell? ⟨b, 1, none⟩ = some (.slice none 0 0)
  g0 : w.frozen? ⟨b, 0, none⟩ = false
  g1 : w.frozen? ⟨b, 1, none⟩ = false
  el : ∀ i, i < n → w.cell? ⟨g, i * 2, none⟩ = some (E i) ∧ w.cell? ⟨g, i * 2 + 1, none⟩ = some (E' i) ∧ Rt w (.agg #[E i, E' i]) (X i) (Y i)
  bel : Below w0.heap.size w0 w
  ne : g < b
  lo : w0.heap.size ≤ b
theorem SumS.go {w0 w w' : World} {b g n : Nat} {E E' : Nat → Value} {X Y : Nat → Nat} {p q : Nat} {a : Option Addr} {m c : Nat} {a' : Option Addr} {m' c' : Nat} (h : SumS w0 w b g n E E' X Y p q a m c a' m' c') (hb : Below w.heap.size w w') : SumS w0 w' b g n E E' X Y p q a m c a' m' c' :=
  ⟨h.rt.mono hb, cell_later hb h.c0, cell_later hb h.c1, (hb.frozen (World.block_lt_of_cell? _ _ h.c0)).trans h.f0, (hb.frozen (World.block_lt_of_cell? _ _ h.c1)).trans h.f1, cell_later hb h.r0, cell_later hb h.r1, (hb.frozen (World.block_lt_of_cell? _ _ h.r0)).trans h.g0, (hb.frozen (World.block_lt_of_cell? _ _ h.r1)).trans h.g1, fun i hi => ⟨cell_later hb (h.el i hi).1, cell_later hb (h.el i hi).2.1, (h.el i hi).2.2.mono hb⟩, bel_go h.bel hb, h.ne, h.lo⟩
theorem SumS.set {w0 w : World} {b g n : Nat} {E E' : Nat → Value} {X Y : Nat → Nat} {p q : Nat} {a : Option Addr} {m c : Nat} {a' : Option Addr} {m' c' : Nat} (h : SumS w0 w b g n E E' X Y p q a m c a' m' c') {s : Option Addr} {k d : Nat} {s' : Option Addr} {k' d' : Nat} {p' q' : Nat} (hv : Rt w (.agg #[.slice s k d, .slice s' k' d']) p' q') :
    SumS w0 ((w.setCell ⟨b + 1, 0, none⟩ (.slice s k d)).setCell ⟨b + 1, 1, none⟩ (.slice s' k' d')) b g n E E' X Y p' q' s k d s' k' d' := by
  obtain ⟨n1, n2⟩ := two_set h.c0 h.c1 (.slice s k d)
  have hd : (w.setCell ⟨b + 1, 0, none⟩ (.slice s k d)).cell? ⟨b + 1, 1, none⟩ = some (.slice a' m' c') := by rw [World.cell?_setCell_other (h := by simp), h.c1]
  have far : ∀ r i v, r ≠ b + 1 → w.cell? ⟨r, i, none⟩ = some v → ((w.setCell ⟨b + 1, 0, none⟩ (.slice s k d)).setCell ⟨b + 1, 1, none⟩ (.slice s' k' d')).cell? ⟨r, i, none⟩ = some v := fun r i v hr hc => by
    rw [World.cell?_setCell_far _ _ _ _ (by simpa using Ne.symm hr), World.cell?_setCell_far _ _ _ _ (by simpa using Ne.symm hr)]
    exact hc
  have hne := h.ne
  have hlo := h.lo
  refine ⟨(hv.setCell n1 _).setCell n2 _, ?_, by simp [go_sem, hd], by simp [World.frozen?_setCell, h.f0], by simp [World.frozen?_setCell, h.f1], far b 0 _ (by omega) h.r0, far b 1 _ (by omega) h.r1, by simp [World.frozen?_setCell, h.g0], by simp [World.frozen?_setCell, h.g1], fun i hi => ⟨far g _ _ (by omega) (h.el i hi).1, far g _ _ (by omega) (h.el i hi).2.1, ((h.el i hi).2.2.setCell n1 _).setCell n2 _⟩, (h.bel.setCell (p := ⟨b + 1, 0, none⟩) (by show _ ≤ b + 1; omega) _).setCell (p := ⟨b + 1, 1, none⟩) (by show _ ≤ b + 1; omega) _, h.ne, h.lo⟩
  rw [World.cell?_setCell_other (h := by simp)]
  simp [go_sem, h.c0]
end Go.Proofs.YtfjmnhmdipjenaaGreatDoor

namespace Go.Proofs.YtfjmnhmdipjenaaGreatDoor
open Go.RowKit
set_option maxRecDepth 100000
set_option linter.unusedVariables false
def bt (D : Nat → Nat) : Nat → Value := fun j => .int .u8 ((D j : Nat) : Int)
theorem OR.lower {w : World} {e : TypeId} {base base' n : Nat} {v : Value} {G : Nat → Value} (h : OR w e base v n G) (hb : base' ≤ base) : OR w e base' v n G := by
  rcases h with h | ⟨g, cap, f, rfl, h1, h2⟩
  · exact .inl h
  · exact .inr ⟨g, cap, f, rfl, by omega, h2⟩
def five (j : Nat) : Nat := 201 + j
/-- The first n cells of block g are bytes that may be written. -/
def ByteRow (w : World) (g c n : Nat) (E : Nat → Nat) : Prop := (∃ f, w.rowIs g 5 c f ∧ ∀ i, i < n → f i = bt E i) ∧ n ≤ c
theorem ByteRow.cell {w : World} {g c n : Nat} {E : Nat → Nat} (h : ByteRow w g c n E) {i : Nat} (hi : i < n) : w.cell? ⟨g, i, none⟩ = some (.int .u8 ((E i : Nat) : Int)) := by
  obtain ⟨⟨f, h1, h2⟩, h3⟩ := h
  rw [h1.cell (show i < c by omega), h2 i hi]
  rfl
theorem ByteRow.frozen {w : World} {g c n : Nat} {E : Nat → Nat} (h : ByteRow w g c n E) (i : Nat) : w.frozen? ⟨g, i, none⟩ = false := by
  obtain ⟨⟨f, h1, h2⟩, h3⟩ := h
  exact h1.frozen i
theorem ByteRow.lt {w : World} {g c n : Nat} {E : Nat → Nat} (h : ByteRow w g c n E) : g < w.heap.size := by
  obtain ⟨⟨f, h1, h2⟩, h3⟩ := h
  exact h1.lt
theorem ByteRow.set {w : World} {g c n : Nat} {E : Nat → Nat} (h : ByteRow w g c n E) (i d : Nat) : ByteRow (w.setCell ⟨g, i, none⟩ (.int .u8 (d : Int))) g c n (put E i d) := by
  obtain ⟨⟨f, h1, h2⟩, h3⟩ := h
  refine ⟨⟨_, h1.set i _, fun j hj => ?_⟩, h3⟩
  show (if j = i then _ else f j) = Value.int .u8 ((put E i d j : Nat) : Int)
  by_cases e : j = i
  · subst e
    rw [if_pos rfl, put_same]
  · rw [if_neg e, put_other _ _ e, h2 j hj]
    rfl
theorem ByteRow.below {w w' : World} {g c n : Nat} {E : Nat → Nat} (h : ByteRow w g c n E) (hb : Below w.heap.size w w') : ByteRow w' g c n E := by
  obtain ⟨⟨f, h1, h2⟩, h3⟩ := h
  exact ⟨⟨f, h1.of_block (hb.block g h1.lt), h2⟩, h3⟩
theorem ByteRow.kept {w w' : World} {g c n : Nat} {E : Nat → Nat} (h : ByteRow w g c n E) (hb : w.grownBy w' none) : ByteRow w' g c n E := by
  obtain ⟨⟨f, h1, h2⟩, h3⟩ := h
  exact ⟨⟨f, h1.of_block (hb.block g h1.lt (by simp)), h2⟩, h3⟩
end Go.Proofs.YtfjmnhmdipjenaaGreatDoor

namespace Go.Proofs.YtfjmnhmdipjenaaGreatDoor
open Go.RowKit
set_option maxRecDepth 100000
set_option linter.unusedVariables false
end Go.Proofs.YtfjmnhmdipjenaaGreatDoor

namespace Go.Proofs.YtfjmnhmdipjenaaGreatDoor
open Go.RowKit
set_option maxRecDepth 100000
set_option linter.unusedVariables false
/-- The first n cells of block g are bytes that may be written. -/
def Bts (w : World) (g n : Nat) : Prop := ∀ i, i < n → (∃ z : Int, w.cell? ⟨g, i, none⟩ = some (.int .u8 z)) ∧ w.frozen? ⟨g, i, none⟩ = false
theorem Bts.mono {w w' : World} {g n : Nat} (h : Bts w g n) (hb : Below w.heap.size w w') : Bts w' g n := fun i hi => by
  obtain ⟨⟨z, hz⟩, hf⟩ := h i hi
  exact ⟨⟨z, cell_later hb hz⟩, (hb.frozen (World.block_lt_of_cell? _ _ hz)).trans hf⟩
theorem Bts.set {w : World} {g n : Nat} (h : Bts w g n) {p : Addr} (hp : ∀ k q, w.cell? p ≠ some (.int k q)) (u : Value) : Bts (w.setCell p u) g n := fun i hi => by
  obtain ⟨⟨z, hz⟩, hf⟩ := h i hi
  have hne : (⟨g, i, none⟩ : Addr) ≠ p := fun e => hp _ _ (e ▸ hz)
  exact ⟨⟨z, (World.cell?_setCell_other (h := hne.symm) ..).trans hz⟩, by simp [World.frozen?_setCell, hf]⟩
theorem Bts.put {w : World} {g n : Nat} (h : Bts w g n) (p : Addr) (e : Int) : Bts (w.setCell p (.int .u8 e)) g n := fun i hi => by
  obtain ⟨⟨z, hz⟩, hf⟩ := h i hi
  refine ⟨?_, by simp [World.frozen?_setCell, hf]⟩
  by_cases hne : p = ⟨g, i, none⟩
  · subst hne
    exact ⟨e, by simp [go_sem, hz]⟩
  · exact ⟨z, (World.cell?_setCell_other (h := hne) ..).trans hz⟩
theorem IsNat.byte {w : World} {v : Value} {x : Nat} (h : IsNat w v x) {p : Addr} {z : Int} (hp : w.cell? p = some (.int .u8 z)) (u : Value) : IsNat (w.setCell p u) v x := by
  obtain ⟨a, n, cap, F, rfl, ⟨s1, s2, s3, s4⟩, h0, h1, hv⟩ := h
  refine ⟨a, n, cap, F, rfl, ⟨s1, s2, s3, s4.imp id ?_⟩, h0, h1, hv⟩
  rintro ⟨b, o, rfl, hw⟩
  refine ⟨b, o, rfl, fun i hi => ?_⟩
  have hne : (⟨b, o + i, none⟩ : Addr) ≠ p := fun e => by
    have h2 := hw i hi
    rw [e, hp] at h2
    simp at h2
  exact (World.cell?_setCell_other (h := hne.symm) ..).trans (hw i hi)
theorem RNat.byte {w : World} {v : Value} {x : Nat} (h : RNat w v x) {p : Addr} {z : Int} (hp : w.cell? p = some (.int .u8 z)) (u : Value) : RNat (w.setCell p u) v x := by
  obtain ⟨a, n, cap, F, rfl, ⟨s1, s2, s3, s4⟩, h0, h1, hv⟩ := h
  refine ⟨a, n, cap, F, rfl, ⟨s1, s2, s3, s4.imp id ?_⟩, h0, h1, hv⟩
  rintro ⟨b, o, rfl, hw⟩
  refine ⟨b, o, rfl, fun i hi => ?_⟩
  have hne : (⟨b, o + i, none⟩ : Addr) ≠ p := fun e => by
    have h2 := hw i hi
    rw [e, hp] at h2
    simp at h2
  exact (World.cell?_setCell_other (h := hne.symm) ..).trans (hw i hi)
theorem Rt.byte {w : World} {v : Value} {x y : Nat} (h : Rt w v x y) {p : Addr} {z : Int} (hp : w.cell? p = some (.int .u8 z)) (u : Value) : Rt (w.setCell p u) v x y := by
  obtain ⟨⟨a, n, c, a', n', c', e, h1, h2⟩, h3, h4⟩ := h
  exact ⟨⟨a, n, c, a', n', c', e, h1.byte hp u, h2.byte hp u⟩, h3, h4⟩
theorem RRt.byte {w : World} {v : Value} {x y : Nat} (h : RRt w v x y) {p : Addr} {z : Int} (hp : w.cell? p = some (.int .u8 z)) (u : Value) : RRt (w.setCell p u) v x y := by
  obtain ⟨a, n, c, a', n', c', e, h1, h2⟩ := h
  exact ⟨a, n, c, a', n', c', e, h1.byte hp u, h2.byte hp u⟩
/-- A byte is written over: numbers, fractions and what lies in cells that hold slices stay. -/
theorem SX.byte {w0 w : World} {F G : List (Value × Nat × Nat)} {C : List (Nat × Nat × Value)} (h : SX w0 w [] [] F G C) {p : Addr} {z : Int} (hp : w.cell? p = some (.int .u8 z)) (hlo : w0.heap.size ≤ p.block) (hC : ∀ q ∈ C, ∃ a n c, q.2.2 = .slice a n c) (u : Value) : SX w0 (w.setCell p u) [] [] F G C :=
  ⟨(fun _ h => by cases h), (fun _ h => by cases h), fun q hq => (h.frs q hq).byte hp u, fun q hq => (h.rfrs q hq).byte hp u, (fun q hq => by
    obtain ⟨a, n, c, e⟩ := hC q hq
    have h2 := h.cells q hq
    have hne : p ≠ ⟨q.1, q.2.1, none⟩ := fun e2 => by
      rw [← e2, hp, e] at h2
      simp at h2
    exact (World.cell?_setCell_other (h := hne) ..).trans h2), h.bel.setCell hlo u⟩
/-- Only what is still wanted. -/
theorem SX.sub {w0 w : World} {N M : List (Value × Nat)} {F G : List (Value × Nat × Nat)} {C : List (Nat × Nat × Value)} (h : SX w0 w N M F G C) {F' G' : List (Value × Nat × Nat)} {C' : List (Nat × Nat × Value)} (hF : ∀ p ∈ F', p ∈ F) (hG : ∀ p ∈ G', p ∈ G) (hC : ∀ p ∈ C', p ∈ C) : SX w0 w [] [] F' G' C' :=
  ⟨(fun _ h => by cases h), (fun _ h => by cases h), fun p hp => h.frs p (hF p hp), fun p hp => h.rfrs p (hG p hp), fun p hp => h.cells p (hC p hp), h.bel⟩
/-- A nought ahead of n bytes. -/
def ahead (D : Nat → Nat) : Nat → Nat := fun j => if j < 1 then 0 else D (j - 1)
theorem or_zero (w : World) (base : Nat) (h : base ≤ w.heap.size) (D : Nat → Nat) : OR (w.alloc (.cells #[.int .u8 0] 5)) 5 base (.slice (some ⟨w.heap.size, 0, none⟩) 1 1) 1 (bt (ahead D)) :=
  .inr ⟨w.heap.size, 1, _, rfl, h, Nat.le_refl _, by simp only [maxLen]; omega, World.rowIs_alloc w #[.int .u8 0] 5 (fun _ => .int .u8 0) (fun i hi => by
    obtain rfl : i = 0 := by simpa using hi
    rfl), fun i hi => by
    obtain rfl : i = 0 := by omega
    rfl⟩
end Go.Proofs.YtfjmnhmdipjenaaGreatDoor

namespace Go.Proofs.YtfjmnhmdipjenaaGreatDoor
open Go.RowKit
set_option maxRecDepth 100000
set_option linter.unusedVariables false
/-- p / q, in lowest terms, is N / D; its parts have at most n words. -/
structure Fc (p q N D n : Nat) : Prop where
  low : Nat.gcd p q = 1
  pos : 0 < q
  dpos : 0 < D
  val : p * D = N * q
  s1 : p < P n
  s2 : q < P n
theorem Fc.own {p q n : Nat} (h1 : Nat.gcd p q = 1) (h2 : 0 < q) (h3 : p < P n) (h4 : q < P n) : Fc p q p q n := ⟨h1, h2, h2, rfl, h3, h4⟩
theorem mulP_lt {x y n m : Nat} (h : x < P n) (k : y < P m) : x * y < P (n + m) := by
  rw [P_add]
  exact Nat.mul_lt_mul'' h k
theorem P_up {x n m : Nat} (h : x < P n) (hm : n ≤ m) : x < P m := Nat.lt_of_lt_of_le h (P_le hm)
theorem Fc.cross {p q N1 D1 n x y N2 D2 m : Nat} (h : Fc p q N1 D1 n) (k : Fc x y N2 D2 m) : (p * y) * (D1 * D2) = (N1 * D2) * (q * y) ∧ (x * q) * (D1 * D2) = (N2 * D1) * (q * y) := by
  constructor
  · have : (p * y) * (D1 * D2) = p * D1 * (y * D2) := by grind
    rw [this, h.val]
    grind
  · have : (x * q) * (D1 * D2) = x * D2 * (q * D1) := by grind
    rw [this, k.val]
    grind
theorem Fc.le {p q N1 D1 n x y N2 D2 m : Nat} (h : Fc p q N1 D1 n) (k : Fc x y N2 D2 m) : x * q ≤ p * y ↔ N2 * D1 ≤ N1 * D2 := by
  obtain ⟨e1, e2⟩ := h.cross k
  have hd := Nat.mul_pos h.dpos k.dpos
  have hq := Nat.mul_pos h.pos k.pos
  rw [← Nat.mul_le_mul_right_iff hd, e1, e2, Nat.mul_le_mul_right_iff hq]
theorem Fc.zero {p q N D n : Nat} (h : Fc p q N D n) : p = 0 ↔ N = 0 := by
  have h1 := h.val
  have h2 := h.pos
  have h3 := h.dpos
  constructor
  · rintro rfl
    rw [Nat.zero_mul] at h1
    rcases Nat.mul_eq_zero.1 h1.symm with e | e
    · exact e
    · omega
  · rintro rfl
    rw [Nat.zero_mul] at h1
    rcases Nat.mul_eq_zero.1 h1 with e | e
    · exact e
    · omega
theorem cmpI_same {x y : Nat} (h : x = y) : cmpI x y = 0 := by unfold cmpI; rw [if_neg (by omega), if_pos h]
def Three (w : World) (v : Value) (X Y : Nat → Nat) : Prop := ∃ (g : Nat) (E E' : Nat → Value), v = .slice (some ⟨g, 0, none⟩) 3 3 ∧ g < w.heap.size ∧ ∀ i, i < 3 → w.cell? ⟨g, i * 2, none⟩ = some (E i) ∧ w.cell? ⟨g, i * 2 + 1, none⟩ = some (E' i) ∧ Rt w (.agg #[E i, E' i]) (X i) (Y i)
theorem Three.mono {w w' : World} {v : Value} {X Y : Nat → Nat} (h : Three w v X Y) (hb : Below w.heap.size w w') : Three w' v X Y := by
  obtain ⟨g, E, E', e, hg, he⟩ := h
  exact ⟨g, E, E', e, Nat.lt_of_lt_of_le hg hb.size, fun i hi => ⟨cell_later hb (he i hi).1, cell_later hb (he i hi).2.1, (he i hi).2.2.mono hb⟩⟩
/-- Regions whose order is open and that write no cell that was there: what is known need only outlast what comes later. -/
def MSpec : Type := { R : World → Value → Prop // ∀ {w w' : World} {v : Value}, R w v → Below w.heap.size w w' → R w' v }
def Spec.m (s : Spec) : MSpec := ⟨s.1, fun h hb => s.2.mono h hb⟩
structure JM (w0 : World) (specs : List MSpec) (L : Nat → Bool) (vs : Nat → Value) (w : World) : Prop where
  bel : Below w0.heap.size w0 w
  sp : ∀ i, L i = true → (specs.getD i sAny.m).1 w (vs i)
theorem JM.start (w : World) (specs : List MSpec) : JM w specs (fun _ => false) (fun _ => undef) w.drew := ⟨bel_dr (Below.refl _ _), (fun _ h => by cases h)⟩
theorem JM.step {w0 : World} {specs : List MSpec} {L : Nat → Bool} {vs : Nat → Value} {w w' : World} (h : JM w0 specs L vs w) {i : Nat} (hL : L i = false) (_ : 0 = 0) (hb : Below w.heap.size w w') {v : Value} (hs : (specs.getD i sAny.m).1 w' v) : JM w0 specs (updB L i) (updV vs i v) w' := by
  refine ⟨bel_go h.bel hb, fun j hj => ?_⟩
  by_cases e : j = i
  · subst e
    simpa [updV] using hs
  · have hj' : L j = true := by simpa [updB, e] using hj
    have : updV vs i v j = vs j := by simp [updV, e]
    rw [this]
    exact (specs.getD j sAny.m).2 (h.sp j hj') hb
end Go.Proofs.YtfjmnhmdipjenaaGreatDoor

namespace Go.Proofs.YtfjmnhmdipjenaaGreatDoor
open Go.RowKit
set_option maxRecDepth 100000
set_option linter.unusedVariables false
theorem Fc.dvd {p q N D n : Nat} (h : Fc p q N D n) : p ∣ N ∧ q ∣ D := by
  refine ⟨Nat.Coprime.dvd_of_dvd_mul_right h.low ⟨D, h.val.symm⟩, ?_⟩
  exact Nat.Coprime.dvd_of_dvd_mul_left (Nat.Coprime.symm h.low) ⟨N, by rw [h.val, Nat.mul_comm]⟩
theorem Fc.le1 {p q N D n : Nat} (h : Fc p q N D n) : p ≤ N := by
  rcases Nat.eq_zero_or_pos N with e | e
  · rw [h.zero.2 e]
    omega
  · exact Nat.le_of_dvd e h.dvd.1
theorem Fc.le2 {p q N D n : Nat} (h : Fc p q N D n) : q ≤ D := Nat.le_of_dvd h.dpos h.dvd.2
theorem Fc.norm {p q N D n m : Nat} (h : Fc p q N D n) (hN : N < P m) (hD : D < P m) : Fc p q N D m :=
  ⟨h.low, h.pos, h.dpos, h.val, Nat.lt_of_le_of_lt h.le1 hN, Nat.lt_of_le_of_lt h.le2 hD⟩
theorem Fc.one {p q p' q' N D n m : Nat} (h : Fc p q N D n) (k : Fc p' q' N D m) : p = p' ∧ q = q' := by
  have e : p * q' = p' * q := by
    refine Nat.eq_of_mul_eq_mul_right h.dpos ?_
    have h1 := h.val
    have h2 := k.val
    rw [show p * q' * D = p * D * q' by grind, h1, show p' * q * D = p' * D * q by grind, h2]
    grind
  have a1 : q ∣ q' := Nat.Coprime.dvd_of_dvd_mul_left (Nat.Coprime.symm h.low) ⟨p', by rw [e, Nat.mul_comm]⟩
  have a2 : q' ∣ q := Nat.Coprime.dvd_of_dvd_mul_left (Nat.Coprime.symm k.low) ⟨p, by rw [← e, Nat.mul_comm]⟩
  have e2 : q = q' := Nat.dvd_antisymm a1 a2
  subst e2
  exact ⟨Nat.eq_of_mul_eq_mul_right h.pos e, rfl⟩
/-- Of the blocks that were there none has turned but those of S. -/
structure Fb (S : Nat → Prop) (W W' : World) : Prop where
  os : W'.os = W.os
  tape : W'.tape = W.tape
  output : W'.output = W.output
  size : W.heap.size ≤ W'.heap.size
  block : ∀ k, k < W.heap.size → ¬ S k → W'.heap[k]? = W.heap[k]?
theorem Fb.refl (S : Nat → Prop) (W : World) : Fb S W W := ⟨rfl, rfl, rfl, Nat.le_refl _, fun _ _ _ => rfl⟩
theorem Fb.trans {S : Nat → Prop} {a b c : World} (h : Fb S a b) (k : Fb S b c) : Fb S a c :=
  ⟨k.os.trans h.os, k.tape.trans h.tape, k.output.trans h.output, Nat.le_trans h.size k.size, fun i hi hn => (k.block i (Nat.lt_of_lt_of_le hi h.size) hn).trans (h.block i hi hn)⟩
theorem Fb.of {S : Nat → Prop} {a b : World} (h : Below a.heap.size a b) : Fb S a b := ⟨h.os, h.tape, h.output, h.size, fun i hi _ => h.block i hi⟩
theorem Fb.go {S : Nat → Prop} {a b c : World} (h : Fb S a b) (k : Below b.heap.size b c) : Fb S a c := h.trans (Fb.of k)
theorem Fb.set {S : Nat → Prop} {a b : World} (h : Fb S a b) {x : Addr} (hx : S x.block) (u : Value) : Fb S a (b.setCell x u) :=
  h.trans ⟨rfl, rfl, rfl, by simp [World.setCell], fun k hk hn => Below.heap_setCell _ _ _ _ fun e => hn (e ▸ hx)⟩
theorem Fb.below {S : Nat → Prop} {a b : World} (h : Fb S a b) {lb : Nat} (hl : lb ≤ a.heap.size) (hs : ∀ k, S k → lb ≤ k) : Below lb a b :=
  ⟨h.os, h.tape, h.output, h.size, fun k hk => h.block k (by omega) fun e => by have := hs k e; omega⟩
theorem Fb.cell {S : Nat → Prop} {a b : World} (h : Fb S a b) {p : Addr} {v : Value} (hv : a.cell? p = some v) (hn : ¬ S p.block) : b.cell? p = some v :=
  (World.cell?_of_block (w := a) (h.block p.block (World.block_lt_of_cell? _ _ hv) hn)).trans hv
theorem Fb.heap {S : Nat → Prop} {a b : World} (h : Fb S a b) {k : Nat} {o : Obj} (hv : a.heap[k]? = some o) (hn : ¬ S k) : b.heap[k]? = some o :=
  (h.block k (Array.getElem?_eq_some_iff.1 hv).1 hn).trans hv
/-- All numbers that lie in the block are ints. -/
def Odd (W : World) (b : Nat) : Prop := ∀ i k n, W.cell? ⟨b, i, none⟩ = some (.int k n) → k = .i64
theorem Words.fb {S : Nat → Prop} {W W' : World} {b o n : Nat} {F : Nat → Nat} (h : Words W b o n F) (f : Fb S W W') (hn : ∀ k, S k → Odd W k) : Words W' b o n F := fun i hi =>
  f.cell (h i hi) fun hs => by have := hn b hs (o + i) _ _ (h i hi); cases this
theorem Sl.fb {S : Nat → Prop} {W W' : World} {a : Option Addr} {n cap : Nat} {F : Nat → Nat} (h : Sl W a n cap F) (f : Fb S W W') (hn : ∀ k, S k → Odd W k) : Sl W' a n cap F := by
  obtain ⟨h1, h2, h3, h4⟩ := h
  refine ⟨h1, h2, h3, h4.imp id ?_⟩
  rintro ⟨b, o, ha, hw⟩
  exact ⟨b, o, ha, hw.fb f hn⟩
theorem IsNat.fb {S : Nat → Prop} {W W' : World} {v : Value} {x : Nat} (h : IsNat W v x) (f : Fb S W W') (hn : ∀ k, S k → Odd W k) : IsNat W' v x := by
  obtain ⟨a, n, cap, F, rfl, hs, h0, h1, hv⟩ := h
  exact ⟨a, n, cap, F, rfl, hs.fb f hn, h0, h1, hv⟩
theorem RNat.fb {S : Nat → Prop} {W W' : World} {v : Value} {x : Nat} (h : RNat W v x) (f : Fb S W W') (hn : ∀ k, S k → Odd W k) : RNat W' v x := by
  obtain ⟨a, n, cap, F, e, hs, hd, h1, hv⟩ := h
  exact ⟨a, n, cap, F, e, hs.fb f hn, hd, h1, hv⟩
theorem Rt.fb {S : Nat → Prop} {W W' : World} {v : Value} {p q : Nat} (h : Rt W v p q) (f : Fb S W W') (hn : ∀ k, S k → Odd W k) : Rt W' v p q := by
  obtain ⟨a, n, c, a', n', c', e, h1, h2⟩ := h.raw
  exact ⟨⟨a, n, c, a', n', c', e, h1.fb f hn, h2.fb f hn⟩, h.pos, h.low⟩
theorem RRt.fb {S : Nat → Prop} {W W' : World} {v : Value} {p q : Nat} (h : RRt W v p q) (f : Fb S W W') (hn : ∀ k, S k → Odd W k) : RRt W' v p q := by
  obtain ⟨a, n, c, a', n', c', e, h1, h2⟩ := h
  exact ⟨a, n, c, a', n', c', e, h1.fb f hn, h2.fb f hn⟩
theorem Tab.fb {S : Nat → Prop} {W W' : World} (h : Tab W) (f : Fb S W W') (hn : ∀ k, S k → Odd W k) : Tab W' := fun j hj =>
  f.cell (h j hj) fun hs => by have := hn _ hs _ _ _ (h j hj); cases this
def isSl (v : Value) : Prop := ∃ a n c, v = .slice a n c
theorem Rt.sl {W : World} {u1 u2 : Value} {p q : Nat} (h : Rt W (.agg #[u1, u2]) p q) : isSl u1 ∧ isSl u2 := by
  obtain ⟨a, n, c, a', n', c', e, _, _⟩ := h.raw
  injection e with e
  injection e with e
  injection e with e1 e
  injection e with e2 e
  exact ⟨⟨_, _, _, e1⟩, ⟨_, _, _, e2⟩⟩
end Go.Proofs.YtfjmnhmdipjenaaGreatDoor

