/- Contracts of the program's functions, part 16: own work, joined in build order. -/
import Derived.Test.YtmiiaomdenpceaaGreatDoorJ15
namespace Go.Proofs.YtmiiaomdenpceaaGreatDoor
open Go.RowKit
set_option maxRecDepth 100000
set_option linter.unusedVariables false
def sRt (p q : Nat) : Spec := ⟨fun w v => Rt w v p q, ⟨fun h hb => h.mono hb, fun h hp u => h.setCell hp u⟩⟩
def sRRt (p q : Nat) : Spec := ⟨fun w v => RRt w v p q, ⟨fun h hb => h.mono hb, fun h hp u => h.setCell hp u⟩⟩
def sRtB (p q : Nat) (ok : Bool) : Spec := ⟨fun w v => ∃ u, v = .tuple #[u, .bool ok] ∧ Rt w u p q, ⟨fun ⟨u, e, h⟩ hb => ⟨u, e, h.mono hb⟩, fun ⟨u, e, h⟩ hp x => ⟨u, e, h.setCell hp x⟩⟩⟩
/-- What is known of a world: fractions of both kinds, what lies in cells, and that what was is as it was. -/
structure SQ (w0 w : World) (F G : List (Value × Nat × Nat)) (C : List (Nat × Nat × Value)) : Prop where
  frs : ∀ p ∈ F, Rt w p.1 p.2.1 p.2.2
  rfrs : ∀ p ∈ G, RRt w p.1 p.2.1 p.2.2
  cells : ∀ p ∈ C, w.cell? ⟨p.1, p.2.1, none⟩ = some p.2.2
  bel : Below w0.heap.size w0 w
theorem SQ.go {w0 w w' : World} {F G : List (Value × Nat × Nat)} {C : List (Nat × Nat × Value)} (h : SQ w0 w F G C) (hb : Below w.heap.size w w') : SQ w0 w' F G C :=
  ⟨fun p hp => (h.frs p hp).mono hb, fun p hp => (h.rfrs p hp).mono hb, fun p hp => cell_later hb (h.cells p hp), bel_go h.bel hb⟩
theorem SQ.fr {w0 w : World} {F G : List (Value × Nat × Nat)} {C : List (Nat × Nat × Value)} (h : SQ w0 w F G C) (v : Value) (p q : Nat) (hm : (v, p, q) ∈ F := by simp) : Rt w v p q := h.frs _ hm
theorem SQ.rfr {w0 w : World} {F G : List (Value × Nat × Nat)} {C : List (Nat × Nat × Value)} (h : SQ w0 w F G C) (v : Value) (p q : Nat) (hm : (v, p, q) ∈ G := by simp) : RRt w v p q := h.rfrs _ hm
theorem SQ.cel {w0 w : World} {F G : List (Value × Nat × Nat)} {C : List (Nat × Nat × Value)} (h : SQ w0 w F G C) (b i : Nat) (u : Value) (hm : (b, i, u) ∈ C := by simp) : w.cell? ⟨b, i, none⟩ = some u := h.cells _ hm
theorem SQ.addF {w0 w : World} {F G : List (Value × Nat × Nat)} {C : List (Nat × Nat × Value)} (h : SQ w0 w F G C) {v : Value} {p q : Nat} (hv : Rt w v p q) : SQ w0 w ((v, p, q) :: F) G C :=
  ⟨fun x hx => by
    rcases List.mem_cons.1 hx with e | e
    · subst e; exact hv
    · exact h.frs x e, h.rfrs, h.cells, h.bel⟩
theorem SQ.addG {w0 w : World} {F G : List (Value × Nat × Nat)} {C : List (Nat × Nat × Value)} (h : SQ w0 w F G C) {v : Value} {p q : Nat} (hv : RRt w v p q) : SQ w0 w F ((v, p, q) :: G) C :=
  ⟨h.frs, fun x hx => by
    rcases List.mem_cons.1 hx with e | e
    · subst e; exact hv
    · exact h.rfrs x e, h.cells, h.bel⟩
theorem SQ.addC {w0 w : World} {F G : List (Value × Nat × Nat)} {C : List (Nat × Nat × Value)} (h : SQ w0 w F G C) {b i : Nat} {v : Value} (hv : w.cell? ⟨b, i, none⟩ = some v) : SQ w0 w F G ((b, i, v) :: C) :=
  ⟨h.frs, h.rfrs, fun x hx => by
    rcases List.mem_cons.1 hx with e | e
    · subst e; exact hv
    · exact h.cells x e, h.bel⟩
theorem SQ.box {w0 w : World} {F G : List (Value × Nat × Nat)} {C : List (Nat × Nat × Value)} (h : SQ w0 w F G C) (u u' : Value) (t : TypeId) (g : Nat) (hg : g = w.heap.size) : SQ w0 (w.alloc (.cells #[u, u'] t)) F G ((g, 0, u) :: (g, 1, u') :: C) := by
  subst hg
  have h' := h.go (w' := w.alloc (.cells #[u, u'] t)) (bel_al (Below.refl _ _))
  exact (h'.addC (b := w.heap.size) (i := 1) (v := u') (by simp)).addC (by simp)
/-- A new box of two cells (who makes it, who stores into it, whose value). -/
def Box2 (w0 : World) (L : Nat → Bool) (vs : Nat → Value) (w : World) (b : Nat × Nat × Nat) : Prop :=
  ∃ bk, vs b.1 = .pointer (some ⟨bk, 0, none⟩) ∧ w0.heap.size ≤ bk ∧ bk < w.heap.size ∧ w.frozen? ⟨bk, 0, none⟩ = false ∧ w.frozen? ⟨bk, 1, none⟩ = false ∧ (L b.2.1 = false → w.cell? ⟨bk, 0, none⟩ = some (.slice none 0 0) ∧ w.cell? ⟨bk, 1, none⟩ = some (.slice none 0 0)) ∧ (L b.2.1 = true → L b.2.2 = true ∧ ∃ u u', vs b.2.2 = .agg #[u, u'] ∧ w.cell? ⟨bk, 0, none⟩ = some u ∧ w.cell? ⟨bk, 1, none⟩ = some u')
structure JC (w0 : World) (specs : List Spec) (b : Nat × Nat × Nat) (L : Nat → Bool) (vs : Nat → Value) (w : World) : Prop where
  bel : Below w0.heap.size w0 w
  sp : ∀ i, L i = true → (specs.getD i sAny).1 w (vs i)
  bx : L b.1 = true → Box2 w0 L vs w b
  cl : L b.2.1 = true → L b.1 = true
theorem JC.start (w : World) (specs : List Spec) (b : Nat × Nat × Nat) : JC w specs b (fun _ => false) (fun _ => undef) w.drew :=
  ⟨bel_dr (Below.refl _ _), (fun _ h => by cases h), (fun h => by cases h), (fun h => by cases h)⟩
theorem JC.step {w0 : World} {specs : List Spec} {b : Nat × Nat × Nat} {L : Nat → Bool} {vs : Nat → Value} {w w' : World} (h : JC w0 specs b L vs w) {i : Nat} (hL : L i = false) (hf : freeB [b] i = true) (hb : Below w.heap.size w w') {v : Value} (hs : (specs.getD i sAny).1 w' v) : JC w0 specs b (updB L i) (updV vs i v) w' := by
  have hne : b.1 ≠ i ∧ b.2.1 ≠ i := by simpa [freeB] using hf
  have oldV : ∀ j, L j = true → updV vs i v j = vs j := fun j hj => by
    have : j ≠ i := fun e => by rw [e, hL] at hj; cases hj
    simp [updV, this]
  refine ⟨bel_go h.bel hb, fun j hj => ?_, fun hLb => ?_, fun hs' => ?_⟩
  · by_cases e : j = i
    · subst e
      simpa [updV] using hs
    · have hj' : L j = true := by simpa [updB, e] using hj
      rw [oldV j hj']
      exact (specs.getD j sAny).2.mono (h.sp j hj') hb
  · have hLb' : L b.1 = true := by simpa [updB, hne.1] using hLb
    obtain ⟨bk, e1, e2, e3, e4, e4', e5, e6⟩ := h.bx hLb'
    have hc0 : w'.cell? ⟨bk, 0, none⟩ = w.cell? ⟨bk, 0, none⟩ := hb.cell (p := ⟨bk, 0, none⟩) e3
    have hc1 : w'.cell? ⟨bk, 1, none⟩ = w.cell? ⟨bk, 1, none⟩ := hb.cell (p := ⟨bk, 1, none⟩) e3
    refine ⟨bk, by rw [oldV _ hLb']; exact e1, e2, Nat.lt_of_lt_of_le e3 hb.size, (hb.frozen (p := ⟨bk, 0, none⟩) e3).trans e4, (hb.frozen (p := ⟨bk, 1, none⟩) e3).trans e4', fun hs' => ?_, fun hs' => ?_⟩
    · rw [hc0, hc1]
      exact e5 (by simpa [updB, hne.2] using hs')
    · obtain ⟨q1, u, u', q2, q3, q4⟩ := e6 (by simpa [updB, hne.2] using hs')
      refine ⟨by unfold updB; split <;> simp_all, u, u', ?_, by rw [hc0]; exact q3, by rw [hc1]; exact q4⟩
      rw [oldV _ q1]
      exact q2
  · have := h.cl (by simpa [updB, hne.2] using hs')
    unfold updB; split <;> simp_all
theorem JC.alloc {w0 : World} {specs : List Spec} {b : Nat × Nat × Nat} {L : Nat → Bool} {vs : Nat → Value} {w : World} (h : JC w0 specs b L vs w) {i : Nat} (hL : L i = false) (hi : b.1 = i) (hns : b.2.1 ≠ i) (hsp : specs.getD i sAny = sAny) (t : TypeId) :
    JC w0 specs b (updB L i) (updV vs i (.pointer (some ⟨w.heap.size, 0, none⟩))) (w.alloc (.cells #[.slice none 0 0, .slice none 0 0] t)) := by
  have hb : Below w.heap.size w (w.alloc (.cells #[.slice none 0 0, .slice none 0 0] t)) := (Below.refl _ _).alloc (Nat.le_refl _) _
  have oldV : ∀ j, L j = true → updV vs i (.pointer (some ⟨w.heap.size, 0, none⟩)) j = vs j := fun j hj => by
    have : j ≠ i := fun e => by rw [e, hL] at hj; cases hj
    simp [updV, this]
  have hst : L b.2.1 = false := by
    cases hs' : L b.2.1
    · rfl
    · have := h.cl hs'
      rw [hi, hL] at this
      cases this
  refine ⟨bel_go h.bel hb, fun j hj => ?_, fun _ => ?_, fun hs' => ?_⟩
  · by_cases e : j = i
    · subst e
      rw [hsp]
      trivial
    · have hj' : L j = true := by simpa [updB, e] using hj
      rw [oldV j hj']
      exact (specs.getD j sAny).2.mono (h.sp j hj') hb
  · refine ⟨w.heap.size, by rw [hi]; simp [updV], h.bel.size, by simp, by simp [go_sem], by simp [go_sem], fun _ => by simp [go_sem], fun hs' => ?_⟩
    simp [updB, hns, hst] at hs'
  · simp [updB, hns, hst] at hs'
theorem JC.store {w0 : World} {specs : List Spec} {b : Nat × Nat × Nat} {L : Nat → Bool} {vs : Nat → Value} {w : World} (h : JC w0 specs b L vs w) (hL : L b.2.1 = false) (hA : L b.1 = true) (hV : L b.2.2 = true) (hone : b.1 ≠ b.2.1) (hsp : specs.getD b.2.1 sAny = sAny) {bk : Nat} {u u' : Value} (hp : vs b.1 = .pointer (some ⟨bk, 0, none⟩)) (hu : vs b.2.2 = .agg #[u, u']) :
    JC w0 specs b (updB L b.2.1) (updV vs b.2.1 undef) ((w.setCell ⟨bk, 0, none⟩ u).setCell ⟨bk, 1, none⟩ u') := by
  have oldV : ∀ j, L j = true → updV vs b.2.1 undef j = vs j := fun j hj => by
    have : j ≠ b.2.1 := fun e => by rw [e, hL] at hj; cases hj
    simp [updV, this]
  obtain ⟨bk', e1, e2, e3, e4, e4', e5, e6⟩ := h.bx hA
  obtain rfl : bk' = bk := by rw [e1] at hp; cases hp; rfl
  obtain ⟨hc0, hc1⟩ := e5 hL
  obtain ⟨n1, n2⟩ := two_set hc0 hc1 u
  have hd : (w.setCell ⟨bk', 0, none⟩ u).cell? ⟨bk', 1, none⟩ = some (.slice none 0 0) := by rw [World.cell?_setCell_other (h := by simp), hc1]
  refine ⟨(h.bel.setCell (p := ⟨bk', 0, none⟩) e2 u).setCell (p := ⟨bk', 1, none⟩) e2 u', fun j hj => ?_, fun _ => ?_, fun _ => ?_⟩
  · by_cases e : j = b.2.1
    · subst e
      rw [hsp]
      trivial
    · have hj' : L j = true := by simpa [updB, e] using hj
      rw [oldV j hj']
      exact (specs.getD j sAny).2.set ((specs.getD j sAny).2.set (h.sp j hj') n1 u) n2 u'
  · refine ⟨bk', by rw [oldV _ hA]; exact e1, e2, by simpa [World.setCell] using e3, by simp [World.frozen?_setCell, e4], by simp [World.frozen?_setCell, e4'], fun hs' => ?_, fun _ => ⟨?_, u, u', ?_, ?_, ?_⟩⟩
    · simp [updB] at hs'
    · unfold updB; split <;> simp_all
    · rw [oldV _ hV]; exact hu
    · rw [World.cell?_setCell_other (h := by simp)]
      simp [go_sem, hc0]
    · simp [go_sem, hd]
  · simp [updB, hone, hA]
end Go.Proofs.YtmiiaomdenpceaaGreatDoor

namespace Go.Proofs.YtmiiaomdenpceaaGreatDoor
open Go.RowKit
set_option maxRecDepth 100000
set_option linter.unusedVariables false
theorem BSl.min {w : World} {a : Option Addr} {n cap : Nat} {D : Nat → Nat} (h : BSl w a n cap D) (m : Nat) : BSl w a (Min.min n m) cap D := by
  obtain ⟨h1, h2, h3, h4⟩ := h
  refine ⟨by omega, h2, fun i hi => h3 i (by omega), ?_⟩
  rcases h4 with h4 | ⟨b, o, e, h4⟩
  · exact .inl (by omega)
  · exact .inr ⟨b, o, e, fun i hi => h4 i (by omega)⟩
end Go.Proofs.YtmiiaomdenpceaaGreatDoor

namespace Go.Proofs.YtmiiaomdenpceaaGreatDoor
open Go.RowKit
set_option maxRecDepth 100000
set_option linter.unusedVariables false
/-- A box of two cells that is still as it was made. -/
def Zer (w : World) (r : Nat) : Prop := ∀ i, i < 2 → w.cell? ⟨r, i, none⟩ = some (.slice none 0 0) ∧ w.frozen? ⟨r, i, none⟩ = false
theorem Zer.go {w w' : World} {r : Nat} (h : Zer w r) (hb : Below w.heap.size w w') : Zer w' r := fun i hi =>
  ⟨cell_later hb (h i hi).1, (hb.frozen (World.block_lt_of_cell? _ _ (h i hi).1)).trans (h i hi).2⟩
theorem Zer.set {w : World} {r g : Nat} (h : Zer w r) (hg : r ≠ g) (u : Value) : Zer (w.setCell ⟨g, 0, none⟩ u) r := fun i hi =>
  ⟨by rw [World.cell?_setCell_far _ _ _ _ (by simpa using Ne.symm hg)]; exact (h i hi).1, by simp [World.frozen?_setCell, (h i hi).2]⟩
/-- What Made knows of its world: four numbers in four boxes, two results. -/
structure MT (w0 w : World) (b g1 g2 h1 h2 : Nat) (a1 : Option Addr) (n1 c1 : Nat) (a2 : Option Addr) (n2 c2 : Nat) (a3 : Option Addr) (n3 c3 : Nat) (a4 : Option Addr) (n4 c4 : Nat) (x y y' : Nat) : Prop where
  nx : IsNat w (.agg #[.slice a1 n1 c1]) x
  ny : IsNat w (.agg #[.slice a2 n2 c2]) y
  rx : RNat w (.agg #[.slice a3 n3 c3]) x
  ry : RNat w (.agg #[.slice a4 n4 c4]) y'
  c1 : w.cell? ⟨g1, 0, none⟩ = some (.slice a1 n1 c1)
  c2 : w.cell? ⟨g2, 0, none⟩ = some (.slice a2 n2 c2)
  c3 : w.cell? ⟨h1, 0, none⟩ = some (.slice a3 n3 c3)
  c4 : w.cell? ⟨h2, 0, none⟩ = some (.slice a4 n4 c4)
  f2 : w.frozen? ⟨g2, 0, none⟩ = false
  f4 : w.frozen? ⟨h2, 0, none⟩ = false
  z1 : Zer w (b + 1)
  z2 : Zer w (b + 1 + 1)
  bel : Below w0.heap.size w0 w
  ne : g1 ≠ g2 ∧ g1 ≠ h2 ∧ h1 ≠ g2 ∧ h1 ≠ h2 ∧ g2 ≠ h2 ∧ b + 1 ≠ g2 ∧ b + 1 ≠ h2 ∧ b + 1 + 1 ≠ g2 ∧ b + 1 + 1 ≠ h2
  lo : w0.heap.size ≤ g2 ∧ w0.heap.size ≤ h2 ∧ w0.heap.size ≤ b
theorem MT.go {w0 w w' : World} {b g1 g2 h1 h2 : Nat} {a1 : Option Addr} {n1 c1 : Nat} {a2 : Option Addr} {n2 c2 : Nat} {a3 : Option Addr} {n3 c3 : Nat} {a4 : Option Addr} {n4 c4 : Nat} {x y y' : Nat} (h : MT w0 w b g1 g2 h1 h2 a1 n1 c1 a2 n2 c2 a3 n3 c3 a4 n4 c4 x y y') (hb : Below w.heap.size w w') : MT w0 w' b g1 g2 h1 h2 a1 n1 c1 a2 n2 c2 a3 n3 c3 a4 n4 c4 x y y' :=
  ⟨h.nx.mono hb, h.ny.mono hb, h.rx.mono hb, h.ry.mono hb, cell_later hb h.c1, cell_later hb h.c2, cell_later hb h.c3, cell_later hb h.c4, (hb.frozen (World.block_lt_of_cell? _ _ h.c2)).trans h.f2, (hb.frozen (World.block_lt_of_cell? _ _ h.c4)).trans h.f4, h.z1.go hb, h.z2.go hb, bel_go h.bel hb, h.ne, h.lo⟩
def MakesM (w : World) (p q : Nat) (e : Ending) (w' : World) : Prop := ∃ v u, e = .returned (.tuple #[v, u]) ∧ Rt w' v p q ∧ RRt w' u p q ∧ Below w.heap.size w w'
def orOne (y : Nat) : Nat := if y = 0 then 1 else y
theorem orOne_pos (y : Nat) : 0 < orOne y := by unfold orOne; split <;> omega
/-- Both fractions are laid into the results. -/
theorem made_put {w0 w : World} {r : Nat} {p q : Nat} {s1 s2 t1 t2 V U : Value} (z1 : Zer w r) (z2 : Zer w (r + 1)) (h : Rt w V p q) (k : RRt w U p q) (hb : Below w0.heap.size w0 w) (hr : w0.heap.size ≤ r) :
    Rt ((((w.setCell ⟨r, 0, none⟩ s1).setCell ⟨r, 1, none⟩ s2).setCell ⟨r + 1, 0, none⟩ t1).setCell ⟨r + 1, 1, none⟩ t2) V p q ∧ RRt ((((w.setCell ⟨r, 0, none⟩ s1).setCell ⟨r, 1, none⟩ s2).setCell ⟨r + 1, 0, none⟩ t1).setCell ⟨r + 1, 1, none⟩ t2) U p q ∧ Below w0.heap.size w0 ((((w.setCell ⟨r, 0, none⟩ s1).setCell ⟨r, 1, none⟩ s2).setCell ⟨r + 1, 0, none⟩ t1).setCell ⟨r + 1, 1, none⟩ t2) := by
  obtain ⟨n1, n2⟩ := two_set (z1 0 (by omega)).1 (z1 1 (by omega)).1 s1
  have far : ∀ i, i < 2 → ((w.setCell ⟨r, 0, none⟩ s1).setCell ⟨r, 1, none⟩ s2).cell? ⟨r + 1, i, none⟩ = some (.slice none 0 0) := fun i hi => by
    rw [World.cell?_setCell_far _ _ _ _ (by simp), World.cell?_setCell_far _ _ _ _ (by simp)]
    exact (z2 i hi).1
  obtain ⟨m1, m2⟩ := two_set (far 0 (by omega)) (far 1 (by omega)) t1
  exact ⟨(((h.setCell n1 _).setCell n2 _).setCell m1 _).setCell m2 _, (((k.setCell n1 _).setCell n2 _).setCell m1 _).setCell m2 _, (((hb.setCell hr _).setCell hr _).setCell (by show _ ≤ r + 1; omega) _).setCell (by show _ ≤ r + 1; omega) _⟩
end Go.Proofs.YtmiiaomdenpceaaGreatDoor

namespace Go.Proofs.YtmiiaomdenpceaaGreatDoor
open Go.RowKit
set_option maxRecDepth 100000
set_option linter.unusedVariables false
/-- What is known of a world: numbers and fractions of both kinds, what lies in cells, and that what was is as it was. -/
structure SX (w0 w : World) (N M : List (Value × Nat)) (F G : List (Value × Nat × Nat)) (C : List (Nat × Nat × Value)) : Prop where
  nats : ∀ p ∈ N, IsNat w p.1 p.2
  rnats : ∀ p ∈ M, RNat w p.1 p.2
  frs : ∀ p ∈ F, Rt w p.1 p.2.1 p.2.2
  rfrs : ∀ p ∈ G, RRt w p.1 p.2.1 p.2.2
  cells : ∀ p ∈ C, w.cell? ⟨p.1, p.2.1, none⟩ = some p.2.2
  bel : Below w0.heap.size w0 w
theorem SX.go {w0 w : World} {N M : List (Value × Nat)} {F G : List (Value × Nat × Nat)} {C : List (Nat × Nat × Value)} (h : SX w0 w N M F G C) {w' : World} (hb : Below w.heap.size w w') : SX w0 w' N M F G C :=
  ⟨fun p hp => (h.nats p hp).mono hb, fun p hp => (h.rnats p hp).mono hb, fun p hp => (h.frs p hp).mono hb, fun p hp => (h.rfrs p hp).mono hb, fun p hp => cell_later hb (h.cells p hp), bel_go h.bel hb⟩
theorem SX.at {w0 w : World} {N M : List (Value × Nat)} {F G : List (Value × Nat × Nat)} {C : List (Nat × Nat × Value)} (h : SX w0 w N M F G C) (v : Value) (x : Nat) (hm : (v, x) ∈ N := by simp) : IsNat w v x := h.nats _ hm
theorem SX.rat {w0 w : World} {N M : List (Value × Nat)} {F G : List (Value × Nat × Nat)} {C : List (Nat × Nat × Value)} (h : SX w0 w N M F G C) (v : Value) (x : Nat) (hm : (v, x) ∈ M := by simp) : RNat w v x := h.rnats _ hm
theorem SX.fr {w0 w : World} {N M : List (Value × Nat)} {F G : List (Value × Nat × Nat)} {C : List (Nat × Nat × Value)} (h : SX w0 w N M F G C) (v : Value) (p q : Nat) (hm : (v, p, q) ∈ F := by simp) : Rt w v p q := h.frs _ hm
theorem SX.rfr {w0 w : World} {N M : List (Value × Nat)} {F G : List (Value × Nat × Nat)} {C : List (Nat × Nat × Value)} (h : SX w0 w N M F G C) (v : Value) (p q : Nat) (hm : (v, p, q) ∈ G := by simp) : RRt w v p q := h.rfrs _ hm
theorem SX.cel {w0 w : World} {N M : List (Value × Nat)} {F G : List (Value × Nat × Nat)} {C : List (Nat × Nat × Value)} (h : SX w0 w N M F G C) (b i : Nat) (u : Value) (hm : (b, i, u) ∈ C := by simp) : w.cell? ⟨b, i, none⟩ = some u := h.cells _ hm
theorem SX.cell {w0 w : World} {N M : List (Value × Nat)} {F G : List (Value × Nat × Nat)} {C : List (Nat × Nat × Value)} (h : SX w0 w N M F G C) (b : Nat) (u : Value) (hm : (b, 0, u) ∈ C := by simp) : w.cell? ⟨b, 0, none⟩ = some u := h.cells _ hm
theorem SX.addN {w0 w : World} {N M : List (Value × Nat)} {F G : List (Value × Nat × Nat)} {C : List (Nat × Nat × Value)} (h : SX w0 w N M F G C) {v : Value} {x : Nat} (hv : IsNat w v x) : SX w0 w ((v, x) :: N) M F G C :=
  ⟨fun p hp => by
    rcases List.mem_cons.1 hp with e | e
    · subst e; exact hv
    · exact h.nats p e, h.rnats, h.frs, h.rfrs, h.cells, h.bel⟩
theorem SX.addM {w0 w : World} {N M : List (Value × Nat)} {F G : List (Value × Nat × Nat)} {C : List (Nat × Nat × Value)} (h : SX w0 w N M F G C) {v : Value} {x : Nat} (hv : RNat w v x) : SX w0 w N ((v, x) :: M) F G C :=
  ⟨h.nats, fun p hp => by
    rcases List.mem_cons.1 hp with e | e
    · subst e; exact hv
    · exact h.rnats p e, h.frs, h.rfrs, h.cells, h.bel⟩
theorem SX.addF {w0 w : World} {N M : List (Value × Nat)} {F G : List (Value × Nat × Nat)} {C : List (Nat × Nat × Value)} (h : SX w0 w N M F G C) {v : Value} {x y : Nat} (hv : Rt w v x y) : SX w0 w N M ((v, x, y) :: F) G C :=
  ⟨h.nats, h.rnats, fun p hp => by
    rcases List.mem_cons.1 hp with e | e
    · subst e; exact hv
    · exact h.frs p e, h.rfrs, h.cells, h.bel⟩
theorem SX.addG {w0 w : World} {N M : List (Value × Nat)} {F G : List (Value × Nat × Nat)} {C : List (Nat × Nat × Value)} (h : SX w0 w N M F G C) {v : Value} {x y : Nat} (hv : RRt w v x y) : SX w0 w N M F ((v, x, y) :: G) C :=
  ⟨h.nats, h.rnats, h.frs, fun p hp => by
    rcases List.mem_cons.1 hp with e | e
    · subst e; exact hv
    · exact h.rfrs p e, h.cells, h.bel⟩
theorem SX.addC {w0 w : World} {N M : List (Value × Nat)} {F G : List (Value × Nat × Nat)} {C : List (Nat × Nat × Value)} (h : SX w0 w N M F G C) {b i : Nat} {v : Value} (hv : w.cell? ⟨b, i, none⟩ = some v) : SX w0 w N M F G ((b, i, v) :: C) :=
  ⟨h.nats, h.rnats, h.frs, h.rfrs, fun p hp => by
    rcases List.mem_cons.1 hp with e | e
    · subst e; exact hv
    · exact h.cells p e, h.bel⟩
theorem SX.box1 {w0 w : World} {N M : List (Value × Nat)} {F G : List (Value × Nat × Nat)} {C : List (Nat × Nat × Value)} (h : SX w0 w N M F G C) (u : Value) (t : TypeId) (g : Nat) (hg : g = w.heap.size) : SX w0 (w.alloc (.cells #[u] t)) N M F G ((g, 0, u) :: C) := by
  subst hg
  exact (h.go (w' := w.alloc (.cells #[u] t)) (bel_al (Below.refl _ _))).addC (by simp)
theorem SX.box {w0 w : World} {N M : List (Value × Nat)} {F G : List (Value × Nat × Nat)} {C : List (Nat × Nat × Value)} (h : SX w0 w N M F G C) (u u' : Value) (t : TypeId) (g : Nat) (hg : g = w.heap.size) : SX w0 (w.alloc (.cells #[u, u'] t)) N M F G ((g, 0, u) :: (g, 1, u') :: C) := by
  subst hg
  have h' := h.go (w' := w.alloc (.cells #[u, u'] t)) (bel_al (Below.refl _ _))
  exact (h'.addC (b := w.heap.size) (i := 1) (v := u') (by simp)).addC (by simp)
/-- A cell is written over: what lay elsewhere stays. -/
theorem SX.set {w0 w : World} {N M : List (Value × Nat)} {F G : List (Value × Nat × Nat)} {C : List (Nat × Nat × Value)} (h : SX w0 w N M F G C) {b i : Nat} {a : Option Addr} {n c : Nat} (hc : w.cell? ⟨b, i, none⟩ = some (.slice a n c)) (hlo : w0.heap.size ≤ b) (C' : List (Nat × Nat × Value)) (hC : ∀ p ∈ C', p ∈ C ∧ p.1 ≠ b) (u : Value) : SX w0 (w.setCell ⟨b, i, none⟩ u) N M F G C' :=
  ⟨fun p hp => (h.nats p hp).setCell (no_int_slice hc) u, fun p hp => (h.rnats p hp).setCell (no_int_slice hc) u, fun p hp => (h.frs p hp).setCell (no_int_slice hc) u, fun p hp => (h.rfrs p hp).setCell (no_int_slice hc) u,
    fun p hp => by
      rw [World.cell?_setCell_far _ _ _ _ (by simpa using Ne.symm (hC p hp).2)]
      exact h.cells p (hC p hp).1,
    h.bel.setCell (p := ⟨b, i, none⟩) hlo u⟩
theorem sx_start (w : World) : SX w w [] [] [] [] [] := ⟨(fun _ h => by cases h), (fun _ h => by cases h), (fun _ h => by cases h), (fun _ h => by cases h), (fun _ h => by cases h), Below.refl _ _⟩
theorem byteLen_P {x n : Nat} (h : x < P n) : byteLen x ≤ 8 * n := by
  have := bitLen_P h
  unfold byteLen
  omega
theorem ByIs.bsl {w : World} {g x : Nat} (h : ∀ i, i < byteLen x → w.cell? ⟨g, i, none⟩ = some (.int .u8 ((byteAt x (byteLen x - 1 - i) : Nat) : Int))) (hx : byteLen x ≤ 1099511627776) : BSl w (some ⟨g, 0, none⟩) (byteLen x) (byteLen x) (fun i => byteAt x (byteLen x - 1 - i)) :=
  ⟨Nat.le_refl _, by omega, fun i _ => byteAt_lt _ _, .inr ⟨g, 0, rfl, fun i hi => by rw [Nat.zero_add]; exact h i hi⟩⟩
end Go.Proofs.YtmiiaomdenpceaaGreatDoor

namespace Go.Proofs.YtmiiaomdenpceaaGreatDoor
open Go.RowKit
set_option maxRecDepth 100000
set_option linter.unusedVariables false
/-- An invariant: while the answer is not stored, all is as without boxes; once it is, all else is done. -/
structure JD (w0 : World) (specs : List Spec) (needs : List (List Nat)) (st val : Nat) (oth : List Nat) (Sto : World → Value → World → Prop) (L : Nat → Bool) (vs : Nat → Value) (w : World) : Prop where
  core : L st = false → JB w0 specs [] L vs w
  cl : ∀ j, L j = true → ∀ k ∈ needs.getD j [], L k = true
  fin : L st = true → (∀ j ∈ oth, L j = true) ∧ ∃ w1, Below w0.heap.size w0 w1 ∧ (specs.getD val sAny).1 w1 (vs val) ∧ Sto w1 (vs val) w
theorem JD.start (w : World) (specs : List Spec) (needs : List (List Nat)) (st val : Nat) (oth : List Nat) (Sto : World → Value → World → Prop) : JD w specs needs st val oth Sto (fun _ => false) (fun _ => undef) w.drew :=
  ⟨fun _ => JB.start _ _ _, (fun _ h => by cases h), (fun h => by cases h)⟩
theorem nd_nil {L : Nat → Bool} : ∀ k ∈ ([] : List Nat), L k = true := fun _ h => by cases h
theorem nd_cons {L : Nat → Bool} {a : Nat} {l : List Nat} (h : L a = true) (k : ∀ j ∈ l, L j = true) : ∀ j ∈ a :: l, L j = true := fun j hj => by
  rcases List.mem_cons.1 hj with e | e
  · rw [e]; exact h
  · exact k j e
theorem JD.open {w0 : World} {specs : List Spec} {needs : List (List Nat)} {st val : Nat} {oth : List Nat} {Sto : World → Value → World → Prop} {L : Nat → Bool} {vs : Nat → Value} {w : World} (h : JD w0 specs needs st val oth Sto L vs w) {i : Nat} (hL : L i = false) (hi : i ∈ oth) : JB w0 specs [] L vs w :=
  h.core (by
    cases e : L st
    · rfl
    · have := (h.fin e).1 i hi
      rw [hL] at this
      cases this)
theorem JD.step {w0 : World} {specs : List Spec} {needs : List (List Nat)} {st val : Nat} {oth : List Nat} {Sto : World → Value → World → Prop} {L : Nat → Bool} {vs : Nat → Value} {w : World} (h : JD w0 specs needs st val oth Sto L vs w) {i : Nat} (hL : L i = false) (hi : i ∈ oth) (hne : i ≠ st) {nd : List Nat} (he : needs.getD i [] = nd) (hn : ∀ k ∈ nd, L k = true) {v : Value} {w' : World} (k : JB w0 specs [] (updB L i) (updV vs i v) w') : JD w0 specs needs st val oth Sto (updB L i) (updV vs i v) w' := by
  refine ⟨fun _ => k, fun j hj m hm => ?_, fun hs => ?_⟩
  · by_cases e : j = i
    · subst e
      rw [he] at hm
      have := hn m hm
      unfold updB; split <;> simp_all
    · have := h.cl j (by simpa [updB, e] using hj) m hm
      unfold updB; split <;> simp_all
  · have hs' : L st = true := by simpa [updB, hne.symm] using hs
    have := (h.fin hs').1 i hi
    rw [hL] at this
    cases this
theorem JD.put {w0 : World} {specs : List Spec} {needs : List (List Nat)} {st val : Nat} {oth : List Nat} {Sto : World → Value → World → Prop} {L : Nat → Bool} {vs : Nat → Value} {w : World} (h : JD w0 specs needs st val oth Sto L vs w) (hL : L st = false) (hv : val ≠ st) {nd : List Nat} (he : needs.getD st [] = nd) (hn : ∀ k ∈ nd, L k = true) (ho : ∀ j ∈ oth, L j = true) (hV : L val = true) {w' : World} (hs : Sto w (vs val) w') : JD w0 specs needs st val oth Sto (updB L st) (updV vs st undef) w' := by
  have J := h.core hL
  refine ⟨fun e => ?_, fun j hj m hm => ?_, fun _ => ⟨fun j hj => ?_, w, J.bel, ?_, ?_⟩⟩
  · simp [updB] at e
  · by_cases e : j = st
    · subst e
      rw [he] at hm
      have := hn m hm
      unfold updB; split <;> simp_all
    · have := h.cl j (by simpa [updB, e] using hj) m hm
      unfold updB; split <;> simp_all
  · have := ho j hj
    unfold updB; split <;> simp_all
  · have : updV vs st undef val = vs val := by simp [updV, hv]
    rw [this]
    exact J.sp val hV
  · have : updV vs st undef val = vs val := by simp [updV, hv]
    rw [this]
    exact hs
/-- Two cells of a box take the answer. -/
def Sto2 (R : Nat) (w : World) (v : Value) (w' : World) : Prop := ∃ u u', v = .agg #[u, u'] ∧ w' = (w.setCell ⟨R, 0, none⟩ u).setCell ⟨R, 1, none⟩ u'
end Go.Proofs.YtmiiaomdenpceaaGreatDoor

namespace Go.Proofs.YtmiiaomdenpceaaGreatDoor
open Go.RowKit
set_option maxRecDepth 100000
set_option linter.unusedVariables false
/-- What is known of a world; Z: blocks of ours that may be written. -/
structure SY (w0 w : World) (N M : List (Value × Nat)) (F G : List (Value × Nat × Nat)) (C : List (Nat × Nat × Value)) (Z : List Nat) : Prop where
  sx : SX w0 w N M F G C
  fzs : ∀ b ∈ Z, (∀ i, w.frozen? ⟨b, i, none⟩ = false) ∧ w0.heap.size ≤ b ∧ b < w.heap.size
/-- One cell of a box takes the answer. -/
def Sto1 (R : Nat) (w : World) (v : Value) (w' : World) : Prop := ∃ u, v = .agg #[u] ∧ w' = w.setCell ⟨R, 0, none⟩ u
section
variable {w0 w : World} {N M : List (Value × Nat)} {F G : List (Value × Nat × Nat)} {C : List (Nat × Nat × Value)} {Z : List Nat}
theorem sy_start (w : World) : SY w w [] [] [] [] [] [] := ⟨sx_start w, fun _ h => by cases h⟩
theorem SY.bel (h : SY w0 w N M F G C Z) : Below w0.heap.size w0 w := h.sx.bel
theorem SY.go (h : SY w0 w N M F G C Z) {w' : World} (hb : Below w.heap.size w w') : SY w0 w' N M F G C Z :=
  ⟨h.sx.go hb, fun b hz => ⟨fun i => (hb.frozen (p := ⟨b, i, none⟩) (h.fzs b hz).2.2).trans ((h.fzs b hz).1 i), (h.fzs b hz).2.1, Nat.lt_of_lt_of_le (h.fzs b hz).2.2 hb.size⟩⟩
theorem SY.at (h : SY w0 w N M F G C Z) (v : Value) (x : Nat) (hm : (v, x) ∈ N := by simp) : IsNat w v x := h.sx.nats _ hm
theorem SY.rat (h : SY w0 w N M F G C Z) (v : Value) (x : Nat) (hm : (v, x) ∈ M := by simp) : RNat w v x := h.sx.rnats _ hm
theorem SY.fr (h : SY w0 w N M F G C Z) (v : Value) (p q : Nat) (hm : (v, p, q) ∈ F := by simp) : Rt w v p q := h.sx.frs _ hm
theorem SY.rfr (h : SY w0 w N M F G C Z) (v : Value) (p q : Nat) (hm : (v, p, q) ∈ G := by simp) : RRt w v p q := h.sx.rfrs _ hm
theorem SY.cel (h : SY w0 w N M F G C Z) (b i : Nat) (u : Value) (hm : (b, i, u) ∈ C := by simp) : w.cell? ⟨b, i, none⟩ = some u := h.sx.cells _ hm
theorem SY.cell (h : SY w0 w N M F G C Z) (b : Nat) (u : Value) (hm : (b, 0, u) ∈ C := by simp) : w.cell? ⟨b, 0, none⟩ = some u := h.sx.cells _ hm
theorem SY.fz (h : SY w0 w N M F G C Z) (b i : Nat) (hm : b ∈ Z := by simp) : w.frozen? ⟨b, i, none⟩ = false := (h.fzs b hm).1 i
theorem SY.lo (h : SY w0 w N M F G C Z) (b : Nat) (hm : b ∈ Z := by simp) : w0.heap.size ≤ b := (h.fzs b hm).2.1
theorem SY.lt (h : SY w0 w N M F G C Z) (b : Nat) (hm : b ∈ Z := by simp) : b < w.heap.size := (h.fzs b hm).2.2
theorem SY.addN (h : SY w0 w N M F G C Z) {v : Value} {x : Nat} (hv : IsNat w v x) : SY w0 w ((v, x) :: N) M F G C Z := ⟨h.sx.addN hv, h.fzs⟩
theorem SY.addM (h : SY w0 w N M F G C Z) {v : Value} {x : Nat} (hv : RNat w v x) : SY w0 w N ((v, x) :: M) F G C Z := ⟨h.sx.addM hv, h.fzs⟩
theorem SY.addF (h : SY w0 w N M F G C Z) {v : Value} {x y : Nat} (hv : Rt w v x y) : SY w0 w N M ((v, x, y) :: F) G C Z := ⟨h.sx.addF hv, h.fzs⟩
theorem SY.addG (h : SY w0 w N M F G C Z) {v : Value} {x y : Nat} (hv : RRt w v x y) : SY w0 w N M F ((v, x, y) :: G) C Z := ⟨h.sx.addG hv, h.fzs⟩
theorem SY.addC (h : SY w0 w N M F G C Z) {b i : Nat} {v : Value} (hv : w.cell? ⟨b, i, none⟩ = some v) : SY w0 w N M F G ((b, i, v) :: C) Z := ⟨h.sx.addC hv, h.fzs⟩
theorem SY.addZ (h : SY w0 w N M F G C Z) {b : Nat} (hv : ∀ i, w.frozen? ⟨b, i, none⟩ = false) (h1 : w0.heap.size ≤ b) (h2 : b < w.heap.size) : SY w0 w N M F G C (b :: Z) :=
  ⟨h.sx, fun x hx => by
    rcases List.mem_cons.1 hx with e | e
    · subst e; exact ⟨hv, h1, h2⟩
    · exact h.fzs x e⟩
theorem SY.box1 (h : SY w0 w N M F G C Z) (u : Value) (t : TypeId) (g : Nat) (hg : g = w.heap.size) : SY w0 (w.alloc (.cells #[u] t)) N M F G ((g, 0, u) :: C) (g :: Z) := by
  subst hg
  have k := h.go (w' := w.alloc (.cells #[u] t)) (bel_al (Below.refl _ _))
  exact SY.addZ ⟨h.sx.box1 u t _ rfl, k.fzs⟩ (fun i => by simp [go_sem]) h.bel.size (by simp)
theorem SY.box (h : SY w0 w N M F G C Z) (u u' : Value) (t : TypeId) (g : Nat) (hg : g = w.heap.size) : SY w0 (w.alloc (.cells #[u, u'] t)) N M F G ((g, 0, u) :: (g, 1, u') :: C) (g :: Z) := by
  subst hg
  have k := h.go (w' := w.alloc (.cells #[u, u'] t)) (bel_al (Below.refl _ _))
  exact SY.addZ ⟨h.sx.box u u' t _ rfl, k.fzs⟩ (fun i => by simp [go_sem]) h.bel.size (by simp)
/-- A cell is written over: what lay elsewhere stays. -/
theorem SY.set (h : SY w0 w N M F G C Z) {b i : Nat} {a : Option Addr} {n c : Nat} (hc : w.cell? ⟨b, i, none⟩ = some (.slice a n c)) (hlo : w0.heap.size ≤ b) (C' : List (Nat × Nat × Value)) (hC : ∀ p ∈ C', p ∈ C ∧ p.1 ≠ b) (u : Value) : SY w0 (w.setCell ⟨b, i, none⟩ u) N M F G C' Z :=
  ⟨h.sx.set hc hlo C' hC u, fun x hx => ⟨fun j => by rw [World.frozen?_setCell]; exact (h.fzs x hx).1 j, (h.fzs x hx).2.1, by simpa [go_sem] using (h.fzs x hx).2.2⟩⟩
theorem SY.sub (h : SY w0 w N M F G C Z) (N' M' : List (Value × Nat)) (F' G' : List (Value × Nat × Nat)) (C' : List (Nat × Nat × Value)) (Z' : List Nat) (h1 : ∀ p ∈ N', p ∈ N) (h2 : ∀ p ∈ M', p ∈ M) (h3 : ∀ p ∈ F', p ∈ F) (h4 : ∀ p ∈ G', p ∈ G) (h5 : ∀ p ∈ C', p ∈ C) (h6 : ∀ p ∈ Z', p ∈ Z) : SY w0 w N' M' F' G' C' Z' :=
  ⟨⟨fun p hp => h.sx.nats p (h1 p hp), fun p hp => h.sx.rnats p (h2 p hp), fun p hp => h.sx.frs p (h3 p hp), fun p hp => h.sx.rfrs p (h4 p hp), fun p hp => h.sx.cells p (h5 p hp), h.sx.bel⟩, fun b hb => h.fzs b (h6 b hb)⟩
/-- The result's cell is written: what is told. -/
theorem SY.ret1 (h : SY w0 w N M F G C Z) {r : Nat} {v : Value} {x : Nat} (hc : w.cell? ⟨r, 0, none⟩ = some (.slice none 0 0)) (hz : r ∈ Z) (hv : IsNat w v x) (u : Value) : IsNat (w.setCell ⟨r, 0, none⟩ u) v x ∧ Below w0.heap.size w0 (w.setCell ⟨r, 0, none⟩ u) :=
  ⟨hv.setCell (no_int_slice hc) u, h.bel.setCell (p := ⟨r, 0, none⟩) (h.lo r hz) u⟩
end
end Go.Proofs.YtmiiaomdenpceaaGreatDoor

namespace Go.Proofs.YtmiiaomdenpceaaGreatDoor
open Go.RowKit
set_option linter.unusedVariables false
/-- The whole number nearest to p / q, of two as near the even one. -/
def nearN (p q : Nat) : Nat := if 2 * (p % q) < q then p / q else if 2 * (p % q) = q ∧ p / q % 2 = 0 then p / q else p / q + 1
theorem nearN_le {p q c : Nat} (hq : 0 < q) (h : p < c * q) : nearN p q ≤ c := by
  have h1 : p / q < c := (Nat.div_lt_iff_lt_mul hq).2 h
  unfold nearN
  split
  · omega
  · split <;> omega
theorem nearN_ge {p q c : Nat} (hq : 0 < q) (h : c * q ≤ p) : c ≤ nearN p q := by
  have h1 : c ≤ p / q := (Nat.le_div_iff_mul_le hq).2 h
  unfold nearN
  split
  · omega
  · split <;> omega
def upN (p : Nat) (u : Int) : Nat := p * 2 ^ (-u).toNat
def dnN (q : Nat) (u : Int) : Nat := q * 2 ^ u.toNat
theorem dnN_pos {q : Nat} (h : 0 < q) (u : Int) : 0 < dnN q u := Nat.mul_pos h (Nat.two_pow_pos _)
/-- A unit that is 2^k times as great. -/
theorem unit_up (p q : Nat) (u : Int) (k : Nat) : upN p u * dnN q (u + k) = upN p (u + k) * dnN q u * 2 ^ k := by
  unfold upN dnN
  have e : 2 ^ (-u).toNat * 2 ^ (u + k).toNat = 2 ^ (-(u + k)).toNat * 2 ^ u.toNat * 2 ^ k := by
    rw [← Nat.pow_add, ← Nat.pow_add, ← Nat.pow_add]
    congr 1
    omega
  calc p * 2 ^ (-u).toNat * (q * 2 ^ (u + k).toNat) = p * q * (2 ^ (-u).toNat * 2 ^ (u + k).toNat) := by grind
    _ = p * q * (2 ^ (-(u + k)).toNat * 2 ^ u.toNat * 2 ^ k) := by rw [e]
    _ = p * 2 ^ (-(u + k)).toNat * (q * 2 ^ u.toNat) * 2 ^ k := by grind
/-- Below c units of 2^k times the size: below c 2^k units. -/
theorem unit_lt {p q : Nat} (hq : 0 < q) (u : Int) (k c : Nat) : upN p (u + k) < c * dnN q (u + k) ↔ upN p u < c * 2 ^ k * dnN q u := by
  have h := unit_up p q u k
  have h1 := dnN_pos hq u
  have h2 := dnN_pos hq (u + k)
  have h3 : 0 < 2 ^ k := Nat.two_pow_pos k
  have h4 : 0 < dnN q u * 2 ^ k := Nat.mul_pos h1 h3
  constructor
  · intro hh
    have a : upN p (u + k) * (dnN q u * 2 ^ k) < c * dnN q (u + k) * (dnN q u * 2 ^ k) := Nat.mul_lt_mul_of_pos_right hh h4
    refine Nat.lt_of_mul_lt_mul_right (a := dnN q (u + k)) ?_
    rw [h]
    calc upN p (u + k) * dnN q u * 2 ^ k = upN p (u + k) * (dnN q u * 2 ^ k) := by grind
      _ < c * dnN q (u + k) * (dnN q u * 2 ^ k) := a
      _ = c * 2 ^ k * dnN q u * dnN q (u + k) := by grind
  · intro hh
    have a : upN p u * dnN q (u + k) < c * 2 ^ k * dnN q u * dnN q (u + k) := Nat.mul_lt_mul_of_pos_right hh h2
    rw [h] at a
    refine Nat.lt_of_mul_lt_mul_right (a := dnN q u * 2 ^ k) ?_
    calc upN p (u + k) * (dnN q u * 2 ^ k) = upN p (u + k) * dnN q u * 2 ^ k := by grind
      _ < c * 2 ^ k * dnN q u * dnN q (u + k) := a
      _ = c * dnN q (u + k) * (dnN q u * 2 ^ k) := by grind
theorem unit_le {p q : Nat} (hq : 0 < q) (u : Int) (k c : Nat) : c * dnN q (u + k) ≤ upN p (u + k) ↔ c * 2 ^ k * dnN q u ≤ upN p u := by
  rw [← Nat.not_lt, ← Nat.not_lt, unit_lt hq u k c]
/-- p / q lies in the first units from 2^e to 2^(e+1). -/
def At (p q : Nat) (e : Int) : Prop := dnN q e ≤ upN p e ∧ upN p e < 2 * dnN q e
/-- Where the first bit lies. -/
def flI (p q : Nat) (s : Int) : Int := if upN p s < dnN q s then s - 1 else s
theorem flI_at {p q a b : Nat} (hp : 2 ^ a ≤ p) (hp2 : p < 2 ^ (a + 1)) (hq : 2 ^ b ≤ q) (hq2 : q < 2 ^ (b + 1)) : At p q (flI p q ((a : Int) - b)) := by
  have q0 : 0 < q := Nat.lt_of_lt_of_le (Nat.two_pow_pos b) hq
  obtain ⟨s, hs⟩ : ∃ s : Int, s = (a : Int) - b := ⟨_, rfl⟩
  rw [← hs]
  have hup : upN p s < 2 * dnN q s := by
    unfold upN dnN
    have e1 : p * 2 ^ (-s).toNat < 2 ^ (a + 1) * 2 ^ (-s).toNat := Nat.mul_lt_mul_of_pos_right hp2 (Nat.two_pow_pos _)
    have e2 : 2 ^ b * 2 ^ s.toNat ≤ q * 2 ^ s.toNat := Nat.mul_le_mul_right _ hq
    have e3 : 2 ^ (a + 1) * 2 ^ (-s).toNat = 2 * (2 ^ b * 2 ^ s.toNat) := by
      rw [← Nat.pow_add, ← Nat.pow_add, ← Nat.pow_succ']
      congr 1
      omega
    omega
  have hlo : dnN q s < 2 * upN p s := by
    unfold upN dnN
    have e1 : q * 2 ^ s.toNat < 2 ^ (b + 1) * 2 ^ s.toNat := Nat.mul_lt_mul_of_pos_right hq2 (Nat.two_pow_pos _)
    have e2 : 2 ^ a * 2 ^ (-s).toNat ≤ p * 2 ^ (-s).toNat := Nat.mul_le_mul_right _ hp
    have e3 : 2 ^ (b + 1) * 2 ^ s.toNat = 2 * (2 ^ a * 2 ^ (-s).toNat) := by
      rw [← Nat.pow_add, ← Nat.pow_add, ← Nat.pow_succ']
      congr 1
      omega
    omega
  unfold flI
  split
  · rename_i h
    have k1 := unit_lt (p := p) q0 (s - 1) 1 1
    have e : s - 1 + ((1 : Nat) : Int) = s := by omega
    rw [e] at k1
    have h' : upN p s < 1 * dnN q s := by omega
    have k2 := k1.1 h'
    have k3 := unit_up p q (s - 1) 1
    rw [e] at k3
    refine ⟨?_, by simpa using k2⟩
    have p1 := dnN_pos q0 (s - 1)
    have p2 := dnN_pos q0 s
    refine Nat.le_of_mul_le_mul_right (c := dnN q s) ?_ p2
    rw [k3]
    have : dnN q s * dnN q (s - 1) ≤ 2 * upN p s * dnN q (s - 1) := Nat.mul_le_mul_right _ (Nat.le_of_lt hlo)
    grind
  · exact ⟨by omega, hup⟩
def unI (e : Int) : Int := if e - 52 < -1074 then -1074 else e - 52
def ctN (p q : Nat) (u : Int) : Nat := nearN (upN p u) (dnN q u)
theorem At.lt {p q : Nat} {e : Int} (h : At p q e) (hq : 0 < q) : upN p (unI e) < 9007199254740992 * dnN q (unI e) := by
  obtain ⟨k, hk⟩ : ∃ k : Nat, unI e = e - 52 + k := ⟨(unI e - (e - 52)).toNat, by unfold unI; split <;> omega⟩
  have h1 := (unit_lt (p := p) hq (e - 52) 52 2)
  rw [show e - 52 + ((52 : Nat) : Int) = e by omega] at h1
  have h2 := h1.1 h.2
  rw [hk, unit_lt hq]
  have : 1 ≤ 2 ^ k := Nat.one_le_two_pow
  have h3 : 9007199254740992 * 1 * dnN q (e - 52) ≤ 9007199254740992 * 2 ^ k * dnN q (e - 52) := Nat.mul_le_mul_right _ (Nat.mul_le_mul_left _ this)
  omega
theorem At.ct {p q : Nat} {e : Int} (h : At p q e) (hq : 0 < q) : ctN p q (unI e) ≤ 9007199254740992 := nearN_le (dnN_pos hq _) (h.lt hq)
theorem At.ge {p q : Nat} {e : Int} (h : At p q e) (hq : 0 < q) (hu : unI e = e - 52) : 4503599627370496 * dnN q (unI e) ≤ upN p (unI e) := by
  have h1 := (unit_le (p := p) hq (e - 52) 52 1)
  rw [show e - 52 + ((52 : Nat) : Int) = e by omega] at h1
  have := h1.1 (by have := h.1; omega)
  rw [hu]
  omega
theorem At.ct_ge {p q : Nat} {e : Int} (h : At p q e) (hq : 0 < q) (hu : unI e = e - 52) : 4503599627370496 ≤ ctN p q (unI e) := nearN_ge (dnN_pos hq _) (h.ge hq hu)
/-- Where the first bit lies is one place. -/
theorem At.one {p q : Nat} {e f : Int} (h : At p q e) (k : At p q f) (hq : 0 < q) : e = f := by
  have key : ∀ {e f : Int}, At p q e → At p q f → e ≤ f := by
    intro e f h k
    rcases Int.lt_or_le f e with hh | hh
    · exfalso
      obtain ⟨j, hj⟩ : ∃ j : Nat, e = f + j := ⟨(e - f).toNat, by omega⟩
      have h1 := (unit_le (p := p) hq f j 1)
      rw [← hj] at h1
      have h2 := h1.1 (by have := h.1; omega)
      have h3 : 2 ^ 1 ≤ 2 ^ j := Nat.pow_le_pow_right (by omega) (by omega)
      have h4 : 1 * 2 * dnN q f ≤ 1 * 2 ^ j * dnN q f := Nat.mul_le_mul_right _ (by omega)
      have := k.2
      omega
    · exact hh
  have := key h k
  have := key k h
  omega
theorem nearN_zero {p q : Nat} (h : 2 * p < q) : nearN p q = 0 := by
  have h1 : p / q = 0 := Nat.div_eq_of_lt (by omega)
  have h2 : p % q = p := Nat.mod_eq_of_lt (by omega)
  unfold nearN
  rw [h1, h2, if_pos h]
theorem At.low {p q : Nat} {e : Int} (h : At p q e) (hq : 0 < q) (he : e ≤ -1076) : unI e = -1074 ∧ ctN p q (unI e) = 0 := by
  have hu : unI e = -1074 := by unfold unI; split <;> omega
  refine ⟨hu, ?_⟩
  rw [hu]
  obtain ⟨k, hk⟩ : ∃ k : Nat, (-1075 : Int) = e + (k + 1 : Nat) := ⟨(-1076 - e).toNat, by omega⟩
  have h1 := unit_lt (p := p) hq e (k + 1) 1
  rw [← hk] at h1
  have h2 : upN p (-1075) < 1 * dnN q (-1075) := by
    rw [h1]
    have h3 : 2 ^ 1 ≤ 2 ^ (k + 1) := Nat.pow_le_pow_right (by omega) (by omega)
    have h4 : 1 * 2 * dnN q e ≤ 1 * 2 ^ (k + 1) * dnN q e := Nat.mul_le_mul_right _ (by omega)
    have := h.2
    omega
  refine nearN_zero ?_
  have e1 : upN p (-1075) = 2 * upN p (-1074) := by
    obtain ⟨m, hm⟩ : ∃ m : Nat, m = 1074 := ⟨_, rfl⟩
    unfold upN
    rw [show (-(-1075 : Int)).toNat = m + 1 by omega, show (-(-1074 : Int)).toNat = m by omega, Nat.pow_succ]
    grind
  have e2 : dnN q (-1075) = dnN q (-1074) := by
    unfold dnN
    rw [show (-1075 : Int).toNat = (-1074 : Int).toNat by decide]
  omega
/-- The bits that p / q has whose first bit lies at e. -/
def bitsAt (p q : Nat) (e : Int) : Nat := (unI e + 1074).toNat * 4503599627370496 + ctN p q (unI e)
theorem At.high {p q : Nat} {e : Int} (h : At p q e) (hq : 0 < q) (he : 1024 ≤ e) : 9218868437227405312 ≤ bitsAt p q e := by
  have hu : unI e = e - 52 := by unfold unI; split <;> omega
  have := h.ct_ge hq hu
  unfold bitsAt
  have : 2046 ≤ (unI e + 1074).toNat := by omega
  have : 2046 * 4503599627370496 ≤ (unI e + 1074).toNat * 4503599627370496 := Nat.mul_le_mul_right _ this
  omega
theorem At.bits_low {p q : Nat} {e : Int} (h : At p q e) (hq : 0 < q) (he : e ≤ -1076) : bitsAt p q e = 0 := by
  obtain ⟨h1, h2⟩ := h.low hq he
  unfold bitsAt
  rw [h2, h1]
  rfl
theorem unit_cross {p q r s : Nat} (u : Int) (h : p * s ≤ r * q) : upN p u * dnN s u ≤ upN r u * dnN q u := by
  unfold upN dnN
  have : p * s * (2 ^ (-u).toNat * 2 ^ u.toNat) ≤ r * q * (2 ^ (-u).toNat * 2 ^ u.toNat) := Nat.mul_le_mul_right _ h
  grind
theorem At.mono {p q r s : Nat} {e f : Int} (h : At p q e) (k : At r s f) (hq : 0 < q) (hs : 0 < s) (hle : p * s ≤ r * q) : e ≤ f := by
  rcases Int.lt_or_le f e with hh | hh
  · exfalso
    obtain ⟨j, hj⟩ : ∃ j : Nat, e = f + (j + 1 : Nat) := ⟨(e - f - 1).toNat, by omega⟩
    have h1 := unit_le (p := p) hq f (j + 1) 1
    rw [← hj] at h1
    have h2 := h1.1 (by have := h.1; omega)
    have h3 : 2 ^ 1 ≤ 2 ^ (j + 1) := Nat.pow_le_pow_right (by omega) (by omega)
    have h4 : 1 * 2 * dnN q f ≤ 1 * 2 ^ (j + 1) * dnN q f := Nat.mul_le_mul_right _ (by omega)
    have h5 : 2 * dnN q f ≤ upN p f := by omega
    have h6 := unit_cross f hle
    have h7 := k.2
    have p1 := dnN_pos hq f
    have p2 := dnN_pos hs f
    have h8 : 2 * dnN q f * dnN s f ≤ upN p f * dnN s f := Nat.mul_le_mul_right _ h5
    have h9 : upN r f * dnN q f < 2 * dnN s f * dnN q f := Nat.mul_lt_mul_of_pos_right h7 p1
    grind
  · exact hh
end Go.Proofs.YtmiiaomdenpceaaGreatDoor

namespace Go.Proofs.YtmiiaomdenpceaaGreatDoor
open Go.RowKit
set_option maxRecDepth 100000
set_option linter.unusedVariables false
/-- Two fractions in lowest terms that are the same have the same parts. -/
theorem low_one {a b c d : Nat} (h1 : Nat.gcd a b = 1) (h2 : Nat.gcd c d = 1) (hb : 0 < b) (hd : 0 < d) (e : a * d = c * b) : a = c ∧ b = d := by
  have h1' : Nat.Coprime a b := h1
  have h2' : Nat.Coprime c d := h2
  have d1 : b ∣ d := h1'.symm.dvd_of_dvd_mul_left ⟨c, by rw [e, Nat.mul_comm]⟩
  have d2 : d ∣ b := h2'.symm.dvd_of_dvd_mul_left ⟨a, by rw [← e, Nat.mul_comm]⟩
  have hbd : b = d := Nat.dvd_antisymm d1 d2
  subst hbd
  exact ⟨Nat.eq_of_mul_eq_mul_right hb e, rfl⟩
/-- A fraction is brought to lowest terms. -/
theorem low_terms (x Y : Nat) (hY : 0 < Y) : Nat.gcd (x / Nat.gcd x Y) (Y / Nat.gcd x Y) = 1 ∧ x / Nat.gcd x Y * Y = x * (Y / Nat.gcd x Y) ∧ 0 < Y / Nat.gcd x Y := by
  have g0 : 0 < Nat.gcd x Y := Nat.gcd_pos_of_pos_right _ hY
  refine ⟨?_, ?_, Nat.div_pos (Nat.gcd_le_right _ hY) g0⟩
  · rw [Nat.gcd_div (Nat.gcd_dvd_left _ _) (Nat.gcd_dvd_right _ _), Nat.div_self g0]
  · obtain ⟨a, ha⟩ := Nat.gcd_dvd_left x Y
    obtain ⟨b, hb⟩ := Nat.gcd_dvd_right x Y
    generalize Nat.gcd x Y = g at *
    subst ha hb
    rw [Nat.mul_div_cancel_left _ g0, Nat.mul_div_cancel_left _ g0]
    grind
theorem radd_parts {w0 w : World} {r : Nat} {p q : Nat} {a6 a7 : Option Addr} {n6 k6 n7 k7 : Nat} (x0 : w.cell? ⟨r, 0, none⟩ = some (.slice none 0 0)) (x1 : w.cell? ⟨r, 1, none⟩ = some (.slice none 0 0)) :
    ((w.setCell ⟨r, 0, none⟩ (.slice a6 n6 k6)).setCell ⟨r, 1, none⟩ (.slice a7 n7 k7)).cell? ⟨r, 0, none⟩ = some (.slice a6 n6 k6) ∧ ((w.setCell ⟨r, 0, none⟩ (.slice a6 n6 k6)).setCell ⟨r, 1, none⟩ (.slice a7 n7 k7)).cell? ⟨r, 1, none⟩ = some (.slice a7 n7 k7) := by
  have hd : (w.setCell ⟨r, 0, none⟩ (.slice a6 n6 k6)).cell? ⟨r, 1, none⟩ = some (.slice none 0 0) := by rw [World.cell?_setCell_other (h := by simp), x1]
  constructor
  · rw [World.cell?_setCell_other (h := by simp)]
    simp [go_sem, x0]
  · simp [go_sem, hd]
set_option maxHeartbeats 4000000 in
theorem radd2_any (v u : Value) (p q x y : Nat) (w : World) (h : RRt w v p q) (k : RRt w u x y) (hp : RS p) (hq : RS q) (hx : RS x) (hy : RS y) (hq0 : 0 < q) (hy0 : 0 < y) :
    Calls Tryz.prog 15 #[v, u] w (MakesRR w ((p * y + x * q) / Nat.gcd (p * y + x * q) (q * y)) ((q * y) / Nat.gcd (p * y + x * q) (q * y))) := by
  obtain ⟨p1, n1, c1, p2, n2, c2, e0, g1, g2⟩ := h
  subst e0
  obtain ⟨p3, n3, c3, p4, n4, c4, e1, g3, g4⟩ := k
  subst e1
  have S0 : Hid _ := ((((((sx_start w).addM g1).addM g2).addM g3).addM g4).box (.slice p1 n1 c1) (.slice p2 n2 c2) 32 _ rfl).box (.slice p3 n3 c3) (.slice p4 n4 c4) 32 _ rfl
  simp only [World.size_alloc] at S0
  have S1 : Hid _ := S0.out.box (.slice none 0 0) (.slice none 0 0) 32 _ rfl
  simp only [World.size_alloc] at S1
  obtain ⟨w0, hw0⟩ : ∃ w0, w0 = ((w.alloc (.cells #[.slice p1 n1 c1, .slice p2 n2 c2] 32)).alloc (.cells #[.slice p3 n3 c3, .slice p4 n4 c4] 32)).alloc (.cells #[.slice none 0 0, .slice none 0 0] 32) := ⟨_, rfl⟩
  have f6 : w0.frozen? ⟨w.heap.size + 1 + 1, 0, none⟩ = false := by rw [hw0]; simp [go_sem]
  have f7 : w0.frozen? ⟨w.heap.size + 1 + 1, 1, none⟩ = false := by rw [hw0]; simp [go_sem]
  have s1 : RSome (p * y + x * q) := ⟨Nat.lt_of_lt_of_le (by rw [← P_B]; exact P_twice (hp.mul hy) (hx.mul hq)) (B_le (show 2 * 181 ≤ 1000000 by omega))⟩
  have s2 : RSome (q * y) := ⟨Nat.lt_of_lt_of_le (by rw [← P_B]; exact hq.mul hy) (B_le (show 2 * 180 ≤ 1000000 by omega))⟩
  have HH : Hid (RS p ∧ RS q ∧ RS x ∧ RS y ∧ RFits (p * y) ∧ RFits (x * q) ∧ RSome (p * y + x * q) ∧ RSome (q * y) ∧ 0 < q * y) := ⟨hp, hq, hx, hy, rfits_P (hp.mul hy) (by omega), rfits_P (hx.mul hq) (by omega), s1, s2, Nat.mul_pos hq0 hy0⟩
  clear g1 g2 g3 g4 hp hq hx hy hq0 hy0 s1 s2 S0
  go_enter Tryz.func15, Tryz.ntmps15
  go_wp2_with fail
  rw [← hw0] at S1
  rw [← hw0]
  obtain ⟨b2, hb2⟩ : ∃ b2, b2 = w.heap.size := ⟨_, rfl⟩
  have HB : Hid (w.heap.size ≤ b2 + 1 + 1) := by show _ ≤ _; omega
  rw [← hb2] at S1 f6 f7
  rw [← hb2]
  clear hw0 hb2
  have e6 := S1.out.cel (b2 + 1 + 1) 0 (.slice none 0 0)
  have e7 := S1.out.cel (b2 + 1 + 1) 1 (.slice none 0 0)
  refine wp_region_inv (JD w0 [sEq (.pointer (some ⟨b2, 0, none⟩)), sR (p), sEq (.pointer (some ⟨b2 + 1, 1, none⟩)), sR (y), sR (p * y), sEq (.pointer (some ⟨b2 + 1, 0, none⟩)), sR (x), sEq (.pointer (some ⟨b2, 1, none⟩)), sR (q), sR (x * q), sR (p * y + x * q), sEq (.pointer (some ⟨b2, 1, none⟩)), sR (q), sEq (.pointer (some ⟨b2 + 1, 1, none⟩)), sR (y), sR (q * y), sRRt ((p * y + x * q) / Nat.gcd (p * y + x * q) (q * y)) ((q * y) / Nat.gcd (p * y + x * q) (q * y)), sAny] [[], [0], [], [2], [1, 3], [], [5], [], [7], [6, 8], [4, 9], [], [11], [], [13], [12, 14], [10, 15], [16]] 17 16 [0, 1, 2, 3, 4, 5, 6, 7, 8, 9, 10, 11, 12, 13, 14, 15, 16] (Sto2 (b2 + 1 + 1))) 22 (by kernel_rfl) rfl (by kernel_rfl) (JD.start _ _ _ _ _ _ _) (fun HG HN => ⟨?_, ?_, ?_, ?_, ?_, ?_, ?_, ?_, ?_, ?_, ?_, ?_, ?_, ?_, ?_, ?_, ?_, ?_, trivial⟩) ?_
  · intro L vs a w' hJ hF hP hL
    have hK := hJ
    have hJ := hK.open hL (by decide)
    have q2 : (a.tmps[2]?).getD undef = .pointer (some ⟨b2, 0, none⟩) := hF.old 2 rfl
    exact run_val (v := .pointer (some ⟨b2, 0, none⟩)) rfl (by simp [execOp, go_sem, q2]) ⟨_, rfl, hK.step hL (by decide) (by decide) rfl (nd_nil) <| hJ.step hL rfl (Below.refl _ _) (by exact rfl)⟩
  · intro L vs a w' hJ hF hP hL
    have hK := hJ
    have hJ := hK.open hL (by decide)
    have p0 : L 0 = true := hP ⟨0, .data⟩ (by simp) rfl
    have s0 : vs 0 = .pointer (some ⟨b2, 0, none⟩) := hJ.sp 0 p0
    have q5 := hF.slot 0 5 rfl p0
    have cb := cell_later hJ.bel (S1.out.cel (b2) 0 (.slice p1 n1 c1))
    exact run_val (v := .agg #[.slice p1 n1 c1]) rfl (by simp [execOp, go_sem, q5, s0, cb]) ⟨_, rfl, hK.step hL (by decide) (by decide) rfl (nd_cons p0 (nd_nil)) <| hJ.step hL rfl (Below.refl _ _) (by exact ((S1.out.rat (.agg #[.slice p1 n1 c1]) (p)).mono hJ.bel))⟩
  · intro L vs a w' hJ hF hP hL
    have hK := hJ
    have hJ := hK.open hL (by decide)
    have q3 : (a.tmps[3]?).getD undef = .pointer (some ⟨b2 + 1, 0, none⟩) := hF.old 3 rfl
    exact run_val (v := .pointer (some ⟨b2 + 1, 1, none⟩)) rfl (by simp [execOp, go_sem, q3]) ⟨_, rfl, hK.step hL (by decide) (by decide) rfl (nd_nil) <| hJ.step hL rfl (Below.refl _ _) (by exact rfl)⟩
  · intro L vs a w' hJ hF hP hL
    have hK := hJ
    have hJ := hK.open hL (by decide)
    have p2 : L 2 = true := hP ⟨2, .data⟩ (by simp) rfl
    have s2 : vs 2 = .pointer (some ⟨b2 + 1, 1, none⟩) := hJ.sp 2 p2
    have q7 := hF.slot 2 7 rfl p2
    have cb := cell_later hJ.bel (S1.out.cel (b2 + 1) 1 (.slice p4 n4 c4))
    exact run_val (v := .agg #[.slice p4 n4 c4]) rfl (by simp [execOp, go_sem, q7, s2, cb]) ⟨_, rfl, hK.step hL (by decide) (by decide) rfl (nd_cons p2 (nd_nil)) <| hJ.step hL rfl (Below.refl _ _) (by exact ((S1.out.rat (.agg #[.slice p4 n4 c4]) (y)).mono hJ.bel))⟩
  · intro L vs a w' hJ hF hP hL
    have hK := hJ
    have hJ := hK.open hL (by decide)
    have p1 : L 1 = true := hP ⟨1, .data⟩ (by simp) rfl
    have s1 : RNat w' (vs 1) (p) := hJ.sp 1 p1
    have q6 := hF.slot 1 6 rfl p1
    have p3 : L 3 = true := hP ⟨3, .data⟩ (by simp) rfl
    have s3 : RNat w' (vs 3) (y) := hJ.sp 3 p3
    have q8 := hF.slot 3 8 rfl p3
    refine run_call (f := 58) (args := #[vs 1, vs 3]) rfl (by simp [go_sem, q6, q8]) (rtimes_any _ _ p y _ s1 s3 HH.out.1.rfits HH.out.2.2.2.1.rfits) ?_
    rintro e w2 ⟨v, rfl, hv, hb⟩
    exact ⟨_, rfl, _, rfl, hK.step hL (by decide) (by decide) rfl (nd_cons p1 (nd_cons p3 (nd_nil))) <| hJ.step hL rfl hb (by exact hv)⟩
  · intro L vs a w' hJ hF hP hL
    have hK := hJ
    have hJ := hK.open hL (by decide)
    have q3 : (a.tmps[3]?).getD undef = .pointer (some ⟨b2 + 1, 0, none⟩) := hF.old 3 rfl
    exact run_val (v := .pointer (some ⟨b2 + 1, 0, none⟩)) rfl (by simp [execOp, go_sem, q3]) ⟨_, rfl, hK.step hL (by decide) (by decide) rfl (nd_nil) <| hJ.step hL rfl (Below.refl _ _) (by exact rfl)⟩
  · intro L vs a w' hJ hF hP hL
    have hK := hJ
    have hJ := hK.open hL (by decide)
    have p5 : L 5 = true := hP ⟨5, .data⟩ (by simp) rfl
    have s5 : vs 5 = .pointer (some ⟨b2 + 1, 0, none⟩) := hJ.sp 5 p5
    have q10 := hF.slot 5 10 rfl p5
    have cb := cell_later hJ.bel (S1.out.cel (b2 + 1) 0 (.slice p3 n3 c3))
    exact run_val (v := .agg #[.slice p3 n3 c3]) rfl (by simp [execOp, go_sem, q10, s5, cb]) ⟨_, rfl, hK.step hL (by decide) (by decide) rfl (nd_cons p5 (nd_nil)) <| hJ.step hL rfl (Below.refl _ _) (by exact ((S1.out.rat (.agg #[.slice p3 n3 c3]) (x)).mono hJ.bel))⟩
  · intro L vs a w' hJ hF hP hL
    have hK := hJ
    have hJ := hK.open hL (by decide)
    have q2 : (a.tmps[2]?).getD undef = .pointer (some ⟨b2, 0, none⟩) := hF.old 2 rfl
    exact run_val (v := .pointer (some ⟨b2, 1, none⟩)) rfl (by simp [execOp, go_sem, q2]) ⟨_, rfl, hK.step hL (by decide) (by decide) rfl (nd_nil) <| hJ.step hL rfl (Below.refl _ _) (by exact rfl)⟩
  · intro L vs a w' hJ hF hP hL
    have hK := hJ
    have hJ := hK.open hL (by decide)
    have p7 : L 7 = true := hP ⟨7, .data⟩ (by simp) rfl
    have s7 : vs 7 = .pointer (some ⟨b2, 1, none⟩) := hJ.sp 7 p7
    have q12 := hF.slot 7 12 rfl p7
    have cb := cell_later hJ.bel (S1.out.cel (b2) 1 (.slice p2 n2 c2))
    exact run_val (v := .agg #[.slice p2 n2 c2]) rfl (by simp [execOp, go_sem, q12, s7, cb]) ⟨_, rfl, hK.step hL (by decide) (by decide) rfl (nd_cons p7 (nd_nil)) <| hJ.step hL rfl (Below.refl _ _) (by exact ((S1.out.rat (.agg #[.slice p2 n2 c2]) (q)).mono hJ.bel))⟩
  · intro L vs a w' hJ hF hP hL
    have hK := hJ
    have hJ := hK.open hL (by decide)
    have p6 : L 6 = true := hP ⟨6, .data⟩ (by simp) rfl
    have s6 : RNat w' (vs 6) (x) := hJ.sp 6 p6
    have q11 := hF.slot 6 11 rfl p6
    have p8 : L 8 = true := hP ⟨8, .data⟩ (by simp) rfl
    have s8 : RNat w' (vs 8) (q) := hJ.sp 8 p8
    have q13 := hF.slot 8 13 rfl p8
    refine run_call (f := 58) (args := #[vs 6, vs 8]) rfl (by simp [go_sem, q11, q13]) (rtimes_any _ _ x q _ s6 s8 HH.out.2.2.1.rfits HH.out.2.1.rfits) ?_
    rintro e w2 ⟨v, rfl, hv, hb⟩
    exact ⟨_, rfl, _, rfl, hK.step hL (by decide) (by decide) rfl (nd_cons p6 (nd_cons p8 (nd_nil))) <| hJ.step hL rfl hb (by exact hv)⟩
  · intro L vs a w' hJ hF hP hL
    have hK := hJ
    have hJ := hK.open hL (by decide)
    have p4 : L 4 = true := hP ⟨4, .data⟩ (by simp) rfl
    have s4 : RNat w' (vs 4) (p * y) := hJ.sp 4 p4
    have q9 := hF.slot 4 9 rfl p4
    have p9 : L 9 = true := hP ⟨9, .data⟩ (by simp) rfl
    have s9 : RNat w' (vs 9) (x * q) := hJ.sp 9 p9
    have q14 := hF.slot 9 14 rfl p9
    refine run_call (f := 57) (args := #[vs 4, vs 9]) rfl (by simp [go_sem, q9, q14]) (rplus_any _ _ (p * y) (x * q) _ s4 s9 HH.out.2.2.2.2.1 HH.out.2.2.2.2.2.1) ?_
    rintro e w2 ⟨v, rfl, hv, hb⟩
    exact ⟨_, rfl, _, rfl, hK.step hL (by decide) (by decide) rfl (nd_cons p4 (nd_cons p9 (nd_nil))) <| hJ.step hL rfl hb (by exact hv)⟩
  · intro L vs a w' hJ hF hP hL
    have hK := hJ
    have hJ := hK.open hL (by decide)
    have q2 : (a.tmps[2]?).getD undef = .pointer (some ⟨b2, 0, none⟩) := hF.old 2 rfl
    exact run_val (v := .pointer (some ⟨b2, 1, none⟩)) rfl (by simp [execOp, go_sem, q2]) ⟨_, rfl, hK.step hL (by decide) (by decide) rfl (nd_nil) <| hJ.step hL rfl (Below.refl _ _) (by exact rfl)⟩
  · intro L vs a w' hJ hF hP hL
    have hK := hJ
    have hJ := hK.open hL (by decide)
    have p11 : L 11 = true := hP ⟨11, .data⟩ (by simp) rfl
    have s11 : vs 11 = .pointer (some ⟨b2, 1, none⟩) := hJ.sp 11 p11
    have q16 := hF.slot 11 16 rfl p11
    have cb := cell_later hJ.bel (S1.out.cel (b2) 1 (.slice p2 n2 c2))
    exact run_val (v := .agg #[.slice p2 n2 c2]) rfl (by simp [execOp, go_sem, q16, s11, cb]) ⟨_, rfl, hK.step hL (by decide) (by decide) rfl (nd_cons p11 (nd_nil)) <| hJ.step hL rfl (Below.refl _ _) (by exact ((S1.out.rat (.agg #[.slice p2 n2 c2]) (q)).mono hJ.bel))⟩
  · intro L vs a w' hJ hF hP hL
    have hK := hJ
    have hJ := hK.open hL (by decide)
    have q3 : (a.tmps[3]?).getD undef = .pointer (some ⟨b2 + 1, 0, none⟩) := hF.old 3 rfl
    exact run_val (v := .pointer (some ⟨b2 + 1, 1, none⟩)) rfl (by simp [execOp, go_sem, q3]) ⟨_, rfl, hK.step hL (by decide) (by decide) rfl (nd_nil) <| hJ.step hL rfl (Below.refl _ _) (by exact rfl)⟩
  · intro L vs a w' hJ hF hP hL
    have hK := hJ
    have hJ := hK.open hL (by decide)
    have p13 : L 13 = true := hP ⟨13, .data⟩ (by simp) rfl
    have s13 : vs 13 = .pointer (some ⟨b2 + 1, 1, none⟩) := hJ.sp 13 p13
    have q18 := hF.slot 13 18 rfl p13
    have cb := cell_later hJ.bel (S1.out.cel (b2 + 1) 1 (.slice p4 n4 c4))
    exact run_val (v := .agg #[.slice p4 n4 c4]) rfl (by simp [execOp, go_sem, q18, s13, cb]) ⟨_, rfl, hK.step hL (by decide) (by decide) rfl (nd_cons p13 (nd_nil)) <| hJ.step hL rfl (Below.refl _ _) (by exact ((S1.out.rat (.agg #[.slice p4 n4 c4]) (y)).mono hJ.bel))⟩
  · intro L vs a w' hJ hF hP hL
    have hK := hJ
    have hJ := hK.open hL (by decide)
    have p12 : L 12 = true := hP ⟨12, .data⟩ (by simp) rfl
    have s12 : RNat w' (vs 12) (q) := hJ.sp 12 p12
    have q17 := hF.slot 12 17 rfl p12
    have p14 : L 14 = true := hP ⟨14, .data⟩ (by simp) rfl
    have s14 : RNat w' (vs 14) (y) := hJ.sp 14 p14
    have q19 := hF.slot 14 19 rfl p14
    refine run_call (f := 58) (args := #[vs 12, vs 14]) rfl (by simp [go_sem, q17, q19]) (rtimes_any _ _ q y _ s12 s14 HH.out.2.1.rfits HH.out.2.2.2.1.rfits) ?_
    rintro e w2 ⟨v, rfl, hv, hb⟩
    exact ⟨_, rfl, _, rfl, hK.step hL (by decide) (by decide) rfl (nd_cons p12 (nd_cons p14 (nd_nil))) <| hJ.step hL rfl hb (by exact hv)⟩
  · intro L vs a w' hJ hF hP hL
    have hK := hJ
    have hJ := hK.open hL (by decide)
    have p10 : L 10 = true := hP ⟨10, .data⟩ (by simp) rfl
    have s10 : RNat w' (vs 10) (p * y + x * q) := hJ.sp 10 p10
    have q15 := hF.slot 10 15 rfl p10
    have p15 : L 15 = true := hP ⟨15, .data⟩ (by simp) rfl
    have s15 : RNat w' (vs 15) (q * y) := hJ.sp 15 p15
    have q20 := hF.slot 15 20 rfl p15
    refine run_call (f := 56) (args := #[vs 10, vs 15]) rfl (by simp [go_sem, q15, q20]) (rmade_any _ _ (p * y + x * q) (q * y) _ s10 s15 HH.out.2.2.2.2.2.2.1 HH.out.2.2.2.2.2.2.2.1 HH.out.2.2.2.2.2.2.2.2) ?_
    rintro e w2 ⟨v, rfl, hv, hb⟩
    exact ⟨_, rfl, _, rfl, hK.step hL (by decide) (by decide) rfl (nd_cons p10 (nd_cons p15 (nd_nil))) <| hJ.step hL rfl hb (by exact hv)⟩
  · intro L vs a w' hJ hF hP hL
    have hK := hJ
    have hJ := hK.core hL
    have q4 : (a.tmps[4]?).getD undef = .pointer (some ⟨b2 + 1 + 1, 0, none⟩) := hF.old 4 rfl
    have p16 : L 16 = true := hP ⟨16, .data⟩ (by simp) rfl
    have s16 : RRt w' (vs 16) ((p * y + x * q) / Nat.gcd (p * y + x * q) (q * y)) ((q * y) / Nat.gcd (p * y + x * q) (q * y)) := hJ.sp 16 p16
    have q21 := hF.slot 16 21 rfl p16
    have p10 : L 10 = true := hK.cl 16 p16 10 (by simp)
    have p4 : L 4 = true := hK.cl 10 p10 4 (by simp)
    have p1 : L 1 = true := hK.cl 4 p4 1 (by simp)
    have p0 : L 0 = true := hK.cl 1 p1 0 (by simp)
    have p3 : L 3 = true := hK.cl 4 p4 3 (by simp)
    have p2 : L 2 = true := hK.cl 3 p3 2 (by simp)
    have p9 : L 9 = true := hK.cl 10 p10 9 (by simp)
    have p6 : L 6 = true := hK.cl 9 p9 6 (by simp)
    have p5 : L 5 = true := hK.cl 6 p6 5 (by simp)
    have p8 : L 8 = true := hK.cl 9 p9 8 (by simp)
    have p7 : L 7 = true := hK.cl 8 p8 7 (by simp)
    have p15 : L 15 = true := hK.cl 16 p16 15 (by simp)
    have p12 : L 12 = true := hK.cl 15 p15 12 (by simp)
    have p11 : L 11 = true := hK.cl 12 p12 11 (by simp)
    have p14 : L 14 = true := hK.cl 15 p15 14 (by simp)
    have p13 : L 13 = true := hK.cl 14 p14 13 (by simp)
    have x0 := cell_later hJ.bel e6
    have y0 := (hJ.bel.frozen (World.block_lt_of_cell? _ _ e6)).trans f6
    have x1 := cell_later hJ.bel e7
    have y1 := (hJ.bel.frozen (World.block_lt_of_cell? _ _ e7)).trans f7
    have s16' := s16
    obtain ⟨aa, nn, cc, a2, n2, c2, e8, _, _⟩ := s16'
    exact run_unit (w' := (w'.setCell ⟨b2 + 1 + 1, 0, none⟩ (.slice aa nn cc)).setCell ⟨b2 + 1 + 1, 1, none⟩ (.slice a2 n2 c2)) rfl (by simp [execOp, go_sem, q4, q21, e8, x0, y0, x1, y1]) ⟨undef, rfl, hK.put hL (by decide) rfl (nd_cons p16 nd_nil) (nd_cons p0 (nd_cons p1 (nd_cons p2 (nd_cons p3 (nd_cons p4 (nd_cons p5 (nd_cons p6 (nd_cons p7 (nd_cons p8 (nd_cons p9 (nd_cons p10 (nd_cons p11 (nd_cons p12 (nd_cons p13 (nd_cons p14 (nd_cons p15 (nd_cons p16 (nd_nil)))))))))))))))))) p16 ⟨_, _, e8, rfl⟩⟩
  intro L vs w' hA hK
  obtain ⟨_, w1, hb1, sv, u1, u2, ev, ew⟩ := hK.fin (hA 17 (by simp))
  replace sv : RRt w1 (vs 16) ((p * y + x * q) / Nat.gcd (p * y + x * q) (q * y)) ((q * y) / Nat.gcd (p * y + x * q) (q * y)) := sv
  obtain ⟨a6, n6, k6, a7, n7, k7, e8, h6, h7⟩ := sv
  rw [e8] at ev
  obtain ⟨rfl, rfl⟩ : u1 = .slice a6 n6 k6 ∧ u2 = .slice a7 n7 k7 := by simpa [eq_comm] using ev
  have x0 := cell_later hb1 e6
  have x1 := cell_later hb1 e7
  have Z : Hid _ := rrat_put (w0 := w) (v := .slice a6 n6 k6) (u := .slice a7 n7 k7) x0 x1 (V := .agg #[.slice a6 n6 k6, .slice a7 n7 k7]) ⟨_, _, _, _, _, _, rfl, h6, h7⟩ (bel_go S1.out.bel hb1) HB.out
  obtain ⟨l6, l7⟩ := radd_parts (w0 := w) (p := p) (q := q) (a6 := a6) (n6 := n6) (k6 := k6) (a7 := a7) (n7 := n7) (k7 := k7) x0 x1
  rw [← ew] at Z l6 l7
  clear ew x0 x1 h6 h7 ev hb1 e8 hK hA e6 e7 f6 f7 S1
  simp only [putL, Act.put, List.setIfInBounds_toArray, List.set_cons_zero, List.set_cons_succ, Nat.reduceAdd]
  go_wp2_with fail
  exact bodyPost_ret (v := .agg #[.slice a6 n6 k6, .slice a7 n7 k7]) (by simp [results, Tryz.results15, go_sem, l6, l7]) rfl ⟨_, rfl, Z.out.1, Z.out.2⟩
end Go.Proofs.YtmiiaomdenpceaaGreatDoor


