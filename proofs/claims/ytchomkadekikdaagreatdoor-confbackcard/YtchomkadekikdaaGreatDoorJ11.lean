/- Contracts of the program's functions, part 11: own work, joined in build order. -/
import Derived.Test.YtchomkadekikdaaGreatDoorJ10
import Derived.Deep.LoopGhost
import Derived.ArgAppend
namespace Go.Proofs.YtchomkadekikdaaGreatDoor
open Go.RowKit
set_option maxRecDepth 100000
set_option linter.unusedVariables false
/-- What Gcd's loop keeps. -/
structure GC (w wr : World) (d : Nat) (ax : Option Addr) (lx cx : Nat) (ay : Option Addr) (ly cy : Nat) (x y : Nat) : Prop where
  c0 : wr.cell? ⟨w.heap.size, 0, none⟩ = some (.slice ax lx cx)
  c1 : wr.cell? ⟨w.heap.size + 1, 0, none⟩ = some (.slice ay ly cy)
  c2 : wr.cell? ⟨w.heap.size + 1 + 1, 0, none⟩ = some (.slice none 0 0)
  f0 : wr.frozen? ⟨w.heap.size, 0, none⟩ = false
  f1 : wr.frozen? ⟨w.heap.size + 1, 0, none⟩ = false
  f2 : wr.frozen? ⟨w.heap.size + 1 + 1, 0, none⟩ = false
  nx : RNat wr (.agg #[.slice ax lx cx]) x
  ny : RNat wr (.agg #[.slice ay ly cy]) y
  sx : RSome x
  sy : RSome y
  gcd : Nat.gcd x y = d
  bel : Below w.heap.size w wr
theorem GC.go {w wr w' : World} {d : Nat} {ax : Option Addr} {lx cx : Nat} {ay : Option Addr} {ly cy x y : Nat} (h : GC w wr d ax lx cx ay ly cy x y) (hb : Below wr.heap.size wr w') : GC w w' d ax lx cx ay ly cy x y :=
  ⟨cell_later hb h.c0, cell_later hb h.c1, cell_later hb h.c2, (hb.frozen (World.block_lt_of_cell? _ _ h.c0)).trans h.f0, (hb.frozen (World.block_lt_of_cell? _ _ h.c1)).trans h.f1, (hb.frozen (World.block_lt_of_cell? _ _ h.c2)).trans h.f2, h.nx.mono hb, h.ny.mono hb, h.sx, h.sy, h.gcd, bel_go h.bel hb⟩
theorem GC.step {w wr : World} {d : Nat} {ax : Option Addr} {lx cx : Nat} {ay : Option Addr} {ly cy x y : Nat} (h : GC w wr d ax lx cx ay ly cy x y) {ar : Option Addr} {lr cr : Nat} (hr : RNat wr (.agg #[.slice ar lr cr]) (x % y)) (hy : y ≠ 0) :
    GC w ((wr.setCell ⟨w.heap.size, 0, none⟩ (.slice ay ly cy)).setCell ⟨w.heap.size + 1, 0, none⟩ (.slice ar lr cr)) d ay ly cy ar lr cr y (x % y) := by
  have n0 := no_int_slice h.c0
  have k1 : (wr.setCell ⟨w.heap.size, 0, none⟩ (.slice ay ly cy)).cell? ⟨w.heap.size + 1, 0, none⟩ = some (.slice ay ly cy) := (World.cell?_setCell_far _ _ _ _ (by show w.heap.size ≠ w.heap.size + 1; omega)).trans h.c1
  have n1 := no_int_slice k1
  have k0 : (wr.setCell ⟨w.heap.size, 0, none⟩ (.slice ay ly cy)).cell? ⟨w.heap.size, 0, none⟩ = some (.slice ay ly cy) := by simp [go_sem, h.c0]
  refine ⟨?_, by simp [go_sem, k1], ?_, by simp [World.frozen?_setCell, h.f0], by simp [World.frozen?_setCell, h.f1], by simp [World.frozen?_setCell, h.f2], (h.ny.setCell n0 _).setCell n1 _, (hr.setCell n0 _).setCell n1 _, h.sy, ⟨Nat.lt_of_lt_of_le (Nat.mod_lt _ (by omega)) (Nat.le_of_lt h.sy.lt)⟩, ?_, (h.bel.setCell (Nat.le_refl _) _).setCell (by show _ ≤ _ + 1; omega) _⟩
  · rw [World.cell?_setCell_far _ _ _ _ (by show w.heap.size + 1 ≠ w.heap.size; omega)]
    exact k0
  · rw [World.cell?_setCell_far _ _ _ _ (by show w.heap.size + 1 ≠ w.heap.size + 1 + 1; omega), World.cell?_setCell_far _ _ _ _ (by show w.heap.size ≠ w.heap.size + 1 + 1; omega)]
    exact h.c2
  · rw [← h.gcd, Nat.gcd_comm x y, Nat.gcd_rec y x, Nat.gcd_comm]
end Go.Proofs.YtchomkadekikdaaGreatDoor

namespace Go.Proofs.YtchomkadekikdaaGreatDoor
open Go.RowKit
set_option maxRecDepth 100000
set_option linter.unusedVariables false
/-- v is the document's fraction of the numbers p and q. -/
def RRt (w : World) (v : Value) (p q : Nat) : Prop := ∃ a n c a' n' c', v = .agg #[.slice a n c, .slice a' n' c'] ∧ RNat w (.agg #[.slice a n c]) p ∧ RNat w (.agg #[.slice a' n' c']) q
theorem RRt.mono {w w' : World} {v : Value} {p q : Nat} (h : RRt w v p q) (hb : Below w.heap.size w w') : RRt w' v p q := by
  obtain ⟨a, n, c, a', n', c', e, h1, h2⟩ := h
  exact ⟨a, n, c, a', n', c', e, h1.mono hb, h2.mono hb⟩
theorem RRt.setCell {w : World} {v : Value} {p q : Nat} (h : RRt w v p q) {x : Addr} (hp : ∀ k q, w.cell? x ≠ some (.int k q)) (u : Value) : RRt (w.setCell x u) v p q := by
  obtain ⟨a, n, c, a', n', c', e, h1, h2⟩ := h
  exact ⟨a, n, c, a', n', c', e, h1.setCell hp u, h2.setCell hp u⟩
theorem RSome.le {x y : Nat} (h : RSome x) (hy : y ≤ x) : RSome y := ⟨Nat.lt_of_le_of_lt hy h.lt⟩
end Go.Proofs.YtchomkadekikdaaGreatDoor

namespace Go.Proofs.YtchomkadekikdaaGreatDoor
open Go.RowKit
set_option maxRecDepth 100000
set_option linter.unusedVariables false
end Go.Proofs.YtchomkadekikdaaGreatDoor

namespace Go.Proofs.YtchomkadekikdaaGreatDoor
open Go.RowKit
set_option maxRecDepth 100000
set_option linter.unusedVariables false
set_option maxHeartbeats 4000000 in
theorem ratCmp_any (v u : Value) (p q r s : Nat) (w : World) (h : Rt w v p q) (k : Rt w u r s) (hp : RS p) (hq : RS q) (hr : RS r) (hs : RS s) :
    Calls Tryz.prog 92 #[v, u] w fun e w' => e = .returned (.int .i64 (cmpI (p * s) (r * q))) ∧ Below w.heap.size w w' := by
  obtain ⟨a, n, c, a', n', c', e0, _, _⟩ := h.raw
  subst e0
  obtain ⟨b, m, d, b', m', d', e1, _, _⟩ := k.raw
  subst e1
  have HH : Hid (Rt w (.agg #[.slice a n c, .slice a' n' c']) p q ∧ Rt w (.agg #[.slice b m d, .slice b' m' d']) r s ∧ RS p ∧ RS q ∧ RS r ∧ RS s) := ⟨h, k, hp, hq, hr, hs⟩
  have ba : Hid (Below w.heap.size w ((w.alloc (.cells #[.slice a n c, .slice a' n' c'] 68)).alloc (.cells #[.slice b m d, .slice b' m' d'] 68))) := bel_al (bel_al (bel_refl w))
  have HM : Hid (Fits (p * s) ∧ Fits (r * q)) := by
    refine ⟨fits_P (n := 180) ?_ (by omega), fits_P (n := 180) ?_ (by omega)⟩
    · rw [show 180 = 90 + 90 from rfl, P_add]; exact Nat.mul_lt_mul'' hp.lt hs.lt
    · rw [show 180 = 90 + 90 from rfl, P_add]; exact Nat.mul_lt_mul'' hr.lt hq.lt
  clear h k hp hq hr hs
  go_enter Tryz.func92, Tryz.ntmps92
  go_wp2_with fail
  refine (parts_any _ p q _ (HH.out.1.mono ba.out) HH.out.2.2.2.1.fits).mono ?_
  rintro e w1 ⟨v1, u1, rfl, hv1, hu1, hb1⟩
  obtain ⟨a1, n1, k1, rfl⟩ := hv1.isAgg
  obtain ⟨a2, n2, k2, rfl⟩ := hu1.isAgg
  have c0 : w1.cell? ⟨w.heap.size + 1, 0, none⟩ = some (.slice b m d) := cell_later hb1 (by simp [go_sem])
  have c1 : w1.cell? ⟨w.heap.size + 1, 1, none⟩ = some (.slice b' m' d') := cell_later hb1 (by simp [go_sem])
  have S1 : Hid (SR w1 ((w1.alloc (.cells #[.slice a1 n1 k1] 66)).alloc (.cells #[.slice a2 n2 k2] 66)) [(.agg #[.slice a2 n2 k2], q), (.agg #[.slice a1 n1 k1], p)] [] [(w1.heap.size + 1, .slice a2 n2 k2), (w1.heap.size, .slice a1 n1 k1)]) := by
    have := ((((sr_start w1).nat hv1).nat hu1).box (.slice a1 n1 k1) 66 _ rfl).box (.slice a2 n2 k2) 66 _ rfl
    simp only [World.size_alloc] at this
    exact this
  have x0 := cell_later S1.out.bel c0
  have x1 := cell_later S1.out.bel c1
  have B1 : Hid (Below w.heap.size w w1) := bel_go ba.out hb1
  clear hv1 hu1 hb1 ba c0 c1
  go_wp2_with fail
  obtain ⟨w2, hw2⟩ : ∃ w2, w2 = (w1.alloc (.cells #[.slice a1 n1 k1] 66)).alloc (.cells #[.slice a2 n2 k2] 66) := ⟨_, rfl⟩
  obtain ⟨b1, hb1⟩ : ∃ b1, b1 = w1.heap.size := ⟨_, rfl⟩
  rw [← hw2, ← hb1] at S1
  rw [← hw2, ← hb1]
  clear hw2 hb1 x0 x1
  refine (parts_any _ r s _ (HH.out.2.1.mono (bel_go B1.out S1.out.bel)) HH.out.2.2.2.2.2.fits).mono ?_
  rintro e w3 ⟨v3, u3, rfl, hv3, hu3, hb3⟩
  obtain ⟨a3, n3, k3, rfl⟩ := hv3.isAgg
  obtain ⟨a4, n4, k4, rfl⟩ := hu3.isAgg
  have S3 : Hid _ := ((((S1.out.go hb3).nat hv3).nat hu3).box (.slice a3 n3 k3) 66 _ rfl).box (.slice a4 n4 k4) 66 _ rfl
  simp only [World.size_alloc] at S3
  clear hv3 hu3 hb3 S1
  go_wp2_with fail
  obtain ⟨w4, hw4⟩ : ∃ w4, w4 = (w3.alloc (.cells #[.slice a3 n3 k3] 66)).alloc (.cells #[.slice a4 n4 k4] 66) := ⟨_, rfl⟩
  obtain ⟨b3, hb3⟩ : ∃ b3, b3 = w3.heap.size := ⟨_, rfl⟩
  rw [← hw4, ← hb3] at S3
  rw [← hw4, ← hb3]
  clear hw4 hb3
  refine wp_region_inv (JB w4 [sNat (p), sNat (s), sNat (p * s), sNat (r), sNat (q), sNat (r * q), sEq (.int .i64 (cmpI (p * s) (r * q))), sEq (.int .i64 (cmpI (p * s) (r * q)))] []) 26 (by kernel_rfl) rfl (by kernel_rfl) (JB.start _ _ _) (fun HG HN => ⟨?_, ?_, ?_, ?_, ?_, ?_, ?_, ?_, trivial⟩) ?_
  · intro L vs a w' hJ hF hP hL
    have q5 : (a.tmps[5]?).getD undef = .pointer (some ⟨b1, 0, none⟩) := hF.old 5 rfl
    have cb := cell_later hJ.bel (S3.out.cell (b1) (.slice a1 n1 k1))
    exact run_val (v := .agg #[.slice a1 n1 k1]) rfl (by simp [execOp, go_sem, q5, cb]) ⟨_, rfl, hJ.step hL rfl (Below.refl _ _) (by exact ((S3.out.at (.agg #[.slice a1 n1 k1]) (p)).mono hJ.bel))⟩
  · intro L vs a w' hJ hF hP hL
    have q8 : (a.tmps[8]?).getD undef = .pointer (some ⟨b3 + 1, 0, none⟩) := hF.old 8 rfl
    have cb := cell_later hJ.bel (S3.out.cell (b3 + 1) (.slice a4 n4 k4))
    exact run_val (v := .agg #[.slice a4 n4 k4]) rfl (by simp [execOp, go_sem, q8, cb]) ⟨_, rfl, hJ.step hL rfl (Below.refl _ _) (by exact ((S3.out.at (.agg #[.slice a4 n4 k4]) (s)).mono hJ.bel))⟩
  · intro L vs a w' hJ hF hP hL
    have p0 : L 0 = true := hP ⟨0, .data⟩ (by simp) rfl
    have s0 : IsNat w' (vs 0) (p) := hJ.sp 0 p0
    have q19 := hF.slot 0 19 rfl p0
    have p1 : L 1 = true := hP ⟨1, .data⟩ (by simp) rfl
    have s1 : IsNat w' (vs 1) (s) := hJ.sp 1 p1
    have q20 := hF.slot 1 20 rfl p1
    refine run_call (f := 128) (args := #[vs 0, vs 1]) rfl (by simp [go_sem, q19, q20]) (mul_short _ _ p s _ s0 s1 HH.out.2.2.1.fits HH.out.2.2.2.2.2.fits (.inl HH.out.2.2.1.p99)) ?_
    rintro e w2 ⟨v, rfl, hv, hb⟩
    exact ⟨_, rfl, _, rfl, hJ.step hL rfl hb (by exact hv)⟩
  · intro L vs a w' hJ hF hP hL
    have q7 : (a.tmps[7]?).getD undef = .pointer (some ⟨b3, 0, none⟩) := hF.old 7 rfl
    have cb := cell_later hJ.bel (S3.out.cell (b3) (.slice a3 n3 k3))
    exact run_val (v := .agg #[.slice a3 n3 k3]) rfl (by simp [execOp, go_sem, q7, cb]) ⟨_, rfl, hJ.step hL rfl (Below.refl _ _) (by exact ((S3.out.at (.agg #[.slice a3 n3 k3]) (r)).mono hJ.bel))⟩
  · intro L vs a w' hJ hF hP hL
    have q6 : (a.tmps[6]?).getD undef = .pointer (some ⟨b1 + 1, 0, none⟩) := hF.old 6 rfl
    have cb := cell_later hJ.bel (S3.out.cell (b1 + 1) (.slice a2 n2 k2))
    exact run_val (v := .agg #[.slice a2 n2 k2]) rfl (by simp [execOp, go_sem, q6, cb]) ⟨_, rfl, hJ.step hL rfl (Below.refl _ _) (by exact ((S3.out.at (.agg #[.slice a2 n2 k2]) (q)).mono hJ.bel))⟩
  · intro L vs a w' hJ hF hP hL
    have p3 : L 3 = true := hP ⟨3, .data⟩ (by simp) rfl
    have s3 : IsNat w' (vs 3) (r) := hJ.sp 3 p3
    have q22 := hF.slot 3 22 rfl p3
    have p4 : L 4 = true := hP ⟨4, .data⟩ (by simp) rfl
    have s4 : IsNat w' (vs 4) (q) := hJ.sp 4 p4
    have q23 := hF.slot 4 23 rfl p4
    refine run_call (f := 128) (args := #[vs 3, vs 4]) rfl (by simp [go_sem, q22, q23]) (mul_short _ _ r q _ s3 s4 HH.out.2.2.2.2.1.fits HH.out.2.2.2.1.fits (.inl HH.out.2.2.2.2.1.p99)) ?_
    rintro e w2 ⟨v, rfl, hv, hb⟩
    exact ⟨_, rfl, _, rfl, hJ.step hL rfl hb (by exact hv)⟩
  · intro L vs a w' hJ hF hP hL
    have p2 : L 2 = true := hP ⟨2, .data⟩ (by simp) rfl
    have s2 : IsNat w' (vs 2) (p * s) := hJ.sp 2 p2
    have q21 := hF.slot 2 21 rfl p2
    have p5 : L 5 = true := hP ⟨5, .data⟩ (by simp) rfl
    have s5 : IsNat w' (vs 5) (r * q) := hJ.sp 5 p5
    have q24 := hF.slot 5 24 rfl p5
    refine run_call (f := 125) (args := #[vs 2, vs 5]) rfl (by simp [go_sem, q21, q24]) (cmp_any _ _ (p * s) (r * q) _ s2 s5 HM.out.1 HM.out.2) ?_
    rintro e w2 ⟨rfl, hb⟩
    exact ⟨_, rfl, _, rfl, hJ.step hL rfl hb (by exact rfl)⟩
  · intro L vs a w' hJ hF hP hL
    have p6 : L 6 = true := hP ⟨6, .data⟩ (by simp) rfl
    have s6 : vs 6 = .int .i64 (cmpI (p * s) (r * q)) := hJ.sp 6 p6
    have q25 := hF.slot 6 25 rfl p6
    exact run_val (v := .int .i64 (cmpI (p * s) (r * q))) rfl (by simp [execOp, go_sem, q25, s6]) ⟨_, rfl, hJ.step hL rfl (Below.refl _ _) (by exact rfl)⟩
  intro L vs w' hA hJ
  have s7 : vs 7 = .int .i64 (cmpI (p * s) (r * q)) := hJ.sp 7 (hA 7 (by simp))
  simp only [putL, Act.put, List.setIfInBounds_toArray, List.set_cons_zero, List.set_cons_succ, Nat.reduceAdd]
  simp only [s7]
  go_wp2_with fail
  go_ret
  exact ⟨rfl, bel_go B1.out (S3.out.go hJ.bel).bel⟩
end Go.Proofs.YtchomkadekikdaaGreatDoor

namespace Go.Proofs.YtchomkadekikdaaGreatDoor
open Go.RowKit
set_option maxRecDepth 100000
set_option linter.unusedVariables false
/-- Five numbers side by side. -/
def IsCom (w : World) (v : Value) (x1 x2 x3 x4 x5 : Nat) : Prop := ∃ a1 n1 c1 a2 n2 c2 a3 n3 c3 a4 n4 c4 a5 n5 c5, v = .agg #[.slice a1 n1 c1, .slice a2 n2 c2, .slice a3 n3 c3, .slice a4 n4 c4, .slice a5 n5 c5] ∧ IsNat w (.agg #[.slice a1 n1 c1]) x1 ∧ IsNat w (.agg #[.slice a2 n2 c2]) x2 ∧ IsNat w (.agg #[.slice a3 n3 c3]) x3 ∧ IsNat w (.agg #[.slice a4 n4 c4]) x4 ∧ IsNat w (.agg #[.slice a5 n5 c5]) x5
theorem IsCom.mono {w w' : World} {v : Value} {x1 x2 x3 x4 x5 : Nat} (h : IsCom w v x1 x2 x3 x4 x5) (hb : Below w.heap.size w w') : IsCom w' v x1 x2 x3 x4 x5 := by
  obtain ⟨a1, n1, c1, a2, n2, c2, a3, n3, c3, a4, n4, c4, a5, n5, c5, e, h1, h2, h3, h4, h5⟩ := h
  exact ⟨_, _, _, _, _, _, _, _, _, _, _, _, _, _, _, e, h1.mono hb, h2.mono hb, h3.mono hb, h4.mono hb, h5.mono hb⟩
theorem IsCom.setCell {w : World} {v : Value} {x1 x2 x3 x4 x5 : Nat} (h : IsCom w v x1 x2 x3 x4 x5) {x : Addr} (hp : ∀ k q, w.cell? x ≠ some (.int k q)) (u : Value) : IsCom (w.setCell x u) v x1 x2 x3 x4 x5 := by
  obtain ⟨a1, n1, c1, a2, n2, c2, a3, n3, c3, a4, n4, c4, a5, n5, c5, e, h1, h2, h3, h4, h5⟩ := h
  exact ⟨_, _, _, _, _, _, _, _, _, _, _, _, _, _, _, e, h1.setCell hp u, h2.setCell hp u, h3.setCell hp u, h4.setCell hp u, h5.setCell hp u⟩
/-- Five empty cells of a box. -/
def Five (w : World) (r : Nat) : Prop := ∀ i, i < 5 → w.cell? ⟨r, i, none⟩ = some (.slice none 0 0) ∧ w.frozen? ⟨r, i, none⟩ = false
theorem Five.go {w w' : World} {r : Nat} (h : Five w r) (hb : Below w.heap.size w w') : Five w' r := fun i hi =>
  ⟨cell_later hb (h i hi).1, (hb.frozen (World.block_lt_of_cell? _ _ (h i hi).1)).trans (h i hi).2⟩
end Go.Proofs.YtchomkadekikdaaGreatDoor

namespace Go.Proofs.YtchomkadekikdaaGreatDoor
open Go.RowKit
set_option maxRecDepth 100000
set_option linter.unusedVariables false
end Go.Proofs.YtchomkadekikdaaGreatDoor

namespace Go.Proofs.YtchomkadekikdaaGreatDoor
open Go.RowKit
set_option maxRecDepth 100000
set_option linter.unusedVariables false
end Go.Proofs.YtchomkadekikdaaGreatDoor

namespace Go.Proofs.YtchomkadekikdaaGreatDoor
open Go.RowKit
set_option maxRecDepth 100000
set_option linter.unusedVariables false
end Go.Proofs.YtchomkadekikdaaGreatDoor

namespace Go.Proofs.YtchomkadekikdaaGreatDoor
open Go.RowKit
set_option maxRecDepth 100000
set_option linter.unusedVariables false
/-- What is known of a world: fractions of both kinds, what lies in cells, and that what was is as it was. -/
structure SQ (w0 w : World) (F G : List (Value × Nat × Nat)) (C : List (Nat × Nat × Value)) : Prop where
  frs : ∀ p ∈ F, Rt w p.1 p.2.1 p.2.2
  rfrs : ∀ p ∈ G, RRt w p.1 p.2.1 p.2.2
  cells : ∀ p ∈ C, w.cell? ⟨p.1, p.2.1, none⟩ = some p.2.2
  bel : Below w0.heap.size w0 w
theorem SQ.go {w0 w w' : World} {F G : List (Value × Nat × Nat)} {C : List (Nat × Nat × Value)} (h : SQ w0 w F G C) (hb : Below w.heap.size w w') : SQ w0 w' F G C :=
  ⟨fun p hp => (h.frs p hp).mono hb, fun p hp => (h.rfrs p hp).mono hb, fun p hp => cell_later hb (h.cells p hp), bel_go h.bel hb⟩
theorem SQ.fr {w0 w : World} {F G : List (Value × Nat × Nat)} {C : List (Nat × Nat × Value)} (h : SQ w0 w F G C) (v : Value) (p q : Nat) (hm : (v, p, q) ∈ F := by simp) : Rt w v p q := h.frs _ hm
theorem SQ.cel {w0 w : World} {F G : List (Value × Nat × Nat)} {C : List (Nat × Nat × Value)} (h : SQ w0 w F G C) (b i : Nat) (u : Value) (hm : (b, i, u) ∈ C := by simp) : w.cell? ⟨b, i, none⟩ = some u := h.cells _ hm
theorem SQ.addF {w0 w : World} {F G : List (Value × Nat × Nat)} {C : List (Nat × Nat × Value)} (h : SQ w0 w F G C) {v : Value} {p q : Nat} (hv : Rt w v p q) : SQ w0 w ((v, p, q) :: F) G C :=
  ⟨fun x hx => by
    rcases List.mem_cons.1 hx with e | e
    · subst e; exact hv
    · exact h.frs x e, h.rfrs, h.cells, h.bel⟩
theorem SQ.addC {w0 w : World} {F G : List (Value × Nat × Nat)} {C : List (Nat × Nat × Value)} (h : SQ w0 w F G C) {b i : Nat} {v : Value} (hv : w.cell? ⟨b, i, none⟩ = some v) : SQ w0 w F G ((b, i, v) :: C) :=
  ⟨h.frs, h.rfrs, fun x hx => by
    rcases List.mem_cons.1 hx with e | e
    · subst e; exact hv
    · exact h.cells x e, h.bel⟩
theorem SQ.box {w0 w : World} {F G : List (Value × Nat × Nat)} {C : List (Nat × Nat × Value)} (h : SQ w0 w F G C) (u u' : Value) (t : TypeId) (g : Nat) (hg : g = w.heap.size) : SQ w0 (w.alloc (.cells #[u, u'] t)) F G ((g, 0, u) :: (g, 1, u') :: C) := by
  subst hg
  have h' := h.go (w' := w.alloc (.cells #[u, u'] t)) (bel_al (Below.refl _ _))
  exact (h'.addC (b := w.heap.size) (i := 1) (v := u') (by simp)).addC (by simp)
/-- A new box of two cells (who makes it, who stores into it, whose value). -/
def Box2 (w0 : World) (L : Nat → Bool) (vs : Nat → Value) (w : World) (b : Nat × Nat × Nat) : Prop :=
  ∃ bk, vs b.1 = .pointer (some ⟨bk, 0, none⟩) ∧ w0.heap.size ≤ bk ∧ bk < w.heap.size ∧ w.frozen? ⟨bk, 0, none⟩ = false ∧ w.frozen? ⟨bk, 1, none⟩ = false ∧ (L b.2.1 = false → w.cell? ⟨bk, 0, none⟩ = some (.slice none 0 0) ∧ w.cell? ⟨bk, 1, none⟩ = some (.slice none 0 0)) ∧ (L b.2.1 = true → L b.2.2 = true ∧ ∃ u u', vs b.2.2 = .agg #[u, u'] ∧ w.cell? ⟨bk, 0, none⟩ = some u ∧ w.cell? ⟨bk, 1, none⟩ = some u')
structure JC (w0 : World) (specs : List Spec) (b : Nat × Nat × Nat) (L : Nat → Bool) (vs : Nat → Value) (w : World) : Prop where
  bel : Below w0.heap.size w0 w
  sp : ∀ i, L i = true → (specs.getD i sAny).1 w (vs i)
  bx : L b.1 = true → Box2 w0 L vs w b
  cl : L b.2.1 = true → L b.1 = true
theorem JC.start (w : World) (specs : List Spec) (b : Nat × Nat × Nat) : JC w specs b (fun _ => false) (fun _ => undef) w.drew :=
  ⟨bel_dr (Below.refl _ _), (fun _ h => by cases h), (fun h => by cases h), (fun h => by cases h)⟩
theorem JC.step {w0 : World} {specs : List Spec} {b : Nat × Nat × Nat} {L : Nat → Bool} {vs : Nat → Value} {w w' : World} (h : JC w0 specs b L vs w) {i : Nat} (hL : L i = false) (hf : freeB [b] i = true) (hb : Below w.heap.size w w') {v : Value} (hs : (specs.getD i sAny).1 w' v) : JC w0 specs b (updB L i) (updV vs i v) w' := by
  have hne : b.1 ≠ i ∧ b.2.1 ≠ i := by simpa [freeB] using hf
  have oldV : ∀ j, L j = true → updV vs i v j = vs j := fun j hj => by
    have : j ≠ i := fun e => by rw [e, hL] at hj; cases hj
    simp [updV, this]
  refine ⟨bel_go h.bel hb, fun j hj => ?_, fun hLb => ?_, fun hs' => ?_⟩
  · by_cases e : j = i
    · subst e
      simpa [updV] using hs
    · have hj' : L j = true := by simpa [updB, e] using hj
      rw [oldV j hj']
      exact (specs.getD j sAny).2.mono (h.sp j hj') hb
  · have hLb' : L b.1 = true := by simpa [updB, hne.1] using hLb
    obtain ⟨bk, e1, e2, e3, e4, e4', e5, e6⟩ := h.bx hLb'
    have hc0 : w'.cell? ⟨bk, 0, none⟩ = w.cell? ⟨bk, 0, none⟩ := hb.cell (p := ⟨bk, 0, none⟩) e3
    have hc1 : w'.cell? ⟨bk, 1, none⟩ = w.cell? ⟨bk, 1, none⟩ := hb.cell (p := ⟨bk, 1, none⟩) e3
    refine ⟨bk, by rw [oldV _ hLb']; exact e1, e2, Nat.lt_of_lt_of_le e3 hb.size, (hb.frozen (p := ⟨bk, 0, none⟩) e3).trans e4, (hb.frozen (p := ⟨bk, 1, none⟩) e3).trans e4', fun hs' => ?_, fun hs' => ?_⟩
    · rw [hc0, hc1]
      exact e5 (by simpa [updB, hne.2] using hs')
    · obtain ⟨q1, u, u', q2, q3, q4⟩ := e6 (by simpa [updB, hne.2] using hs')
      refine ⟨by unfold updB; split <;> simp_all, u, u', ?_, by rw [hc0]; exact q3, by rw [hc1]; exact q4⟩
      rw [oldV _ q1]
      exact q2
  · have := h.cl (by simpa [updB, hne.2] using hs')
    unfold updB; split <;> simp_all
theorem JC.alloc {w0 : World} {specs : List Spec} {b : Nat × Nat × Nat} {L : Nat → Bool} {vs : Nat → Value} {w : World} (h : JC w0 specs b L vs w) {i : Nat} (hL : L i = false) (hi : b.1 = i) (hns : b.2.1 ≠ i) (hsp : specs.getD i sAny = sAny) (t : TypeId) :
    JC w0 specs b (updB L i) (updV vs i (.pointer (some ⟨w.heap.size, 0, none⟩))) (w.alloc (.cells #[.slice none 0 0, .slice none 0 0] t)) := by
  have hb : Below w.heap.size w (w.alloc (.cells #[.slice none 0 0, .slice none 0 0] t)) := (Below.refl _ _).alloc (Nat.le_refl _) _
  have oldV : ∀ j, L j = true → updV vs i (.pointer (some ⟨w.heap.size, 0, none⟩)) j = vs j := fun j hj => by
    have : j ≠ i := fun e => by rw [e, hL] at hj; cases hj
    simp [updV, this]
  have hst : L b.2.1 = false := by
    cases hs' : L b.2.1
    · rfl
    · have := h.cl hs'
      rw [hi, hL] at this
      cases this
  refine ⟨bel_go h.bel hb, fun j hj => ?_, fun _ => ?_, fun hs' => ?_⟩
  · by_cases e : j = i
    · subst e
      rw [hsp]
      trivial
    · have hj' : L j = true := by simpa [updB, e] using hj
      rw [oldV j hj']
      exact (specs.getD j sAny).2.mono (h.sp j hj') hb
  · refine ⟨w.heap.size, by rw [hi]; simp [updV], h.bel.size, by simp, by simp [go_sem], by simp [go_sem], fun _ => by simp [go_sem], fun hs' => ?_⟩
    simp [updB, hns, hst] at hs'
  · simp [updB, hns, hst] at hs'
theorem JC.store {w0 : World} {specs : List Spec} {b : Nat × Nat × Nat} {L : Nat → Bool} {vs : Nat → Value} {w : World} (h : JC w0 specs b L vs w) (hL : L b.2.1 = false) (hA : L b.1 = true) (hV : L b.2.2 = true) (hone : b.1 ≠ b.2.1) (hsp : specs.getD b.2.1 sAny = sAny) {bk : Nat} {u u' : Value} (hp : vs b.1 = .pointer (some ⟨bk, 0, none⟩)) (hu : vs b.2.2 = .agg #[u, u']) :
    JC w0 specs b (updB L b.2.1) (updV vs b.2.1 undef) ((w.setCell ⟨bk, 0, none⟩ u).setCell ⟨bk, 1, none⟩ u') := by
  have oldV : ∀ j, L j = true → updV vs b.2.1 undef j = vs j := fun j hj => by
    have : j ≠ b.2.1 := fun e => by rw [e, hL] at hj; cases hj
    simp [updV, this]
  obtain ⟨bk', e1, e2, e3, e4, e4', e5, e6⟩ := h.bx hA
  obtain rfl : bk' = bk := by rw [e1] at hp; cases hp; rfl
  obtain ⟨hc0, hc1⟩ := e5 hL
  obtain ⟨n1, n2⟩ := two_set hc0 hc1 u
  have hd : (w.setCell ⟨bk', 0, none⟩ u).cell? ⟨bk', 1, none⟩ = some (.slice none 0 0) := by rw [World.cell?_setCell_other (h := by simp), hc1]
  refine ⟨(h.bel.setCell (p := ⟨bk', 0, none⟩) e2 u).setCell (p := ⟨bk', 1, none⟩) e2 u', fun j hj => ?_, fun _ => ?_, fun _ => ?_⟩
  · by_cases e : j = b.2.1
    · subst e
      rw [hsp]
      trivial
    · have hj' : L j = true := by simpa [updB, e] using hj
      rw [oldV j hj']
      exact (specs.getD j sAny).2.set ((specs.getD j sAny).2.set (h.sp j hj') n1 u) n2 u'
  · refine ⟨bk', by rw [oldV _ hA]; exact e1, e2, by simpa [World.setCell] using e3, by simp [World.frozen?_setCell, e4], by simp [World.frozen?_setCell, e4'], fun hs' => ?_, fun _ => ⟨?_, u, u', ?_, ?_, ?_⟩⟩
    · simp [updB] at hs'
    · unfold updB; split <;> simp_all
    · rw [oldV _ hV]; exact hu
    · rw [World.cell?_setCell_other (h := by simp)]
      simp [go_sem, hc0]
    · simp [go_sem, hd]
  · simp [updB, hone, hA]
end Go.Proofs.YtchomkadekikdaaGreatDoor

namespace Go.Proofs.YtchomkadekikdaaGreatDoor
open Go.RowKit
set_option maxRecDepth 100000
set_option linter.unusedVariables false
theorem BSl.min {w : World} {a : Option Addr} {n cap : Nat} {D : Nat → Nat} (h : BSl w a n cap D) (m : Nat) : BSl w a (Min.min n m) cap D := by
  obtain ⟨h1, h2, h3, h4⟩ := h
  refine ⟨by omega, h2, fun i hi => h3 i (by omega), ?_⟩
  rcases h4 with h4 | ⟨b, o, e, h4⟩
  · exact .inl (by omega)
  · exact .inr ⟨b, o, e, fun i hi => h4 i (by omega)⟩
end Go.Proofs.YtchomkadekikdaaGreatDoor

namespace Go.Proofs.YtchomkadekikdaaGreatDoor
open Go.RowKit
set_option maxRecDepth 100000
set_option linter.unusedVariables false
/-- A box of two cells that is still as it was made. -/
def Zer (w : World) (r : Nat) : Prop := ∀ i, i < 2 → w.cell? ⟨r, i, none⟩ = some (.slice none 0 0) ∧ w.frozen? ⟨r, i, none⟩ = false
theorem Zer.go {w w' : World} {r : Nat} (h : Zer w r) (hb : Below w.heap.size w w') : Zer w' r := fun i hi =>
  ⟨cell_later hb (h i hi).1, (hb.frozen (World.block_lt_of_cell? _ _ (h i hi).1)).trans (h i hi).2⟩
theorem Zer.set {w : World} {r g : Nat} (h : Zer w r) (hg : r ≠ g) (u : Value) : Zer (w.setCell ⟨g, 0, none⟩ u) r := fun i hi =>
  ⟨by rw [World.cell?_setCell_far _ _ _ _ (by simpa using Ne.symm hg)]; exact (h i hi).1, by simp [World.frozen?_setCell, (h i hi).2]⟩
/-- What Made knows of its world: four numbers in four boxes, two results. -/
structure MT (w0 w : World) (b g1 g2 h1 h2 : Nat) (a1 : Option Addr) (n1 c1 : Nat) (a2 : Option Addr) (n2 c2 : Nat) (a3 : Option Addr) (n3 c3 : Nat) (a4 : Option Addr) (n4 c4 : Nat) (x y y' : Nat) : Prop where
  nx : IsNat w (.agg #[.slice a1 n1 c1]) x
  ny : IsNat w (.agg #[.slice a2 n2 c2]) y
  rx : RNat w (.agg #[.slice a3 n3 c3]) x
  ry : RNat w (.agg #[.slice a4 n4 c4]) y'
  c1 : w.cell? ⟨g1, 0, none⟩ = some (.slice a1 n1 c1)
  c2 : w.cell? ⟨g2, 0, none⟩ = some (.slice a2 n2 c2)
  c3 : w.cell? ⟨h1, 0, none⟩ = some (.slice a3 n3 c3)
  c4 : w.cell? ⟨h2, 0, none⟩ = some (.slice a4 n4 c4)
  f2 : w.frozen? ⟨g2, 0, none⟩ = false
  f4 : w.frozen? ⟨h2, 0, none⟩ = false
  z1 : Zer w (b + 1)
  z2 : Zer w (b + 1 + 1)
  bel : Below w0.heap.size w0 w
  ne : g1 ≠ g2 ∧ g1 ≠ h2 ∧ h1 ≠ g2 ∧ h1 ≠ h2 ∧ g2 ≠ h2 ∧ b + 1 ≠ g2 ∧ b + 1 ≠ h2 ∧ b + 1 + 1 ≠ g2 ∧ b + 1 + 1 ≠ h2
  lo : w0.heap.size ≤ g2 ∧ w0.heap.size ≤ h2 ∧ w0.heap.size ≤ b
theorem MT.go {w0 w w' : World} {b g1 g2 h1 h2 : Nat} {a1 : Option Addr} {n1 c1 : Nat} {a2 : Option Addr} {n2 c2 : Nat} {a3 : Option Addr} {n3 c3 : Nat} {a4 : Option Addr} {n4 c4 : Nat} {x y y' : Nat} (h : MT w0 w b g1 g2 h1 h2 a1 n1 c1 a2 n2 c2 a3 n3 c3 a4 n4 c4 x y y') (hb : Below w.heap.size w w') : MT w0 w' b g1 g2 h1 h2 a1 n1 c1 a2 n2 c2 a3 n3 c3 a4 n4 c4 x y y' :=
  ⟨h.nx.mono hb, h.ny.mono hb, h.rx.mono hb, h.ry.mono hb, cell_later hb h.c1, cell_later hb h.c2, cell_later hb h.c3, cell_later hb h.c4, (hb.frozen (World.block_lt_of_cell? _ _ h.c2)).trans h.f2, (hb.frozen (World.block_lt_of_cell? _ _ h.c4)).trans h.f4, h.z1.go hb, h.z2.go hb, bel_go h.bel hb, h.ne, h.lo⟩
theorem far_cell {w : World} {g r : Nat} {u v : Value} (h : w.cell? ⟨r, 0, none⟩ = some v) (hg : r ≠ g) : (w.setCell ⟨g, 0, none⟩ u).cell? ⟨r, 0, none⟩ = some v := by
  rw [World.cell?_setCell_far _ _ _ _ (by simpa using Ne.symm hg)]
  exact h
theorem MT.setR {w0 w : World} {b g1 g2 h1 h2 : Nat} {a1 : Option Addr} {n1 c1 : Nat} {a2 : Option Addr} {n2 c2 : Nat} {a3 : Option Addr} {n3 c3 : Nat} {a4 : Option Addr} {n4 c4 : Nat} {x y y' : Nat} (h : MT w0 w b g1 g2 h1 h2 a1 n1 c1 a2 n2 c2 a3 n3 c3 a4 n4 c4 x y y') {a : Option Addr} {n c z : Nat} (hv : RNat w (.agg #[.slice a n c]) z) : MT w0 (w.setCell ⟨h2, 0, none⟩ (.slice a n c)) b g1 g2 h1 h2 a1 n1 c1 a2 n2 c2 a3 n3 c3 a n c x y z := by
  have hp := no_int_slice h.c4
  obtain ⟨e1, e2, e3, e4, e5, e6, e7, e8, e9⟩ := h.ne
  exact ⟨h.nx.setCell hp _, h.ny.setCell hp _, h.rx.setCell hp _, hv.setCell hp _, far_cell h.c1 e2, far_cell h.c2 e5, far_cell h.c3 e4, by simp [go_sem, h.c4], by simp [World.frozen?_setCell, h.f2], by simp [World.frozen?_setCell, h.f4], h.z1.set e7 _, h.z2.set e9 _, h.bel.setCell (p := ⟨h2, 0, none⟩) h.lo.2.1 _, h.ne, h.lo⟩
end Go.Proofs.YtchomkadekikdaaGreatDoor

namespace Go.Proofs.YtchomkadekikdaaGreatDoor
open Go.RowKit
set_option maxRecDepth 100000
set_option linter.unusedVariables false
/-- What is known of a world: numbers and fractions of both kinds, what lies in cells, and that what was is as it was. -/
structure SX (w0 w : World) (N M : List (Value × Nat)) (F G : List (Value × Nat × Nat)) (C : List (Nat × Nat × Value)) : Prop where
  nats : ∀ p ∈ N, IsNat w p.1 p.2
  rnats : ∀ p ∈ M, RNat w p.1 p.2
  frs : ∀ p ∈ F, Rt w p.1 p.2.1 p.2.2
  rfrs : ∀ p ∈ G, RRt w p.1 p.2.1 p.2.2
  cells : ∀ p ∈ C, w.cell? ⟨p.1, p.2.1, none⟩ = some p.2.2
  bel : Below w0.heap.size w0 w
theorem SX.go {w0 w : World} {N M : List (Value × Nat)} {F G : List (Value × Nat × Nat)} {C : List (Nat × Nat × Value)} (h : SX w0 w N M F G C) {w' : World} (hb : Below w.heap.size w w') : SX w0 w' N M F G C :=
  ⟨fun p hp => (h.nats p hp).mono hb, fun p hp => (h.rnats p hp).mono hb, fun p hp => (h.frs p hp).mono hb, fun p hp => (h.rfrs p hp).mono hb, fun p hp => cell_later hb (h.cells p hp), bel_go h.bel hb⟩
theorem SX.at {w0 w : World} {N M : List (Value × Nat)} {F G : List (Value × Nat × Nat)} {C : List (Nat × Nat × Value)} (h : SX w0 w N M F G C) (v : Value) (x : Nat) (hm : (v, x) ∈ N := by simp) : IsNat w v x := h.nats _ hm
theorem SX.rat {w0 w : World} {N M : List (Value × Nat)} {F G : List (Value × Nat × Nat)} {C : List (Nat × Nat × Value)} (h : SX w0 w N M F G C) (v : Value) (x : Nat) (hm : (v, x) ∈ M := by simp) : RNat w v x := h.rnats _ hm
theorem SX.fr {w0 w : World} {N M : List (Value × Nat)} {F G : List (Value × Nat × Nat)} {C : List (Nat × Nat × Value)} (h : SX w0 w N M F G C) (v : Value) (p q : Nat) (hm : (v, p, q) ∈ F := by simp) : Rt w v p q := h.frs _ hm
theorem SX.cel {w0 w : World} {N M : List (Value × Nat)} {F G : List (Value × Nat × Nat)} {C : List (Nat × Nat × Value)} (h : SX w0 w N M F G C) (b i : Nat) (u : Value) (hm : (b, i, u) ∈ C := by simp) : w.cell? ⟨b, i, none⟩ = some u := h.cells _ hm
theorem SX.cell {w0 w : World} {N M : List (Value × Nat)} {F G : List (Value × Nat × Nat)} {C : List (Nat × Nat × Value)} (h : SX w0 w N M F G C) (b : Nat) (u : Value) (hm : (b, 0, u) ∈ C := by simp) : w.cell? ⟨b, 0, none⟩ = some u := h.cells _ hm
theorem SX.addN {w0 w : World} {N M : List (Value × Nat)} {F G : List (Value × Nat × Nat)} {C : List (Nat × Nat × Value)} (h : SX w0 w N M F G C) {v : Value} {x : Nat} (hv : IsNat w v x) : SX w0 w ((v, x) :: N) M F G C :=
  ⟨fun p hp => by
    rcases List.mem_cons.1 hp with e | e
    · subst e; exact hv
    · exact h.nats p e, h.rnats, h.frs, h.rfrs, h.cells, h.bel⟩
theorem SX.addF {w0 w : World} {N M : List (Value × Nat)} {F G : List (Value × Nat × Nat)} {C : List (Nat × Nat × Value)} (h : SX w0 w N M F G C) {v : Value} {x y : Nat} (hv : Rt w v x y) : SX w0 w N M ((v, x, y) :: F) G C :=
  ⟨h.nats, h.rnats, fun p hp => by
    rcases List.mem_cons.1 hp with e | e
    · subst e; exact hv
    · exact h.frs p e, h.rfrs, h.cells, h.bel⟩
theorem SX.addC {w0 w : World} {N M : List (Value × Nat)} {F G : List (Value × Nat × Nat)} {C : List (Nat × Nat × Value)} (h : SX w0 w N M F G C) {b i : Nat} {v : Value} (hv : w.cell? ⟨b, i, none⟩ = some v) : SX w0 w N M F G ((b, i, v) :: C) :=
  ⟨h.nats, h.rnats, h.frs, h.rfrs, fun p hp => by
    rcases List.mem_cons.1 hp with e | e
    · subst e; exact hv
    · exact h.cells p e, h.bel⟩
theorem SX.box1 {w0 w : World} {N M : List (Value × Nat)} {F G : List (Value × Nat × Nat)} {C : List (Nat × Nat × Value)} (h : SX w0 w N M F G C) (u : Value) (t : TypeId) (g : Nat) (hg : g = w.heap.size) : SX w0 (w.alloc (.cells #[u] t)) N M F G ((g, 0, u) :: C) := by
  subst hg
  exact (h.go (w' := w.alloc (.cells #[u] t)) (bel_al (Below.refl _ _))).addC (by simp)
theorem SX.box {w0 w : World} {N M : List (Value × Nat)} {F G : List (Value × Nat × Nat)} {C : List (Nat × Nat × Value)} (h : SX w0 w N M F G C) (u u' : Value) (t : TypeId) (g : Nat) (hg : g = w.heap.size) : SX w0 (w.alloc (.cells #[u, u'] t)) N M F G ((g, 0, u) :: (g, 1, u') :: C) := by
  subst hg
  have h' := h.go (w' := w.alloc (.cells #[u, u'] t)) (bel_al (Below.refl _ _))
  exact (h'.addC (b := w.heap.size) (i := 1) (v := u') (by simp)).addC (by simp)
/-- A cell is written over: what lay elsewhere stays. -/
theorem SX.set {w0 w : World} {N M : List (Value × Nat)} {F G : List (Value × Nat × Nat)} {C : List (Nat × Nat × Value)} (h : SX w0 w N M F G C) {b i : Nat} {a : Option Addr} {n c : Nat} (hc : w.cell? ⟨b, i, none⟩ = some (.slice a n c)) (hlo : w0.heap.size ≤ b) (C' : List (Nat × Nat × Value)) (hC : ∀ p ∈ C', p ∈ C ∧ p.1 ≠ b) (u : Value) : SX w0 (w.setCell ⟨b, i, none⟩ u) N M F G C' :=
  ⟨fun p hp => (h.nats p hp).setCell (no_int_slice hc) u, fun p hp => (h.rnats p hp).setCell (no_int_slice hc) u, fun p hp => (h.frs p hp).setCell (no_int_slice hc) u, fun p hp => (h.rfrs p hp).setCell (no_int_slice hc) u,
    fun p hp => by
      rw [World.cell?_setCell_far _ _ _ _ (by simpa using Ne.symm (hC p hp).2)]
      exact h.cells p (hC p hp).1,
    h.bel.setCell (p := ⟨b, i, none⟩) hlo u⟩
theorem sx_start (w : World) : SX w w [] [] [] [] [] := ⟨(fun _ h => by cases h), (fun _ h => by cases h), (fun _ h => by cases h), (fun _ h => by cases h), (fun _ h => by cases h), Below.refl _ _⟩
end Go.Proofs.YtchomkadekikdaaGreatDoor

namespace Go.Proofs.YtchomkadekikdaaGreatDoor
open Go.RowKit
set_option maxRecDepth 100000
set_option linter.unusedVariables false
/-- An invariant: while the answer is not stored, all is as without boxes; once it is, all else is done. -/
structure JD (w0 : World) (specs : List Spec) (needs : List (List Nat)) (st val : Nat) (oth : List Nat) (Sto : World → Value → World → Prop) (L : Nat → Bool) (vs : Nat → Value) (w : World) : Prop where
  core : L st = false → JB w0 specs [] L vs w
  cl : ∀ j, L j = true → ∀ k ∈ needs.getD j [], L k = true
  fin : L st = true → (∀ j ∈ oth, L j = true) ∧ ∃ w1, Below w0.heap.size w0 w1 ∧ (specs.getD val sAny).1 w1 (vs val) ∧ Sto w1 (vs val) w
theorem JD.start (w : World) (specs : List Spec) (needs : List (List Nat)) (st val : Nat) (oth : List Nat) (Sto : World → Value → World → Prop) : JD w specs needs st val oth Sto (fun _ => false) (fun _ => undef) w.drew :=
  ⟨fun _ => JB.start _ _ _, (fun _ h => by cases h), (fun h => by cases h)⟩
theorem nd_nil {L : Nat → Bool} : ∀ k ∈ ([] : List Nat), L k = true := fun _ h => by cases h
theorem nd_cons {L : Nat → Bool} {a : Nat} {l : List Nat} (h : L a = true) (k : ∀ j ∈ l, L j = true) : ∀ j ∈ a :: l, L j = true := fun j hj => by
  rcases List.mem_cons.1 hj with e | e
  · rw [e]; exact h
  · exact k j e
theorem JD.open {w0 : World} {specs : List Spec} {needs : List (List Nat)} {st val : Nat} {oth : List Nat} {Sto : World → Value → World → Prop} {L : Nat → Bool} {vs : Nat → Value} {w : World} (h : JD w0 specs needs st val oth Sto L vs w) {i : Nat} (hL : L i = false) (hi : i ∈ oth) : JB w0 specs [] L vs w :=
  h.core (by
    cases e : L st
    · rfl
    · have := (h.fin e).1 i hi
      rw [hL] at this
      cases this)
theorem JD.step {w0 : World} {specs : List Spec} {needs : List (List Nat)} {st val : Nat} {oth : List Nat} {Sto : World → Value → World → Prop} {L : Nat → Bool} {vs : Nat → Value} {w : World} (h : JD w0 specs needs st val oth Sto L vs w) {i : Nat} (hL : L i = false) (hi : i ∈ oth) (hne : i ≠ st) {nd : List Nat} (he : needs.getD i [] = nd) (hn : ∀ k ∈ nd, L k = true) {v : Value} {w' : World} (k : JB w0 specs [] (updB L i) (updV vs i v) w') : JD w0 specs needs st val oth Sto (updB L i) (updV vs i v) w' := by
  refine ⟨fun _ => k, fun j hj m hm => ?_, fun hs => ?_⟩
  · by_cases e : j = i
    · subst e
      rw [he] at hm
      have := hn m hm
      unfold updB; split <;> simp_all
    · have := h.cl j (by simpa [updB, e] using hj) m hm
      unfold updB; split <;> simp_all
  · have hs' : L st = true := by simpa [updB, hne.symm] using hs
    have := (h.fin hs').1 i hi
    rw [hL] at this
    cases this
theorem JD.put {w0 : World} {specs : List Spec} {needs : List (List Nat)} {st val : Nat} {oth : List Nat} {Sto : World → Value → World → Prop} {L : Nat → Bool} {vs : Nat → Value} {w : World} (h : JD w0 specs needs st val oth Sto L vs w) (hL : L st = false) (hv : val ≠ st) {nd : List Nat} (he : needs.getD st [] = nd) (hn : ∀ k ∈ nd, L k = true) (ho : ∀ j ∈ oth, L j = true) (hV : L val = true) {w' : World} (hs : Sto w (vs val) w') : JD w0 specs needs st val oth Sto (updB L st) (updV vs st undef) w' := by
  have J := h.core hL
  refine ⟨fun e => ?_, fun j hj m hm => ?_, fun _ => ⟨fun j hj => ?_, w, J.bel, ?_, ?_⟩⟩
  · simp [updB] at e
  · by_cases e : j = st
    · subst e
      rw [he] at hm
      have := hn m hm
      unfold updB; split <;> simp_all
    · have := h.cl j (by simpa [updB, e] using hj) m hm
      unfold updB; split <;> simp_all
  · have := ho j hj
    unfold updB; split <;> simp_all
  · have : updV vs st undef val = vs val := by simp [updV, hv]
    rw [this]
    exact J.sp val hV
  · have : updV vs st undef val = vs val := by simp [updV, hv]
    rw [this]
    exact hs
end Go.Proofs.YtchomkadekikdaaGreatDoor

namespace Go.Proofs.YtchomkadekikdaaGreatDoor
open Go.RowKit
set_option maxRecDepth 100000
set_option linter.unusedVariables false
/-- What is known of a world; Z: blocks of ours that may be written. -/
structure SY (w0 w : World) (N M : List (Value × Nat)) (F G : List (Value × Nat × Nat)) (C : List (Nat × Nat × Value)) (Z : List Nat) : Prop where
  sx : SX w0 w N M F G C
  fzs : ∀ b ∈ Z, (∀ i, w.frozen? ⟨b, i, none⟩ = false) ∧ w0.heap.size ≤ b ∧ b < w.heap.size
/-- One cell of a box takes the answer. -/
def Sto1 (R : Nat) (w : World) (v : Value) (w' : World) : Prop := ∃ u, v = .agg #[u] ∧ w' = w.setCell ⟨R, 0, none⟩ u
section
variable {w0 w : World} {N M : List (Value × Nat)} {F G : List (Value × Nat × Nat)} {C : List (Nat × Nat × Value)} {Z : List Nat}
theorem sy_start (w : World) : SY w w [] [] [] [] [] [] := ⟨sx_start w, fun _ h => by cases h⟩
theorem SY.bel (h : SY w0 w N M F G C Z) : Below w0.heap.size w0 w := h.sx.bel
theorem SY.go (h : SY w0 w N M F G C Z) {w' : World} (hb : Below w.heap.size w w') : SY w0 w' N M F G C Z :=
  ⟨h.sx.go hb, fun b hz => ⟨fun i => (hb.frozen (p := ⟨b, i, none⟩) (h.fzs b hz).2.2).trans ((h.fzs b hz).1 i), (h.fzs b hz).2.1, Nat.lt_of_lt_of_le (h.fzs b hz).2.2 hb.size⟩⟩
theorem SY.at (h : SY w0 w N M F G C Z) (v : Value) (x : Nat) (hm : (v, x) ∈ N := by simp) : IsNat w v x := h.sx.nats _ hm
theorem SY.rat (h : SY w0 w N M F G C Z) (v : Value) (x : Nat) (hm : (v, x) ∈ M := by simp) : RNat w v x := h.sx.rnats _ hm
theorem SY.fr (h : SY w0 w N M F G C Z) (v : Value) (p q : Nat) (hm : (v, p, q) ∈ F := by simp) : Rt w v p q := h.sx.frs _ hm
theorem SY.cel (h : SY w0 w N M F G C Z) (b i : Nat) (u : Value) (hm : (b, i, u) ∈ C := by simp) : w.cell? ⟨b, i, none⟩ = some u := h.sx.cells _ hm
theorem SY.cell (h : SY w0 w N M F G C Z) (b : Nat) (u : Value) (hm : (b, 0, u) ∈ C := by simp) : w.cell? ⟨b, 0, none⟩ = some u := h.sx.cells _ hm
theorem SY.fz (h : SY w0 w N M F G C Z) (b i : Nat) (hm : b ∈ Z := by simp) : w.frozen? ⟨b, i, none⟩ = false := (h.fzs b hm).1 i
theorem SY.lo (h : SY w0 w N M F G C Z) (b : Nat) (hm : b ∈ Z := by simp) : w0.heap.size ≤ b := (h.fzs b hm).2.1
theorem SY.lt (h : SY w0 w N M F G C Z) (b : Nat) (hm : b ∈ Z := by simp) : b < w.heap.size := (h.fzs b hm).2.2
theorem SY.addN (h : SY w0 w N M F G C Z) {v : Value} {x : Nat} (hv : IsNat w v x) : SY w0 w ((v, x) :: N) M F G C Z := ⟨h.sx.addN hv, h.fzs⟩
theorem SY.addF (h : SY w0 w N M F G C Z) {v : Value} {x y : Nat} (hv : Rt w v x y) : SY w0 w N M ((v, x, y) :: F) G C Z := ⟨h.sx.addF hv, h.fzs⟩
theorem SY.addC (h : SY w0 w N M F G C Z) {b i : Nat} {v : Value} (hv : w.cell? ⟨b, i, none⟩ = some v) : SY w0 w N M F G ((b, i, v) :: C) Z := ⟨h.sx.addC hv, h.fzs⟩
theorem SY.addZ (h : SY w0 w N M F G C Z) {b : Nat} (hv : ∀ i, w.frozen? ⟨b, i, none⟩ = false) (h1 : w0.heap.size ≤ b) (h2 : b < w.heap.size) : SY w0 w N M F G C (b :: Z) :=
  ⟨h.sx, fun x hx => by
    rcases List.mem_cons.1 hx with e | e
    · subst e; exact ⟨hv, h1, h2⟩
    · exact h.fzs x e⟩
theorem SY.box1 (h : SY w0 w N M F G C Z) (u : Value) (t : TypeId) (g : Nat) (hg : g = w.heap.size) : SY w0 (w.alloc (.cells #[u] t)) N M F G ((g, 0, u) :: C) (g :: Z) := by
  subst hg
  have k := h.go (w' := w.alloc (.cells #[u] t)) (bel_al (Below.refl _ _))
  exact SY.addZ ⟨h.sx.box1 u t _ rfl, k.fzs⟩ (fun i => by simp [go_sem]) h.bel.size (by simp)
theorem SY.box (h : SY w0 w N M F G C Z) (u u' : Value) (t : TypeId) (g : Nat) (hg : g = w.heap.size) : SY w0 (w.alloc (.cells #[u, u'] t)) N M F G ((g, 0, u) :: (g, 1, u') :: C) (g :: Z) := by
  subst hg
  have k := h.go (w' := w.alloc (.cells #[u, u'] t)) (bel_al (Below.refl _ _))
  exact SY.addZ ⟨h.sx.box u u' t _ rfl, k.fzs⟩ (fun i => by simp [go_sem]) h.bel.size (by simp)
/-- A cell is written over: what lay elsewhere stays. -/
theorem SY.set (h : SY w0 w N M F G C Z) {b i : Nat} {a : Option Addr} {n c : Nat} (hc : w.cell? ⟨b, i, none⟩ = some (.slice a n c)) (hlo : w0.heap.size ≤ b) (C' : List (Nat × Nat × Value)) (hC : ∀ p ∈ C', p ∈ C ∧ p.1 ≠ b) (u : Value) : SY w0 (w.setCell ⟨b, i, none⟩ u) N M F G C' Z :=
  ⟨h.sx.set hc hlo C' hC u, fun x hx => ⟨fun j => by rw [World.frozen?_setCell]; exact (h.fzs x hx).1 j, (h.fzs x hx).2.1, by simpa [go_sem] using (h.fzs x hx).2.2⟩⟩
theorem SY.sub (h : SY w0 w N M F G C Z) (N' M' : List (Value × Nat)) (F' G' : List (Value × Nat × Nat)) (C' : List (Nat × Nat × Value)) (Z' : List Nat) (h1 : ∀ p ∈ N', p ∈ N) (h2 : ∀ p ∈ M', p ∈ M) (h3 : ∀ p ∈ F', p ∈ F) (h4 : ∀ p ∈ G', p ∈ G) (h5 : ∀ p ∈ C', p ∈ C) (h6 : ∀ p ∈ Z', p ∈ Z) : SY w0 w N' M' F' G' C' Z' :=
  ⟨⟨fun p hp => h.sx.nats p (h1 p hp), fun p hp => h.sx.rnats p (h2 p hp), fun p hp => h.sx.frs p (h3 p hp), fun p hp => h.sx.rfrs p (h4 p hp), fun p hp => h.sx.cells p (h5 p hp), h.sx.bel⟩, fun b hb => h.fzs b (h6 b hb)⟩
/-- The result's cell is written: what is told. -/
theorem SY.ret1 (h : SY w0 w N M F G C Z) {r : Nat} {v : Value} {x : Nat} (hc : w.cell? ⟨r, 0, none⟩ = some (.slice none 0 0)) (hz : r ∈ Z) (hv : IsNat w v x) (u : Value) : IsNat (w.setCell ⟨r, 0, none⟩ u) v x ∧ Below w0.heap.size w0 (w.setCell ⟨r, 0, none⟩ u) :=
  ⟨hv.setCell (no_int_slice hc) u, h.bel.setCell (p := ⟨r, 0, none⟩) (h.lo r hz) u⟩
end
end Go.Proofs.YtchomkadekikdaaGreatDoor

namespace Go.Proofs.YtchomkadekikdaaGreatDoor
open Go.RowKit
set_option linter.unusedVariables false
/-- The whole number nearest to p / q, of two as near the even one. -/
def nearN (p q : Nat) : Nat := if 2 * (p % q) < q then p / q else if 2 * (p % q) = q ∧ p / q % 2 = 0 then p / q else p / q + 1
theorem nearN_le {p q c : Nat} (hq : 0 < q) (h : p < c * q) : nearN p q ≤ c := by
  have h1 : p / q < c := (Nat.div_lt_iff_lt_mul hq).2 h
  unfold nearN
  split
  · omega
  · split <;> omega
theorem nearN_ge {p q c : Nat} (hq : 0 < q) (h : c * q ≤ p) : c ≤ nearN p q := by
  have h1 : c ≤ p / q := (Nat.le_div_iff_mul_le hq).2 h
  unfold nearN
  split
  · omega
  · split <;> omega
def upN (p : Nat) (u : Int) : Nat := p * 2 ^ (-u).toNat
def dnN (q : Nat) (u : Int) : Nat := q * 2 ^ u.toNat
theorem dnN_pos {q : Nat} (h : 0 < q) (u : Int) : 0 < dnN q u := Nat.mul_pos h (Nat.two_pow_pos _)
/-- A unit that is 2^k times as great. -/
theorem unit_up (p q : Nat) (u : Int) (k : Nat) : upN p u * dnN q (u + k) = upN p (u + k) * dnN q u * 2 ^ k := by
  unfold upN dnN
  have e : 2 ^ (-u).toNat * 2 ^ (u + k).toNat = 2 ^ (-(u + k)).toNat * 2 ^ u.toNat * 2 ^ k := by
    rw [← Nat.pow_add, ← Nat.pow_add, ← Nat.pow_add]
    congr 1
    omega
  calc p * 2 ^ (-u).toNat * (q * 2 ^ (u + k).toNat) = p * q * (2 ^ (-u).toNat * 2 ^ (u + k).toNat) := by grind
    _ = p * q * (2 ^ (-(u + k)).toNat * 2 ^ u.toNat * 2 ^ k) := by rw [e]
    _ = p * 2 ^ (-(u + k)).toNat * (q * 2 ^ u.toNat) * 2 ^ k := by grind
/-- Below c units of 2^k times the size: below c 2^k units. -/
theorem unit_lt {p q : Nat} (hq : 0 < q) (u : Int) (k c : Nat) : upN p (u + k) < c * dnN q (u + k) ↔ upN p u < c * 2 ^ k * dnN q u := by
  have h := unit_up p q u k
  have h1 := dnN_pos hq u
  have h2 := dnN_pos hq (u + k)
  have h3 : 0 < 2 ^ k := Nat.two_pow_pos k
  have h4 : 0 < dnN q u * 2 ^ k := Nat.mul_pos h1 h3
  constructor
  · intro hh
    have a : upN p (u + k) * (dnN q u * 2 ^ k) < c * dnN q (u + k) * (dnN q u * 2 ^ k) := Nat.mul_lt_mul_of_pos_right hh h4
    refine Nat.lt_of_mul_lt_mul_right (a := dnN q (u + k)) ?_
    rw [h]
    calc upN p (u + k) * dnN q u * 2 ^ k = upN p (u + k) * (dnN q u * 2 ^ k) := by grind
      _ < c * dnN q (u + k) * (dnN q u * 2 ^ k) := a
      _ = c * 2 ^ k * dnN q u * dnN q (u + k) := by grind
  · intro hh
    have a : upN p u * dnN q (u + k) < c * 2 ^ k * dnN q u * dnN q (u + k) := Nat.mul_lt_mul_of_pos_right hh h2
    rw [h] at a
    refine Nat.lt_of_mul_lt_mul_right (a := dnN q u * 2 ^ k) ?_
    calc upN p (u + k) * (dnN q u * 2 ^ k) = upN p (u + k) * dnN q u * 2 ^ k := by grind
      _ < c * 2 ^ k * dnN q u * dnN q (u + k) := a
      _ = c * dnN q (u + k) * (dnN q u * 2 ^ k) := by grind
theorem unit_le {p q : Nat} (hq : 0 < q) (u : Int) (k c : Nat) : c * dnN q (u + k) ≤ upN p (u + k) ↔ c * 2 ^ k * dnN q u ≤ upN p u := by
  rw [← Nat.not_lt, ← Nat.not_lt, unit_lt hq u k c]
/-- p / q lies in the first units from 2^e to 2^(e+1). -/
def At (p q : Nat) (e : Int) : Prop := dnN q e ≤ upN p e ∧ upN p e < 2 * dnN q e
/-- Where the first bit lies. -/
def flI (p q : Nat) (s : Int) : Int := if upN p s < dnN q s then s - 1 else s
theorem flI_at {p q a b : Nat} (hp : 2 ^ a ≤ p) (hp2 : p < 2 ^ (a + 1)) (hq : 2 ^ b ≤ q) (hq2 : q < 2 ^ (b + 1)) : At p q (flI p q ((a : Int) - b)) := by
  have q0 : 0 < q := Nat.lt_of_lt_of_le (Nat.two_pow_pos b) hq
  obtain ⟨s, hs⟩ : ∃ s : Int, s = (a : Int) - b := ⟨_, rfl⟩
  rw [← hs]
  have hup : upN p s < 2 * dnN q s := by
    unfold upN dnN
    have e1 : p * 2 ^ (-s).toNat < 2 ^ (a + 1) * 2 ^ (-s).toNat := Nat.mul_lt_mul_of_pos_right hp2 (Nat.two_pow_pos _)
    have e2 : 2 ^ b * 2 ^ s.toNat ≤ q * 2 ^ s.toNat := Nat.mul_le_mul_right _ hq
    have e3 : 2 ^ (a + 1) * 2 ^ (-s).toNat = 2 * (2 ^ b * 2 ^ s.toNat) := by
      rw [← Nat.pow_add, ← Nat.pow_add, ← Nat.pow_succ']
      congr 1
      omega
    omega
  have hlo : dnN q s < 2 * upN p s := by
    unfold upN dnN
    have e1 : q * 2 ^ s.toNat < 2 ^ (b + 1) * 2 ^ s.toNat := Nat.mul_lt_mul_of_pos_right hq2 (Nat.two_pow_pos _)
    have e2 : 2 ^ a * 2 ^ (-s).toNat ≤ p * 2 ^ (-s).toNat := Nat.mul_le_mul_right _ hp
    have e3 : 2 ^ (b + 1) * 2 ^ s.toNat = 2 * (2 ^ a * 2 ^ (-s).toNat) := by
      rw [← Nat.pow_add, ← Nat.pow_add, ← Nat.pow_succ']
      congr 1
      omega
    omega
  unfold flI
  split
  · rename_i h
    have k1 := unit_lt (p := p) q0 (s - 1) 1 1
    have e : s - 1 + ((1 : Nat) : Int) = s := by omega
    rw [e] at k1
    have h' : upN p s < 1 * dnN q s := by omega
    have k2 := k1.1 h'
    have k3 := unit_up p q (s - 1) 1
    rw [e] at k3
    refine ⟨?_, by simpa using k2⟩
    have p1 := dnN_pos q0 (s - 1)
    have p2 := dnN_pos q0 s
    refine Nat.le_of_mul_le_mul_right (c := dnN q s) ?_ p2
    rw [k3]
    have : dnN q s * dnN q (s - 1) ≤ 2 * upN p s * dnN q (s - 1) := Nat.mul_le_mul_right _ (Nat.le_of_lt hlo)
    grind
  · exact ⟨by omega, hup⟩
def unI (e : Int) : Int := if e - 52 < -1074 then -1074 else e - 52
def ctN (p q : Nat) (u : Int) : Nat := nearN (upN p u) (dnN q u)
theorem At.lt {p q : Nat} {e : Int} (h : At p q e) (hq : 0 < q) : upN p (unI e) < 9007199254740992 * dnN q (unI e) := by
  obtain ⟨k, hk⟩ : ∃ k : Nat, unI e = e - 52 + k := ⟨(unI e - (e - 52)).toNat, by unfold unI; split <;> omega⟩
  have h1 := (unit_lt (p := p) hq (e - 52) 52 2)
  rw [show e - 52 + ((52 : Nat) : Int) = e by omega] at h1
  have h2 := h1.1 h.2
  rw [hk, unit_lt hq]
  have : 1 ≤ 2 ^ k := Nat.one_le_two_pow
  have h3 : 9007199254740992 * 1 * dnN q (e - 52) ≤ 9007199254740992 * 2 ^ k * dnN q (e - 52) := Nat.mul_le_mul_right _ (Nat.mul_le_mul_left _ this)
  omega
theorem At.ct {p q : Nat} {e : Int} (h : At p q e) (hq : 0 < q) : ctN p q (unI e) ≤ 9007199254740992 := nearN_le (dnN_pos hq _) (h.lt hq)
theorem At.ge {p q : Nat} {e : Int} (h : At p q e) (hq : 0 < q) (hu : unI e = e - 52) : 4503599627370496 * dnN q (unI e) ≤ upN p (unI e) := by
  have h1 := (unit_le (p := p) hq (e - 52) 52 1)
  rw [show e - 52 + ((52 : Nat) : Int) = e by omega] at h1
  have := h1.1 (by have := h.1; omega)
  rw [hu]
  omega
theorem At.ct_ge {p q : Nat} {e : Int} (h : At p q e) (hq : 0 < q) (hu : unI e = e - 52) : 4503599627370496 ≤ ctN p q (unI e) := nearN_ge (dnN_pos hq _) (h.ge hq hu)
/-- Where the first bit lies is one place. -/
theorem At.one {p q : Nat} {e f : Int} (h : At p q e) (k : At p q f) (hq : 0 < q) : e = f := by
  have key : ∀ {e f : Int}, At p q e → At p q f → e ≤ f := by
    intro e f h k
    rcases Int.lt_or_le f e with hh | hh
    · exfalso
      obtain ⟨j, hj⟩ : ∃ j : Nat, e = f + j := ⟨(e - f).toNat, by omega⟩
      have h1 := (unit_le (p := p) hq f j 1)
      rw [← hj] at h1
      have h2 := h1.1 (by have := h.1; omega)
      have h3 : 2 ^ 1 ≤ 2 ^ j := Nat.pow_le_pow_right (by omega) (by omega)
      have h4 : 1 * 2 * dnN q f ≤ 1 * 2 ^ j * dnN q f := Nat.mul_le_mul_right _ (by omega)
      have := k.2
      omega
    · exact hh
  have := key h k
  have := key k h
  omega
theorem nearN_zero {p q : Nat} (h : 2 * p < q) : nearN p q = 0 := by
  have h1 : p / q = 0 := Nat.div_eq_of_lt (by omega)
  have h2 : p % q = p := Nat.mod_eq_of_lt (by omega)
  unfold nearN
  rw [h1, h2, if_pos h]
theorem At.low {p q : Nat} {e : Int} (h : At p q e) (hq : 0 < q) (he : e ≤ -1076) : unI e = -1074 ∧ ctN p q (unI e) = 0 := by
  have hu : unI e = -1074 := by unfold unI; split <;> omega
  refine ⟨hu, ?_⟩
  rw [hu]
  obtain ⟨k, hk⟩ : ∃ k : Nat, (-1075 : Int) = e + (k + 1 : Nat) := ⟨(-1076 - e).toNat, by omega⟩
  have h1 := unit_lt (p := p) hq e (k + 1) 1
  rw [← hk] at h1
  have h2 : upN p (-1075) < 1 * dnN q (-1075) := by
    rw [h1]
    have h3 : 2 ^ 1 ≤ 2 ^ (k + 1) := Nat.pow_le_pow_right (by omega) (by omega)
    have h4 : 1 * 2 * dnN q e ≤ 1 * 2 ^ (k + 1) * dnN q e := Nat.mul_le_mul_right _ (by omega)
    have := h.2
    omega
  refine nearN_zero ?_
  have e1 : upN p (-1075) = 2 * upN p (-1074) := by
    obtain ⟨m, hm⟩ : ∃ m : Nat, m = 1074 := ⟨_, rfl⟩
    unfold upN
    rw [show (-(-1075 : Int)).toNat = m + 1 by omega, show (-(-1074 : Int)).toNat = m by omega, Nat.pow_succ]
    grind
  have e2 : dnN q (-1075) = dnN q (-1074) := by
    unfold dnN
    rw [show (-1075 : Int).toNat = (-1074 : Int).toNat by decide]
  omega
/-- The bits that p / q has whose first bit lies at e. -/
def bitsAt (p q : Nat) (e : Int) : Nat := (unI e + 1074).toNat * 4503599627370496 + ctN p q (unI e)
theorem At.high {p q : Nat} {e : Int} (h : At p q e) (hq : 0 < q) (he : 1024 ≤ e) : 9218868437227405312 ≤ bitsAt p q e := by
  have hu : unI e = e - 52 := by unfold unI; split <;> omega
  have := h.ct_ge hq hu
  unfold bitsAt
  have : 2046 ≤ (unI e + 1074).toNat := by omega
  have : 2046 * 4503599627370496 ≤ (unI e + 1074).toNat * 4503599627370496 := Nat.mul_le_mul_right _ this
  omega
theorem At.bits_low {p q : Nat} {e : Int} (h : At p q e) (hq : 0 < q) (he : e ≤ -1076) : bitsAt p q e = 0 := by
  obtain ⟨h1, h2⟩ := h.low hq he
  unfold bitsAt
  rw [h2, h1]
  rfl
theorem unit_cross {p q r s : Nat} (u : Int) (h : p * s ≤ r * q) : upN p u * dnN s u ≤ upN r u * dnN q u := by
  unfold upN dnN
  have : p * s * (2 ^ (-u).toNat * 2 ^ u.toNat) ≤ r * q * (2 ^ (-u).toNat * 2 ^ u.toNat) := Nat.mul_le_mul_right _ h
  grind
theorem At.mono {p q r s : Nat} {e f : Int} (h : At p q e) (k : At r s f) (hq : 0 < q) (hs : 0 < s) (hle : p * s ≤ r * q) : e ≤ f := by
  rcases Int.lt_or_le f e with hh | hh
  · exfalso
    obtain ⟨j, hj⟩ : ∃ j : Nat, e = f + (j + 1 : Nat) := ⟨(e - f - 1).toNat, by omega⟩
    have h1 := unit_le (p := p) hq f (j + 1) 1
    rw [← hj] at h1
    have h2 := h1.1 (by have := h.1; omega)
    have h3 : 2 ^ 1 ≤ 2 ^ (j + 1) := Nat.pow_le_pow_right (by omega) (by omega)
    have h4 : 1 * 2 * dnN q f ≤ 1 * 2 ^ (j + 1) * dnN q f := Nat.mul_le_mul_right _ (by omega)
    have h5 : 2 * dnN q f ≤ upN p f := by omega
    have h6 := unit_cross f hle
    have h7 := k.2
    have p1 := dnN_pos hq f
    have p2 := dnN_pos hs f
    have h8 : 2 * dnN q f * dnN s f ≤ upN p f * dnN s f := Nat.mul_le_mul_right _ h5
    have h9 : upN r f * dnN q f < 2 * dnN s f * dnN q f := Nat.mul_lt_mul_of_pos_right h7 p1
    grind
  · exact hh
end Go.Proofs.YtchomkadekikdaaGreatDoor

namespace Go.Proofs.YtchomkadekikdaaGreatDoor
open Go.RowKit
set_option maxRecDepth 100000
set_option linter.unusedVariables false
end Go.Proofs.YtchomkadekikdaaGreatDoor

namespace Go.Proofs.YtchomkadekikdaaGreatDoor
open Go.RowKit
set_option maxRecDepth 100000
set_option linter.unusedVariables false
end Go.Proofs.YtchomkadekikdaaGreatDoor

namespace Go.Proofs.YtchomkadekikdaaGreatDoor
open Go.RowKit
set_option maxRecDepth 100000
set_option linter.unusedVariables false
end Go.Proofs.YtchomkadekikdaaGreatDoor

namespace Go.Proofs.YtchomkadekikdaaGreatDoor
open Go.RowKit
set_option maxRecDepth 100000
set_option linter.unusedVariables false
/-- What Sum knows of its world: the sum so far, in the box behind b; the answer's box b; the fractions, in block g. -/
structure SumS (w0 w : World) (b g n : Nat) (E E' : Nat → Value) (X Y : Nat → Nat) (p q : Nat) (a : Option Addr) (m c : Nat) (a' : Option Addr) (m' c' : Nat) : Prop where
  rt : Rt w (.agg #[.slice a m c, .slice a' m' c']) p q
  c0 : w.cell? ⟨b + 1, 0, none⟩ = some (.slice a m c)
  c1 : w.cell? ⟨b + 1, 1, none⟩ = some (.slice a' m' c')
  f0 : w.frozen? ⟨b + 1, 0, none⟩ = false
  f1 : w.frozen? ⟨b + 1, 1, none⟩ = false
  r0 : w.cell? ⟨b, 0, none⟩ = some (.slice none 0 0)
  r1 : w.cell? ⟨b, 1, none⟩ = some (.slice none 0 0)
  g0 : w.frozen? ⟨b, 0, none⟩ = false
  g1 : w.frozen? ⟨b, 1, none⟩ = false
  el : ∀ i, i < n → w.cell? ⟨g, i * 2, none⟩ = some (E i) ∧ w.cell? ⟨g, i * 2 + 1, none⟩ = some (E' i) ∧ Rt w (.agg #[E i, E' i]) (X i) (Y i)
  bel : Below w0.heap.size w0 w
  ne : g < b
  lo : w0.heap.size ≤ b
theorem SumS.go {w0 w w' : World} {b g n : Nat} {E E' : Nat → Value} {X Y : Nat → Nat} {p q : Nat} {a : Option Addr} {m c : Nat} {a' : Option Addr} {m' c' : Nat} (h : SumS w0 w b g n E E' X Y p q a m c a' m' c') (hb : Below w.heap.size w w') : SumS w0 w' b g n E E' X Y p q a m c a' m' c' :=
  ⟨h.rt.mono hb, cell_later hb h.c0, cell_later hb h.c1, (hb.frozen (World.block_lt_of_cell? _ _ h.c0)).trans h.f0, (hb.frozen (World.block_lt_of_cell? _ _ h.c1)).trans h.f1, cell_later hb h.r0, cell_later hb h.r1, (hb.frozen (World.block_lt_of_cell? _ _ h.r0)).trans h.g0, (hb.frozen (World.block_lt_of_cell? _ _ h.r1)).trans h.g1, fun i hi => ⟨cell_later hb (h.el i hi).1, cell_later hb (h.el i hi).2.1, (h.el i hi).2.2.mono hb⟩, bel_go h.bel hb, h.ne, h.lo⟩
theorem SumS.set {w0 w : World} {b g n : Nat} {E E' : Nat → Value} {X Y : Nat → Nat} {p q : Nat} {a : Option Addr} {m c : Nat} {a' : Option Addr} {m' c' : Nat} (h : SumS w0 w b g n E E' X Y p q a m c a' m' c') {s : Option Addr} {k d : Nat} {s' : Option Addr} {k' d' : Nat} {p' q' : Nat} (hv : Rt w (.agg #[.slice s k d, .slice s' k' d']) p' q') :
    SumS w0 ((w.setCell ⟨b + 1, 0, none⟩ (.slice s k d)).setCell ⟨b + 1, 1, none⟩ (.slice s' k' d')) b g n E E' X Y p' q' s k d s' k' d' := by
  obtain ⟨n1, n2⟩ := two_set h.c0 h.c1 (.slice s k d)
  have hd : (w.setCell ⟨b + 1, 0, none⟩ (.slice s k d)).cell? ⟨b + 1, 1, none⟩ = some (.slice a' m' c') := by rw [World.cell?_setCell_other (h := by simp), h.c1]
  have far : ∀ r i v, r ≠ b + 1 → w.cell? ⟨r, i, none⟩ = some v → ((w.setCell ⟨b + 1, 0, none⟩ (.slice s k d)).setCell ⟨b + 1, 1, none⟩ (.slice s' k' d')).cell? ⟨r, i, none⟩ = some v := fun r i v hr hc => by
    rw [World.cell?_setCell_far _ _ _ _ (by simpa using Ne.symm hr), World.cell?_setCell_far _ _ _ _ (by simpa using Ne.symm hr)]
    exact hc
  have hne := h.ne
  have hlo := h.lo
  refine ⟨(hv.setCell n1 _).setCell n2 _, ?_, by simp [go_sem, hd], by simp [World.frozen?_setCell, h.f0], by simp [World.frozen?_setCell, h.f1], far b 0 _ (by omega) h.r0, far b 1 _ (by omega) h.r1, by simp [World.frozen?_setCell, h.g0], by simp [World.frozen?_setCell, h.g1], fun i hi => ⟨far g _ _ (by omega) (h.el i hi).1, far g _ _ (by omega) (h.el i hi).2.1, ((h.el i hi).2.2.setCell n1 _).setCell n2 _⟩, (h.bel.setCell (p := ⟨b + 1, 0, none⟩) (by show _ ≤ b + 1; omega) _).setCell (p := ⟨b + 1, 1, none⟩) (by show _ ≤ b + 1; omega) _, h.ne, h.lo⟩
  rw [World.cell?_setCell_other (h := by simp)]
  simp [go_sem, h.c0]
end Go.Proofs.YtchomkadekikdaaGreatDoor

namespace Go.Proofs.YtchomkadekikdaaGreatDoor
open Go.RowKit
set_option maxRecDepth 100000
set_option linter.unusedVariables false
def bt (D : Nat → Nat) : Nat → Value := fun j => .int .u8 ((D j : Nat) : Int)
theorem OR.lower {w : World} {e : TypeId} {base base' n : Nat} {v : Value} {G : Nat → Value} (h : OR w e base v n G) (hb : base' ≤ base) : OR w e base' v n G := by
  rcases h with h | ⟨g, cap, f, rfl, h1, h2⟩
  · exact .inl h
  · exact .inr ⟨g, cap, f, rfl, by omega, h2⟩
def five (j : Nat) : Nat := 201 + j
/-- The first n cells of block g are bytes that may be written. -/
def ByteRow (w : World) (g c n : Nat) (E : Nat → Nat) : Prop := (∃ f, w.rowIs g 5 c f ∧ ∀ i, i < n → f i = bt E i) ∧ n ≤ c
theorem ByteRow.cell {w : World} {g c n : Nat} {E : Nat → Nat} (h : ByteRow w g c n E) {i : Nat} (hi : i < n) : w.cell? ⟨g, i, none⟩ = some (.int .u8 ((E i : Nat) : Int)) := by
  obtain ⟨⟨f, h1, h2⟩, h3⟩ := h
  rw [h1.cell (show i < c by omega), h2 i hi]
  rfl
theorem ByteRow.frozen {w : World} {g c n : Nat} {E : Nat → Nat} (h : ByteRow w g c n E) (i : Nat) : w.frozen? ⟨g, i, none⟩ = false := by
  obtain ⟨⟨f, h1, h2⟩, h3⟩ := h
  exact h1.frozen i
theorem ByteRow.lt {w : World} {g c n : Nat} {E : Nat → Nat} (h : ByteRow w g c n E) : g < w.heap.size := by
  obtain ⟨⟨f, h1, h2⟩, h3⟩ := h
  exact h1.lt
theorem ByteRow.set {w : World} {g c n : Nat} {E : Nat → Nat} (h : ByteRow w g c n E) (i d : Nat) : ByteRow (w.setCell ⟨g, i, none⟩ (.int .u8 (d : Int))) g c n (put E i d) := by
  obtain ⟨⟨f, h1, h2⟩, h3⟩ := h
  refine ⟨⟨_, h1.set i _, fun j hj => ?_⟩, h3⟩
  show (if j = i then _ else f j) = Value.int .u8 ((put E i d j : Nat) : Int)
  by_cases e : j = i
  · subst e
    rw [if_pos rfl, put_same]
  · rw [if_neg e, put_other _ _ e, h2 j hj]
    rfl
theorem ByteRow.below {w w' : World} {g c n : Nat} {E : Nat → Nat} (h : ByteRow w g c n E) (hb : Below w.heap.size w w') : ByteRow w' g c n E := by
  obtain ⟨⟨f, h1, h2⟩, h3⟩ := h
  exact ⟨⟨f, h1.of_block (hb.block g h1.lt), h2⟩, h3⟩
theorem ByteRow.kept {w w' : World} {g c n : Nat} {E : Nat → Nat} (h : ByteRow w g c n E) (hb : w.grownBy w' none) : ByteRow w' g c n E := by
  obtain ⟨⟨f, h1, h2⟩, h3⟩ := h
  exact ⟨⟨f, h1.of_block (hb.block g h1.lt (by simp)), h2⟩, h3⟩
end Go.Proofs.YtchomkadekikdaaGreatDoor

namespace Go.Proofs.YtchomkadekikdaaGreatDoor
open Go.RowKit
set_option maxRecDepth 100000
set_option linter.unusedVariables false
end Go.Proofs.YtchomkadekikdaaGreatDoor

