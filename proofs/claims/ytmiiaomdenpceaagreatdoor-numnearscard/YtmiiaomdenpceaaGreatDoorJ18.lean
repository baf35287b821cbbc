/- Contracts of the program's functions, part 18: own work, joined in build order. -/
import Derived.Test.YtmiiaomdenpceaaGreatDoorJ17
namespace Go.Proofs.YtmiiaomdenpceaaGreatDoor
open Go.RowKit
set_option maxRecDepth 100000
set_option linter.unusedVariables false
/-- p / q, in lowest terms, is N / D; its parts have at most n words. -/
structure Fc (p q N D n : Nat) : Prop where
  low : Nat.gcd p q = 1
  pos : 0 < q
  dpos : 0 < D
  val : p * D = N * q
  s1 : p < P n
  s2 : q < P n
theorem Fc.rs1 {p q N D n : Nat} (h : Fc p q N D n) (hn : n ≤ 90) : RS p := ⟨Nat.lt_of_lt_of_le h.s1 (P_le hn)⟩
theorem Fc.rs2 {p q N D n : Nat} (h : Fc p q N D n) (hn : n ≤ 90) : RS q := ⟨Nat.lt_of_lt_of_le h.s2 (P_le hn)⟩
theorem Fc.own {p q n : Nat} (h1 : Nat.gcd p q = 1) (h2 : 0 < q) (h3 : p < P n) (h4 : q < P n) : Fc p q p q n := ⟨h1, h2, h2, rfl, h3, h4⟩
theorem add_cross {p q x y : Nat} (hq : 0 < q) (hy : 0 < y) (h1 : Nat.gcd p q = 1) (h2 : Nat.gcd x y = 1) : addP p q x y * (q * y) = (p * y + x * q) * addQ p q x y := by
  obtain ⟨e1, e2⟩ := add_same hq hy h1 h2
  obtain ⟨_, t2, _⟩ := low_terms (p * y + x * q) (q * y) (Nat.mul_pos hq hy)
  rw [e1, e2] at t2
  exact t2
theorem mulP_lt {x y n m : Nat} (h : x < P n) (k : y < P m) : x * y < P (n + m) := by
  rw [P_add]
  exact Nat.mul_lt_mul'' h k
theorem P_up {x n m : Nat} (h : x < P n) (hm : n ≤ m) : x < P m := Nat.lt_of_lt_of_le h (P_le hm)
theorem val_add {p q x y N1 D1 N2 D2 A B : Nat} (hq : 0 < q) (hy : 0 < y) (v1 : p * D1 = N1 * q) (v2 : x * D2 = N2 * y) (e : A * (q * y) = (p * y + x * q) * B) : A * (D1 * D2) = (N1 * D2 + N2 * D1) * B := by
  refine Nat.eq_of_mul_eq_mul_right (Nat.mul_pos hq hy) ?_
  have h1 : A * (D1 * D2) * (q * y) = A * (q * y) * (D1 * D2) := by grind
  have h2 : (p * y + x * q) * B * (D1 * D2) = (p * D1 * y * D2 + x * D2 * q * D1) * B := by grind
  rw [h1, e, h2, v1, v2]
  grind
theorem val_sub {p q x y N1 D1 N2 D2 A B : Nat} (hq : 0 < q) (hy : 0 < y) (d1 : 0 < D1) (d2 : 0 < D2) (v1 : p * D1 = N1 * q) (v2 : x * D2 = N2 * y) (hle : x * q ≤ p * y) (e : A * (q * y) = (p * y - x * q) * B) : A * (D1 * D2) = (N1 * D2 - N2 * D1) * B ∧ N2 * D1 ≤ N1 * D2 := by
  have hk : (N1 * D2) * (q * y) = (p * y) * (D1 * D2) := by
    have : (p * y) * (D1 * D2) = p * D1 * y * D2 := by grind
    rw [this, v1]
    grind
  have hk2 : (N2 * D1) * (q * y) = (x * q) * (D1 * D2) := by
    have : (x * q) * (D1 * D2) = x * D2 * q * D1 := by grind
    rw [this, v2]
    grind
  refine ⟨?_, ?_⟩
  · refine Nat.eq_of_mul_eq_mul_right (Nat.mul_pos hq hy) ?_
    have h1 : A * (D1 * D2) * (q * y) = A * (q * y) * (D1 * D2) := by grind
    have h2 : (N1 * D2 - N2 * D1) * B * (q * y) = (N1 * D2 - N2 * D1) * (q * y) * B := by grind
    rw [h1, e, h2, Nat.mul_sub_right_distrib (N1 * D2), hk, hk2, ← Nat.mul_sub_right_distrib]
    grind
  · refine Nat.le_of_mul_le_mul_right (c := q * y) ?_ (Nat.mul_pos hq hy)
    rw [hk, hk2]
    exact Nat.mul_le_mul_right _ hle
theorem val_mul {p q x y N1 D1 N2 D2 A B : Nat} (hq : 0 < q) (hy : 0 < y) (v1 : p * D1 = N1 * q) (v2 : x * D2 = N2 * y) (e : A * (q * y) = p * x * B) : A * (D1 * D2) = N1 * N2 * B := by
  refine Nat.eq_of_mul_eq_mul_right (Nat.mul_pos hq hy) ?_
  have h1 : A * (D1 * D2) * (q * y) = A * (q * y) * (D1 * D2) := by grind
  have h2 : p * x * B * (D1 * D2) = p * D1 * (x * D2) * B := by grind
  rw [h1, e, h2, v1, v2]
  grind
theorem Fc.add {p q N1 D1 n x y N2 D2 m : Nat} (h : Fc p q N1 D1 n) (k : Fc x y N2 D2 m) (hn : n ≤ 90) (hm : m ≤ 90) : ∃ A B, Fc A B (N1 * D2 + N2 * D1) (D1 * D2) (n + m + 1) ∧ (A = addP p q x y ∧ B = addQ p q x y) ∧ ∀ v u w, Rt w v p q → Rt w u x y → Tab w → Calls Tryz.prog 39 #[v, u] w (MakesR w A B) := by
  have low := add_low h.pos k.pos h.low k.low (A := addA p q x y) rfl rfl
  have d1 : y / Nat.gcd q y < P m := Nat.lt_of_le_of_lt (Nat.div_le_self _ _) k.s2
  have d2 : q / Nat.gcd q y < P n := Nat.lt_of_le_of_lt (Nat.div_le_self _ _) h.s2
  have h1 : addA p q x y < P (n + m + 1) := P_twice (mulP_lt h.s1 d1) (by rw [Nat.add_comm n m]; exact mulP_lt k.s1 d2)
  have h2 : addQ p q x y < P (n + m) := mulP_lt d2 (Nat.lt_of_le_of_lt (Nat.div_le_self _ _) k.s2)
  exact ⟨_, _, ⟨low.2.1, low.2.2, Nat.mul_pos h.dpos k.dpos, val_add h.pos k.pos h.val k.val (add_cross h.pos k.pos h.low k.low), Nat.lt_of_le_of_lt (Nat.div_le_self _ _) h1, P_up h2 (by omega)⟩, ⟨rfl, rfl⟩, fun v u w e1 e2 hT => ratAdd_any v u p q x y w e1 e2 (h.rs1 hn) (h.rs2 hn) (k.rs1 hm) (k.rs2 hm) hT⟩
theorem Fc.mul {p q N1 D1 n x y N2 D2 m : Nat} (h : Fc p q N1 D1 n) (k : Fc x y N2 D2 m) (hn : n ≤ 90) (hm : m ≤ 90) : ∃ A B, Fc A B (N1 * N2) (D1 * D2) (n + m) ∧ ∀ v u w, Rt w v p q → Rt w u x y → Tab w → Calls Tryz.prog 82 #[v, u] w (MakesR w A B) := by
  have low := mul_low h.pos k.pos h.low k.low
  exact ⟨_, _, ⟨low.1, low.2.1, Nat.mul_pos h.dpos k.dpos, val_mul h.pos k.pos h.val k.val low.2.2, mulP_lt (Nat.lt_of_le_of_lt (Nat.div_le_self _ _) h.s1) (Nat.lt_of_le_of_lt (Nat.div_le_self _ _) k.s1), mulP_lt (Nat.lt_of_le_of_lt (Nat.div_le_self _ _) h.s2) (Nat.lt_of_le_of_lt (Nat.div_le_self _ _) k.s2)⟩, fun v u w e1 e2 hT => ratMul_any v u p q x y w e1 e2 (h.rs1 hn) (h.rs2 hn) (k.rs1 hm) (k.rs2 hm) hT⟩
theorem Fc.cross {p q N1 D1 n x y N2 D2 m : Nat} (h : Fc p q N1 D1 n) (k : Fc x y N2 D2 m) : (p * y) * (D1 * D2) = (N1 * D2) * (q * y) ∧ (x * q) * (D1 * D2) = (N2 * D1) * (q * y) := by
  constructor
  · have : (p * y) * (D1 * D2) = p * D1 * (y * D2) := by grind
    rw [this, h.val]
    grind
  · have : (x * q) * (D1 * D2) = x * D2 * (q * D1) := by grind
    rw [this, k.val]
    grind
theorem Fc.le {p q N1 D1 n x y N2 D2 m : Nat} (h : Fc p q N1 D1 n) (k : Fc x y N2 D2 m) : x * q ≤ p * y ↔ N2 * D1 ≤ N1 * D2 := by
  obtain ⟨e1, e2⟩ := h.cross k
  have hd := Nat.mul_pos h.dpos k.dpos
  have hq := Nat.mul_pos h.pos k.pos
  rw [← Nat.mul_le_mul_right_iff hd, e1, e2, Nat.mul_le_mul_right_iff hq]
theorem Fc.sub {p q N1 D1 n x y N2 D2 m : Nat} (h : Fc p q N1 D1 n) (k : Fc x y N2 D2 m) (hn : n ≤ 90) (hm : m ≤ 90) (hle : N2 * D1 ≤ N1 * D2) : ∃ A B, Fc A B (N1 * D2 - N2 * D1) (D1 * D2) (n + m) ∧ ∀ v u w, Rt w v p q → Rt w u x y → Tab w → Calls Tryz.prog 78 #[v, u] w (MakesRB w A B true) := by
  have hle' := (h.le k).2 hle
  have low := sub_low h.pos k.pos h.low k.low hle'
  have d1 : y / Nat.gcd q y < P m := Nat.lt_of_le_of_lt (Nat.div_le_self _ _) k.s2
  have d2 : q / Nat.gcd q y < P n := Nat.lt_of_le_of_lt (Nat.div_le_self _ _) h.s2
  have h1 : subA p q x y < P (n + m) := Nat.lt_of_le_of_lt (Nat.sub_le _ _) (mulP_lt h.s1 d1)
  have h2 : subQ p q x y < P (n + m) := mulP_lt d2 (Nat.lt_of_le_of_lt (Nat.div_le_self _ _) k.s2)
  exact ⟨_, _, ⟨low.1, low.2.1, Nat.mul_pos h.dpos k.dpos, (val_sub h.pos k.pos h.dpos k.dpos h.val k.val hle' low.2.2).1, Nat.lt_of_le_of_lt (Nat.div_le_self _ _) h1, h2⟩, fun v u w e1 e2 hT => ratSub_yes v u p q x y w e1 e2 (h.rs1 hn) (h.rs2 hn) (k.rs1 hm) (k.rs2 hm) hle' hT⟩
theorem Fc.zero {p q N D n : Nat} (h : Fc p q N D n) : p = 0 ↔ N = 0 := by
  have h1 := h.val
  have h2 := h.pos
  have h3 := h.dpos
  constructor
  · rintro rfl
    rw [Nat.zero_mul] at h1
    rcases Nat.mul_eq_zero.1 h1.symm with e | e
    · exact e
    · omega
  · rintro rfl
    rw [Nat.zero_mul] at h1
    rcases Nat.mul_eq_zero.1 h1 with e | e
    · exact e
    · omega
theorem cmp_scale {a b c d s t : Nat} (hs : 0 < s) (ht : 0 < t) (e1 : a * s = c * t) (e2 : b * s = d * t) : cmpI a b = cmpI c d := by
  have l1 : a < b ↔ c < d := by rw [← Nat.mul_lt_mul_right hs, e1, e2, Nat.mul_lt_mul_right ht]
  have l2 : b < a ↔ d < c := by rw [← Nat.mul_lt_mul_right hs, e1, e2, Nat.mul_lt_mul_right ht]
  unfold cmpI
  by_cases h1 : a < b
  · rw [if_pos h1, if_pos (l1.1 h1)]
  · rw [if_neg h1, if_neg (fun e => h1 (l1.2 e))]
    by_cases h2 : b < a
    · have h3 := l2.1 h2
      rw [if_neg (by omega), if_neg (by omega)]
    · have h3 : ¬ d < c := fun e => h2 (l2.2 e)
      have h4 : ¬ c < d := fun e => h1 (l1.2 e)
      rw [if_pos (by omega), if_pos (by omega)]
theorem cmpI_same {x y : Nat} (h : x = y) : cmpI x y = 0 := by unfold cmpI; rw [if_neg (by omega), if_pos h]
def Three (w : World) (v : Value) (X Y : Nat → Nat) : Prop := ∃ (g : Nat) (E E' : Nat → Value), v = .slice (some ⟨g, 0, none⟩) 3 3 ∧ g < w.heap.size ∧ ∀ i, i < 3 → w.cell? ⟨g, i * 2, none⟩ = some (E i) ∧ w.cell? ⟨g, i * 2 + 1, none⟩ = some (E' i) ∧ Rt w (.agg #[E i, E' i]) (X i) (Y i)
theorem Three.mono {w w' : World} {v : Value} {X Y : Nat → Nat} (h : Three w v X Y) (hb : Below w.heap.size w w') : Three w' v X Y := by
  obtain ⟨g, E, E', e, hg, he⟩ := h
  exact ⟨g, E, E', e, Nat.lt_of_lt_of_le hg hb.size, fun i hi => ⟨cell_later hb (he i hi).1, cell_later hb (he i hi).2.1, (he i hi).2.2.mono hb⟩⟩
/-- Regions whose order is open and that write no cell that was there: what is known need only outlast what comes later. -/
def MSpec : Type := { R : World → Value → Prop // ∀ {w w' : World} {v : Value}, R w v → Below w.heap.size w w' → R w' v }
def Spec.m (s : Spec) : MSpec := ⟨s.1, fun h hb => s.2.mono h hb⟩
structure JM (w0 : World) (specs : List MSpec) (L : Nat → Bool) (vs : Nat → Value) (w : World) : Prop where
  bel : Below w0.heap.size w0 w
  sp : ∀ i, L i = true → (specs.getD i sAny.m).1 w (vs i)
theorem JM.start (w : World) (specs : List MSpec) : JM w specs (fun _ => false) (fun _ => undef) w.drew := ⟨bel_dr (Below.refl _ _), (fun _ h => by cases h)⟩
theorem JM.step {w0 : World} {specs : List MSpec} {L : Nat → Bool} {vs : Nat → Value} {w w' : World} (h : JM w0 specs L vs w) {i : Nat} (hL : L i = false) (_ : 0 = 0) (hb : Below w.heap.size w w') {v : Value} (hs : (specs.getD i sAny.m).1 w' v) : JM w0 specs (updB L i) (updV vs i v) w' := by
  refine ⟨bel_go h.bel hb, fun j hj => ?_⟩
  by_cases e : j = i
  · subst e
    simpa [updV] using hs
  · have hj' : L j = true := by simpa [updB, e] using hj
    have : updV vs i v j = vs j := by simp [updV, e]
    rw [this]
    exact (specs.getD j sAny.m).2 (h.sp j hj') hb
end Go.Proofs.YtmiiaomdenpceaaGreatDoor

namespace Go.Proofs.YtmiiaomdenpceaaGreatDoor
open Go.RowKit
set_option maxRecDepth 100000
set_option linter.unusedVariables false
theorem Fc.dvd {p q N D n : Nat} (h : Fc p q N D n) : p ∣ N ∧ q ∣ D := by
  refine ⟨Nat.Coprime.dvd_of_dvd_mul_right h.low ⟨D, h.val.symm⟩, ?_⟩
  exact Nat.Coprime.dvd_of_dvd_mul_left (Nat.Coprime.symm h.low) ⟨N, by rw [h.val, Nat.mul_comm]⟩
theorem Fc.le1 {p q N D n : Nat} (h : Fc p q N D n) : p ≤ N := by
  rcases Nat.eq_zero_or_pos N with e | e
  · rw [h.zero.2 e]
    omega
  · exact Nat.le_of_dvd e h.dvd.1
theorem Fc.le2 {p q N D n : Nat} (h : Fc p q N D n) : q ≤ D := Nat.le_of_dvd h.dpos h.dvd.2
theorem Fc.norm {p q N D n m : Nat} (h : Fc p q N D n) (hN : N < P m) (hD : D < P m) : Fc p q N D m :=
  ⟨h.low, h.pos, h.dpos, h.val, Nat.lt_of_le_of_lt h.le1 hN, Nat.lt_of_le_of_lt h.le2 hD⟩
theorem Fc.one {p q p' q' N D n m : Nat} (h : Fc p q N D n) (k : Fc p' q' N D m) : p = p' ∧ q = q' := by
  have e : p * q' = p' * q := by
    refine Nat.eq_of_mul_eq_mul_right h.dpos ?_
    have h1 := h.val
    have h2 := k.val
    rw [show p * q' * D = p * D * q' by grind, h1, show p' * q * D = p' * D * q by grind, h2]
    grind
  have a1 : q ∣ q' := Nat.Coprime.dvd_of_dvd_mul_left (Nat.Coprime.symm h.low) ⟨p', by rw [e, Nat.mul_comm]⟩
  have a2 : q' ∣ q := Nat.Coprime.dvd_of_dvd_mul_left (Nat.Coprime.symm k.low) ⟨p, by rw [← e, Nat.mul_comm]⟩
  have e2 : q = q' := Nat.dvd_antisymm a1 a2
  subst e2
  exact ⟨Nat.eq_of_mul_eq_mul_right h.pos e, rfl⟩
/-- Of the blocks that were there none has turned but those of S. -/
structure Fb (S : Nat → Prop) (W W' : World) : Prop where
  os : W'.os = W.os
  tape : W'.tape = W.tape
  output : W'.output = W.output
  size : W.heap.size ≤ W'.heap.size
  block : ∀ k, k < W.heap.size → ¬ S k → W'.heap[k]? = W.heap[k]?
theorem Fb.refl (S : Nat → Prop) (W : World) : Fb S W W := ⟨rfl, rfl, rfl, Nat.le_refl _, fun _ _ _ => rfl⟩
theorem Fb.trans {S : Nat → Prop} {a b c : World} (h : Fb S a b) (k : Fb S b c) : Fb S a c :=
  ⟨k.os.trans h.os, k.tape.trans h.tape, k.output.trans h.output, Nat.le_trans h.size k.size, fun i hi hn => (k.block i (Nat.lt_of_lt_of_le hi h.size) hn).trans (h.block i hi hn)⟩
theorem Fb.of {S : Nat → Prop} {a b : World} (h : Below a.heap.size a b) : Fb S a b := ⟨h.os, h.tape, h.output, h.size, fun i hi _ => h.block i hi⟩
theorem Fb.go {S : Nat → Prop} {a b c : World} (h : Fb S a b) (k : Below b.heap.size b c) : Fb S a c := h.trans (Fb.of k)
theorem Fb.set {S : Nat → Prop} {a b : World} (h : Fb S a b) {x : Addr} (hx : S x.block) (u : Value) : Fb S a (b.setCell x u) :=
  h.trans ⟨rfl, rfl, rfl, by simp [World.setCell], fun k hk hn => Below.heap_setCell _ _ _ _ fun e => hn (e ▸ hx)⟩
theorem Fb.below {S : Nat → Prop} {a b : World} (h : Fb S a b) {lb : Nat} (hl : lb ≤ a.heap.size) (hs : ∀ k, S k → lb ≤ k) : Below lb a b :=
  ⟨h.os, h.tape, h.output, h.size, fun k hk => h.block k (by omega) fun e => by have := hs k e; omega⟩
theorem Fb.cell {S : Nat → Prop} {a b : World} (h : Fb S a b) {p : Addr} {v : Value} (hv : a.cell? p = some v) (hn : ¬ S p.block) : b.cell? p = some v :=
  (World.cell?_of_block (w := a) (h.block p.block (World.block_lt_of_cell? _ _ hv) hn)).trans hv
theorem Fb.heap {S : Nat → Prop} {a b : World} (h : Fb S a b) {k : Nat} {o : Obj} (hv : a.heap[k]? = some o) (hn : ¬ S k) : b.heap[k]? = some o :=
  (h.block k (Array.getElem?_eq_some_iff.1 hv).1 hn).trans hv
/-- All numbers that lie in the block are ints. -/
def Odd (W : World) (b : Nat) : Prop := ∀ i k n, W.cell? ⟨b, i, none⟩ = some (.int k n) → k = .i64
theorem Words.fb {S : Nat → Prop} {W W' : World} {b o n : Nat} {F : Nat → Nat} (h : Words W b o n F) (f : Fb S W W') (hn : ∀ k, S k → Odd W k) : Words W' b o n F := fun i hi =>
  f.cell (h i hi) fun hs => by have := hn b hs (o + i) _ _ (h i hi); cases this
theorem Sl.fb {S : Nat → Prop} {W W' : World} {a : Option Addr} {n cap : Nat} {F : Nat → Nat} (h : Sl W a n cap F) (f : Fb S W W') (hn : ∀ k, S k → Odd W k) : Sl W' a n cap F := by
  obtain ⟨h1, h2, h3, h4⟩ := h
  refine ⟨h1, h2, h3, h4.imp id ?_⟩
  rintro ⟨b, o, ha, hw⟩
  exact ⟨b, o, ha, hw.fb f hn⟩
theorem IsNat.fb {S : Nat → Prop} {W W' : World} {v : Value} {x : Nat} (h : IsNat W v x) (f : Fb S W W') (hn : ∀ k, S k → Odd W k) : IsNat W' v x := by
  obtain ⟨a, n, cap, F, rfl, hs, h0, h1, hv⟩ := h
  exact ⟨a, n, cap, F, rfl, hs.fb f hn, h0, h1, hv⟩
theorem RNat.fb {S : Nat → Prop} {W W' : World} {v : Value} {x : Nat} (h : RNat W v x) (f : Fb S W W') (hn : ∀ k, S k → Odd W k) : RNat W' v x := by
  obtain ⟨a, n, cap, F, e, hs, hd, h1, hv⟩ := h
  exact ⟨a, n, cap, F, e, hs.fb f hn, hd, h1, hv⟩
theorem Rt.fb {S : Nat → Prop} {W W' : World} {v : Value} {p q : Nat} (h : Rt W v p q) (f : Fb S W W') (hn : ∀ k, S k → Odd W k) : Rt W' v p q := by
  obtain ⟨a, n, c, a', n', c', e, h1, h2⟩ := h.raw
  exact ⟨⟨a, n, c, a', n', c', e, h1.fb f hn, h2.fb f hn⟩, h.pos, h.low⟩
theorem RRt.fb {S : Nat → Prop} {W W' : World} {v : Value} {p q : Nat} (h : RRt W v p q) (f : Fb S W W') (hn : ∀ k, S k → Odd W k) : RRt W' v p q := by
  obtain ⟨a, n, c, a', n', c', e, h1, h2⟩ := h
  exact ⟨a, n, c, a', n', c', e, h1.fb f hn, h2.fb f hn⟩
theorem Tab.fb {S : Nat → Prop} {W W' : World} (h : Tab W) (f : Fb S W W') (hn : ∀ k, S k → Odd W k) : Tab W' := fun j hj =>
  f.cell (h j hj) fun hs => by have := hn _ hs _ _ _ (h j hj); cases this
def isSl (v : Value) : Prop := ∃ a n c, v = .slice a n c
theorem Rt.sl {W : World} {u1 u2 : Value} {p q : Nat} (h : Rt W (.agg #[u1, u2]) p q) : isSl u1 ∧ isSl u2 := by
  obtain ⟨a, n, c, a', n', c', e, _, _⟩ := h.raw
  injection e with e
  injection e with e
  injection e with e1 e
  injection e with e2 e
  exact ⟨⟨_, _, _, e1⟩, ⟨_, _, _, e2⟩⟩
end Go.Proofs.YtmiiaomdenpceaaGreatDoor

namespace Go.Proofs.YtmiiaomdenpceaaGreatDoor
open Go.RowKit
set_option maxRecDepth 100000
set_option linter.unusedVariables false
end Go.Proofs.YtmiiaomdenpceaaGreatDoor

namespace Go.Proofs.YtmiiaomdenpceaaGreatDoor
open Go.RowKit
set_option maxRecDepth 100000
set_option linter.unusedVariables false
set_option maxHeartbeats 4000000 in
theorem inUnits_neg (v u : Value) (p q t : Nat) (s : Int) (w : World) (h : IsNat w v p) (k : IsNat w u q) (hp : Fits p) (hs : s = -(t : Int)) (ht0 : 0 < t) (ht : t ≤ 16777216) :
    Calls Tryz.prog 44 #[v, u, .int .i64 s] w (Makes2N w (p * 2 ^ t) q) := by
  obtain ⟨a, n, c, rfl⟩ := h.isAgg
  obtain ⟨a', n', c', rfl⟩ := k.isAgg
  have S1 : Hid _ := (((((((sx_start w).addN h).addN k).box1 (.slice a n c) 26 _ rfl).box1 (.slice a' n' c') 26 _ rfl).box1 (.slice none 0 0) 26 _ rfl).box1 (.slice none 0 0) 26 _ rfl)
  simp only [World.size_alloc] at S1
  obtain ⟨w0, hw0⟩ : ∃ w0, w0 = (((w.alloc (.cells #[.slice a n c] 26)).alloc (.cells #[.slice a' n' c'] 26)).alloc (.cells #[.slice none 0 0] 26)).alloc (.cells #[.slice none 0 0] 26) := ⟨_, rfl⟩
  have f0 : w0.frozen? ⟨w.heap.size, 0, none⟩ = false := by rw [hw0]; simp [go_sem]
  have f1 : w0.frozen? ⟨w.heap.size + 1 + 1, 0, none⟩ = false := by rw [hw0]; simp [go_sem]
  have f2 : w0.frozen? ⟨w.heap.size + 1 + 1 + 1, 0, none⟩ = false := by rw [hw0]; simp [go_sem]
  have HH : Hid (Fits p ∧ t ≤ 16777216) := ⟨hp, ht⟩
  have d1 : decide (s < 0) = true := decide_eq_true (by omega)
  have m1 : IntKind.i64.wrap (-s) = (t : Int) := by rw [IntKind.wrap_i64]; omega
  clear h k hp hs ht0 ht
  go_enter Tryz.func44, Tryz.ntmps44
  go_wp2_with fail
  rw [← hw0] at S1
  rw [← hw0]
  obtain ⟨b2, hb2⟩ : ∃ b2, b2 = w.heap.size := ⟨_, rfl⟩
  have HB : Hid (w.heap.size ≤ b2) := by show _ ≤ _; omega
  rw [← hb2] at S1 f0 f1 f2
  rw [← hb2]
  clear hw0 hb2
  refine (left_yes _ p t _ (S1.out.at (.agg #[.slice a n c]) p) HH.out.1 HH.out.2).mono ?_
  rintro e w1 ⟨v1, rfl, hv1, hb1⟩
  obtain ⟨a1, n1, k1, rfl⟩ := hv1.isAgg
  have z0 := cell_later hb1 (S1.out.cel b2 0 (.slice a n c))
  have z1 := cell_later hb1 (S1.out.cel (b2 + 1) 0 (.slice a' n' c'))
  have z2 := cell_later hb1 (S1.out.cel (b2 + 1 + 1) 0 (.slice none 0 0))
  have z3 := cell_later hb1 (S1.out.cel (b2 + 1 + 1 + 1) 0 (.slice none 0 0))
  have g0 := (hb1.frozen (World.block_lt_of_cell? _ _ (S1.out.cel b2 0 (.slice a n c)))).trans f0
  have g1 := (hb1.frozen (World.block_lt_of_cell? _ _ (S1.out.cel (b2 + 1 + 1) 0 (.slice none 0 0)))).trans f1
  have g2 := (hb1.frozen (World.block_lt_of_cell? _ _ (S1.out.cel (b2 + 1 + 1 + 1) 0 (.slice none 0 0)))).trans f2
  have I1 : Hid (IsNat w1 (.agg #[.slice a1 n1 k1]) (p * 2 ^ t) ∧ IsNat w1 (.agg #[.slice a' n' c']) q ∧ Below w.heap.size w w1) := ⟨hv1, (S1.out.at (.agg #[.slice a' n' c']) q).mono hb1, bel_go S1.out.bel hb1⟩
  clear hv1 hb1 S1 f0 f1 f2
  go_wp2_with fail
  obtain ⟨W, hW⟩ : ∃ W, W = w1.setCell ⟨b2, 0, none⟩ (.slice a1 n1 k1) := ⟨_, rfl⟩
  have y0 : W.cell? ⟨b2, 0, none⟩ = some (.slice a1 n1 k1) := by rw [hW]; simp [go_sem, z0]
  have y1 : W.cell? ⟨b2 + 1, 0, none⟩ = some (.slice a' n' c') := by rw [hW]; simp [go_sem, z1]
  have y2 : W.cell? ⟨b2 + 1 + 1, 0, none⟩ = some (.slice none 0 0) := by rw [hW]; simp [go_sem, z2]
  have y3 : W.cell? ⟨b2 + 1 + 1 + 1, 0, none⟩ = some (.slice none 0 0) := by rw [hW]; simp [go_sem, z3]
  have h1 : W.frozen? ⟨b2 + 1 + 1, 0, none⟩ = false := by rw [hW]; simp [World.frozen?_setCell, g1]
  have h2 : W.frozen? ⟨b2 + 1 + 1 + 1, 0, none⟩ = false := by rw [hW]; simp [World.frozen?_setCell, g2]
  have I2 : Hid (IsNat W (.agg #[.slice a1 n1 k1]) (p * 2 ^ t) ∧ IsNat W (.agg #[.slice a' n' c']) q ∧ Below w.heap.size w W) := by
    rw [hW]
    exact ⟨I1.out.1.setCell (no_int_slice z0) _, I1.out.2.1.setCell (no_int_slice z0) _, I1.out.2.2.setCell HB.out _⟩
  rw [← hW]
  clear hW I1 z0 z1 z2 z3 g0 g1 g2
  have Z : Hid _ := nat_put2 (r := b2 + 1 + 1) (x := .slice a1 n1 k1) (y := .slice a' n' c') y2 y3 I2.out.1 I2.out.2.1 I2.out.2.2 (by have := HB.out; omega)
  go_region
  go_wp2_with fail
  refine bodyPost_ret (v := .tuple #[.agg #[.slice a1 n1 k1], .agg #[.slice a' n' c']]) (by simp [results, Tryz.results44, go_sem, y2, y3]) rfl ⟨_, _, rfl, Z.out.1.mono (bel_dr (bel_refl _)), Z.out.2.1.mono (bel_dr (bel_refl _)), bel_dr Z.out.2.2⟩
set_option maxHeartbeats 4000000 in
theorem inUnits_pos (v u : Value) (p q t : Nat) (s : Int) (w : World) (h : IsNat w v p) (k : IsNat w u q) (hp : Fits q) (hs : s = (t : Int)) (ht : t ≤ 16777216) :
    Calls Tryz.prog 44 #[v, u, .int .i64 s] w (Makes2N w p (q * 2 ^ t)) := by
  obtain ⟨a, n, c, rfl⟩ := h.isAgg
  obtain ⟨a', n', c', rfl⟩ := k.isAgg
  have S1 : Hid _ := (((((((sx_start w).addN h).addN k).box1 (.slice a n c) 26 _ rfl).box1 (.slice a' n' c') 26 _ rfl).box1 (.slice none 0 0) 26 _ rfl).box1 (.slice none 0 0) 26 _ rfl)
  simp only [World.size_alloc] at S1
  obtain ⟨w0, hw0⟩ : ∃ w0, w0 = (((w.alloc (.cells #[.slice a n c] 26)).alloc (.cells #[.slice a' n' c'] 26)).alloc (.cells #[.slice none 0 0] 26)).alloc (.cells #[.slice none 0 0] 26) := ⟨_, rfl⟩
  have f0 : w0.frozen? ⟨w.heap.size + 1, 0, none⟩ = false := by rw [hw0]; simp [go_sem]
  have f1 : w0.frozen? ⟨w.heap.size + 1 + 1, 0, none⟩ = false := by rw [hw0]; simp [go_sem]
  have f2 : w0.frozen? ⟨w.heap.size + 1 + 1 + 1, 0, none⟩ = false := by rw [hw0]; simp [go_sem]
  have HH : Hid (Fits q ∧ t ≤ 16777216) := ⟨hp, ht⟩
  have d1 : decide ((t : Int) < 0) = false := decide_eq_false (by omega)
  subst hs
  clear h k hp ht
  go_enter Tryz.func44, Tryz.ntmps44
  go_wp2_with fail
  rw [← hw0] at S1
  rw [← hw0]
  obtain ⟨b2, hb2⟩ : ∃ b2, b2 = w.heap.size := ⟨_, rfl⟩
  have HB : Hid (w.heap.size ≤ b2) := by show _ ≤ _; omega
  rw [← hb2] at S1 f0 f1 f2
  rw [← hb2]
  clear hw0 hb2
  refine (left_yes _ q t _ (S1.out.at (.agg #[.slice a' n' c']) q) HH.out.1 HH.out.2).mono ?_
  rintro e w1 ⟨v1, rfl, hv1, hb1⟩
  obtain ⟨a1, n1, k1, rfl⟩ := hv1.isAgg
  have z0 := cell_later hb1 (S1.out.cel b2 0 (.slice a n c))
  have z1 := cell_later hb1 (S1.out.cel (b2 + 1) 0 (.slice a' n' c'))
  have z2 := cell_later hb1 (S1.out.cel (b2 + 1 + 1) 0 (.slice none 0 0))
  have z3 := cell_later hb1 (S1.out.cel (b2 + 1 + 1 + 1) 0 (.slice none 0 0))
  have g0 := (hb1.frozen (World.block_lt_of_cell? _ _ (S1.out.cel (b2 + 1) 0 (.slice a' n' c')))).trans f0
  have g1 := (hb1.frozen (World.block_lt_of_cell? _ _ (S1.out.cel (b2 + 1 + 1) 0 (.slice none 0 0)))).trans f1
  have g2 := (hb1.frozen (World.block_lt_of_cell? _ _ (S1.out.cel (b2 + 1 + 1 + 1) 0 (.slice none 0 0)))).trans f2
  have I1 : Hid (IsNat w1 (.agg #[.slice a n c]) p ∧ IsNat w1 (.agg #[.slice a1 n1 k1]) (q * 2 ^ t) ∧ Below w.heap.size w w1) := ⟨(S1.out.at (.agg #[.slice a n c]) p).mono hb1, hv1, bel_go S1.out.bel hb1⟩
  clear hv1 hb1 S1 f0 f1 f2
  go_wp2_with fail
  obtain ⟨W, hW⟩ : ∃ W, W = w1.setCell ⟨b2 + 1, 0, none⟩ (.slice a1 n1 k1) := ⟨_, rfl⟩
  have y0 : W.cell? ⟨b2, 0, none⟩ = some (.slice a n c) := by rw [hW]; simp [go_sem, z0]
  have y1 : W.cell? ⟨b2 + 1, 0, none⟩ = some (.slice a1 n1 k1) := by rw [hW]; simp [go_sem, z1]
  have y2 : W.cell? ⟨b2 + 1 + 1, 0, none⟩ = some (.slice none 0 0) := by rw [hW]; simp [go_sem, z2]
  have y3 : W.cell? ⟨b2 + 1 + 1 + 1, 0, none⟩ = some (.slice none 0 0) := by rw [hW]; simp [go_sem, z3]
  have h1 : W.frozen? ⟨b2 + 1 + 1, 0, none⟩ = false := by rw [hW]; simp [World.frozen?_setCell, g1]
  have h2 : W.frozen? ⟨b2 + 1 + 1 + 1, 0, none⟩ = false := by rw [hW]; simp [World.frozen?_setCell, g2]
  have I2 : Hid (IsNat W (.agg #[.slice a n c]) p ∧ IsNat W (.agg #[.slice a1 n1 k1]) (q * 2 ^ t) ∧ Below w.heap.size w W) := by
    rw [hW]
    exact ⟨I1.out.1.setCell (no_int_slice z1) _, I1.out.2.1.setCell (no_int_slice z1) _, I1.out.2.2.setCell (by have := HB.out; show _ ≤ b2 + 1; omega) _⟩
  rw [← hW]
  clear hW I1 z0 z1 z2 z3 g0 g1 g2
  have Z : Hid _ := nat_put2 (r := b2 + 1 + 1) (x := .slice a n c) (y := .slice a1 n1 k1) y2 y3 I2.out.1 I2.out.2.1 I2.out.2.2 (by have := HB.out; omega)
  go_region
  go_wp2_with fail
  refine bodyPost_ret (v := .tuple #[.agg #[.slice a n c], .agg #[.slice a1 n1 k1]]) (by simp [results, Tryz.results44, go_sem, y2, y3]) rfl ⟨_, _, rfl, Z.out.1.mono (bel_dr (bel_refl _)), Z.out.2.1.mono (bel_dr (bel_refl _)), bel_dr Z.out.2.2⟩
end Go.Proofs.YtmiiaomdenpceaaGreatDoor

namespace Go.Proofs.YtmiiaomdenpceaaGreatDoor
open Go.RowKit
set_option maxRecDepth 100000
set_option linter.unusedVariables false
theorem cmp_z (v u : Value) (x y : Nat) (z : Int) (w : World) (h : IsNat w v x) (k : IsNat w u y) (hx : Fits x) (hy : Fits y) (hz : cmpI x y = z) :
    Calls Tryz.prog 45 #[v, u] w fun e w' => e = .returned (.int .i64 z) ∧ Below w.heap.size w w' := by
  rw [← hz]
  exact cmp_any v u x y w h k hx hy
theorem bitOf_zero (x : Nat) : bitOf x 0 = decide (x % 2 = 1) := by
  unfold bitOf
  rw [Nat.pow_zero, Nat.div_one]
  by_cases h : x % 2 = 1 <;> simp [h]
set_option maxHeartbeats 8000000 in
theorem nearest_any (v u : Value) (p q : Nat) (w : World) (h : IsNat w v p) (k : IsNat w u q) (hp : p < P 198) (hq : q < P 198) (hq0 : 0 < q) :
    Calls Tryz.prog 46 #[v, u] w (Makes w (nearN p q)) := by
  obtain ⟨a, n, c, rfl⟩ := h.isAgg
  obtain ⟨a', n', c', rfl⟩ := k.isAgg
  have S1 : Hid _ := ((((((sy_start w).addN h).addN k).box1 (.slice a n c) 26 _ rfl).box1 (.slice a' n' c') 26 _ rfl).box1 (.slice none 0 0) 26 _ rfl)
  simp only [World.size_alloc] at S1
  obtain ⟨w0, hw0⟩ : ∃ w0, w0 = ((w.alloc (.cells #[.slice a n c] 26)).alloc (.cells #[.slice a' n' c'] 26)).alloc (.cells #[.slice none 0 0] 26) := ⟨_, rfl⟩
  obtain ⟨d, hd⟩ : ∃ d, d = p / q := ⟨_, rfl⟩
  obtain ⟨r, hr⟩ : ∃ r, r = p % q := ⟨_, rfl⟩
  have hrq : r < q := by rw [hr]; exact Nat.mod_lt _ hq0
  have hdp : d ≤ p := by rw [hd]; exact Nat.div_le_self _ _
  have sr : r < P 198 := Nat.lt_trans hrq hq
  have sd : d < P 198 := Nat.lt_of_le_of_lt hdp hp
  have s2 : r + r < P 199 := by
    have h1 : P 199 = P 198 * 18446744073709551616 := P_succ 198
    rw [h1]
    omega
  have HH : Hid (p < P 198 ∧ q < P 198 ∧ 0 < q ∧ Fits r ∧ Fits d ∧ Fits (r + r) ∧ Fits q ∧ d = p / q ∧ r = p % q) := ⟨hp, hq, hq0, fits_P sr (by omega), fits_P sd (by omega), fits_P s2 (by omega), fits_P hq (by omega), hd, hr⟩
  have HN : Hid (nearN p q = if 2 * r < q then d else if 2 * r = q ∧ d % 2 = 0 then d else d + 1) := by show _ = _; unfold nearN; rw [← hd, ← hr]
  clear h k hp hq hq0 hd hr hrq hdp sr sd s2
  go_enter Tryz.func46, Tryz.ntmps46
  go_wp2_with fail
  rw [← hw0] at S1
  rw [← hw0]
  obtain ⟨b, hb⟩ : ∃ b, b = w.heap.size := ⟨_, rfl⟩
  rw [← hb] at S1
  rw [← hb]
  clear hw0 hb
  refine (divMod_198 _ _ p q _ (S1.out.at (.agg #[.slice a n c]) p) (S1.out.at (.agg #[.slice a' n' c']) q) (small_198 HH.out.2.1) HH.out.2.2.1 HH.out.1 (small_198 HH.out.1)).mono ?_
  rintro e w1 ⟨v1, u1, rfl, hv1, hu1, hb1⟩
  rw [← HH.out.2.2.2.2.2.2.2.1] at hv1
  rw [← HH.out.2.2.2.2.2.2.2.2] at hu1
  obtain ⟨a1, n1, c1, rfl⟩ := hv1.isAgg
  obtain ⟨a2, n2, c2, rfl⟩ := hu1.isAgg
  have S2 : Hid _ := ((((S1.out.go hb1).addN hv1).addN hu1).box1 (.slice a1 n1 c1) 26 _ rfl).box1 (.slice a2 n2 c2) 26 _ rfl
  simp only [World.size_alloc] at S2
  clear hv1 hu1 hb1 S1
  go_wp2_with fail
  obtain ⟨w2, hw2⟩ : ∃ w2, w2 = (w1.alloc (.cells #[.slice a1 n1 c1] 26)).alloc (.cells #[.slice a2 n2 c2] 26) := ⟨_, rfl⟩
  obtain ⟨g, hg⟩ : ∃ g, g = w1.heap.size := ⟨_, rfl⟩
  rw [← hw2, ← hg] at S2
  rw [← hw2, ← hg]
  clear hw2 hg
  obtain ⟨z, hz⟩ : ∃ z, cmpI (r + r) q = z := ⟨_, rfl⟩
  have HZ : Hid (cmpI (r + r) q = z) := hz
  clear hz
  refine wp_region_inv (JB w2 [sNat (r), sNat (r), sNat (r + r), sNat (q), sEq (.int .i64 z)] []) 32 (by kernel_rfl) rfl (by kernel_rfl) (JB.start _ _ _) (fun HG HN => ⟨?_, ?_, ?_, ?_, ?_, trivial⟩) ?_
  · intro L vs a w' hJ hF hP hL
    have q6 : (a.tmps[6]?).getD undef = .pointer (some ⟨g + 1, 0, none⟩) := hF.old 6 rfl
    have cb := cell_later hJ.bel (S2.out.cell (g + 1) (.slice a2 n2 c2))
    exact run_val (v := .agg #[.slice a2 n2 c2]) rfl (by simp [execOp, go_sem, q6, cb]) ⟨_, rfl, hJ.step hL rfl (Below.refl _ _) (by exact ((S2.out.at (.agg #[.slice a2 n2 c2]) (r)).mono hJ.bel))⟩
  · intro L vs a w' hJ hF hP hL
    have q6 : (a.tmps[6]?).getD undef = .pointer (some ⟨g + 1, 0, none⟩) := hF.old 6 rfl
    have cb := cell_later hJ.bel (S2.out.cell (g + 1) (.slice a2 n2 c2))
    exact run_val (v := .agg #[.slice a2 n2 c2]) rfl (by simp [execOp, go_sem, q6, cb]) ⟨_, rfl, hJ.step hL rfl (Below.refl _ _) (by exact ((S2.out.at (.agg #[.slice a2 n2 c2]) (r)).mono hJ.bel))⟩
  · intro L vs a w' hJ hF hP hL
    have p0 : L 0 = true := hP ⟨0, .data⟩ (by simp) rfl
    have s0 : IsNat w' (vs 0) (r) := hJ.sp 0 p0
    have q15 := hF.slot 0 15 rfl p0
    have p1 : L 1 = true := hP ⟨1, .data⟩ (by simp) rfl
    have s1 : IsNat w' (vs 1) (r) := hJ.sp 1 p1
    have q16 := hF.slot 1 16 rfl p1
    refine run_call (f := 85) (args := #[vs 0, vs 1]) rfl (by simp [go_sem, q15, q16]) (add_any _ _ r r _ s0 s1 HH.out.2.2.2.1 HH.out.2.2.2.1) ?_
    rintro e w2 ⟨v, rfl, hv, hb⟩
    exact ⟨_, rfl, _, rfl, hJ.step hL rfl hb (by exact hv)⟩
  · intro L vs a w' hJ hF hP hL
    have q3 : (a.tmps[3]?).getD undef = .pointer (some ⟨b + 1, 0, none⟩) := hF.old 3 rfl
    have cb := cell_later hJ.bel (S2.out.cell (b + 1) (.slice a' n' c'))
    exact run_val (v := .agg #[.slice a' n' c']) rfl (by simp [execOp, go_sem, q3, cb]) ⟨_, rfl, hJ.step hL rfl (Below.refl _ _) (by exact ((S2.out.at (.agg #[.slice a' n' c']) (q)).mono hJ.bel))⟩
  · intro L vs a w' hJ hF hP hL
    have p2 : L 2 = true := hP ⟨2, .data⟩ (by simp) rfl
    have s2 : IsNat w' (vs 2) (r + r) := hJ.sp 2 p2
    have q17 := hF.slot 2 17 rfl p2
    have p3 : L 3 = true := hP ⟨3, .data⟩ (by simp) rfl
    have s3 : IsNat w' (vs 3) (q) := hJ.sp 3 p3
    have q18 := hF.slot 3 18 rfl p3
    refine run_call (f := 45) (args := #[vs 2, vs 3]) rfl (by simp [go_sem, q17, q18]) (cmp_z _ _ (r + r) q z _ s2 s3 HH.out.2.2.2.2.2.1 HH.out.2.2.2.2.2.2.1 HZ.out) ?_
    rintro e w2 ⟨rfl, hb⟩
    exact ⟨_, rfl, _, rfl, hJ.step hL rfl hb (by exact rfl)⟩
  intro L vs w' hA hJ
  have s4 : vs 4 = .int .i64 z := hJ.sp 4 (hA 4 (by simp))
  simp only [putL, Act.put, List.setIfInBounds_toArray, List.set_cons_zero, List.set_cons_succ, Nat.reduceAdd]
  simp only [s4]
  obtain ⟨w3, ew3⟩ : ∃ w3, w3 = w' := ⟨_, rfl⟩
  have S3 : Hid _ := S2.out.go (ew3 ▸ hJ.bel : Below w2.heap.size w2 w3)
  rw [← ew3]
  clear ew3 hJ hA s4 S2
  rcases Nat.lt_trichotomy (r + r) q with h1 | h1 | h1
  · obtain rfl : z = -1 := by rw [← HZ.out]; exact cmpI_lt h1
    have HV : Hid (nearN p q = d) := by show _ = _; rw [HN.out, if_pos (by omega)]
    clear h1 HZ HN
    have k1 := S3.out.cel (g) 0 (.slice a1 n1 c1)
    have k2 := S3.out.cel (b + 1 + 1) 0 (.slice none 0 0)
    have k3 := S3.out.fz (b + 1 + 1) 0
    have Z : Hid _ := S3.out.ret1 (r := b + 1 + 1) k2 (by simp) (S3.out.at (.agg #[.slice a1 n1 c1]) d) (.slice a1 n1 c1)
    go_wp2_with fail
    exact bodyPost_ret (v := .agg #[.slice a1 n1 c1]) (by simp [results, Tryz.results46, go_sem, k2]) rfl ⟨_, rfl, by rw [HV.out]; exact Z.out.1, Z.out.2⟩
  · obtain rfl : z = 0 := by rw [← HZ.out]; exact cmpI_same h1
    have k1 := S3.out.cel (g) 0 (.slice a1 n1 c1)
    go_wp2_with fail
    refine (bit_any _ d 0 _ (S3.out.at (.agg #[.slice a1 n1 c1]) d) HH.out.2.2.2.2.1 (by omega) (by omega)).mono ?_
    rintro e w4 ⟨rfl, hb4⟩
    have S4 : Hid _ := S3.out.go hb4
    clear hb4 S3 k1
    by_cases ho : d % 2 = 0
    · have t1 : (decide ((0 : Int) ≤ 0) && bitOf d (0 : Int).toNat) = false := by rw [show (0 : Int).toNat = 0 from rfl, bitOf_zero]; simp; omega
      have HV : Hid (nearN p q = d) := by show _ = _; rw [HN.out, if_neg (by omega), if_pos ⟨by omega, ho⟩]
      rw [t1]
      clear h1 HZ HN ho t1
      have k1 := S4.out.cel (g) 0 (.slice a1 n1 c1)
      have k2 := S4.out.cel (b + 1 + 1) 0 (.slice none 0 0)
      have k3 := S4.out.fz (b + 1 + 1) 0
      have Z : Hid _ := S4.out.ret1 (r := b + 1 + 1) k2 (by simp) (S4.out.at (.agg #[.slice a1 n1 c1]) d) (.slice a1 n1 c1)
      go_wp2_with fail
      exact bodyPost_ret (v := .agg #[.slice a1 n1 c1]) (by simp [results, Tryz.results46, go_sem, k2]) rfl ⟨_, rfl, by rw [HV.out]; exact Z.out.1, Z.out.2⟩
    · have t1 : (decide ((0 : Int) ≤ 0) && bitOf d (0 : Int).toNat) = true := by rw [show (0 : Int).toNat = 0 from rfl, bitOf_zero]; simp; omega
      have HV : Hid (nearN p q = d + 1) := by show _ = _; rw [HN.out, if_neg (by omega), if_neg (fun hh => ho hh.2)]
      rw [t1]
      clear h1 HZ HN ho t1
      go_wp2_with fail
      refine wp_region_inv (JD w4 [sNat (d), sNat (1), sNat (d + 1), sAny] [[], [], [0, 1], [2]] 3 2 [0, 1, 2] (Sto1 (b + 1 + 1))) 32 (by kernel_rfl) rfl (by kernel_rfl) (JD.start _ _ _ _ _ _ _) (fun HG HN => ⟨?_, ?_, ?_, ?_, trivial⟩) ?_
      · intro L vs a w' hJ hF hP hL
        have hK := hJ
        have hJ := hK.open hL (by decide)
        have q5 : (a.tmps[5]?).getD undef = .pointer (some ⟨g, 0, none⟩) := hF.old 5 rfl
        have cb := cell_later hJ.bel (S4.out.cell (g) (.slice a1 n1 c1))
        exact run_val (v := .agg #[.slice a1 n1 c1]) rfl (by simp [execOp, go_sem, q5, cb]) ⟨_, rfl, hK.step hL (by decide) (by decide) rfl (nd_nil) <| hJ.step hL rfl (Below.refl _ _) (by exact ((S4.out.at (.agg #[.slice a1 n1 c1]) (d)).mono hJ.bel))⟩
      · intro L vs a w' hJ hF hP hL
        have hK := hJ
        have hJ := hK.open hL (by decide)
        refine run_call (f := 28) (args := #[.int .u64 1]) rfl (by simp [go_sem]) (of_any 1 _ (by omega)) ?_
        rintro e w2 ⟨v, rfl, hv, hb⟩
        exact ⟨_, rfl, _, rfl, hK.step hL (by decide) (by decide) rfl (nd_nil) <| hJ.step hL rfl hb (by exact hv)⟩
      · intro L vs a w' hJ hF hP hL
        have hK := hJ
        have hJ := hK.open hL (by decide)
        have p0 : L 0 = true := hP ⟨0, .data⟩ (by simp) rfl
        have s0 : IsNat w' (vs 0) (d) := hJ.sp 0 p0
        have q29 := hF.slot 0 29 rfl p0
        have p1 : L 1 = true := hP ⟨1, .data⟩ (by simp) rfl
        have s1 : IsNat w' (vs 1) (1) := hJ.sp 1 p1
        have q30 := hF.slot 1 30 rfl p1
        refine run_call (f := 85) (args := #[vs 0, vs 1]) rfl (by simp [go_sem, q29, q30]) (add_any _ _ d 1 _ s0 s1 HH.out.2.2.2.2.1 (fits_P (n := 1) (by rw [P_one]; omega) (by omega))) ?_
        rintro e w2 ⟨v, rfl, hv, hb⟩
        exact ⟨_, rfl, _, rfl, hK.step hL (by decide) (by decide) rfl (nd_cons p0 (nd_cons p1 (nd_nil))) <| hJ.step hL rfl hb (by exact hv)⟩
      · intro L vs a w' hJ hF hP hL
        have hK := hJ
        have hJ := hK.core hL
        have q4 : (a.tmps[4]?).getD undef = .pointer (some ⟨b + 1 + 1, 0, none⟩) := hF.old 4 rfl
        have p2 : L 2 = true := hP ⟨2, .data⟩ (by simp) rfl
        have s2 : IsNat w' (vs 2) (d + 1) := hJ.sp 2 p2
        have q31 := hF.slot 2 31 rfl p2
        have p0 : L 0 = true := hK.cl 2 p2 0 (by simp)
        have p1 : L 1 = true := hK.cl 2 p2 1 (by simp)
        have x0 := cell_later hJ.bel (S4.out.cel (b + 1 + 1) 0 (.slice none 0 0))
        have y0 := (hJ.bel.frozen (World.block_lt_of_cell? _ _ (S4.out.cel (b + 1 + 1) 0 (.slice none 0 0)))).trans (S4.out.fz (b + 1 + 1) 0)
        obtain ⟨aa, nn, cc, e8⟩ := s2.isAgg
        exact run_unit (w' := (w'.setCell ⟨b + 1 + 1, 0, none⟩ (.slice aa nn cc))) rfl (by simp [execOp, go_sem, q4, q31, e8, x0, y0]) ⟨undef, rfl, hK.put hL (by decide) rfl (nd_cons p2 (nd_nil)) (nd_cons p0 (nd_cons p1 (nd_cons p2 (nd_nil)))) p2 ⟨_, e8, rfl⟩⟩
      intro L vs w' hA hK
      obtain ⟨_, w1, hb1, sv, u1, ev, ew⟩ := hK.fin (hA 3 (by simp))
      replace sv : IsNat w1 (vs 2) (d + 1) := sv
      simp only [putL, Act.put, List.setIfInBounds_toArray, List.set_cons_zero, List.set_cons_succ, Nat.reduceAdd]
      obtain ⟨aa, nn, cc, e9⟩ := sv.isAgg
      have S9 : Hid _ := S4.out.go hb1
      have k2 := S9.out.cel (b + 1 + 1) 0 (.slice none 0 0)
      have Z : Hid _ := S9.out.ret1 (r := b + 1 + 1) k2 (by simp) sv u1
      clear S4
      rw [ew]
      rw [ev] at Z sv
      go_wp2_with fail
      exact bodyPost_ret (v := .agg #[u1]) (by simp [results, Tryz.results46, go_sem, k2]) rfl ⟨_, rfl, by rw [HV.out]; exact Z.out.1, Z.out.2⟩
  · obtain rfl : z = 1 := by rw [← HZ.out]; exact cmpI_gt h1
    have HV : Hid (nearN p q = d + 1) := by show _ = _; rw [HN.out, if_neg (by omega), if_neg (fun hh => by omega)]
    clear h1 HZ HN
    go_wp2_with fail
    refine wp_region_inv (JD w3 [sNat (d), sNat (1), sNat (d + 1), sAny] [[], [], [0, 1], [2]] 3 2 [0, 1, 2] (Sto1 (b + 1 + 1))) 32 (by kernel_rfl) rfl (by kernel_rfl) (JD.start _ _ _ _ _ _ _) (fun HG HN => ⟨?_, ?_, ?_, ?_, trivial⟩) ?_
    · intro L vs a w' hJ hF hP hL
      have hK := hJ
      have hJ := hK.open hL (by decide)
      have q5 : (a.tmps[5]?).getD undef = .pointer (some ⟨g, 0, none⟩) := hF.old 5 rfl
      have cb := cell_later hJ.bel (S3.out.cell (g) (.slice a1 n1 c1))
      exact run_val (v := .agg #[.slice a1 n1 c1]) rfl (by simp [execOp, go_sem, q5, cb]) ⟨_, rfl, hK.step hL (by decide) (by decide) rfl (nd_nil) <| hJ.step hL rfl (Below.refl _ _) (by exact ((S3.out.at (.agg #[.slice a1 n1 c1]) (d)).mono hJ.bel))⟩
    · intro L vs a w' hJ hF hP hL
      have hK := hJ
      have hJ := hK.open hL (by decide)
      refine run_call (f := 28) (args := #[.int .u64 1]) rfl (by simp [go_sem]) (of_any 1 _ (by omega)) ?_
      rintro e w2 ⟨v, rfl, hv, hb⟩
      exact ⟨_, rfl, _, rfl, hK.step hL (by decide) (by decide) rfl (nd_nil) <| hJ.step hL rfl hb (by exact hv)⟩
    · intro L vs a w' hJ hF hP hL
      have hK := hJ
      have hJ := hK.open hL (by decide)
      have p0 : L 0 = true := hP ⟨0, .data⟩ (by simp) rfl
      have s0 : IsNat w' (vs 0) (d) := hJ.sp 0 p0
      have q29 := hF.slot 0 29 rfl p0
      have p1 : L 1 = true := hP ⟨1, .data⟩ (by simp) rfl
      have s1 : IsNat w' (vs 1) (1) := hJ.sp 1 p1
      have q30 := hF.slot 1 30 rfl p1
      refine run_call (f := 85) (args := #[vs 0, vs 1]) rfl (by simp [go_sem, q29, q30]) (add_any _ _ d 1 _ s0 s1 HH.out.2.2.2.2.1 (fits_P (n := 1) (by rw [P_one]; omega) (by omega))) ?_
      rintro e w2 ⟨v, rfl, hv, hb⟩
      exact ⟨_, rfl, _, rfl, hK.step hL (by decide) (by decide) rfl (nd_cons p0 (nd_cons p1 (nd_nil))) <| hJ.step hL rfl hb (by exact hv)⟩
    · intro L vs a w' hJ hF hP hL
      have hK := hJ
      have hJ := hK.core hL
      have q4 : (a.tmps[4]?).getD undef = .pointer (some ⟨b + 1 + 1, 0, none⟩) := hF.old 4 rfl
      have p2 : L 2 = true := hP ⟨2, .data⟩ (by simp) rfl
      have s2 : IsNat w' (vs 2) (d + 1) := hJ.sp 2 p2
      have q31 := hF.slot 2 31 rfl p2
      have p0 : L 0 = true := hK.cl 2 p2 0 (by simp)
      have p1 : L 1 = true := hK.cl 2 p2 1 (by simp)
      have x0 := cell_later hJ.bel (S3.out.cel (b + 1 + 1) 0 (.slice none 0 0))
      have y0 := (hJ.bel.frozen (World.block_lt_of_cell? _ _ (S3.out.cel (b + 1 + 1) 0 (.slice none 0 0)))).trans (S3.out.fz (b + 1 + 1) 0)
      obtain ⟨aa, nn, cc, e8⟩ := s2.isAgg
      exact run_unit (w' := (w'.setCell ⟨b + 1 + 1, 0, none⟩ (.slice aa nn cc))) rfl (by simp [execOp, go_sem, q4, q31, e8, x0, y0]) ⟨undef, rfl, hK.put hL (by decide) rfl (nd_cons p2 (nd_nil)) (nd_cons p0 (nd_cons p1 (nd_cons p2 (nd_nil)))) p2 ⟨_, e8, rfl⟩⟩
    intro L vs w' hA hK
    obtain ⟨_, w1, hb1, sv, u1, ev, ew⟩ := hK.fin (hA 3 (by simp))
    replace sv : IsNat w1 (vs 2) (d + 1) := sv
    simp only [putL, Act.put, List.setIfInBounds_toArray, List.set_cons_zero, List.set_cons_succ, Nat.reduceAdd]
    obtain ⟨aa, nn, cc, e9⟩ := sv.isAgg
    have S9 : Hid _ := S3.out.go hb1
    have k2 := S9.out.cel (b + 1 + 1) 0 (.slice none 0 0)
    have Z : Hid _ := S9.out.ret1 (r := b + 1 + 1) k2 (by simp) sv u1
    clear S3
    rw [ew]
    rw [ev] at Z sv
    go_wp2_with fail
    exact bodyPost_ret (v := .agg #[u1]) (by simp [results, Tryz.results46, go_sem, k2]) rfl ⟨_, rfl, by rw [HV.out]; exact Z.out.1, Z.out.2⟩
end Go.Proofs.YtmiiaomdenpceaaGreatDoor

namespace Go.Proofs.YtmiiaomdenpceaaGreatDoor
open Go.RowKit
set_option maxRecDepth 100000
set_option linter.unusedVariables false
theorem ten_P90 {n : Nat} (h : n ≤ 1500) : 10 ^ n < P 90 := by
  exact Nat.lt_of_le_of_lt (Nat.pow_le_pow_right (by omega) h) (by decide +kernel : 10 ^ 1500 < P 90)
theorem pow_half {x y m X : Nat} (h : x * y ^ m = X) (hm : m % 2 = 0) : x * (y * y) ^ (m / 2) = X := by
  rw [← h, ← Nat.pow_two, ← Nat.pow_mul]
  congr 2
  omega
theorem pow_odd {x y m X : Nat} (h : x * y ^ m = X) (hm : m % 2 = 1) : x * y * (y * y) ^ (m / 2) = X := by
  rw [← h, ← Nat.pow_two, ← Nat.pow_mul, Nat.mul_assoc, ← Nat.pow_succ']
  congr 2
  omega
theorem pow_fst {x y m X : Nat} (h : x * y ^ m = X) (hy : 0 < y) : x ≤ X := by
  rw [← h]
  exact Nat.le_mul_of_pos_right _ (Nat.pow_pos hy)
theorem pow_snd {x y m X : Nat} (h : x * y ^ m = X) (hx : 0 < x) (hy : 0 < y) (hm : 0 < m) : y ≤ X := by
  rw [← h]
  have h1 : y ^ 1 ≤ y ^ m := Nat.pow_le_pow_right hy hm
  rw [Nat.pow_one] at h1
  exact Nat.le_trans h1 (Nat.le_mul_of_pos_left _ hx)
/-- What holds in a round. -/
def Tn10 (w : World) (b g n : Nat) (wr : World) (m x y : Nat) (a1 : Option Addr) (n1 c1 : Nat) (a2 : Option Addr) (n2 c2 : Nat) : Prop :=
  x * y ^ m = 10 ^ n ∧ 0 < x ∧ 0 < y ∧ SY w wr [(.agg #[.slice a1 n1 c1], x), (.agg #[.slice a2 n2 c2], y)] [] [] [] [(g, 0, .slice a1 n1 c1), (g + 1, 0, .slice a2 n2 c2), (b, 0, .slice none 0 0)] [g, g + 1, b] ∧ b < g
set_option maxHeartbeats 4000000 in
theorem tenTo_any (n : Nat) (w : World) (hn : n ≤ 1500) :
    Calls Tryz.prog 71 #[.int .i64 (n : Int)] w (Makes w (10 ^ n)) := by
  have S0 : Hid _ := (sy_start w).box1 (.slice none 0 0) 26 _ rfl
  have HX : Hid (n ≤ 1500 ∧ 10 ^ n < P 90) := ⟨hn, ten_P90 hn⟩
  go_enter Tryz.func71, Tryz.ntmps71
  go_wp2_with fail
  refine (of_any 1 _ (by omega)).mono ?_
  rintro e w1 ⟨v1, rfl, hv1, hb1⟩
  obtain ⟨a1, n1, c1, rfl⟩ := hv1.isAgg
  have S1 : Hid _ := (S0.out.go hb1).addN hv1
  clear hv1 hb1 S0
  go_wp2_with fail
  refine (of_any 10 _ (by omega)).mono ?_
  rintro e w2 ⟨v2, rfl, hv2, hb2⟩
  obtain ⟨a2, n2, c2, rfl⟩ := hv2.isAgg
  have S2 : Hid _ := (((S1.out.go hb2).addN hv2).box1 (.slice a1 n1 c1) 26 _ rfl).box1 (.slice a2 n2 c2) 26 _ rfl
  simp only [World.size_alloc] at S2
  have HB : Hid (w.heap.size < w2.heap.size) := (S1.out.go hb2).lt w.heap.size
  clear hv2 hb2 S1
  go_wp2_with fail
  obtain ⟨w3, hw3⟩ : ∃ w3, w3 = (w2.alloc (.cells #[.slice a1 n1 c1] 26)).alloc (.cells #[.slice a2 n2 c2] 26) := ⟨_, rfl⟩
  obtain ⟨g, hg⟩ : ∃ g, g = w2.heap.size := ⟨_, rfl⟩
  obtain ⟨b, hb⟩ : ∃ b, b = w.heap.size := ⟨_, rfl⟩
  rw [← hw3, ← hg, ← hb] at S2
  rw [← hw3, ← hg, ← hb]
  have hbg : b < g := by rw [hg, hb]; exact HB.out
  clear hw3 hg hb
  have A0 : Hid (Tn10 w b g n w3 n 1 10 a1 n1 c1 a2 n2 c2) := ⟨by rw [Nat.one_mul], by omega, by omega, S2.out.sub _ _ _ _ _ _ (by simp) (by simp) (by simp) (by simp) (by simp) (by simp), hbg⟩
  clear S2 hbg
  go_loopw [0] (fun t wr => ∃ (m x y : Nat) (a1 : Option Addr) (n1 c1 : Nat) (a2 : Option Addr) (n2 c2 : Nat), t = .int .i64 (m : Int) ∧ m ≤ 1500 ∧ Tn10 w b g n wr m x y a1 n1 c1 a2 n2 c2) (fun t _ => (intOf t).toNat)
  case atStart => exact ⟨n, 1, 10, _, _, _, _, _, _, rfl, HX.out.1, A0.out⟩
  case round =>
    clear A0
    obtain ⟨m, x, y, a1, n1, c1, a2, n2, c2, rfl, hm, hT⟩ := hrel
    have I : Hid _ := hT
    clear hT
    have k1 := I.out.2.2.2.1.cel g 0 (.slice a1 n1 c1)
    have k2 := I.out.2.2.2.1.cel (g + 1) 0 (.slice a2 n2 c2)
    have k3 := I.out.2.2.2.1.cel b 0 (.slice none 0 0)
    have f1 := I.out.2.2.2.1.fz g 0
    have f2 := I.out.2.2.2.1.fz (g + 1) 0
    have f3 := I.out.2.2.2.1.fz b 0
    by_cases h0 : 0 < m
    · obtain ⟨q, hq⟩ : ∃ q, q = m / 2 := ⟨_, rfl⟩
      have r2 : (m : Int).tdiv 2 = (q : Int) := by rw [Int.tdiv_eq_ediv_of_nonneg (by omega)]; omega
      have r3 : IntKind.i64.wrap (q : Int) = (q : Int) := by rw [IntKind.wrap_i64]; omega
      have d0 : decide (0 < (m : Int)) = true := decide_eq_true (by omega)
      have HQ : Hid (q = m / 2) := hq
      have HM : Hid (0 < m) := h0
      clear hq h0
      have sy : Hid (y < P 90) := Nat.lt_of_le_of_lt (pow_snd I.out.1 I.out.2.1 I.out.2.2.1 HM.out) HX.out.2
      have sx : Hid (x < P 90) := Nat.lt_of_le_of_lt (pow_fst I.out.1 I.out.2.2.1) HX.out.2
      by_cases ho : m % 2 = 1
      · have d3 : (m : Int).tmod 2 = 1 := by rw [Int.tmod_eq_emod_of_nonneg (by omega)]; omega
        have HO : Hid (m % 2 = 1) := ho
        clear ho
        go_wp2_with fail
        refine (mul_short _ _ x y _ (I.out.2.2.2.1.at (.agg #[.slice a1 n1 c1]) x) (I.out.2.2.2.1.at (.agg #[.slice a2 n2 c2]) y) (fits_P sx.out (by omega)) (fits_P sy.out (by omega)) (.inl (P_up sx.out (by omega)))).mono ?_
        rintro e w4 ⟨v4, rfl, hv4, hb4⟩
        obtain ⟨a4, n4, c4, rfl⟩ := hv4.isAgg
        have J : Hid _ := (I.out.2.2.2.1.go hb4).addN hv4
        clear hv4 hb4 k1 k2 k3 f1 f2 f3
        have k1 := J.out.cel g 0 (.slice a1 n1 c1)
        have k2 := J.out.cel (g + 1) 0 (.slice a2 n2 c2)
        have f1 := J.out.fz g 0
        have f2 := J.out.fz (g + 1) 0
        have K : Hid _ := (J.out.set (b := g) (i := 0) k1 (J.out.lo g) [(g + 1, 0, .slice a2 n2 c2), (b, 0, .slice none 0 0)] (by have := I.out.2.2.2.2; simp; omega) (.slice a4 n4 c4)).addC (b := g) (i := 0) (v := .slice a4 n4 c4) (by simp [go_sem, k1])
        have k5 : (w4.setCell ⟨g, 0, none⟩ (.slice a4 n4 c4)).cell? ⟨g + 1, 0, none⟩ = some (.slice a2 n2 c2) := K.out.cel (g + 1) 0 (.slice a2 n2 c2)
        go_wp2_with fail
        obtain ⟨w5, hw5⟩ : ∃ w5, w5 = w4.setCell ⟨g, 0, none⟩ (.slice a4 n4 c4) := ⟨_, rfl⟩
        rw [← hw5] at K
        rw [← hw5]
        clear hw5 J k1 k2 f1 f2 k5
        refine (mul_short _ _ y y _ (K.out.at (.agg #[.slice a2 n2 c2]) y) (K.out.at (.agg #[.slice a2 n2 c2]) y) (fits_P sy.out (by omega)) (fits_P sy.out (by omega)) (.inl (P_up sy.out (by omega)))).mono ?_
        rintro e w6 ⟨v6, rfl, hv6, hb6⟩
        obtain ⟨a6, n6, c6, rfl⟩ := hv6.isAgg
        have J : Hid _ := (K.out.go hb6).addN hv6
        clear hv6 hb6
        have k1 := J.out.cel (g + 1) 0 (.slice a2 n2 c2)
        have f1 := J.out.fz (g + 1) 0
        have L : Hid _ := (J.out.set (b := g + 1) (i := 0) k1 (J.out.lo (g + 1)) [(g, 0, .slice a4 n4 c4), (b, 0, .slice none 0 0)] (by have := I.out.2.2.2.2; simp; omega) (.slice a6 n6 c6)).addC (b := g + 1) (i := 0) (v := .slice a6 n6 c6) (by simp [go_sem, k1])
        have I2 : Hid (Tn10 w b g n (w6.setCell ⟨g + 1, 0, none⟩ (.slice a6 n6 c6)) q (x * y) (y * y) a4 n4 c4 a6 n6 c6) := ⟨by rw [HQ.out]; exact pow_odd I.out.1 HO.out, Nat.mul_pos I.out.2.1 I.out.2.2.1, Nat.mul_pos I.out.2.2.1 I.out.2.2.1, L.out.sub _ _ _ _ _ _ (by simp) (by simp) (by simp) (by simp) (by simp) (by simp), I.out.2.2.2.2⟩
        clear J K L sx sy
        go_wp2_with fail
        go_roundw
        case rel => exact ⟨q, x * y, y * y, _, _, _, _, _, _, by go_num, by have := HQ.out; omega, I2.out⟩
        case measure => have := HQ.out; have := HM.out; simp [intOf]; omega
      · have d3 : (m : Int).tmod 2 = 0 := by rw [Int.tmod_eq_emod_of_nonneg (by omega)]; omega
        have HO : Hid (m % 2 = 0) := by show _ = _; omega
        clear ho
        go_wp2_with fail
        refine (mul_short _ _ y y _ (I.out.2.2.2.1.at (.agg #[.slice a2 n2 c2]) y) (I.out.2.2.2.1.at (.agg #[.slice a2 n2 c2]) y) (fits_P sy.out (by omega)) (fits_P sy.out (by omega)) (.inl (P_up sy.out (by omega)))).mono ?_
        rintro e w6 ⟨v6, rfl, hv6, hb6⟩
        obtain ⟨a6, n6, c6, rfl⟩ := hv6.isAgg
        have J : Hid _ := (I.out.2.2.2.1.go hb6).addN hv6
        clear hv6 hb6 k1 k2 k3 f1 f2 f3
        have k1 := J.out.cel (g + 1) 0 (.slice a2 n2 c2)
        have f1 := J.out.fz (g + 1) 0
        have L : Hid _ := (J.out.set (b := g + 1) (i := 0) k1 (J.out.lo (g + 1)) [(g, 0, .slice a1 n1 c1), (b, 0, .slice none 0 0)] (by have := I.out.2.2.2.2; simp; omega) (.slice a6 n6 c6)).addC (b := g + 1) (i := 0) (v := .slice a6 n6 c6) (by simp [go_sem, k1])
        have I2 : Hid (Tn10 w b g n (w6.setCell ⟨g + 1, 0, none⟩ (.slice a6 n6 c6)) q x (y * y) a1 n1 c1 a6 n6 c6) := ⟨by rw [HQ.out]; exact pow_half I.out.1 HO.out, I.out.2.1, Nat.mul_pos I.out.2.2.1 I.out.2.2.1, L.out.sub _ _ _ _ _ _ (by simp) (by simp) (by simp) (by simp) (by simp) (by simp), I.out.2.2.2.2⟩
        clear J L sx sy
        go_wp2_with fail
        go_roundw
        case rel => exact ⟨q, x, y * y, _, _, _, _, _, _, by go_num, by have := HQ.out; omega, I2.out⟩
        case measure => have := HQ.out; have := HM.out; simp [intOf]; omega
    · obtain rfl : m = 0 := by omega
      have HV : Hid (10 ^ n = x) := by show _ = _; rw [← I.out.1, Nat.pow_zero, Nat.mul_one]
      have Z : Hid _ := I.out.2.2.2.1.ret1 (r := b) k3 (by simp) (I.out.2.2.2.1.at (.agg #[.slice a1 n1 c1]) x) (.slice a1 n1 c1)
      go_wp2_with fail
      exact bodyPost_ret (v := .agg #[.slice a1 n1 c1]) (by simp [results, Tryz.results71, go_sem, k3]) rfl ⟨_, rfl, by rw [HV.out]; exact Z.out.1, Z.out.2⟩
end Go.Proofs.YtmiiaomdenpceaaGreatDoor

namespace Go.Proofs.YtmiiaomdenpceaaGreatDoor
open Go.RowKit
set_option maxRecDepth 100000
set_option linter.unusedVariables false
theorem decVal_lt {s : ByteArray} : ∀ {i : Nat}, Digits s i → decVal s i < 10 ^ i
  | 0, _ => by simp [decVal]
  | i + 1, h => by
    have h1 := decVal_lt (i := i) fun j hj => h j (by omega)
    have h2 := h i (by omega)
    rw [decVal, Nat.pow_succ]
    omega
/-- Where Parse stands: its two boxes, the number so far. -/
structure PS (w wr : World) (ax : Option Addr) (nx cx X : Nat) : Prop where
  c1 : wr.cell? ⟨w.heap.size, 0, none⟩ = some (.slice none 0 0)
  f1 : wr.frozen? ⟨w.heap.size, 0, none⟩ = false
  c2 : wr.cell? ⟨w.heap.size + 1, 0, none⟩ = some (.slice ax nx cx)
  f2 : wr.frozen? ⟨w.heap.size + 1, 0, none⟩ = false
  num : RNat wr (.agg #[.slice ax nx cx]) X
  bel : Below w.heap.size w wr
theorem PS.mono {w wr w' : World} {ax : Option Addr} {nx cx X : Nat} (h : PS w wr ax nx cx X) (hb : Below wr.heap.size wr w') : PS w w' ax nx cx X :=
  ⟨cell_later hb h.c1, (hb.frozen (World.block_lt_of_cell? _ _ h.c1)).trans h.f1, cell_later hb h.c2, (hb.frozen (World.block_lt_of_cell? _ _ h.c2)).trans h.f2, h.num.mono hb, bel_go h.bel hb⟩
theorem PS.set {w wr : World} {ax a4 : Option Addr} {nx cx X n4 c4 Y : Nat} (h : PS w wr ax nx cx X) (hv : RNat wr (.agg #[.slice a4 n4 c4]) Y) : PS w (wr.setCell ⟨w.heap.size + 1, 0, none⟩ (.slice a4 n4 c4)) a4 n4 c4 Y := by
  have h1 := h.c1
  have h2 := h.c2
  have h3 := h.f1
  have h4 := h.f2
  refine ⟨?_, ?_, ?_, ?_, hv.setCell (no_int_slice h2) _, h.bel.setCell (by show _ ≤ _ + 1; omega) _⟩
  all_goals simp [go_sem, *]
end Go.Proofs.YtmiiaomdenpceaaGreatDoor

namespace Go.Proofs.YtmiiaomdenpceaaGreatDoor
open Go.RowKit
set_option linter.unusedVariables false
/-- Is there a digit? -/
def isD (s : ByteArray) (i : Nat) : Bool := decide (i < s.size) && (decide (48 ≤ sb s i) && decide (sb s i ≤ 57))
def runF (s : ByteArray) : Nat → Nat → Nat
  | 0, i => i
  | k + 1, i => if isD s i then runF s k (i + 1) else i
/-- Where the digits end that begin at i. -/
def runE (s : ByteArray) (i : Nat) : Nat := runF s (s.size - i) i
theorem isD_lt {s : ByteArray} {i : Nat} (h : isD s i = true) : i < s.size := by
  unfold isD at h
  simp at h
  exact h.1
theorem isD_dig {s : ByteArray} {i : Nat} (h : isD s i = true) : 48 ≤ sb s i ∧ sb s i ≤ 57 := by
  unfold isD at h
  simp at h
  exact h.2
theorem runE_yes {s : ByteArray} {i : Nat} (h : isD s i = true) : runE s i = runE s (i + 1) := by
  have := isD_lt h
  unfold runE
  rw [show s.size - i = s.size - (i + 1) + 1 by omega, runF, if_pos h]
theorem runE_no {s : ByteArray} {i : Nat} (h : isD s i = false) : runE s i = i := by
  unfold runE
  cases s.size - i with
  | zero => rfl
  | succ k => rw [runF, if_neg (by simp [h])]
theorem runF_ge (s : ByteArray) : ∀ k i, i ≤ runF s k i
  | 0, i => Nat.le_refl _
  | k + 1, i => by
    rw [runF]
    split
    · have := runF_ge s k (i + 1); omega
    · omega
theorem runE_ge (s : ByteArray) (i : Nat) : i ≤ runE s i := runF_ge s _ i
theorem runF_le (s : ByteArray) : ∀ k i, i ≤ s.size → runF s k i ≤ s.size
  | 0, i, h => h
  | k + 1, i, h => by
    rw [runF]
    split
    · rename_i hd
      have := isD_lt hd
      exact runF_le s k (i + 1) (by omega)
    · exact h
theorem runE_le {s : ByteArray} {i : Nat} (h : i ≤ s.size) : runE s i ≤ s.size := runF_le s _ i h
theorem runF_dig (s : ByteArray) : ∀ k i j, i ≤ j → j < runF s k i → isD s j = true
  | 0, i, j, h1, h2 => by rw [runF] at h2; omega
  | k + 1, i, j, h1, h2 => by
    rw [runF] at h2
    split at h2
    · rename_i hd
      rcases Nat.eq_or_lt_of_le h1 with e | e
      · rw [← e]; exact hd
      · exact runF_dig s k (i + 1) j e h2
    · omega
theorem runE_dig {s : ByteArray} {i j : Nat} (h1 : i ≤ j) (h2 : j < runE s i) : isD s j = true := runF_dig s _ i j h1 h2
/-- A piece of a text. -/
theorem sb_extract {s : ByteArray} {a b i : Nat} (hb : b ≤ s.size) (hi : a + i < b) : sb (s.extract a b) i = sb s (a + i) := by
  have h1 : i < (s.extract a b).size := by rw [ByteArray.size_extract]; omega
  have h2 : a + i < s.size := by omega
  unfold sb
  rw [dif_pos h1, dif_pos h2]
  rw [ByteArray.getElem_extract h1]
theorem size_ext {s : ByteArray} {a b : Nat} (hb : b ≤ s.size) : (s.extract a b).size = b - a := by rw [ByteArray.size_extract]; omega
theorem sb_app {s t : ByteArray} {i : Nat} : sb (s ++ t) i = if i < s.size then sb s i else sb t (i - s.size) := by
  have e := ByteArray.size_append (a := s) (b := t)
  unfold sb
  by_cases h1 : i < s.size
  · rw [if_pos h1, dif_pos h1, dif_pos (by omega), ByteArray.getElem_append_left h1]
  · rw [if_neg h1]
    by_cases h2 : i - s.size < t.size
    · rw [dif_pos h2, dif_pos (by omega), ByteArray.getElem_append_right (by omega)]
    · rw [dif_neg h2, dif_neg (by omega)]
theorem dig_ext {s : ByteArray} {i : Nat} (h : i ≤ s.size) : Digits (s.extract i (runE s i)) (s.extract i (runE s i)).size := by
  intro j hj
  have h1 := runE_le h
  rw [size_ext h1] at hj
  rw [sb_extract h1 (by omega)]
  exact isD_dig (runE_dig (i := i) (by omega) (by omega))
theorem dig_app {s t : ByteArray} (h : Digits s s.size) (k : Digits t t.size) : Digits (s ++ t) (s ++ t).size := by
  intro j hj
  rw [ByteArray.size_append] at hj
  rw [sb_app]
  split
  · exact h j (by assumption)
  · exact k _ (by omega)
end Go.Proofs.YtmiiaomdenpceaaGreatDoor


