/- Contracts of the program's functions, part 21: own work, joined in build order. -/
import Derived.Test.YthogfecnbddfoaaGreatDoorJ20
import Derived.Maps.AppendAt
import Derived.LaidEqlPtr
namespace Go.Proofs.YthogfecnbddfoaaGreatDoor
open Go.RowKit
set_option maxRecDepth 100000
set_option linter.unusedVariables false
set_option maxHeartbeats 8000000 in
theorem rcmp2_any (v u : Value) (p q x y : Nat) (w : World) (h : RRt w v p q) (k : RRt w u x y) (hp : RS p) (hq : RS q) (hx : RS x) (hy : RS y) (z : Int) (hz : cmpI (p * y) (x * q) = z) :
    Calls Tryz.prog 14 #[v, u] w fun e w' => e = .returned (.int .i64 z) ∧ Below w.heap.size w w' := by
  obtain ⟨a1, n1, c1, a2, n2, c2, e0, g1, g2⟩ := h
  subst e0
  obtain ⟨a3, n3, c3, a4, n4, c4, e1, g3, g4⟩ := k
  subst e1
  have S1 : Hid _ := ((((((sx_start w).addM g1).addM g2).addM g3).addM g4).box (.slice a1 n1 c1) (.slice a2 n2 c2) 35 _ rfl).box (.slice a3 n3 c3) (.slice a4 n4 c4) 35 _ rfl
  simp only [World.size_alloc] at S1
  obtain ⟨w0, hw0⟩ : ∃ w0, w0 = (w.alloc (.cells #[.slice a1 n1 c1, .slice a2 n2 c2] 35)).alloc (.cells #[.slice a3 n3 c3, .slice a4 n4 c4] 35) := ⟨_, rfl⟩
  have HH : Hid (RS p ∧ RS q ∧ RS x ∧ RS y ∧ RFits (p * y) ∧ RFits (x * q)) := ⟨hp, hq, hx, hy, rfits_P (hp.mul hy) (by omega), rfits_P (hx.mul hq) (by omega)⟩
  have HZ : Hid (cmpI (p * y) (x * q) = z) := hz
  clear g1 g2 g3 g4 hp hq hx hy hz
  go_enter Tryz.func14, Tryz.ntmps14
  go_wp2_with fail
  rw [← hw0] at S1
  rw [← hw0]
  obtain ⟨b2, hb2⟩ : ∃ b2, b2 = w.heap.size := ⟨_, rfl⟩
  rw [← hb2] at S1
  rw [← hb2]
  clear hw0 hb2
  refine wp_region_held_drew (S := fun w9 => w9.cell? ⟨b2, 0, none⟩ = some (.slice a1 n1 c1) ∧ w9.cell? ⟨b2, 1, none⟩ = some (.slice a2 n2 c2) ∧ w9.cell? ⟨b2 + 1, 0, none⟩ = some (.slice a3 n3 c3) ∧ w9.cell? ⟨b2 + 1, 1, none⟩ = some (.slice a4 n4 c4)) (by kernel_rfl) ⟨(S1.out.cel (b2) 0 (.slice a1 n1 c1)), (S1.out.cel (b2) 1 (.slice a2 n2 c2)), (S1.out.cel (b2 + 1) 0 (.slice a3 n3 c3)), (S1.out.cel (b2 + 1) 1 (.slice a4 n4 c4))⟩ (fun hHeld => ?_)
  refine wpAnyH_take (i := 0) (v := .pointer (some ⟨b2, 0, none⟩)) rfl (by kernel_rfl) (by kernel_rfl) (by kernel_rfl) (fun _ _ _ h => h) (Or.inl ⟨by rfl, ?_⟩) (by assumption) ?_
  · intro w hSw
    obtain ⟨g0, g1, g2, g3⟩ := hSw
    go_simp
  refine wpAnyH_take (i := 1) (v := .agg #[.slice a1 n1 c1]) rfl (by kernel_rfl) (by kernel_rfl) (by kernel_rfl) (fun _ _ _ h => h) (Or.inl ⟨by rfl, ?_⟩) (by assumption) ?_
  · intro w hSw
    obtain ⟨g0, g1, g2, g3⟩ := hSw
    go_simp
  refine wpAnyH_take (i := 2) (v := .pointer (some ⟨b2 + 1, 1, none⟩)) rfl (by kernel_rfl) (by kernel_rfl) (by kernel_rfl) (fun _ _ _ h => h) (Or.inl ⟨by rfl, ?_⟩) (by assumption) ?_
  · intro w hSw
    obtain ⟨g0, g1, g2, g3⟩ := hSw
    go_simp
  refine wpAnyH_take (i := 3) (v := .agg #[.slice a4 n4 c4]) rfl (by kernel_rfl) (by kernel_rfl) (by kernel_rfl) (fun _ _ _ h => h) (Or.inl ⟨by rfl, ?_⟩) (by assumption) ?_
  · intro w hSw
    obtain ⟨g0, g1, g2, g3⟩ := hSw
    go_simp
  refine wpAnyH_take (i := 5) (v := .pointer (some ⟨b2 + 1, 0, none⟩)) rfl (by kernel_rfl) (by kernel_rfl) (by kernel_rfl) (fun _ _ _ h => h) (Or.inl ⟨by rfl, ?_⟩) (by assumption) ?_
  · intro w hSw
    obtain ⟨g0, g1, g2, g3⟩ := hSw
    go_simp
  refine wpAnyH_take (i := 6) (v := .agg #[.slice a3 n3 c3]) rfl (by kernel_rfl) (by kernel_rfl) (by kernel_rfl) (fun _ _ _ h => h) (Or.inl ⟨by rfl, ?_⟩) (by assumption) ?_
  · intro w hSw
    obtain ⟨g0, g1, g2, g3⟩ := hSw
    go_simp
  refine wpAnyH_take (i := 7) (v := .pointer (some ⟨b2, 1, none⟩)) rfl (by kernel_rfl) (by kernel_rfl) (by kernel_rfl) (fun _ _ _ h => h) (Or.inl ⟨by rfl, ?_⟩) (by assumption) ?_
  · intro w hSw
    obtain ⟨g0, g1, g2, g3⟩ := hSw
    go_simp
  refine wpAnyH_take (i := 8) (v := .agg #[.slice a2 n2 c2]) rfl (by kernel_rfl) (by kernel_rfl) (by kernel_rfl) (fun _ _ _ h => h) (Or.inl ⟨by rfl, ?_⟩) (by assumption) ?_
  · intro w hSw
    obtain ⟨g0, g1, g2, g3⟩ := hSw
    go_simp
  refine wpAnyH_ready (rs := [4]) (by kernel_rfl) (by simp) ?_
  refine AllReadyH.cons rfl (fun K9 hK9 => ?_) AllReadyH.nil
  go_simp
  refine Calls.mono (rtimes_any _ _ p y _ ((S1.out.rat (.agg #[.slice a1 n1 c1]) p).mono (bel_dr (bel_refl _))) ((S1.out.rat (.agg #[.slice a4 n4 c4]) y).mono (bel_dr (bel_refl _))) HH.out.1.rfits HH.out.2.2.2.1.rfits) ?_
  rintro e w3 ⟨v3, rfl, hv3, hb3⟩
  replace hb3 : Below w0.heap.size w0 w3 := bel_undrew hb3
  have S2 : Hid _ := (S1.out.go hb3).addM hv3
  clear hv3 hb3 S1 hHeld
  refine hK9.out _ _ ⟨(S2.out.cel (b2) 0 (.slice a1 n1 c1)), (S2.out.cel (b2) 1 (.slice a2 n2 c2)), (S2.out.cel (b2 + 1) 0 (.slice a3 n3 c3)), (S2.out.cel (b2 + 1) 1 (.slice a4 n4 c4))⟩ (fun hHeld => ?_)
  clear hK9 K9
  refine wpAnyH_ready (rs := [9]) (by kernel_rfl) (by simp) ?_
  refine AllReadyH.cons rfl (fun K9 hK9 => ?_) AllReadyH.nil
  go_simp
  refine Calls.mono (rtimes_any _ _ x q _ (S2.out.rat (.agg #[.slice a3 n3 c3]) x) (S2.out.rat (.agg #[.slice a2 n2 c2]) q) HH.out.2.2.1.rfits HH.out.2.1.rfits) ?_
  rintro e w4 ⟨v4, rfl, hv4, hb4⟩
  have S3 : Hid _ := (S2.out.go hb4).addM hv4
  clear hv4 hb4 S2 hHeld
  refine hK9.out _ _ ⟨(S3.out.cel (b2) 0 (.slice a1 n1 c1)), (S3.out.cel (b2) 1 (.slice a2 n2 c2)), (S3.out.cel (b2 + 1) 0 (.slice a3 n3 c3)), (S3.out.cel (b2 + 1) 1 (.slice a4 n4 c4))⟩ (fun hHeld => ?_)
  clear hK9 K9
  refine wpAnyH_ready (rs := [10]) (by kernel_rfl) (by simp) ?_
  refine AllReadyH.cons rfl (fun K9 hK9 => ?_) AllReadyH.nil
  go_simp
  refine Calls.mono (rcmp_any v3 v4 (p * y) (x * q) _ (S3.out.rat v3 (p * y)) (S3.out.rat v4 (x * q)) HH.out.2.2.2.2.1 HH.out.2.2.2.2.2) ?_
  rintro e w6 ⟨rfl, hb6⟩
  have S4 : Hid _ := S3.out.go hb6
  rw [HZ.out]
  clear hb6 S3 hHeld
  refine hK9.out _ _ ⟨(S4.out.cel (b2) 0 (.slice a1 n1 c1)), (S4.out.cel (b2) 1 (.slice a2 n2 c2)), (S4.out.cel (b2 + 1) 0 (.slice a3 n3 c3)), (S4.out.cel (b2 + 1) 1 (.slice a4 n4 c4))⟩ (fun hHeld => ?_)
  clear hK9 K9
  refine wpAnyH_take (i := 11) (v := .int .i64 z) rfl (by kernel_rfl) (by kernel_rfl) (by kernel_rfl) (fun _ _ _ h => h) (Or.inl ⟨by rfl, ?_⟩) (by assumption) ?_
  · intro w hSw
    obtain ⟨g0, g1, g2, g3⟩ := hSw
    go_simp
  refine wpAnyH_done (by kernel_rfl) ?_ _
  go_wp2_with fail
  go_ret
  exact ⟨rfl, S4.out.bel⟩
end Go.Proofs.YthogfecnbddfoaaGreatDoor

namespace Go.Proofs.YthogfecnbddfoaaGreatDoor
open Go.RowKit
set_option maxRecDepth 100000
set_option linter.unusedVariables false
theorem Fc.radd {p q N1 D1 n x y N2 D2 m : Nat} (h : Fc p q N1 D1 n) (k : Fc x y N2 D2 m) (hn : n ≤ 90) (hm : m ≤ 90) : ∃ A B, Fc A B (N1 * D2 + N2 * D1) (D1 * D2) (n + m + 1) ∧ ∀ v u w, RRt w v p q → RRt w u x y → Calls Tryz.prog 12 #[v, u] w (MakesRR w A B) := by
  have low := low_terms (p * y + x * q) (q * y) (Nat.mul_pos h.pos k.pos)
  have s1 : p * y + x * q < P (n + m + 1) := P_twice (mulP_lt h.s1 k.s2) (by rw [Nat.add_comm n m]; exact mulP_lt k.s1 h.s2)
  have s2 : q * y < P (n + m + 1) := P_up (mulP_lt h.s2 k.s2) (by omega)
  exact ⟨_, _, ⟨low.1, low.2.2, Nat.mul_pos h.dpos k.dpos, val_add h.pos k.pos h.val k.val low.2.1, Nat.lt_of_le_of_lt (Nat.div_le_self _ _) s1, Nat.lt_of_le_of_lt (Nat.div_le_self _ _) s2⟩, fun v u w e1 e2 => radd2_any v u p q x y w e1 e2 (h.rs1 hn) (h.rs2 hn) (k.rs1 hm) (k.rs2 hm) h.pos k.pos⟩
theorem Fc.rcmp {p q N1 D1 n x y N2 D2 m : Nat} (h : Fc p q N1 D1 n) (k : Fc x y N2 D2 m) (hn : n ≤ 90) (hm : m ≤ 90) {z : Int} (hz : cmpI (N1 * D2) (N2 * D1) = z) : ∀ v u w, RRt w v p q → RRt w u x y → Calls Tryz.prog 14 #[v, u] w fun e w' => e = .returned (.int .i64 z) ∧ Below w.heap.size w w' := fun v u w e1 e2 =>
  rcmp2_any v u p q x y w e1 e2 (h.rs1 hn) (h.rs2 hn) (k.rs1 hm) (k.rs2 hm) z (by rw [cmp_scale (Nat.mul_pos h.dpos k.dpos) (Nat.mul_pos h.pos k.pos) (h.cross k).1 (h.cross k).2, hz])
/-- v is a bucket of the document's. -/
structure RB (W : World) (v : Value) (T N R D B : Nat) : Prop where
  ex : ∃ p q a1 n1 c1 a2 n2 c2 a3 n3 c3 a4 n4 c4, v = .agg #[.int .i64 (B : Int), .slice a1 n1 c1, .slice a2 n2 c2, .slice a3 n3 c3, .slice a4 n4 c4, .int .i64 (T : Int)] ∧ RRt W (.agg #[.slice a1 n1 c1, .slice a2 n2 c2]) R D ∧ RRt W (.agg #[.slice a3 n3 c3, .slice a4 n4 c4]) p q ∧ Fc p q N D 20
  cT : T ≤ 4611686018427387904
  cB : 1 ≤ B ∧ B ≤ 1099511627776
  cD : 0 < D ∧ D < P 18
  cR : R < P 17
  low : Nat.gcd R D = 1
  cN : N ≤ B * D
theorem RB.mono {W W' : World} {v : Value} {T N R D B : Nat} (h : RB W v T N R D B) (k : Below W.heap.size W W') : RB W' v T N R D B := by
  obtain ⟨p, q, a1, n1, c1, a2, n2, c2, a3, n3, c3, a4, n4, c4, e, h1, h2, h3⟩ := h.ex
  exact ⟨⟨p, q, a1, n1, c1, a2, n2, c2, a3, n3, c3, a4, n4, c4, e, h1.mono k, h2.mono k, h3⟩, h.cT, h.cB, h.cD, h.cR, h.low, h.cN⟩
theorem RB.fb {S : Nat → Prop} {W W' : World} {v : Value} {T N R D B : Nat} (h : RB W v T N R D B) (f : Fb S W W') (hn : ∀ k, S k → Odd W k) : RB W' v T N R D B := by
  obtain ⟨p, q, a1, n1, c1, a2, n2, c2, a3, n3, c3, a4, n4, c4, e, h1, h2, h3⟩ := h.ex
  exact ⟨⟨p, q, a1, n1, c1, a2, n2, c2, a3, n3, c3, a4, n4, c4, e, h1.fb f hn, h2.fb f hn, h3⟩, h.cT, h.cB, h.cD, h.cR, h.low, h.cN⟩
end Go.Proofs.YthogfecnbddfoaaGreatDoor

namespace Go.Proofs.YthogfecnbddfoaaGreatDoor
open Go.RowKit
set_option maxRecDepth 100000
set_option linter.unusedVariables false
/-- The sum of n numbers from the i-th on. -/
def sm (f : Nat → Nat) (i : Nat) : Nat → Nat
  | 0 => 0
  | n + 1 => sm f i n + f (i + n)
theorem sm_congr {f g : Nat → Nat} {i : Nat} : ∀ {n : Nat}, (∀ j, i ≤ j → j < i + n → f j = g j) → sm f i n = sm g i n
  | 0, _ => rfl
  | n + 1, h => by
    unfold sm
    rw [sm_congr (n := n) fun j h1 h2 => h j h1 (by omega), h (i + n) (by omega) (by omega)]
theorem sm_le {f : Nat → Nat} {i M : Nat} : ∀ {n : Nat}, (∀ j, i ≤ j → j < i + n → f j ≤ M) → sm f i n ≤ n * M
  | 0, _ => by simp [sm]
  | n + 1, h => by
    unfold sm
    have := sm_le (n := n) fun j h1 h2 => h j h1 (by omega)
    have := h (i + n) (by omega) (by omega)
    rw [Nat.succ_mul]
    omega
/-- What was taken so far, and when. -/
structure Cap (c T N R D B : Nat) (τ ν : Nat → Nat) : Prop where
  lo : ∀ j, j < c → τ j ≤ T
  rise : ∀ i j, i ≤ j → j < c → τ i ≤ τ j
  few : ∀ j, j < c → ν j ≤ 4398046511104
  all : D * sm ν 0 c + N ≤ R * T
  run : ∀ i, i < c → D * sm ν i (c - i) + N ≤ B * D + R * (T - τ i)
  pair : ∀ i n, i + n < c → D * sm ν i (n + 1) ≤ B * D + R * (τ (i + n) - τ i)
  last : 0 < c → D * sm ν 0 c ≤ R * τ (c - 1)
theorem cap_zero (R D B : Nat) (τ ν : Nat → Nat) : Cap 0 0 0 R D B τ ν := ⟨fun j h => by omega, fun i j _ h => by omega, fun j h => by omega, by simp [sm], fun i h => by omega, fun i n h => by omega, fun h => by omega⟩
theorem Cap.fill {c T N R D B T' N' : Nat} {τ ν : Nat → Nat} (h : Cap c T N R D B τ ν) (hT : T ≤ T') (hN : N' ≤ N + R * (T' - T)) : Cap c T' N' R D B τ ν := by
  refine ⟨fun j hj => Nat.le_trans (h.lo j hj) hT, h.rise, h.few, ?_, fun i hi => ?_, h.pair, h.last⟩
  · have h1 := h.all
    have h2 : R * T' = R * T + R * (T' - T) := by rw [← Nat.mul_add]; congr 1; omega
    omega
  · have h1 := h.run i hi
    have h3 := h.lo i hi
    have h2 : R * (T' - τ i) = R * (T - τ i) + R * (T' - T) := by rw [← Nat.mul_add]; congr 1; omega
    omega
theorem Cap.take {c T N R D B n : Nat} {τ ν τ' ν' : Nat → Nat} (h : Cap c T N R D B τ ν) (hB : N ≤ B * D) (hn : n * D ≤ N) (hf : n ≤ 4398046511104) (e1 : ∀ j, j < c → τ' j = τ j) (e2 : τ' c = T) (e3 : ∀ j, j < c → ν' j = ν j) (e4 : ν' c = n) : Cap (c + 1) T (N - n * D) R D B τ' ν' := by
  have s1 : ∀ i m, i + m ≤ c → sm ν' i m = sm ν i m := fun i m hm => sm_congr fun j _ h2 => e3 j (by omega)
  have s2 : ∀ i, i ≤ c → sm ν' i (c + 1 - i) = sm ν i (c - i) + n := fun i hi => by
    rw [show c + 1 - i = (c - i) + 1 by omega, sm, s1 i (c - i) (by omega), show i + (c - i) = c by omega, e4]
  have m1 : ∀ x, D * (x + n) = D * x + n * D := fun x => by rw [Nat.mul_add, Nat.mul_comm D n]
  have run' : ∀ i, i < c + 1 → D * sm ν' i (c + 1 - i) ≤ B * D + R * (T - τ' i) - (N - n * D) ∧ D * sm ν' i (c + 1 - i) + (N - n * D) ≤ B * D + R * (T - τ' i) := fun i hi => by
    rw [s2 i (by omega), m1]
    rcases Nat.lt_or_ge i c with hc | hc
    · have := h.run i hc
      rw [e1 i hc]
      omega
    · have hi2 : i = c := by omega
      subst hi2
      rw [Nat.sub_self, sm, Nat.mul_zero]
      omega
  refine ⟨fun j hj => ?_, fun i j hij hj => ?_, fun j hj => ?_, ?_, fun i hi => (run' i hi).2, fun i m him => ?_, fun _ => ?_⟩
  · rcases Nat.lt_or_ge j c with hc | hc
    · rw [e1 j hc]; exact h.lo j hc
    · rw [show j = c by omega, e2]; exact Nat.le_refl _
  · rcases Nat.lt_or_ge j c with hc | hc
    · rw [e1 j hc, e1 i (by omega)]; exact h.rise i j hij hc
    · rw [show j = c by omega, e2]
      rcases Nat.lt_or_ge i c with hc2 | hc2
      · rw [e1 i hc2]; exact h.lo i hc2
      · rw [show i = c by omega, e2]; exact Nat.le_refl _
  · rcases Nat.lt_or_ge j c with hc | hc
    · rw [e3 j hc]; exact h.few j hc
    · rw [show j = c by omega, e4]; exact hf
  · have h1 := h.all
    have h2 := s2 0 (by omega)
    rw [Nat.sub_zero, Nat.sub_zero] at h2
    rw [h2, m1]
    omega
  · rcases Nat.lt_or_ge (i + m) c with hc | hc
    · rw [s1 i (m + 1) (by omega), e1 (i + m) hc, e1 i (by omega)]
      exact h.pair i m hc
    · have hm : m = c - i := by omega
      have := (run' i (by omega)).2
      rw [show c + 1 - i = m + 1 by omega] at this
      rw [show i + m = c by omega, e2]
      omega
  · have h1 := h.all
    have h2 := s2 0 (by omega)
    rw [Nat.sub_zero, Nat.sub_zero] at h2
    rw [h2, m1, Nat.add_sub_cancel, e2]
    omega
theorem addr_addJ (b o j : Nat) : (⟨b, o, none⟩ : Addr).add j = ⟨b, o + j, none⟩ := by unfold Addr.add; split <;> simp_all
theorem info_partsJ {P : Program} {t : TypeId} {z : Option Value} {a b : Nat} (h : (P.info? t).map (fun i => (i.zero, i.size, i.bytes)) = some (z, a, b)) : ∃ i, P.info? t = some i ∧ i.zero = z ∧ i.size = a ∧ i.bytes = b := by
  cases e : P.info? t with
  | none => rw [e] at h; cases h
  | some i =>
    rw [e] at h
    simp at h
    exact ⟨i, rfl, h.1, h.2.1, h.2.2⟩
def isI (v : Value) : Prop := ∃ n, v = .int .i64 n
/-- The block is one of ints, its spare room too. -/
def OddB (W : World) (k : Nat) : Prop := ∃ cur, W.heap[k]? = some (.cells cur 3) ∧ ∀ x ∈ cur.toList, isI x
theorem OddB.odd {W : World} {k : Nat} (h : OddB W k) : Odd W k := by
  obtain ⟨cur, hc, hi⟩ := h
  intro i kk n e
  have e2 : cur[i]? = some (.int kk n) := by simpa [World.cell?, hc] using e
  obtain ⟨hl, hv⟩ := Array.getElem?_eq_some_iff.1 e2
  obtain ⟨m, hm⟩ := hi _ (Array.getElem_mem_toList hl)
  rw [hv] at hm
  cases hm
  rfl
/-- A row of ints of one's own. -/
structure RwO (base : Nat) (W : World) (v : Value) (xs : List Int) : Prop where
  row : W.ownsRow base 3 1 v xs.length (xs.map (Value.int .i64))
  odd : ∀ k, v.ownBlock = some k → OddB W k
theorem RwO.nil (base : Nat) (W : World) : RwO base W (.slice none 0 0) [] := ⟨⟨rfl, .inl ⟨rfl, rfl⟩⟩, fun k h => by cases h⟩
theorem RwO.blk {base : Nat} {W : World} {v : Value} {xs : List Int} (h : RwO base W v xs) {k : Nat} (hk : v.ownBlock = some k) : base ≤ k ∧ ∃ cs, W.heap[k]? = some (.cells cs 3) := by
  rcases h.row.2 with ⟨e, _⟩ | ⟨g, cap', cur, e, hb', hg, _⟩
  · rw [e] at hk
    cases hk
  · rw [e] at hk
    cases hk
    exact ⟨hb', cur, hg⟩
theorem RwO.kept {base : Nat} {W W' : World} {v : Value} {xs : List Int} (h : RwO base W v xs) (hk : ∀ k, v.ownBlock = some k → W'.heap[k]? = W.heap[k]?) : RwO base W' v xs := by
  refine ⟨⟨h.row.1, h.row.2.imp id ?_⟩, fun k e => ?_⟩
  · rintro ⟨g, cap, cur, e, hb, hg, rest⟩
    exact ⟨g, cap, cur, e, hb, (hk g (by rw [e]; rfl)).trans hg, rest⟩
  · obtain ⟨cur, hc, hi⟩ := h.odd k e
    exact ⟨cur, (hk k e).trans hc, hi⟩
theorem RwO.sl {base : Nat} {W : World} {v : Value} {xs : List Int} (h : RwO base W v xs) : ∃ a cap, v = .slice a xs.length cap ∧ xs.length ≤ cap ∧ cap ≤ 9223372036854775807 ∧ (0 < xs.length → ∃ g, a = some ⟨g, 0, none⟩ ∧ ∀ i, i < xs.length → W.cell? ⟨g, i, none⟩ = some (.int .i64 (xs.getD i 0))) := by
  rcases h.row.2 with ⟨e, e0⟩ | ⟨g, cap, cur, e, hb', hg, h1, h2, h3, h4⟩
  · refine ⟨none, 0, by rw [e]; congr 1; omega, by omega, by omega, fun h => by omega⟩
  · refine ⟨_, cap, e, h1, by simp only [maxLen] at h2; omega, fun _ => ⟨g, rfl, fun i hi => ?_⟩⟩
    have q4 := congrArg (fun l => l[i]?) h4
    simp only [Nat.mul_one] at q4
    rw [List.getElem?_take_of_lt hi, Array.getElem?_toList] at q4
    simp only [World.cell?, hg]
    simp [q4, hi]
theorem Tryz.infoJ : (Tryz.prog.info? 3).map (fun i => (i.zero, i.size, i.bytes)) = some (some (.int .i64 0), 1, 8) := by kernel_rfl
theorem isI_zeros (n : Nat) : ∀ x ∈ (Builtin.zeroCells (Value.int .i64 0).cells n).toList, isI x := by
  intro x hx
  simp [Builtin.zeroCells, Value.cells] at hx
  obtain ⟨j, _, hx⟩ := hx
  rw [Nat.mod_one] at hx
  exact ⟨0, hx.symm⟩
/-- append of one int. -/
theorem app_odd {w : World} {ty : TypeId} {base : Nat} {v : Value} {xs : List Int} {k : Int} {b : Nat} (hown : RwO base w v xs) (hc : w.cell? ⟨b, 0, none⟩ = some (.int .i64 k)) (hlim : xs.length ≤ 1000000) (hb : base ≤ w.heap.size) :
    ∃ v' w', (Builtin.append_ #[40, 40] ty #[v, .slice (some ⟨b, 0, none⟩) 1 1]).run Tryz.prog w = .ok v' w' ∧ RwO base w' v' (xs ++ [k]) ∧ w.grownBy w' v.ownBlock ∧ (v'.ownBlock = v.ownBlock ∨ v'.ownBlock = some w.heap.size) := by
  obtain ⟨i, hi, hz, hsz, hby⟩ := info_partsJ Tryz.infoJ
  have hnews : ∀ j u, [Value.int .i64 k][j]? = some u → w.cell? ((⟨b, 0, none⟩ : Addr).add j) = some u := by
    intro j u' hj
    rcases j with _ | j
    · simp at hj
      subst hj
      rw [addr_addJ]
      exact hc
    · simp at hj
  have h1 : ∀ u ∈ [Value.int .i64 k], u.oneCell' = true := by
    intro u hu
    simp at hu
    subst hu
    rfl
  obtain ⟨v', w', hr, r1, r2, _, r4⟩ := run_append_own_at (P := Tryz.prog) w base 40 ty 3 i _ 1 8 Tryz.underlying40 hi hz hsz hby rfl (by omega) v _ _ hown.row ⟨b, 0, none⟩ 1 1 [.int .i64 k] rfl hnews h1 (by simp only [maxLen]; omega) (by omega) hb
  refine ⟨v', w', hr, ⟨?_, ?_⟩, r2, r4⟩
  · rw [List.length_append, List.length_singleton, List.map_append]
    exact r1
  · have zs : ∀ (l : List Value) n, (∀ x ∈ l, isI x) → ∀ x ∈ (l.toArray ++ Builtin.zeroCells (Value.int .i64 0).cells n).toList, isI x := fun l n hl x hx => by
      rw [Array.toList_append, List.mem_append] at hx
      rcases hx with hx | hx
      · exact hl x (by simpa using hx)
      · exact isI_zeros n x hx
    have onek : ∀ x ∈ [Value.int .i64 k], isI x := fun x hx => by simp at hx; exact ⟨k, hx⟩
    have mp : ∀ x ∈ xs.map (Value.int .i64), isI x := fun x hx => by
      simp at hx
      obtain ⟨n, _, e⟩ := hx
      exact ⟨n, e.symm⟩
    intro g' hg'
    rcases hown.row.2 with ⟨e, e0⟩ | ⟨g, cap, cur, e, hbg, hg, hnc, hcm, hcs, htake⟩
    · subst e
      have q := run_append_nil (P := Tryz.prog) w 40 ty 3 i _ Tryz.underlying40 hi hz ⟨b, 0, none⟩ 1 1 [.int .i64 k] (by rw [hsz]; rfl) hnews (by omega) (by omega) (by rw [hby]; omega)
      rw [hr] at q
      injection q with q1 q2
      rw [q1] at hg'
      cases hg'
      rw [q2]
      exact ⟨_, heap_alloc_new w.drew _, zs [.int .i64 k] _ onek⟩
    · subst e
      by_cases hroom : xs.length + 1 ≤ cap
      · have q := run_append_room (P := Tryz.prog) w 40 ty 3 i Tryz.underlying40 hi g xs.length cap cur hg ⟨b, 0, none⟩ 1 1 [.int .i64 k] (by rw [hsz]; rfl) hnews h1 hroom (by rw [hsz]; simp only [List.length_singleton]; omega)
        rw [hr] at q
        injection q with q1 q2
        rw [q1] at hg'
        cases hg'
        rw [q2]
        refine ⟨_, setRow_heap w g cur _ 3 _ hg, fun x hx => ?_⟩
        obtain ⟨c2, hc2, hi2⟩ := hown.odd g rfl
        rw [hg] at hc2
        injection hc2 with hc2
        injection hc2 with hc2
        subst hc2
        rw [List.mem_append, List.mem_append] at hx
        rcases hx with (hx | hx) | hx
        · exact hi2 x (List.mem_of_mem_take hx)
        · exact onek x hx
        · exact hi2 x (List.mem_of_mem_drop hx)
      · have holds : ∀ j u, (xs.map (Value.int .i64))[j]? = some u → w.cell? ((⟨g, 0, none⟩ : Addr).add j) = some u := hown.row.cells (g := g) rfl
        have q := run_append_grow (P := Tryz.prog) w 40 ty 3 i _ Tryz.underlying40 hi hz ⟨g, 0, none⟩ xs.length cap (xs.map (Value.int .i64)) (by rw [hsz]; simp) holds ⟨b, 0, none⟩ 1 1 [.int .i64 k] (by rw [hsz]; rfl) hnews (by omega) (by omega) (by rw [hby]; exact growslice_fits (by omega) (by omega))
        rw [hr] at q
        injection q with q1 q2
        rw [q1] at hg'
        cases hg'
        rw [q2]
        refine ⟨_, heap_alloc_new w.drew _, ?_⟩
        intro x hx
        rw [Array.toList_append, List.mem_append, Array.toList_append, List.mem_append] at hx
        rcases hx with (hx | hx) | hx
        · exact mp x (by simpa using hx)
        · exact onek x (by simpa using hx)
        · exact isI_zeros _ x hx
theorem wp_appJ {w : World} {ops : Array Oper} {rest : List Oper} {o : Oper} {a : Act} {Q : Exit → Act → World → Prop} (hgd : o.guard = none) (s x : Operand)
    (ho : o.op = .call { callee := .builtin .append, args := #[s, x], argTypes := #[40, 40] }) (base : Nat) (v : Value) (xs : List Int) (k : Int) (hs : a.eval s = v) (hown : RwO base w v xs)
    (b : Nat) (hx : a.eval x = .slice (some ⟨b, 0, none⟩) 1 1) (hc : w.cell? ⟨b, 0, none⟩ = some (.int .i64 k)) (hlim : xs.length ≤ 1000000) (hb : base ≤ w.heap.size)
    (h : ∀ v' w', Hid (RwO base w' v' (xs ++ [k]) ∧ w.grownBy w' v.ownBlock ∧ (v'.ownBlock = v.ownBlock ∨ v'.ownBlock = some w.heap.size)) → wpList Tryz.prog ops Q rest (a.put o.dst v') w') : wpList Tryz.prog ops Q (o :: rest) a w := by
  refine wpList_plain hgd fun K hK => ?_
  obtain ⟨v', w', hr, h2, h3, h4⟩ := app_odd (ty := o.type) hown hc hlim hb
  unfold Oper.wp execOp
  simp only [ho, resolve, invoke, builtin, Sem.run_bind, Sem.run_pure, Result.andThen_ok, List.map_toArray, List.map_cons, List.map_nil, hs, hx, hr]
  exact hK _ _ (h v' w' ⟨h2, h3, h4⟩)
/-- What the law holds while it takes. -/
structure Cs (W0 W : World) (r0 b T N R D B rb : Nat) (u1 u2 tv nv : Value) (tl nl : List Nat) : Prop where
  bu : Bu W b T N R D B
  hb : W0.heap.size ≤ b
  rr : W.heap[rb]? = some (.cells #[u1, u2] 35)
  rv : RRt W (.agg #[u1, u2]) R D
  rt : RwO r0 W tv (tl.map Int.ofNat)
  rn : RwO r0 W nv (nl.map Int.ofNat)
  ap : ∀ k, tv.ownBlock = some k → nv.ownBlock ≠ some k
  base : W0.heap.size ≤ r0 ∧ r0 ≤ W.heap.size
  bel : Below W0.heap.size W0 W
  tab : Tab W
theorem ne_typeJ {W : World} {a b : Nat} {cs cs' : Array Value} {t t' : TypeId} (h : W.heap[a]? = some (.cells cs t)) (k : W.heap[b]? = some (.cells cs' t')) (hn : t ≠ t') : a ≠ b := by
  rintro rfl
  rw [h] at k
  injection k with k
  injection k with _ e
  exact hn e
theorem Bu.cellsJ {W : World} {b T N R D B : Nat} (h : Bu W b T N R D B) : ∃ cs, W.heap[b]? = some (.cells cs 58) := by
  obtain ⟨p, q, u1, u2, u3, u4, u5, u6, hb, _⟩ := h.ex
  exact ⟨_, hb⟩
section
variable {W0 W W' : World} {r0 b T N R D B rb : Nat} {u1 u2 tv nv : Value} {tl nl : List Nat}
theorem Cs.go (h : Cs W0 W r0 b T N R D B rb u1 u2 tv nv tl nl) (k : Below W.heap.size W W') : Cs W0 W' r0 b T N R D B rb u1 u2 tv nv tl nl := by
  have lt : ∀ {k : Nat} {o : Obj}, W.heap[k]? = some o → k < W.heap.size := fun e => (Array.getElem?_eq_some_iff.1 e).1
  refine ⟨h.bu.go k, h.hb, (k.block rb (lt h.rr)).trans h.rr, h.rv.mono k, h.rt.kept fun j e => ?_, h.rn.kept fun j e => ?_, h.ap, ⟨h.base.1, Nat.le_trans h.base.2 k.size⟩, h.bel.trans (k.mono h.bel.size), h.tab.go k⟩
  · obtain ⟨_, cs, e2⟩ := h.rt.blk e
    exact k.block j (lt e2)
  · obtain ⟨_, cs, e2⟩ := h.rn.blk e
    exact k.block j (lt e2)
/-- Behind a call of the bucket's. -/
theorem Cs.take {T' N' : Nat} (h : Cs W0 W r0 b T N R D B rb u1 u2 tv nv tl nl) (k : Bu W' b T' N' R D B) (f : Fb (fun x => x = b) W W') : Cs W0 W' r0 b T' N' R D B rb u1 u2 tv nv tl nl := by
  have lt : ∀ {k : Nat} {o : Obj}, W.heap[k]? = some o → k < W.heap.size := fun e => (Array.getElem?_eq_some_iff.1 e).1
  have od : ∀ x, x = b → Odd W x := fun x e => e ▸ h.bu.odd
  obtain ⟨cb, hcb⟩ := h.bu.cellsJ
  refine ⟨k, h.hb, f.heap h.rr (fun e => ne_typeJ h.rr hcb (by decide) e), h.rv.fb f od, h.rt.kept fun j e => ?_, h.rn.kept fun j e => ?_, h.ap, ⟨h.base.1, Nat.le_trans h.base.2 f.size⟩, h.bel.trans (f.below h.bel.size (fun x e => e ▸ h.hb)), h.tab.fb f od⟩
  · obtain ⟨_, cs, e2⟩ := h.rt.blk e
    exact f.block j (lt e2) (ne_typeJ e2 hcb (by decide))
  · obtain ⟨_, cs, e2⟩ := h.rn.blk e
    exact f.block j (lt e2) (ne_typeJ e2 hcb (by decide))
theorem Cs.grown {v : Value} {xs : List Int} {k : Int} (h : Cs W0 W r0 b T N R D B rb u1 u2 tv nv tl nl) (hr : RwO r0 W v xs) (hg : (W.alloc (.cells #[.int .i64 k] 3)).grownBy W' v.ownBlock) :
    Fb (fun j => v.ownBlock = some j) W W' ∧ Bu W' b T N R D B ∧ W'.heap[rb]? = some (.cells #[u1, u2] 35) ∧ RRt W' (.agg #[u1, u2]) R D ∧ r0 ≤ W'.heap.size ∧ Below W0.heap.size W0 W' ∧ Tab W' := by
  have f1 : Fb (fun j => v.ownBlock = some j) W (W.alloc (.cells #[.int .i64 k] 3)) := Fb.of (bel_al (bel_refl _))
  have f2 : Fb (fun j => v.ownBlock = some j) (W.alloc (.cells #[.int .i64 k] 3)) W' := ⟨hg.os, hg.tape, hg.output, hg.size, fun j hj hn => hg.block j hj fun e => hn e.symm⟩
  have f := f1.trans f2
  have od : ∀ j, v.ownBlock = some j → Odd W j := fun j e => (hr.odd j e).odd
  obtain ⟨cb, hcb⟩ := h.bu.cellsJ
  have nb : ∀ (j : Nat) (t : TypeId) (cs : Array Value), W.heap[j]? = some (.cells cs t) → t ≠ 3 → ¬ v.ownBlock = some j := fun j t cs e ht e2 => by
    obtain ⟨_, c2, e3⟩ := hr.blk e2
    exact ne_typeJ e e3 ht rfl
  exact ⟨f, h.bu.fb f od (nb b _ cb hcb (by decide)), f.heap h.rr (nb rb _ _ h.rr (by decide)), h.rv.fb f od, Nat.le_trans h.base.2 f.size, h.bel.trans (f.below h.bel.size (fun j e => Nat.le_trans h.base.1 (hr.blk e).1)), h.tab.fb f od⟩
theorem Cs.appT {v' : Value} {x : Nat} (h : Cs W0 W r0 b T N R D B rb u1 u2 tv nv tl nl) (hr : RwO r0 W' v' (tl.map Int.ofNat ++ [(x : Int)])) (hg : (W.alloc (.cells #[.int .i64 (x : Int)] 3)).grownBy W' tv.ownBlock) (hat : v'.ownBlock = tv.ownBlock ∨ v'.ownBlock = some (W.heap.size + 1)) :
    Cs W0 W' r0 b T N R D B rb u1 u2 v' nv (tl ++ [x]) nl := by
  have lt : ∀ {k : Nat} {o : Obj}, W.heap[k]? = some o → k < W.heap.size := fun e => (Array.getElem?_eq_some_iff.1 e).1
  obtain ⟨f, g1, g2, g3, g4, g5, g6⟩ := h.grown h.rt hg
  refine ⟨g1, h.hb, g2, g3, by rw [List.map_append]; exact hr, h.rn.kept fun j e => ?_, fun k e1 e2 => ?_, ⟨h.base.1, g4⟩, g5, g6⟩
  · obtain ⟨_, cs, e2⟩ := h.rn.blk e
    exact f.block j (lt e2) fun e3 => h.ap j e3 e
  · obtain ⟨_, cs, e3⟩ := h.rn.blk e2
    rcases hat with e | e
    · exact h.ap k (by rw [← e]; exact e1) e2
    · rw [e] at e1
      injection e1 with e1
      have := lt e3
      omega
theorem Cs.appN {v' : Value} {x : Nat} (h : Cs W0 W r0 b T N R D B rb u1 u2 tv nv tl nl) (hr : RwO r0 W' v' (nl.map Int.ofNat ++ [(x : Int)])) (hg : (W.alloc (.cells #[.int .i64 (x : Int)] 3)).grownBy W' nv.ownBlock) (hat : v'.ownBlock = nv.ownBlock ∨ v'.ownBlock = some (W.heap.size + 1)) :
    Cs W0 W' r0 b T N R D B rb u1 u2 tv v' tl (nl ++ [x]) := by
  have lt : ∀ {k : Nat} {o : Obj}, W.heap[k]? = some o → k < W.heap.size := fun e => (Array.getElem?_eq_some_iff.1 e).1
  obtain ⟨f, g1, g2, g3, g4, g5, g6⟩ := h.grown h.rn hg
  refine ⟨g1, h.hb, g2, g3, h.rt.kept fun j e => ?_, by rw [List.map_append]; exact hr, fun k e1 e2 => ?_, ⟨h.base.1, g4⟩, g5, g6⟩
  · obtain ⟨_, cs, e2⟩ := h.rt.blk e
    exact f.block j (lt e2) fun e3 => h.ap j e e3
  · obtain ⟨_, cs, e3⟩ := h.rt.blk e1
    rcases hat with e | e
    · exact h.ap k e1 (by rw [← e]; exact e2)
    · rw [e] at e2
      injection e2 with e2
      have := lt e3
      omega
end
theorem getD_app (l : List Nat) (x j : Nat) : (l ++ [x]).getD j 0 = if j = l.length then x else l.getD j 0 := by
  simp only [List.getD_eq_getElem?_getD]
  rcases Nat.lt_trichotomy j l.length with h | h | h
  · rw [List.getElem?_append_left h, if_neg (by omega)]
  · subst h
    simp
  · rw [if_neg (by omega), List.getElem?_eq_none (by simp; omega), List.getElem?_eq_none (by omega)]
/-- By lists. -/
def CapL (T N R D B : Nat) (tl nl : List Nat) : Prop := tl.length = nl.length ∧ Cap tl.length T N R D B (fun j => tl.getD j 0) (fun j => nl.getD j 0)
theorem CapL.fill {T N R D B T' N' : Nat} {tl nl : List Nat} (h : CapL T N R D B tl nl) (hT : T ≤ T') (hN : N' ≤ N + R * (T' - T)) : CapL T' N' R D B tl nl := ⟨h.1, h.2.fill hT hN⟩
theorem CapL.take {T N R D B n : Nat} {tl nl : List Nat} (h : CapL T N R D B tl nl) (hB : N ≤ B * D) (hn : n * D ≤ N) (hf : n ≤ 4398046511104) : CapL T (N - n * D) R D B (tl ++ [T]) (nl ++ [n]) := by
  refine ⟨by simp [h.1], ?_⟩
  rw [List.length_append, List.length_singleton]
  refine h.2.take hB hn hf (fun j hj => ?_) ?_ (fun j hj => ?_) ?_
  · rw [getD_app, if_neg (by omega)]
  · rw [getD_app, if_pos rfl]
  · rw [getD_app, if_neg (by have := h.1; omega)]
  · rw [getD_app, if_pos h.1]
end Go.Proofs.YthogfecnbddfoaaGreatDoor

namespace Go.Proofs.YthogfecnbddfoaaGreatDoor
open Go.RowKit
set_option maxRecDepth 100000
set_option linter.unusedVariables false
/-- A bucket beside one box of a fraction. -/
structure Sr (W0 W : World) (b R D B : Nat) : Prop where
  bu : Bu W b 0 0 R D B
  lo : W0.heap.size ≤ b
  bel : Below W0.heap.size W0 W
  tab : Tab W
theorem Sr.go {W0 W W' : World} {b R D B : Nat} (h : Sr W0 W b R D B) (k : Below W.heap.size W W') : Sr W0 W' b R D B := ⟨h.bu.go k, h.lo, h.bel.trans (k.mono h.bel.size), h.tab.go k⟩
theorem int_far {w : World} {x y : Addr} {k : IntKind} {n : Int} {a : Option Addr} {m c : Nat} (h : w.cell? y = some (.int k n)) (hx : w.cell? x = some (.slice a m c)) (v : Value) : (w.setCell x v).cell? y = some (.int k n) := by
  have ne : x ≠ y := fun e => by rw [e, h] at hx; cases hx
  first | rw [World.cell?_setCell_other (h := ne)]; exact h | rw [World.cell?_setCell_other (h := ne.symm)]; exact h
theorem Sr.put {W0 W : World} {b R D B g : Nat} (h : Sr W0 W b R D B) (hg : W0.heap.size ≤ g) (hne : g ≠ b) {v1 v2 : Value} {a1 a2 : Option Addr} {n1 c1 n2 c2 : Nat} (x0 : W.cell? ⟨g, 0, none⟩ = some (.slice a1 n1 c1)) (x1 : W.cell? ⟨g, 1, none⟩ = some (.slice a2 n2 c2)) :
    Sr W0 ((W.setCell ⟨g, 0, none⟩ v1).setCell ⟨g, 1, none⟩ v2) b R D B ∧ ∀ V p q, RRt W V p q → RRt ((W.setCell ⟨g, 0, none⟩ v1).setCell ⟨g, 1, none⟩ v2) V p q := by
  have F : Fb (fun x => x = g) W ((W.setCell ⟨g, 0, none⟩ v1).setCell ⟨g, 1, none⟩ v2) := ((Fb.refl (fun x => x = g) W).set (x := ⟨g, 0, none⟩) rfl v1).set (x := ⟨g, 1, none⟩) rfl v2
  have hs := two_set x0 x1 v1
  have x1' : (W.setCell ⟨g, 0, none⟩ v1).cell? ⟨g, 1, none⟩ = some (.slice a2 n2 c2) := by rw [World.cell?_setCell_other (h := by simp)]; exact x1
  refine ⟨⟨?_, h.lo, (h.bel.setCell hg _).setCell hg _, fun j hj => int_far (int_far (h.tab j hj) x0 _) x1' _⟩, fun V p q hv => (hv.setCell hs.1 _).setCell hs.2 _⟩
  obtain ⟨p0, q0, u1, u2, u3, u4, u5, u6, hb, h1, f1, h2, h3⟩ := h.bu.ex
  exact ⟨⟨⟨p0, q0, u1, u2, u3, u4, u5, u6, F.heap hb (fun e => hne e.symm), (h1.setCell hs.1 _).setCell hs.2 _, f1, (h2.setCell hs.1 _).setCell hs.2 _, (h3.setCell hs.1 _).setCell hs.2 _⟩, h.bu.cT, h.bu.cB, h.bu.cD, h.bu.cR, h.bu.low⟩, h.bu.cN⟩
theorem Sr.at {W0 W : World} {b R D B t p q : Nat} (h : Sr W0 W b R D B) (ht : t ≤ 4611686018427387904) (hf : Fc p q (fillN 0 R D B t) D 20) : Calls Tryz.prog 24 #[.pointer (some ⟨b, 0, none⟩), .int .i64 (t : Int)] W fun e W' => ∃ v, e = .returned v ∧ Rt W' v p q ∧ Below W0.heap.size W0 W' ∧ Fb (fun x => x = b) W W' := by
  refine (bat_any b 0 0 R D B (t : Int) W h.bu h.tab).mono ?_
  rintro e W' ⟨v, p', q', rfl, hv, hf', k, f⟩
  rw [atN_of (Nat.zero_le _) ht, Nat.sub_zero] at hf'
  obtain ⟨rfl, rfl⟩ := hf'.one hf
  exact ⟨v, rfl, hv, h.bel.trans (f.below h.bel.size (fun x e => e ▸ h.lo)), f⟩
end Go.Proofs.YthogfecnbddfoaaGreatDoor

namespace Go.Proofs.YthogfecnbddfoaaGreatDoor
open Go.RowKit
set_option maxRecDepth 100000
set_option linter.unusedVariables false
/-- What is known of a world; Z: blocks of ours that may be written. -/
structure SY (w0 w : World) (N M : List (Value × Nat)) (F G : List (Value × Nat × Nat)) (C : List (Nat × Nat × Value)) (Z : List Nat) : Prop where
  sx : SX w0 w N M F G C
  fzs : ∀ b ∈ Z, (∀ i, w.frozen? ⟨b, i, none⟩ = false) ∧ w0.heap.size ≤ b ∧ b < w.heap.size
section
variable {w0 w : World} {N M : List (Value × Nat)} {F G : List (Value × Nat × Nat)} {C : List (Nat × Nat × Value)} {Z : List Nat}
theorem sy_start (w : World) : SY w w [] [] [] [] [] [] := ⟨sx_start w, fun _ h => by cases h⟩
theorem SY.bel (h : SY w0 w N M F G C Z) : Below w0.heap.size w0 w := h.sx.bel
theorem SY.go (h : SY w0 w N M F G C Z) {w' : World} (hb : Below w.heap.size w w') : SY w0 w' N M F G C Z :=
  ⟨h.sx.go hb, fun b hz => ⟨fun i => (hb.frozen (p := ⟨b, i, none⟩) (h.fzs b hz).2.2).trans ((h.fzs b hz).1 i), (h.fzs b hz).2.1, Nat.lt_of_lt_of_le (h.fzs b hz).2.2 hb.size⟩⟩
theorem SY.at (h : SY w0 w N M F G C Z) (v : Value) (x : Nat) (hm : (v, x) ∈ N := by simp) : IsNat w v x := h.sx.nats _ hm
theorem SY.rat (h : SY w0 w N M F G C Z) (v : Value) (x : Nat) (hm : (v, x) ∈ M := by simp) : RNat w v x := h.sx.rnats _ hm
theorem SY.fr (h : SY w0 w N M F G C Z) (v : Value) (p q : Nat) (hm : (v, p, q) ∈ F := by simp) : Rt w v p q := h.sx.frs _ hm
theorem SY.rfr (h : SY w0 w N M F G C Z) (v : Value) (p q : Nat) (hm : (v, p, q) ∈ G := by simp) : RRt w v p q := h.sx.rfrs _ hm
theorem SY.cel (h : SY w0 w N M F G C Z) (b i : Nat) (u : Value) (hm : (b, i, u) ∈ C := by simp) : w.cell? ⟨b, i, none⟩ = some u := h.sx.cells _ hm
theorem SY.cell (h : SY w0 w N M F G C Z) (b : Nat) (u : Value) (hm : (b, 0, u) ∈ C := by simp) : w.cell? ⟨b, 0, none⟩ = some u := h.sx.cells _ hm
theorem SY.fz (h : SY w0 w N M F G C Z) (b i : Nat) (hm : b ∈ Z := by simp) : w.frozen? ⟨b, i, none⟩ = false := (h.fzs b hm).1 i
theorem SY.lo (h : SY w0 w N M F G C Z) (b : Nat) (hm : b ∈ Z := by simp) : w0.heap.size ≤ b := (h.fzs b hm).2.1
theorem SY.lt (h : SY w0 w N M F G C Z) (b : Nat) (hm : b ∈ Z := by simp) : b < w.heap.size := (h.fzs b hm).2.2
theorem SY.addN (h : SY w0 w N M F G C Z) {v : Value} {x : Nat} (hv : IsNat w v x) : SY w0 w ((v, x) :: N) M F G C Z := ⟨h.sx.addN hv, h.fzs⟩
theorem SY.addM (h : SY w0 w N M F G C Z) {v : Value} {x : Nat} (hv : RNat w v x) : SY w0 w N ((v, x) :: M) F G C Z := ⟨h.sx.addM hv, h.fzs⟩
theorem SY.addF (h : SY w0 w N M F G C Z) {v : Value} {x y : Nat} (hv : Rt w v x y) : SY w0 w N M ((v, x, y) :: F) G C Z := ⟨h.sx.addF hv, h.fzs⟩
theorem SY.addG (h : SY w0 w N M F G C Z) {v : Value} {x y : Nat} (hv : RRt w v x y) : SY w0 w N M F ((v, x, y) :: G) C Z := ⟨h.sx.addG hv, h.fzs⟩
theorem SY.addC (h : SY w0 w N M F G C Z) {b i : Nat} {v : Value} (hv : w.cell? ⟨b, i, none⟩ = some v) : SY w0 w N M F G ((b, i, v) :: C) Z := ⟨h.sx.addC hv, h.fzs⟩
theorem SY.addZ (h : SY w0 w N M F G C Z) {b : Nat} (hv : ∀ i, w.frozen? ⟨b, i, none⟩ = false) (h1 : w0.heap.size ≤ b) (h2 : b < w.heap.size) : SY w0 w N M F G C (b :: Z) :=
  ⟨h.sx, fun x hx => by
    rcases List.mem_cons.1 hx with e | e
    · subst e; exact ⟨hv, h1, h2⟩
    · exact h.fzs x e⟩
theorem SY.box1 (h : SY w0 w N M F G C Z) (u : Value) (t : TypeId) (g : Nat) (hg : g = w.heap.size) : SY w0 (w.alloc (.cells #[u] t)) N M F G ((g, 0, u) :: C) (g :: Z) := by
  subst hg
  have k := h.go (w' := w.alloc (.cells #[u] t)) (bel_al (Below.refl _ _))
  exact SY.addZ ⟨h.sx.box1 u t _ rfl, k.fzs⟩ (fun i => by simp [go_sem]) h.bel.size (by simp)
theorem SY.box (h : SY w0 w N M F G C Z) (u u' : Value) (t : TypeId) (g : Nat) (hg : g = w.heap.size) : SY w0 (w.alloc (.cells #[u, u'] t)) N M F G ((g, 0, u) :: (g, 1, u') :: C) (g :: Z) := by
  subst hg
  have k := h.go (w' := w.alloc (.cells #[u, u'] t)) (bel_al (Below.refl _ _))
  exact SY.addZ ⟨h.sx.box u u' t _ rfl, k.fzs⟩ (fun i => by simp [go_sem]) h.bel.size (by simp)
/-- A cell is written over: what lay elsewhere stays. -/
theorem SY.set (h : SY w0 w N M F G C Z) {b i : Nat} {a : Option Addr} {n c : Nat} (hc : w.cell? ⟨b, i, none⟩ = some (.slice a n c)) (hlo : w0.heap.size ≤ b) (C' : List (Nat × Nat × Value)) (hC : ∀ p ∈ C', p ∈ C ∧ p.1 ≠ b) (u : Value) : SY w0 (w.setCell ⟨b, i, none⟩ u) N M F G C' Z :=
  ⟨h.sx.set hc hlo C' hC u, fun x hx => ⟨fun j => by rw [World.frozen?_setCell]; exact (h.fzs x hx).1 j, (h.fzs x hx).2.1, by simpa [go_sem] using (h.fzs x hx).2.2⟩⟩
theorem SY.sub (h : SY w0 w N M F G C Z) (N' M' : List (Value × Nat)) (F' G' : List (Value × Nat × Nat)) (C' : List (Nat × Nat × Value)) (Z' : List Nat) (h1 : ∀ p ∈ N', p ∈ N) (h2 : ∀ p ∈ M', p ∈ M) (h3 : ∀ p ∈ F', p ∈ F) (h4 : ∀ p ∈ G', p ∈ G) (h5 : ∀ p ∈ C', p ∈ C) (h6 : ∀ p ∈ Z', p ∈ Z) : SY w0 w N' M' F' G' C' Z' :=
  ⟨⟨fun p hp => h.sx.nats p (h1 p hp), fun p hp => h.sx.rnats p (h2 p hp), fun p hp => h.sx.frs p (h3 p hp), fun p hp => h.sx.rfrs p (h4 p hp), fun p hp => h.sx.cells p (h5 p hp), h.sx.bel⟩, fun b hb => h.fzs b (h6 b hb)⟩
end
end Go.Proofs.YthogfecnbddfoaaGreatDoor

