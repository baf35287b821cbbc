/- Contracts of the program's functions, part 16: own work, joined in build order. -/
import Derived.Test.YtfkkomppfghagaaGreatDoorJ15
import Derived.Deep.Cut
import Derived.Deep.CutRange
namespace Go.Proofs.YtfkkomppfghagaaGreatDoor
open Go.RowKit
set_option maxRecDepth 100000
set_option linter.unusedVariables false
theorem pr1_le {D : Nat → Nat} : ∀ n, (∀ i, i < n → D i < P 1) → pr1 D n ≤ P n
  | 0, _ => by simp [pr1, P_zero]
  | n + 1, h => by
    rw [pr1, P_add]
    exact Nat.mul_le_mul (pr1_le n fun i hi => h i (by omega)) (Nat.le_of_lt (h n (by omega)))
theorem nu1_le {X D : Nat → Nat} : ∀ n, (∀ i, i < n → X i < P 1 ∧ D i < P 1) → nu1 X D n ≤ n * P n
  | 0, _ => by simp [nu1]
  | n + 1, h => by
    have h1 := nu1_le n fun i hi => h i (by omega)
    have h2 := pr1_le (D := D) n fun i hi => (h i (by omega)).2
    have h3 := h n (by omega)
    have a1 : nu1 X D n * D n ≤ n * P n * P 1 := Nat.mul_le_mul h1 (Nat.le_of_lt h3.2)
    have a2 : X n * pr1 D n ≤ P 1 * P n := Nat.mul_le_mul (Nat.le_of_lt h3.1) h2
    rw [nu1, P_add]
    generalize P 1 = a at *
    generalize P n = b at *
    have e1 : (n + 1) * (b * a) = n * b * a + a * b := by grind
    omega
theorem nu2_le {X D : Nat → Nat} : ∀ n, (∀ i, i < n → X i < P 1 ∧ D i < P 1) → nu2 X D n ≤ n * P (2 * n)
  | 0, _ => by simp [nu2]
  | n + 1, h => by
    have h1 := nu2_le n fun i hi => h i (by omega)
    have h2 := pr1_le (D := D) n fun i hi => (h i (by omega)).2
    have h3 := h n (by omega)
    have b1 : D n * D n ≤ P 1 * P 1 := Nat.mul_le_mul (Nat.le_of_lt h3.2) (Nat.le_of_lt h3.2)
    have b2 : X n * X n ≤ P 1 * P 1 := Nat.mul_le_mul (Nat.le_of_lt h3.1) (Nat.le_of_lt h3.1)
    have b3 : pr1 D n * pr1 D n ≤ P n * P n := Nat.mul_le_mul h2 h2
    have a1 : nu2 X D n * (D n * D n) ≤ n * P (2 * n) * (P 1 * P 1) := Nat.mul_le_mul h1 b1
    have a2 : X n * X n * (pr1 D n * pr1 D n) ≤ P 1 * P 1 * (P n * P n) := Nat.mul_le_mul b2 b3
    rw [nu2, show 2 * (n + 1) = n + n + (1 + 1) by omega, P_add, P_add, P_add]
    rw [show 2 * n = n + n by omega, P_add] at a1
    generalize P 1 = a at *
    generalize P n = b at *
    have e1 : (n + 1) * (b * b * (a * a)) = n * (b * b) * (a * a) + a * a * (b * b) := by grind
    omega
theorem few_lt {x n m k : Nat} (h : x ≤ n * P k) (hn : n ≤ 1000) (hk : k + 1 ≤ m) : x < P m := by
  refine Nat.lt_of_lt_of_le (?_ : x < P (k + 1)) (P_le hk)
  rw [P_add, P_one]
  have := P_pos k
  have : n * P k ≤ 1000 * P k := Nat.mul_le_mul hn (Nat.le_refl _)
  omega
structure Fq (n : Nat) (X Y N D : Nat → Nat) : Prop where
  few : n ≤ 15
  fc : ∀ i, i < n → Fc (X i) (Y i) (N i) (D i) 1
  lt : ∀ i, i < n → N i < P 1 ∧ D i < P 1
theorem Fq.pos {n : Nat} {X Y N D : Nat → Nat} (h : Fq n X Y N D) : ∀ i, i < n → 0 < D i := fun i hi => (h.fc i hi).dpos
theorem Fq.size {n : Nat} {X Y N D : Nat → Nat} (h : Fq n X Y N D) {i : Nat} (hi : i ≤ n) : nu1 N D i < P 16 ∧ pr1 D i < P 16 ∧ nu2 N D i < P 31 ∧ pr1 D i * pr1 D i < P 31 ∧ 0 < pr1 D i := by
  have hf := h.few
  have h1 := nu1_le i fun j hj => h.lt j (by omega)
  have h2 := pr1_le (D := D) i fun j hj => (h.lt j (by omega)).2
  have h3 := nu2_le i fun j hj => h.lt j (by omega)
  have h4 : pr1 D i * pr1 D i ≤ P (2 * i) := by rw [show 2 * i = i + i by omega, P_add]; exact Nat.mul_le_mul h2 h2
  exact ⟨few_lt h1 (by omega) (by omega), few_lt (n := 1) (by omega) (by omega) (show i + 1 ≤ 16 by omega), few_lt h3 (by omega) (by omega), few_lt (n := 1) (by omega) (by omega) (show 2 * i + 1 ≤ 31 by omega), pr1_pos i fun j hj => h.pos j (by omega)⟩
theorem Fq.sum {n : Nat} {X Y N D : Nat → Nat} (h : Fq n X Y N D) : ∀ i, i ≤ n → Fc (sumPQ X Y i).1 (sumPQ X Y i).2 (nu1 N D i) (pr1 D i) 16
  | 0, _ => ⟨by simp [sumPQ], by simp [sumPQ], by simp [pr1], by simp [sumPQ, nu1], by simp [sumPQ, P_pos], by
      show 1 < P 16
      exact Nat.lt_of_lt_of_le (by rw [P_one]; omega) (P_le (show 1 ≤ 16 by omega))⟩
  | i + 1, hi => by
    have h1 := Fq.sum h i (by omega)
    obtain ⟨A, B, f, ⟨eA, eB⟩, _⟩ := h1.add (h.fc i (by omega)) (by omega) (by omega)
    have hs := h.size hi
    have f' := f.norm (m := 16) (by rw [show nu1 N D i * D i + N i * pr1 D i = nu1 N D (i + 1) from rfl]; exact hs.1) (by rw [show pr1 D i * D i = pr1 D (i + 1) from rfl]; exact hs.2.1)
    rw [eA, eB] at f'
    exact f'
theorem Fq.square {n : Nat} {X Y N D : Nat → Nat} (h : Fq n X Y N D) {i : Nat} (hi : i < n) {p q : Nat} (f : Fc p q (nu2 N D i) (pr1 D i * pr1 D i) 31) :
    ∃ A B p' q', Fc p' q' (nu2 N D (i + 1)) (pr1 D (i + 1) * pr1 D (i + 1)) 31 ∧ (∀ v w, Rt w v (X i) (Y i) → Tab w → Calls Tryz.prog 36 #[v, v] w (MakesR w A B)) ∧ (∀ v u w, Rt w v p q → Rt w u A B → Tab w → Calls Tryz.prog 35 #[v, u] w (MakesR w p' q')) := by
  obtain ⟨A, B, f1, c1⟩ := (h.fc i hi).mul (h.fc i hi) (by omega) (by omega)
  obtain ⟨p', q', f2, _, c2⟩ := f.add f1 (by omega) (by omega)
  have hs := h.size (show i + 1 ≤ n by omega)
  have e1 : nu2 N D i * (D i * D i) + N i * N i * (pr1 D i * pr1 D i) = nu2 N D (i + 1) := rfl
  have e2 : pr1 D i * pr1 D i * (D i * D i) = pr1 D (i + 1) * pr1 D (i + 1) := by rw [pr1]; grind
  rw [e1, e2] at f2
  exact ⟨A, B, p', q', f2.norm hs.2.2.1 hs.2.2.2.1, fun v w e hT => c1 v v w e e hT, fun v u w a b hT => c2 v u w a b hT⟩
theorem Fq.last {n : Nat} {X Y N D : Nat → Nat} (h : Fq n X Y N D) {p q : Nat} (f : Fc p q (nu2 N D n) (pr1 D n * pr1 D n) 31) :
    ∃ A B a b, Fc a b (nu2 N D n * n) (pr1 D n * pr1 D n) 32 ∧ (∀ v u w, Rt w v (sumPQ X Y n).1 (sumPQ X Y n).2 → Rt w u (sumPQ X Y n).1 (sumPQ X Y n).2 → Tab w → Calls Tryz.prog 36 #[v, u] w (MakesR w A B)) ∧
      (∀ v w, Rt w v p q → Tab w → Calls Tryz.prog 24 #[v, .int .i64 (n : Int)] w (MakesRB w a b true)) ∧
      (0 < nu2 N D n * n → ∃ x y, Fc x y (nu1 N D n * nu1 N D n) (nu2 N D n * n) 64 ∧ ∀ v u w, Rt w v A B → Rt w u a b → Tab w → Calls Tryz.prog 38 #[v, u] w (MakesRB w x y true)) ∧
      (nu2 N D n * n = 0 → ∀ v u w, Rt w v A B → Rt w u a b → Tab w → Calls Tryz.prog 38 #[v, u] w (MakesRB w 0 1 false)) := by
  have hf := h.few
  obtain ⟨A, B, f1, c1⟩ := (h.sum n (Nat.le_refl _)).mul (h.sum n (Nat.le_refl _)) (by omega) (by omega)
  obtain ⟨a, b, f2, c2⟩ := f.mulInt (k := n) (by omega) (by omega)
  have hs := h.size (Nat.le_refl n)
  refine ⟨A, B, a, b, f2, c1, c2, fun h0 => ?_, fun h0 v u w e1 e2 hT => ?_⟩
  · obtain ⟨x, y, f3, c3⟩ := f1.div f2 (by omega) (by omega) h0
    exact ⟨x, y, f3.scale (k := pr1 D n * pr1 D n) rfl (Nat.mul_comm _ _) (Nat.mul_pos hs.2.2.2.2 hs.2.2.2.2), fun v u w a b hT => c3 v u w a b hT⟩
  exact ratDiv_no v u A B a b w e1 e2 (f1.rs1 (by omega)) (f1.rs2 (by omega)) (f2.rs1 (by omega)) (f2.rs2 (by omega)) (f2.zero.2 h0) hT
set_option maxHeartbeats 8000000 in
theorem ratSumG_any (g n cap : Nat) (E E' : Nat → Value) (X Y : Nat → Nat) (w : World) (hn : n ≤ 1000) (hc : n ≤ cap) (hc2 : cap ≤ 9223372036854775807) (he : ∀ i, i < n → w.cell? ⟨g, i * 2, none⟩ = some (E i) ∧ w.cell? ⟨g, i * 2 + 1, none⟩ = some (E' i) ∧ Rt w (.agg #[E i, E' i]) (X i) (Y i)) (hs : ∀ i, i < n → RL (X i) ∧ RL (Y i) ∧ RL (sumPQ X Y i).1 ∧ RL (sumPQ X Y i).2) (hg : g < w.heap.size) (hT : Tab w) :
    Calls Tryz.prog 37 #[.slice (some ⟨g, 0, none⟩) n cap] w (MakesR w (sumPQ X Y n).1 (sumPQ X Y n).2) := by
  obtain ⟨w0, hw0⟩ : ∃ w0, w0 = (w.alloc (.cells #[.slice none 0 0, .slice none 0 0] 47)).alloc (.cells #[.slice none 0 0, .slice none 0 0] 47) := ⟨_, rfl⟩
  have ba : Below w.heap.size w w0 := by rw [hw0]; exact bel_al (bel_al (bel_refl w))
  have S0 : Hid (SumS w w0 w.heap.size g n E E' X Y (sumPQ X Y 0).1 (sumPQ X Y 0).2 none 0 0 none 0 0) := by
    refine ⟨rt_zero _, ?_, ?_, ?_, ?_, ?_, ?_, ?_, ?_, fun i hi => ⟨cell_later ba (he i hi).1, cell_later ba (he i hi).2.1, (he i hi).2.2.mono ba⟩, ba, hg, Nat.le_refl _⟩ <;> rw [hw0] <;> simp [go_sem]
  have HS : Hid (∀ i, i < n → RL (X i) ∧ RL (Y i) ∧ RL (sumPQ X Y i).1 ∧ RL (sumPQ X Y i).2) := hs
  have HT : Hid (Tab w) := hT
  clear he hs hT ba hg
  go_enter Tryz.func37, Tryz.ntmps37
  go_wp2_with fail
  rw [← hw0]
  obtain ⟨b, hb⟩ : ∃ b, b = w.heap.size := ⟨_, rfl⟩
  rw [← hb] at S0
  rw [← hb]
  clear hw0 hb
  go_loopw [8] (fun t wr => ∃ (i : Nat) (a : Option Addr) (m c : Nat) (a' : Option Addr) (m' c' : Nat), i ≤ n ∧ t = .int .i64 (i : Int) ∧ SumS w wr b g n E E' X Y (sumPQ X Y i).1 (sumPQ X Y i).2 a m c a' m' c') (fun t _ => n - (intOf t).toNat)
  case atStart => exact ⟨0, _, _, _, _, _, _, by omega, rfl, S0.out⟩
  case round =>
    clear S0
    obtain ⟨i, a, m, c, a', m', c', hi, rfl, hS⟩ := hrel
    have S1 : Hid _ := hS
    clear hS
    by_cases hin : i < n
    · obtain ⟨p1, m1, d1, p2, m2, d2, ev, _, _⟩ := (S1.out.el i hin).2.2.raw
      have e1 : E i = .slice p1 m1 d1 := by simp at ev; exact ev.1
      have e2 : E' i = .slice p2 m2 d2 := by simp at ev; exact ev.2
      have z0 := (S1.out.el i hin).1
      have z1 := (S1.out.el i hin).2.1
      rw [e1] at z0
      rw [e2] at z1
      have hR := (S1.out.el i hin).2.2
      rw [e1, e2] at hR
      have bl := bel_al (o := .cells #[.slice p1 m1 d1, .slice p2 m2 d2] 47) (bel_refl wr)
      have S2 : Hid _ := S1.out.go bl
      have HR : Hid _ := hR.mono bl
      have y0 := S2.out.c0
      have y1 := S2.out.c1
      clear e1 e2 ev hR bl
      go_wp2_with fail
      obtain ⟨w5, hw⟩ : ∃ w5, w5 = wr.alloc (.cells #[.slice p1 m1 d1, .slice p2 m2 d2] 47) := ⟨_, rfl⟩
      rw [← hw] at S2 HR
      rw [← hw]
      clear hw y0 y1 z0 z1
      refine (ratAddL_any _ _ (sumPQ X Y i).1 (sumPQ X Y i).2 (X i) (Y i) _ S2.out.rt HR.out (HS.out i hin).2.2.1 (HS.out i hin).2.2.2 (HS.out i hin).1 (HS.out i hin).2.1 (HT.out.go S2.out.bel)).mono ?_
      rintro e w6 ⟨v6, rfl, hv, hb⟩
      obtain ⟨q1, k1, e1, q2, k2, e2, ev, _, _⟩ := hv.raw
      subst ev
      have S3 : Hid _ := S2.out.go hb
      have S4 : Hid _ := S3.out.set hv
      have y0 := S3.out.c0
      have y1 := S3.out.c1
      have x0 := S3.out.f0
      have x1 := S3.out.f1
      clear hv hb S2 HR S1 S3
      go_wp2_with fail
      go_roundw
      case rel => exact ⟨i + 1, _, _, _, _, _, _, by omega, by go_num, S4.out⟩
      case measure => simp [intOf]; omega
    obtain rfl : i = n := by omega
    have y0 := S1.out.c0
    have y1 := S1.out.c1
    have z0 := S1.out.r0
    have z1 := S1.out.r1
    have x0 := S1.out.g0
    have x1 := S1.out.g1
    have Z : Hid _ := rat_put (w0 := w) (v := .slice a m c) (u := .slice a' m' c') z0 z1 S1.out.rt S1.out.bel S1.out.lo
    clear S1
    go_wp2_with fail
    exact bodyPost_ret (v := .agg #[.slice a m c, .slice a' m' c']) (by simp [results, Tryz.results37, go_sem, z0, z1]) rfl ⟨_, rfl, Z.out.1, Z.out.2⟩
set_option maxHeartbeats 4000000 in
theorem ratSum_none (w : World) : Calls Tryz.prog 37 #[.slice none 0 0] w (MakesR w 0 1) := by
  go_enter Tryz.func37, Tryz.ntmps37
  go_wp2_with fail
  go_loopw [8] (fun t wr => t = .int .i64 0 ∧ wr = (w.alloc (.cells #[.slice none 0 0, .slice none 0 0] 47)).alloc (.cells #[.slice none 0 0, .slice none 0 0] 47)) (fun t _ => 0)
  case atStart => exact ⟨rfl, rfl⟩
  case round =>
    obtain ⟨rfl, rfl⟩ := hrel
    go_wp2_with fail
    exact bodyPost_ret (v := .agg #[.slice none 0 0, .slice none 0 0]) (by simp [results, Tryz.results37, go_sem]) rfl ⟨_, rfl, rt_zero _, bel_al (bel_al (bel_refl w))⟩
theorem bel_drew {B : Nat} {a w : World} (h : Below B a w) : Below B a w.drew := ⟨h.os, h.tape, h.output, h.size, h.block⟩
theorem rt_slices {w : World} {v : Value} {p q : Nat} (h : Rt w v p q) : ∃ a n c a' n' c', v = .agg #[.slice a n c, .slice a' n' c'] := by
  obtain ⟨a, n, c, a', n', c', e, _⟩ := h.raw
  exact ⟨a, n, c, a', n', c', e⟩
def MkB (W : World) (p q : Nat) (e : Ending) (w' : World) : Prop := ∃ (a : Option Addr) (n c : Nat) (a' : Option Addr) (n' c' : Nat), e = .returned (.agg #[.slice a n c, .slice a' n' c']) ∧ Hid (Rt w' (.agg #[.slice a n c, .slice a' n' c']) p q ∧ Below W.heap.size W w')
theorem mkb_of {W w : World} (hb : Below W.heap.size W w) {p q : Nat} {e : Ending} {w' : World} (h : MakesR w p q e w') : MkB W p q e w' := by
  obtain ⟨v, rfl, hv, hb'⟩ := h
  obtain ⟨a, n, c, a', n', c', rfl⟩ := rt_slices hv
  exact ⟨a, n, c, a', n', c', rfl, hv, bel_go hb hb'⟩
def MkC (W : World) (p q : Nat) (ok : Bool) (e : Ending) (w' : World) : Prop := ∃ (a : Option Addr) (n c : Nat) (a' : Option Addr) (n' c' : Nat), e = .returned (.tuple #[.agg #[.slice a n c, .slice a' n' c'], .bool ok]) ∧ Hid (Rt w' (.agg #[.slice a n c, .slice a' n' c']) p q ∧ Below W.heap.size W w')
theorem mkc_of {W w : World} (hb : Below W.heap.size W w) {p q : Nat} {ok : Bool} {e : Ending} {w' : World} (h : MakesRB w p q ok e w') : MkC W p q ok e w' := by
  obtain ⟨v, rfl, hv, hb'⟩ := h
  obtain ⟨a, n, c, a', n', c', rfl⟩ := rt_slices hv
  exact ⟨a, n, c, a', n', c', rfl, hv, bel_go hb hb'⟩
set_option maxHeartbeats 16000000 in
theorem jain_walk (Res : Nat → Nat → Bool → Prop) (g n cap : Nat) (E E' : Nat → Value) (X Y N D : Nat → Nat) (w : World) (F : Fq n X Y N D) (hc : n ≤ cap) (hc2 : cap ≤ 9223372036854775807) (he : ∀ i, i < n → w.cell? ⟨g, i * 2, none⟩ = some (E i) ∧ w.cell? ⟨g, i * 2 + 1, none⟩ = some (E' i) ∧ Rt w (.agg #[E i, E' i]) (X i) (Y i)) (hg : g < w.heap.size) (hT : Tab w)
    (LS : ∀ p q, Fc p q (nu2 N D n) (pr1 D n * pr1 D n) 31 → ∃ A B a b x y ok, Res x y ok ∧ (∀ v u w, Rt w v (sumPQ X Y n).1 (sumPQ X Y n).2 → Rt w u (sumPQ X Y n).1 (sumPQ X Y n).2 → Tab w → Calls Tryz.prog 36 #[v, u] w (MakesR w A B)) ∧
      (∀ v w, Rt w v p q → Tab w → Calls Tryz.prog 24 #[v, .int .i64 (n : Int)] w (MakesRB w a b true)) ∧
      (∀ v u w, Rt w v A B → Rt w u a b → Tab w → Calls Tryz.prog 38 #[v, u] w (MakesRB w x y ok))) :
    Calls Tryz.prog 13 #[.slice (some ⟨g, 0, none⟩) n cap] w fun e w' => ∃ x y ok, Res x y ok ∧ MakesRB w x y ok e w' := by
  obtain ⟨w0, hw0⟩ : ∃ w0, w0 = (w.alloc (.cells #[.slice none 0 0, .slice none 0 0] 47)).alloc (.cells #[.slice none 0 0, .slice none 0 0] 47) := ⟨_, rfl⟩
  have ba : Below w.heap.size w w0 := by rw [hw0]; exact bel_al (bel_al (bel_refl w))
  have S0 : Hid (SumS w w0 w.heap.size g n E E' X Y 0 1 none 0 0 none 0 0) := by
    refine ⟨rt_zero _, ?_, ?_, ?_, ?_, ?_, ?_, ?_, ?_, fun i hi => ⟨cell_later ba (he i hi).1, cell_later ba (he i hi).2.1, (he i hi).2.2.mono ba⟩, ba, hg, Nat.le_refl _⟩ <;> rw [hw0] <;> simp [go_sem]
  have FF : Hid (Fq n X Y N D) := F
  have HL : Hid _ := LS
  have HT : Hid (Tab w) := hT
  have FC0 : Hid (Fc 0 1 (nu2 N D 0) (pr1 D 0 * pr1 D 0) 31) := ⟨by simp, by simp, by simp [pr1], by simp [nu2], P_pos _, Nat.lt_of_lt_of_le (by rw [P_one]; omega) (P_le (show 1 ≤ 31 by omega))⟩
  have hn15 : n ≤ 15 := F.few
  have HG0 : Hid (g < w.heap.size) := hg
  clear he hT ba hg F LS
  go_enter Tryz.func13, Tryz.ntmps13
  go_wp2_with fail
  rw [← hw0]
  obtain ⟨b, hb⟩ : ∃ b, b = w.heap.size := ⟨_, rfl⟩
  rw [← hb] at S0
  rw [← hb]
  clear hw0 hb
  go_loopw [12] (fun t wr => ∃ (i p q : Nat) (a : Option Addr) (m c : Nat) (a' : Option Addr) (m' c' : Nat), i ≤ n ∧ t = .int .i64 (i : Int) ∧ Fc p q (nu2 N D i) (pr1 D i * pr1 D i) 31 ∧ SumS w wr b g n E E' X Y p q a m c a' m' c') (fun t _ => n - (intOf t).toNat)
  case atStart => exact ⟨0, _, _, _, _, _, _, _, _, by omega, rfl, FC0.out, S0.out⟩
  case round =>
    clear S0
    obtain ⟨i, p, q, a, m, c, a', m', c', hi, rfl, hF, hS⟩ := hrel
    have S1 : Hid _ := hS
    have HF : Hid _ := hF
    clear hS hF
    by_cases hin : i < n
    · obtain ⟨p1, m1, d1, p2, m2, d2, ev, _, _⟩ := (S1.out.el i hin).2.2.raw
      have e1 : E i = .slice p1 m1 d1 := by simp at ev; exact ev.1
      have e2 : E' i = .slice p2 m2 d2 := by simp at ev; exact ev.2
      have z0 := (S1.out.el i hin).1
      have z1 := (S1.out.el i hin).2.1
      rw [e1] at z0
      rw [e2] at z1
      have hR := (S1.out.el i hin).2.2
      rw [e1, e2] at hR
      have bl := bel_al (o := .cells #[.slice p1 m1 d1, .slice p2 m2 d2] 47) (bel_refl wr)
      have S2 : Hid _ := S1.out.go bl
      have HR : Hid _ := hR.mono bl
      clear e1 e2 ev hR bl
      obtain ⟨A, B, p', q', f', cM, cA⟩ := FF.out.square hin HF.out
      go_upto_region 5 with fail
      obtain ⟨w5, hw⟩ : ∃ w5, w5 = wr.alloc (.cells #[.slice p1 m1 d1, .slice p2 m2 d2] 47) := ⟨_, rfl⟩
      obtain ⟨b6, hb6⟩ : ∃ b6, b6 = wr.heap.size := ⟨_, rfl⟩
      have k6 : w5.cell? ⟨b6, 0, none⟩ = some (.slice p1 m1 d1) := by rw [hw, hb6]; simp [go_sem]
      have k7 : w5.cell? ⟨b6, 1, none⟩ = some (.slice p2 m2 d2) := by rw [hw, hb6]; simp [go_sem]
      rw [← hw] at S2 HR
      rw [← hw, ← hb6]
      have y0 := S2.out.c0
      have y1 := S2.out.c1
      have x0 := S2.out.f0
      have x1 := S2.out.f1
      have KC : Hid (∀ w9, Below w5.heap.size w5 w9 → w9.cell? ⟨b6, 0, none⟩ = some (.slice p1 m1 d1) ∧ w9.cell? ⟨b6, 1, none⟩ = some (.slice p2 m2 d2) ∧ w9.cell? ⟨b + 1, 0, none⟩ = some (.slice a m c) ∧ w9.cell? ⟨b + 1, 1, none⟩ = some (.slice a' m' c') ∧ w9.frozen? ⟨b + 1, 0, none⟩ = false ∧ w9.frozen? ⟨b + 1, 1, none⟩ = false) := fun w9 h9 => ⟨cell_later h9 k6, cell_later h9 k7, (S2.out.go h9).c0, (S2.out.go h9).c1, (S2.out.go h9).f0, (S2.out.go h9).f1⟩
      have CM : Hid (∀ w9, Below w5.heap.size w5 w9 → Calls Tryz.prog 36 #[.agg #[.slice p1 m1 d1, .slice p2 m2 d2], .agg #[.slice p1 m1 d1, .slice p2 m2 d2]] w9 (MkB w5 A B)) := fun w9 h9 => (cM _ w9 (HR.out.mono h9) (HT.out.go (bel_go S2.out.bel h9))).mono fun _ _ h => mkb_of h9 h
      have CA : Hid (∀ (r : Option Addr) (k d : Nat) (r' : Option Addr) (k' d' : Nat) (w9 : World), Hid (Rt w9 (.agg #[.slice r k d, .slice r' k' d']) A B ∧ Below w5.heap.size w5 w9) → Calls Tryz.prog 35 #[.agg #[.slice a m c, .slice a' m' c'], .agg #[.slice r k d, .slice r' k' d']] w9 (MkB w5 p' q')) := fun r k d r' k' d' w9 h9 => (cA _ _ w9 (S2.out.go h9.out.2).rt h9.out.1 (HT.out.go (bel_go S2.out.bel h9.out.2))).mono fun _ _ h => mkb_of h9.out.2 h
      have FN : Hid (Fc p' q' (nu2 N D (i + 1)) (pr1 D (i + 1) * pr1 D (i + 1)) 31) := f'
      clear hw hb6 z0 z1 HR f' cM cA HF S1
      go_region_with (first
        | (go_at_call 36; refine Calls.mono (CM.out _ (show Below _ _ _ from (by with_reducible exact bel_drew (Below.refl _ _)))) ?_; rintro e w6 ⟨r1, i1, j1, r2, i2, j2, rfl, hM⟩; obtain ⟨c6, c7, c0, c1, g0, g1⟩ := KC.out _ hM.out.2)
        | (go_at_call 35; refine Calls.mono (CA.out _ _ _ _ _ _ _ hM) ?_; rintro e w7 ⟨r3, i3, j3, r4, i4, j4, rfl, hA⟩; obtain ⟨l6, l7, l0, l1, m0, m1⟩ := KC.out _ hA.out.2))
      all_goals
        go_wp2_with fail
        go_roundw
        case rel => exact ⟨i + 1, p', q', _, _, _, _, _, _, by omega, by go_num, FN.out, (S2.out.go hA.out.2).set hA.out.1⟩
        case measure => simp [intOf]; omega
    obtain rfl : i = n := by omega
    obtain ⟨A, B, ia, ib, x, y, ok, hres, cM, cI, cD⟩ := HL.out p q HF.out
    have HX : Hid (∀ j, j < i → RL (X j) ∧ RL (Y j) ∧ RL (sumPQ X Y j).1 ∧ RL (sumPQ X Y j).2) := fun j hj => ⟨((FF.out.fc j hj).rs1 (by omega)).l, ((FF.out.fc j hj).rs2 (by omega)).l, ((FF.out.sum j (by omega)).rs1 (by omega)).l, ((FF.out.sum j (by omega)).rs2 (by omega)).l⟩
    have CS : Hid (Calls Tryz.prog 37 #[.slice (some ⟨g, 0, none⟩) i cap] wr (MakesR wr (sumPQ X Y i).1 (sumPQ X Y i).2)) := ratSumG_any g i cap E E' X Y wr (by omega) hc hc2 (fun j hj => S1.out.el j hj) HX.out (Nat.lt_of_lt_of_le HG0.out S1.out.bel.size) (HT.out.go S1.out.bel)
    have CI : Hid _ := cI
    have CM0 : Hid _ := cM
    have CD0 : Hid _ := cD
    have HR : Hid (Res x y ok) := hres
    clear cM cI cD hres HL FC0 HX HF
    go_upto_region 8 with (go_at_call 37; refine CS.out.mono ?_; rintro e w7 ⟨v7, rfl, hv7, hb7⟩; obtain ⟨r1, i1, j1, r2, i2, j2, rfl⟩ := rt_slices hv7)
    have bl7 := bel_al (o := .cells #[.slice r1 i1 j1, .slice r2 i2 j2] 47) (bel_refl w7)
    obtain ⟨w8, hw8⟩ : ∃ w8, w8 = w7.alloc (.cells #[.slice r1 i1 j1, .slice r2 i2 j2] 47) := ⟨_, rfl⟩
    obtain ⟨b7, hb7'⟩ : ∃ b7, b7 = w7.heap.size := ⟨_, rfl⟩
    have k0 : w8.cell? ⟨b7, 0, none⟩ = some (.slice r1 i1 j1) := by rw [hw8, hb7']; simp [go_sem]
    have k1 : w8.cell? ⟨b7, 1, none⟩ = some (.slice r2 i2 j2) := by rw [hw8, hb7']; simp [go_sem]
    rw [← hw8] at bl7
    have S8 : Hid _ := (S1.out.go hb7).go bl7
    have R7 : Hid _ := hv7.mono bl7
    have y0 := S8.out.c0
    have y1 := S8.out.c1
    have CI8 : Hid (Calls Tryz.prog 24 #[.agg #[.slice a m c, .slice a' m' c'], .int .i64 (i : Int)] w8 (MakesRB w8 ia ib true)) := CI.out _ w8 S8.out.rt (HT.out.go S8.out.bel)
    rw [← hw8, ← hb7']
    clear hw8 hb7' bl7 hb7 hv7 S1 CS CI
    go_upto_region 9 with (go_at_call 24; refine CI8.out.mono ?_; rintro e w9 ⟨v9, rfl, hv9, hb9⟩; obtain ⟨r3, i3, j3, r4, i4, j4, rfl⟩ := rt_slices hv9)
    have bl9 := bel_al (o := .cells #[.slice r3 i3 j3, .slice r4 i4 j4] 47) (bel_refl w9)
    obtain ⟨wa, hwa⟩ : ∃ wa, wa = w9.alloc (.cells #[.slice r3 i3 j3, .slice r4 i4 j4] 47) := ⟨_, rfl⟩
    obtain ⟨b8, hb8⟩ : ∃ b8, b8 = w9.heap.size := ⟨_, rfl⟩
    have k2 : wa.cell? ⟨b8, 0, none⟩ = some (.slice r3 i3 j3) := by rw [hwa, hb8]; simp [go_sem]
    have k3 : wa.cell? ⟨b8, 1, none⟩ = some (.slice r4 i4 j4) := by rw [hwa, hb8]; simp [go_sem]
    rw [← hwa] at bl9
    have b8a := bel_go hb9 bl9
    have SA : Hid _ := S8.out.go b8a
    have R7a : Hid _ := R7.out.mono b8a
    have R9a : Hid _ := hv9.mono bl9
    have l0 := cell_later b8a k0
    have l1 := cell_later b8a k1
    have z0 := SA.out.r0
    have z1 := SA.out.r1
    have f0 := SA.out.g0
    have f1 := SA.out.g1
    rw [← hwa, ← hb8]
    have KC : Hid (∀ w', Below wa.heap.size wa w' → w'.cell? ⟨b7, 0, none⟩ = some (.slice r1 i1 j1) ∧ w'.cell? ⟨b7, 1, none⟩ = some (.slice r2 i2 j2) ∧ w'.cell? ⟨b8, 0, none⟩ = some (.slice r3 i3 j3) ∧ w'.cell? ⟨b8, 1, none⟩ = some (.slice r4 i4 j4) ∧ w'.cell? ⟨b, 0, none⟩ = some (.slice none 0 0) ∧ w'.cell? ⟨b, 1, none⟩ = some (.slice none 0 0) ∧ w'.frozen? ⟨b, 0, none⟩ = false ∧ w'.frozen? ⟨b, 1, none⟩ = false) := fun w' h' => ⟨cell_later h' l0, cell_later h' l1, cell_later h' k2, cell_later h' k3, (SA.out.go h').r0, (SA.out.go h').r1, (SA.out.go h').g0, (SA.out.go h').g1⟩
    have CM : Hid (∀ w', Below wa.heap.size wa w' → Calls Tryz.prog 36 #[.agg #[.slice r1 i1 j1, .slice r2 i2 j2], .agg #[.slice r1 i1 j1, .slice r2 i2 j2]] w' (MkB wa A B)) := fun w' h' => (CM0.out _ _ w' (R7a.out.mono h') (R7a.out.mono h') (HT.out.go (bel_go SA.out.bel h'))).mono fun _ _ h => mkb_of h' h
    have CD : Hid (∀ (s : Option Addr) (k d : Nat) (s' : Option Addr) (k' d' : Nat) (w' : World), Hid (Rt w' (.agg #[.slice s k d, .slice s' k' d']) A B ∧ Below wa.heap.size wa w') → Calls Tryz.prog 38 #[.agg #[.slice s k d, .slice s' k' d'], .agg #[.slice r3 i3 j3, .slice r4 i4 j4]] w' (MkC wa x y ok)) := fun s k d s' k' d' w' h' => (CD0.out _ _ w' h'.out.1 (R9a.out.mono h'.out.2) (HT.out.go (bel_go SA.out.bel h'.out.2))).mono fun _ _ h => mkc_of h'.out.2 h
    clear hwa hb8 bl9 b8a R7 R7a R9a S8 CI8 CM0 CD0 hv9 hb9 y0 y1 k0 k1
    go_region_with (first
      | (go_at_call 36; refine Calls.mono (CM.out _ (show Below _ _ _ from (by with_reducible exact bel_drew (Below.refl _ _)))) ?_; rintro e w6 ⟨s1, i5, j5, s2, i6, j6, rfl, hM⟩; obtain ⟨c0, c1, c2, c3, c4, c5, c6, c7⟩ := KC.out _ hM.out.2)
      | (go_at_call 38; refine Calls.mono (CD.out _ _ _ _ _ _ _ hM) ?_; rintro e wb ⟨s3, i7, j7, s4, i8, j8, rfl, hD⟩; obtain ⟨d0, d1, d2, d3, d4, d5, d6, d7⟩ := KC.out _ hD.out.2))
    all_goals
      have Z : Hid _ := rat_put (w0 := w) (v := .slice s3 i7 j7) (u := .slice s4 i8 j8) d4 d5 hD.out.1 (bel_go SA.out.bel hD.out.2) SA.out.lo
      go_wp2_with fail
      exact bodyPost_ret (v := .tuple #[.agg #[.slice s3 i7 j7, .slice s4 i8 j8], .bool ok]) (by simp [results, Tryz.results13, go_sem, d4, d5]) rfl ⟨_, _, _, HR.out, _, rfl, Z.out.1, Z.out.2⟩
theorem jain_any (g n cap : Nat) (E E' : Nat → Value) (X Y N D : Nat → Nat) (w : World) (F : Fq n X Y N D) (hc : n ≤ cap) (hc2 : cap ≤ 9223372036854775807) (he : ∀ i, i < n → w.cell? ⟨g, i * 2, none⟩ = some (E i) ∧ w.cell? ⟨g, i * 2 + 1, none⟩ = some (E' i) ∧ Rt w (.agg #[E i, E' i]) (X i) (Y i)) (hg : g < w.heap.size) (hT : Tab w) :
    Calls Tryz.prog 13 #[.slice (some ⟨g, 0, none⟩) n cap] w fun e w' => ∃ x y ok, (ok = decide (0 < nu2 N D n) ∧ RS x ∧ RS y ∧ (nu2 N D n = 0 → x = 0 ∧ y = 1) ∧ (0 < nu2 N D n → Fc x y (nu1 N D n * nu1 N D n) (nu2 N D n * n) 64)) ∧ MakesRB w x y ok e w' := by
  refine jain_walk _ g n cap E E' X Y N D w F hc hc2 he hg hT fun p q f => ?_
  obtain ⟨A, B, a, b, f2, c1, c2, c3, c4⟩ := F.last f
  by_cases h0 : nu2 N D n = 0
  · refine ⟨A, B, a, b, 0, 1, false, ⟨by simp [h0], rs_few (by omega), rs_few (by omega), fun _ => ⟨rfl, rfl⟩, fun h => by omega⟩, c1, c2, c4 (by rw [h0, Nat.zero_mul])⟩
  have hn0 : 0 < n := Nat.pos_of_ne_zero fun e => h0 (by rw [e]; rfl)
  have hp : 0 < nu2 N D n * n := Nat.mul_pos (by omega) hn0
  obtain ⟨x, y, f3, c5⟩ := c3 hp
  exact ⟨A, B, a, b, x, y, true, ⟨by simp; omega, f3.rs1 (by omega), f3.rs2 (by omega), fun h => by omega, fun _ => f3⟩, c1, c2, c5⟩
structure ShS (w0 w : World) (X Y : Nat → Nat) (i k : Nat) (va vb : Value) (La Lb : List (Value × Value)) : Prop where
  ra : Fo w0.heap.size w va La
  rb : Fo2 w0.heap.size w vb Lb
  la : La.length = i
  lb : Lb.length = k
  ea : ∀ j, (h : j < La.length) → Rt w (.agg #[La[j].1, La[j].2]) (X j) (Y j)
  eb : ∀ j, (h : j < Lb.length) → RRt w (.agg #[Lb[j].1, Lb[j].2]) (X j) (Y j)
  bel : Below w0.heap.size w0 w
theorem ShS.go {w0 w w' : World} {X Y : Nat → Nat} {i k : Nat} {va vb : Value} {La Lb : List (Value × Value)} (h : ShS w0 w X Y i k va vb La Lb) (hb : Below w.heap.size w w') : ShS w0 w' X Y i k va vb La Lb :=
  ⟨h.ra.below hb, h.rb.below hb, h.la, h.lb, fun j hj => (h.ea j hj).mono hb, fun j hj => (h.eb j hj).mono hb, bel_go h.bel hb⟩
theorem ShS.start (w : World) (X Y : Nat → Nat) : ShS w w X Y 0 0 (.slice none 0 0) (.slice none 0 0) [] [] :=
  ⟨Fo.nil _ _, Fo2.nil _ _, rfl, rfl, fun j h => absurd h (Nat.not_lt_zero _), fun j h => absurd h (Nat.not_lt_zero _), Below.refl _ _⟩
theorem fb_grown {w w' : World} {row : Option Nat} (h : w.grownBy w' row) : Fb (fun k => some k = row) w w' := ⟨h.os, h.tape, h.output, h.size, fun i hi hn => h.block i hi hn⟩
theorem get_snoc {L : List (Value × Value)} {y : Value × Value} {j : Nat} (h : j < (L ++ [y]).length) : (∃ h' : j < L.length, (L ++ [y])[j] = L[j]) ∨ (j = L.length ∧ (L ++ [y])[j] = y) := by
  rcases Nat.lt_or_ge j L.length with e | e
  · exact .inl ⟨e, List.getElem_append_left e⟩
  have e2 : j = L.length := by simp at h; omega
  subst e2
  exact .inr ⟨rfl, by simp⟩
theorem ShS.appA {w0 w w' : World} {X Y : Nat → Nat} {i k : Nat} {va vb v' : Value} {La Lb : List (Value × Value)} {y : Value × Value} (h : ShS w0 w X Y i k va vb La Lb) (hv : Rt w (.agg #[y.1, y.2]) (X i) (Y i)) (hr : Fo w0.heap.size w' v' (La ++ [y])) (hg : w.grownBy w' va.ownBlock) : ShS w0 w' X Y (i + 1) k v' vb (La ++ [y]) Lb := by
  have f := fb_grown hg
  have ho := h.ra.oddK
  refine ⟨hr, h.rb.kept fun b hb => ?_, by rw [List.length_append, h.la]; rfl, h.lb, fun j hj => ?_, fun j hj => (h.eb j hj).fb f ho, ?_⟩
  · obtain ⟨_, cs, e⟩ := h.rb.row.own hb
    refine hg.block b (Array.getElem?_eq_some_iff.1 e).1 fun e2 => ?_
    obtain ⟨_, cs2, e3⟩ := h.ra.row.own e2.symm
    rw [e] at e3
    injection e3 with e3
    injection e3 with _ e4
    exact absurd e4 (by decide)
  · rcases get_snoc hj with ⟨h1, e⟩ | ⟨e1, e⟩
    · rw [e]; exact (h.ea j h1).fb f ho
    rw [e, e1, h.la]; exact hv.fb f ho
  exact h.bel.trans (f.below h.bel.size fun b e => (h.ra.row.own e.symm).1)
theorem ShS.appB {w0 w w' : World} {X Y : Nat → Nat} {i k : Nat} {va vb v' : Value} {La Lb : List (Value × Value)} {y : Value × Value} (h : ShS w0 w X Y i k va vb La Lb) (hv : RRt w (.agg #[y.1, y.2]) (X k) (Y k)) (hr : Fo2 w0.heap.size w' v' (Lb ++ [y])) (hg : w.grownBy w' vb.ownBlock) : ShS w0 w' X Y i (k + 1) va v' La (Lb ++ [y]) := by
  have f := fb_grown hg
  have ho := h.rb.oddK
  refine ⟨h.ra.kept fun b hb => ?_, hr, h.la, by rw [List.length_append, h.lb]; rfl, fun j hj => (h.ea j hj).fb f ho, fun j hj => ?_, ?_⟩
  · obtain ⟨_, cs, e⟩ := h.ra.row.own hb
    refine hg.block b (Array.getElem?_eq_some_iff.1 e).1 fun e2 => ?_
    obtain ⟨_, cs2, e3⟩ := h.rb.row.own e2.symm
    rw [e] at e3
    injection e3 with e3
    injection e3 with _ e4
    exact absurd e4 (by decide)
  · rcases get_snoc hj with ⟨h1, e⟩ | ⟨e1, e⟩
    · rw [e]; exact (h.eb j h1).fb f ho
    rw [e, e1, h.lb]; exact hv.fb f ho
  exact h.bel.trans (f.below h.bel.size fun b e => (h.rb.row.own e.symm).1)
def shN (F : Nat → Nat → Int) (i : Nat) : Nat := (F i 0 % 65536).toNat
def shD (F : Nat → Nat → Int) (i : Nat) : Nat := 1 + (F i 1 % 4096).toNat
def shX (F : Nat → Nat → Int) (i : Nat) : Nat := shN F i / Nat.gcd (shN F i) (shD F i)
def shY (F : Nat → Nat → Int) (i : Nat) : Nat := shD F i / Nat.gcd (shN F i) (shD F i)
theorem sh_le (F : Nat → Nat → Int) (i : Nat) : shN F i ≤ 65535 ∧ 1 ≤ shD F i ∧ shD F i ≤ 4096 := by unfold shN shD; omega
theorem sh_of1 (F : Nat → Nat → Int) (i : Nat) (w : World) (hT : Tab w) : Calls Tryz.prog 20 #[.int .i64 (shN F i : Int), .int .i64 (shD F i : Int)] w (MakesRB w (shX F i) (shY F i) true) := by
  have h := sh_le F i
  exact ratOf_yes (shN F i) (shD F i) w (by omega) (by omega) (by omega) hT
theorem sh_of2 (F : Nat → Nat → Int) (i : Nat) (w : World) : Calls Tryz.prog 25 #[.int .i64 (shN F i : Int), .int .i64 (shD F i : Int)] w (MakesRRB w (shX F i) (shY F i) true) := by
  have h := sh_le F i
  exact rof2_yes (shN F i) (shD F i) w (by omega) (by omega) (by omega)
set_option maxHeartbeats 16000000 in
theorem shares_any (a0 : Option Addr) (n0 cap0 : Nat) (F : Nat → Nat → Int) (w : World) (h : AbIn w a0 n0 F) (hn : n0 ≤ 9223372036854775807) (hT : Tab w) :
    Calls Tryz.prog 8 #[.slice a0 n0 cap0] w fun e w' => ∃ va vb La Lb, e = .returned (.tuple #[va, vb]) ∧ ShS w w' (shX F) (shY F) (min n0 12) (min n0 12) va vb La Lb := by
  have HI : Hid (AbIn w a0 n0 F) := h
  have HT : Hid (Tab w) := hT
  clear h hT
  go_enter Tryz.func8, Tryz.ntmps8
  go_wp2_with fail
  go_loopw [6, 4, 5] (fun t va vb wr => ∃ (i : Nat) (La Lb : List (Value × Value)), i ≤ min n0 12 ∧ t = .int .i64 (i : Int) ∧ ShS w wr (shX F) (shY F) i i va vb La Lb) (fun t _ _ _ => 12 - (intOf t).toNat)
  case atStart => exact ⟨0, [], [], by omega, rfl, ShS.start w _ _⟩
  case round =>
    obtain ⟨i, La, Lb, hi, rfl, hS⟩ := hrel
    have S1 : Hid (ShS w wr (shX F) (shY F) i i u4 u5 La Lb) := hS
    clear hS
    by_cases hin : i < n0
    · by_cases h12 : i < 12
      · obtain ⟨g, o, rfl, c0, c1⟩ := HI.out.at S1.out.bel hin
        obtain ⟨z2, hz2⟩ : ∃ z2, z2 = (F i 1 % 4096).toNat := ⟨_, rfl⟩
        obtain ⟨z1, hz1⟩ : ∃ z1, z1 = shN F i := ⟨_, rfl⟩
        have hm1 : bits .and .i64 (F i 0) 65535 = (z1 : Int) := by rw [i64_and65535G, hz1]; unfold shN; omega
        have hm2 : bits .and .i64 (F i 1) 4095 = (z2 : Int) := by rw [i64_and4095G, hz2]; omega
        have hz3 : (shD F i : Int) = 1 + (z2 : Int) := by rw [hz2]; unfold shD; omega
        have hz4 : z2 ≤ 4095 := by rw [hz2]; omega
        have CO : Hid (∀ w', Tab w' → Calls Tryz.prog 20 #[.int .i64 (z1 : Int), .int .i64 (1 + (z2 : Int))] w' (MakesRB w' (shX F i) (shY F i) true)) := fun w' hT => by
          rw [hz1, ← hz3]
          exact sh_of1 F i w' hT
        have CO2 : Hid (∀ w', Calls Tryz.prog 25 #[.int .i64 (z1 : Int), .int .i64 (1 + (z2 : Int))] w' (MakesRRB w' (shX F i) (shY F i) true)) := fun w' => by
          rw [hz1, ← hz3]
          exact sh_of2 F i w'
        have K0 := c0
        have K1 := c1
        have hw2 : IntKind.i64.wrap (1 + (z2 : Int)) = 1 + (z2 : Int) := by rw [IntKind.wrap_i64]; omega
        have HI2 : Hid ((i : Int) < (n0 : Int)) := by show (i : Int) < (n0 : Int); omega
        clear hz1 hz2 hz3 c0 c1
        go_upto_region 6 with fail
        refine wp_region_inv (JC wr [sEq (.slice (some ⟨g, o, none⟩) n0 cap0), sEq (.int .i64 (i : Int)), sEq (.pointer (some ⟨g, o + i * 2, none⟩)), sEq (.pointer (some ⟨g, o + i * 2, none⟩)), sEq (.int .i64 (F i 0)), sEq (.int .i64 (z1 : Int)), sEq (.slice (some ⟨g, o, none⟩) n0 cap0), sEq (.int .i64 (i : Int)), sEq (.pointer (some ⟨g, o + i * 2, none⟩)), sEq (.pointer (some ⟨g, o + i * 2 + 1, none⟩)), sEq (.int .i64 (F i 1)), sEq (.int .i64 (z2 : Int)), sEq (.int .i64 (1 + (z2 : Int))), sRtB (shX F i) (shY F i) true, sRtB (shX F i) (shY F i) true, sRt (shX F i) (shY F i), sEq (.bool true), sAny, sAny, sEq (.bool true)] (17, 18, 15)) 65 (by kernel_rfl) rfl (by kernel_rfl) (JC.start _ _ _) (fun HG HN => ⟨?_, ?_, ?_, ?_, ?_, ?_, ?_, ?_, ?_, ?_, ?_, ?_, ?_, ?_, ?_, ?_, ?_, ?_, ?_, ?_, trivial⟩) ?_
        · intro L vs a w' hJ hF hP hL
          have q0 : (a.tmps[0]?).getD undef = .slice (some ⟨g, o, none⟩) n0 cap0 := hF.old 0 rfl
          exact run_val (v := .slice (some ⟨g, o, none⟩) n0 cap0) rfl (by simp [execOp, go_sem, q0]) ⟨_, rfl, hJ.step hL rfl (Below.refl _ _) (by exact rfl)⟩
        · intro L vs a w' hJ hF hP hL
          have q6 : (a.tmps[6]?).getD undef = .int .i64 (i : Int) := hF.old 6 rfl
          exact run_val (v := .int .i64 (i : Int)) rfl (by simp [execOp, go_sem, q6]) ⟨_, rfl, hJ.step hL rfl (Below.refl _ _) (by exact rfl)⟩
        · intro L vs a w' hJ hF hP hL
          have p0 : L 0 = true := hP ⟨0, .data⟩ (by simp) rfl
          have s0 : vs 0 = .slice (some ⟨g, o, none⟩) n0 cap0 := hJ.sp 0 p0
          have q22 := hF.slot 0 22 rfl p0
          have p1 : L 1 = true := hP ⟨1, .data⟩ (by simp) rfl
          have s1 : vs 1 = .int .i64 (i : Int) := hJ.sp 1 p1
          have q23 := hF.slot 1 23 rfl p1
          exact run_val (v := .pointer (some ⟨g, o + i * 2, none⟩)) rfl (by simp [execOp, go_sem, q22, s0, q23, s1, HI2.out]) ⟨_, rfl, hJ.step hL rfl (Below.refl _ _) (by exact rfl)⟩
        · intro L vs a w' hJ hF hP hL
          have p2 : L 2 = true := hP ⟨2, .data⟩ (by simp) rfl
          have s2 : vs 2 = .pointer (some ⟨g, o + i * 2, none⟩) := hJ.sp 2 p2
          have q24 := hF.slot 2 24 rfl p2
          exact run_val (v := .pointer (some ⟨g, o + i * 2, none⟩)) rfl (by simp [execOp, go_sem, q24, s2]) ⟨_, rfl, hJ.step hL rfl (Below.refl _ _) (by exact rfl)⟩
        · intro L vs a w' hJ hF hP hL
          have p3 : L 3 = true := hP ⟨3, .data⟩ (by simp) rfl
          have s3 : vs 3 = .pointer (some ⟨g, o + i * 2, none⟩) := hJ.sp 3 p3
          have q25 := hF.slot 3 25 rfl p3
          have cb := cell_later hJ.bel K0
          exact run_val (v := .int .i64 (F i 0)) rfl (by simp [execOp, go_sem, q25, s3, cb]) ⟨_, rfl, hJ.step hL rfl (Below.refl _ _) (by exact rfl)⟩
        · intro L vs a w' hJ hF hP hL
          have p4 : L 4 = true := hP ⟨4, .data⟩ (by simp) rfl
          have s4 : vs 4 = .int .i64 (F i 0) := hJ.sp 4 p4
          have q26 := hF.slot 4 26 rfl p4
          exact run_val (v := .int .i64 (z1 : Int)) rfl (by simp [execOp, go_sem, q26, s4, hm1]) ⟨_, rfl, hJ.step hL rfl (Below.refl _ _) (by exact rfl)⟩
        · intro L vs a w' hJ hF hP hL
          have q0 : (a.tmps[0]?).getD undef = .slice (some ⟨g, o, none⟩) n0 cap0 := hF.old 0 rfl
          exact run_val (v := .slice (some ⟨g, o, none⟩) n0 cap0) rfl (by simp [execOp, go_sem, q0]) ⟨_, rfl, hJ.step hL rfl (Below.refl _ _) (by exact rfl)⟩
        · intro L vs a w' hJ hF hP hL
          have q6 : (a.tmps[6]?).getD undef = .int .i64 (i : Int) := hF.old 6 rfl
          exact run_val (v := .int .i64 (i : Int)) rfl (by simp [execOp, go_sem, q6]) ⟨_, rfl, hJ.step hL rfl (Below.refl _ _) (by exact rfl)⟩
        · intro L vs a w' hJ hF hP hL
          have p6 : L 6 = true := hP ⟨6, .data⟩ (by simp) rfl
          have s6 : vs 6 = .slice (some ⟨g, o, none⟩) n0 cap0 := hJ.sp 6 p6
          have q28 := hF.slot 6 28 rfl p6
          have p7 : L 7 = true := hP ⟨7, .data⟩ (by simp) rfl
          have s7 : vs 7 = .int .i64 (i : Int) := hJ.sp 7 p7
          have q29 := hF.slot 7 29 rfl p7
          exact run_val (v := .pointer (some ⟨g, o + i * 2, none⟩)) rfl (by simp [execOp, go_sem, q28, s6, q29, s7, HI2.out]) ⟨_, rfl, hJ.step hL rfl (Below.refl _ _) (by exact rfl)⟩
        · intro L vs a w' hJ hF hP hL
          have p8 : L 8 = true := hP ⟨8, .data⟩ (by simp) rfl
          have s8 : vs 8 = .pointer (some ⟨g, o + i * 2, none⟩) := hJ.sp 8 p8
          have q30 := hF.slot 8 30 rfl p8
          exact run_val (v := .pointer (some ⟨g, o + i * 2 + 1, none⟩)) rfl (by simp [execOp, go_sem, q30, s8]) ⟨_, rfl, hJ.step hL rfl (Below.refl _ _) (by exact rfl)⟩
        · intro L vs a w' hJ hF hP hL
          have p9 : L 9 = true := hP ⟨9, .data⟩ (by simp) rfl
          have s9 : vs 9 = .pointer (some ⟨g, o + i * 2 + 1, none⟩) := hJ.sp 9 p9
          have q31 := hF.slot 9 31 rfl p9
          have cb := cell_later hJ.bel K1
          exact run_val (v := .int .i64 (F i 1)) rfl (by simp [execOp, go_sem, q31, s9, cb]) ⟨_, rfl, hJ.step hL rfl (Below.refl _ _) (by exact rfl)⟩
        · intro L vs a w' hJ hF hP hL
          have p10 : L 10 = true := hP ⟨10, .data⟩ (by simp) rfl
          have s10 : vs 10 = .int .i64 (F i 1) := hJ.sp 10 p10
          have q32 := hF.slot 10 32 rfl p10
          exact run_val (v := .int .i64 (z2 : Int)) rfl (by simp [execOp, go_sem, q32, s10, hm2]) ⟨_, rfl, hJ.step hL rfl (Below.refl _ _) (by exact rfl)⟩
        · intro L vs a w' hJ hF hP hL
          have p11 : L 11 = true := hP ⟨11, .data⟩ (by simp) rfl
          have s11 : vs 11 = .int .i64 (z2 : Int) := hJ.sp 11 p11
          have q33 := hF.slot 11 33 rfl p11
          exact run_val (v := .int .i64 (1 + (z2 : Int))) rfl (by simp [execOp, go_sem, q33, s11, hw2]) ⟨_, rfl, hJ.step hL rfl (Below.refl _ _) (by exact rfl)⟩
        · intro L vs a w' hJ hF hP hL
          have p5 : L 5 = true := hP ⟨5, .data⟩ (by simp) rfl
          have s5 : vs 5 = .int .i64 (z1 : Int) := hJ.sp 5 p5
          have q27 := hF.slot 5 27 rfl p5
          have p12 : L 12 = true := hP ⟨12, .data⟩ (by simp) rfl
          have s12 : vs 12 = .int .i64 (1 + (z2 : Int)) := hJ.sp 12 p12
          have q34 := hF.slot 12 34 rfl p12
          refine run_call (f := 20) (args := #[.int .i64 (z1 : Int), .int .i64 (1 + (z2 : Int))]) rfl (by simp [go_sem, q27, s5, q34, s12]) (CO.out _ (HT.out.go (bel_go S1.out.bel hJ.bel))) ?_
          rintro e w2 ⟨v1, rfl, h1, hb⟩
          exact ⟨_, rfl, _, rfl, hJ.step hL rfl hb (by exact ⟨v1, rfl, h1⟩)⟩
        · intro L vs a w' hJ hF hP hL
          have p13 : L 13 = true := hP ⟨13, .data⟩ (by simp) rfl
          have s13 : ∃ p, vs 13 = .tuple #[p, .bool true] ∧ Rt w' p (shX F i) (shY F i) := hJ.sp 13 p13
          have q35 := hF.slot 13 35 rfl p13
          exact run_val (v := vs 13) rfl (by simp [execOp, go_sem, q35]) ⟨_, rfl, hJ.step hL rfl (Below.refl _ _) (by exact s13)⟩
        · intro L vs a w' hJ hF hP hL
          have p14 : L 14 = true := hP ⟨14, .data⟩ (by simp) rfl
          have s14 : ∃ p, vs 14 = .tuple #[p, .bool true] ∧ Rt w' p (shX F i) (shY F i) := hJ.sp 14 p14
          have q21 := hF.slot 14 21 rfl p14
          obtain ⟨vp, e1, e2⟩ := s14
          exact run_val (v := vp) rfl (by simp [execOp, go_sem, q21, e1]) ⟨_, rfl, hJ.step hL rfl (Below.refl _ _) (by exact e2)⟩
        · intro L vs a w' hJ hF hP hL
          have p14 : L 14 = true := hP ⟨14, .data⟩ (by simp) rfl
          have s14 : ∃ p, vs 14 = .tuple #[p, .bool true] ∧ Rt w' p (shX F i) (shY F i) := hJ.sp 14 p14
          have q21 := hF.slot 14 21 rfl p14
          obtain ⟨vp, e1, e2⟩ := s14
          exact run_val (v := .bool true) rfl (by simp [execOp, go_sem, q21, e1]) ⟨_, rfl, hJ.step hL rfl (Below.refl _ _) (by exact rfl)⟩
        · intro L vs a w' hJ hF hP hL
          exact run_val (v := .pointer (some ⟨w'.heap.size, 0, none⟩)) (w' := w'.alloc (.cells #[.slice none 0 0, .slice none 0 0] 47)) rfl (by simp [execOp, go_sem]) ⟨_, rfl, hJ.alloc hL rfl (by decide) rfl _⟩
        · intro L vs a w' hJ hF hP hL
          have p17 : L 17 = true := hP ⟨17, .data⟩ (by simp) rfl
          have q7 := hF.slot 17 7 rfl p17
          have p15 : L 15 = true := hP ⟨15, .data⟩ (by simp) rfl
          have s15 : Rt w' (vs 15) (shX F i) (shY F i) := hJ.sp 15 p15
          have q36 := hF.slot 15 36 rfl p15
          obtain ⟨bk, e1, e2, e3, e4, e4', e5, e6⟩ := hJ.bx p17
          obtain ⟨e7, e7'⟩ := e5 hL
          obtain ⟨aa, nn, cc, a2, n2, c2, e8, _, _⟩ := s15.raw
          exact run_unit (w' := (w'.setCell ⟨bk, 0, none⟩ (.slice aa nn cc)).setCell ⟨bk, 1, none⟩ (.slice a2 n2 c2)) rfl (by simp [execOp, go_sem, q7, q36, e1, e8, e7, e4, e7', e4']) ⟨undef, rfl, hJ.store hL p17 p15 (by decide) rfl e1 e8⟩
        · intro L vs a w' hJ hF hP hL
          have p16 : L 16 = true := hP ⟨16, .data⟩ (by simp) rfl
          have s16 : vs 16 = .bool true := hJ.sp 16 p16
          have q37 := hF.slot 16 37 rfl p16
          exact run_val (v := .bool true) rfl (by simp [execOp, go_sem, q37, s16]) ⟨_, rfl, hJ.step hL rfl (Below.refl _ _) (by exact rfl)⟩
        intro L vs w' hA hJ
        have s15 : Rt w' (vs 15) (shX F i) (shY F i) := hJ.sp 15 (hA 15 (by simp))
        have s16 : vs 16 = .bool true := hJ.sp 16 (hA 16 (by simp))
        obtain ⟨bk17, eb17, ge17, lt17, fz17, fz17', _, e6⟩ := hJ.bx (hA 17 (by simp))
        obtain ⟨_, u17, u17', eu17, ce17, ce17'⟩ := e6 (hA 18 (by simp))
        clear e6
        simp only [putL, Act.put, List.setIfInBounds_toArray, List.set_cons_zero, List.set_cons_succ, Nat.reduceAdd]
        have s15r := s15.raw
        obtain ⟨a7, n7, c7, d7, m7, g7, ev, _, _⟩ := s15r
        rw [ev] at s15 eu17
        obtain ⟨rfl, rfl⟩ : u17 = .slice a7 n7 c7 ∧ u17' = .slice d7 m7 g7 := by simpa [eq_comm] using eu17
        simp only [eb17, s16]
        have S2 : Hid (ShS w w' (shX F) (shY F) i i u4 u5 La Lb) := S1.out.go hJ.bel
        obtain ⟨w6, ew⟩ : ∃ w6, w6 = w' := ⟨_, rfl⟩
        obtain ⟨b7, eb⟩ : ∃ b7, b7 = bk17 := ⟨_, rfl⟩
        have B7 : Hid (Below wr.heap.size wr w') := hJ.bel
        have R7 : Hid (Rt w' (.agg #[.slice a7 n7 c7, .slice d7 m7 g7]) (shX F i) (shY F i)) := s15
        have G7 : Hid (wr.heap.size ≤ bk17) := ge17
        rw [← ew] at S2 B7 R7 ce17 ce17'
        rw [← eb] at G7 ce17 ce17'
        rw [← ew, ← eb]
        have C7 : Hid (w6.cell? ⟨b7, 0, none⟩ = some (.slice a7 n7 c7) ∧ w6.cell? ⟨b7, 1, none⟩ = some (.slice d7 m7 g7)) := ⟨ce17, ce17'⟩
        have KB : Hid (Below wr.heap.size wr w6) := B7.out
        have O4 : Hid (∀ k, u4.ownBlock = some k → k < wr.heap.size) := fun k e => by
          obtain ⟨_, cs, e2⟩ := S1.out.ra.row.own e
          exact (Array.getElem?_eq_some_iff.1 e2).1
        clear ew eb ev s15 s16 eu17 eb17 ce17 ce17' ge17 lt17 fz17 fz17' hJ hA S1
        go_upto_region 7 with fail
        refine wp_region_inv (JC w6 [sEq (.slice (some ⟨g, o, none⟩) n0 cap0), sEq (.int .i64 (i : Int)), sEq (.pointer (some ⟨g, o + i * 2, none⟩)), sEq (.pointer (some ⟨g, o + i * 2, none⟩)), sEq (.int .i64 (F i 0)), sEq (.int .i64 (z1 : Int)), sEq (.slice (some ⟨g, o, none⟩) n0 cap0), sEq (.int .i64 (i : Int)), sEq (.pointer (some ⟨g, o + i * 2, none⟩)), sEq (.pointer (some ⟨g, o + i * 2 + 1, none⟩)), sEq (.int .i64 (F i 1)), sEq (.int .i64 (z2 : Int)), sEq (.int .i64 (1 + (z2 : Int))), sRRtB (shX F i) (shY F i) true, sRRtB (shX F i) (shY F i) true, sRRt (shX F i) (shY F i), sEq (.bool true), sAny, sAny, sEq (.bool true)] (17, 18, 15)) 65 (by kernel_rfl) rfl (by kernel_rfl) (JC.start _ _ _) (fun HG HN => ⟨?_, ?_, ?_, ?_, ?_, ?_, ?_, ?_, ?_, ?_, ?_, ?_, ?_, ?_, ?_, ?_, ?_, ?_, ?_, ?_, trivial⟩) ?_
        · intro L vs a w' hJ hF hP hL
          have q0 : (a.tmps[0]?).getD undef = .slice (some ⟨g, o, none⟩) n0 cap0 := hF.old 0 rfl
          exact run_val (v := .slice (some ⟨g, o, none⟩) n0 cap0) rfl (by simp [execOp, go_sem, q0]) ⟨_, rfl, hJ.step hL rfl (Below.refl _ _) (by exact rfl)⟩
        · intro L vs a w' hJ hF hP hL
          have q6 : (a.tmps[6]?).getD undef = .int .i64 (i : Int) := hF.old 6 rfl
          exact run_val (v := .int .i64 (i : Int)) rfl (by simp [execOp, go_sem, q6]) ⟨_, rfl, hJ.step hL rfl (Below.refl _ _) (by exact rfl)⟩
        · intro L vs a w' hJ hF hP hL
          have p0 : L 0 = true := hP ⟨0, .data⟩ (by simp) rfl
          have s0 : vs 0 = .slice (some ⟨g, o, none⟩) n0 cap0 := hJ.sp 0 p0
          have q39 := hF.slot 0 39 rfl p0
          have p1 : L 1 = true := hP ⟨1, .data⟩ (by simp) rfl
          have s1 : vs 1 = .int .i64 (i : Int) := hJ.sp 1 p1
          have q40 := hF.slot 1 40 rfl p1
          exact run_val (v := .pointer (some ⟨g, o + i * 2, none⟩)) rfl (by simp [execOp, go_sem, q39, s0, q40, s1, HI2.out]) ⟨_, rfl, hJ.step hL rfl (Below.refl _ _) (by exact rfl)⟩
        · intro L vs a w' hJ hF hP hL
          have p2 : L 2 = true := hP ⟨2, .data⟩ (by simp) rfl
          have s2 : vs 2 = .pointer (some ⟨g, o + i * 2, none⟩) := hJ.sp 2 p2
          have q41 := hF.slot 2 41 rfl p2
          exact run_val (v := .pointer (some ⟨g, o + i * 2, none⟩)) rfl (by simp [execOp, go_sem, q41, s2]) ⟨_, rfl, hJ.step hL rfl (Below.refl _ _) (by exact rfl)⟩
        · intro L vs a w' hJ hF hP hL
          have p3 : L 3 = true := hP ⟨3, .data⟩ (by simp) rfl
          have s3 : vs 3 = .pointer (some ⟨g, o + i * 2, none⟩) := hJ.sp 3 p3
          have q42 := hF.slot 3 42 rfl p3
          have cb := cell_later (bel_go KB.out hJ.bel) K0
          exact run_val (v := .int .i64 (F i 0)) rfl (by simp [execOp, go_sem, q42, s3, cb]) ⟨_, rfl, hJ.step hL rfl (Below.refl _ _) (by exact rfl)⟩
        · intro L vs a w' hJ hF hP hL
          have p4 : L 4 = true := hP ⟨4, .data⟩ (by simp) rfl
          have s4 : vs 4 = .int .i64 (F i 0) := hJ.sp 4 p4
          have q43 := hF.slot 4 43 rfl p4
          exact run_val (v := .int .i64 (z1 : Int)) rfl (by simp [execOp, go_sem, q43, s4, hm1]) ⟨_, rfl, hJ.step hL rfl (Below.refl _ _) (by exact rfl)⟩
        · intro L vs a w' hJ hF hP hL
          have q0 : (a.tmps[0]?).getD undef = .slice (some ⟨g, o, none⟩) n0 cap0 := hF.old 0 rfl
          exact run_val (v := .slice (some ⟨g, o, none⟩) n0 cap0) rfl (by simp [execOp, go_sem, q0]) ⟨_, rfl, hJ.step hL rfl (Below.refl _ _) (by exact rfl)⟩
        · intro L vs a w' hJ hF hP hL
          have q6 : (a.tmps[6]?).getD undef = .int .i64 (i : Int) := hF.old 6 rfl
          exact run_val (v := .int .i64 (i : Int)) rfl (by simp [execOp, go_sem, q6]) ⟨_, rfl, hJ.step hL rfl (Below.refl _ _) (by exact rfl)⟩
        · intro L vs a w' hJ hF hP hL
          have p6 : L 6 = true := hP ⟨6, .data⟩ (by simp) rfl
          have s6 : vs 6 = .slice (some ⟨g, o, none⟩) n0 cap0 := hJ.sp 6 p6
          have q45 := hF.slot 6 45 rfl p6
          have p7 : L 7 = true := hP ⟨7, .data⟩ (by simp) rfl
          have s7 : vs 7 = .int .i64 (i : Int) := hJ.sp 7 p7
          have q46 := hF.slot 7 46 rfl p7
          exact run_val (v := .pointer (some ⟨g, o + i * 2, none⟩)) rfl (by simp [execOp, go_sem, q45, s6, q46, s7, HI2.out]) ⟨_, rfl, hJ.step hL rfl (Below.refl _ _) (by exact rfl)⟩
        · intro L vs a w' hJ hF hP hL
          have p8 : L 8 = true := hP ⟨8, .data⟩ (by simp) rfl
          have s8 : vs 8 = .pointer (some ⟨g, o + i * 2, none⟩) := hJ.sp 8 p8
          have q47 := hF.slot 8 47 rfl p8
          exact run_val (v := .pointer (some ⟨g, o + i * 2 + 1, none⟩)) rfl (by simp [execOp, go_sem, q47, s8]) ⟨_, rfl, hJ.step hL rfl (Below.refl _ _) (by exact rfl)⟩
        · intro L vs a w' hJ hF hP hL
          have p9 : L 9 = true := hP ⟨9, .data⟩ (by simp) rfl
          have s9 : vs 9 = .pointer (some ⟨g, o + i * 2 + 1, none⟩) := hJ.sp 9 p9
          have q48 := hF.slot 9 48 rfl p9
          have cb := cell_later (bel_go KB.out hJ.bel) K1
          exact run_val (v := .int .i64 (F i 1)) rfl (by simp [execOp, go_sem, q48, s9, cb]) ⟨_, rfl, hJ.step hL rfl (Below.refl _ _) (by exact rfl)⟩
        · intro L vs a w' hJ hF hP hL
          have p10 : L 10 = true := hP ⟨10, .data⟩ (by simp) rfl
          have s10 : vs 10 = .int .i64 (F i 1) := hJ.sp 10 p10
          have q49 := hF.slot 10 49 rfl p10
          exact run_val (v := .int .i64 (z2 : Int)) rfl (by simp [execOp, go_sem, q49, s10, hm2]) ⟨_, rfl, hJ.step hL rfl (Below.refl _ _) (by exact rfl)⟩
        · intro L vs a w' hJ hF hP hL
          have p11 : L 11 = true := hP ⟨11, .data⟩ (by simp) rfl
          have s11 : vs 11 = .int .i64 (z2 : Int) := hJ.sp 11 p11
          have q50 := hF.slot 11 50 rfl p11
          exact run_val (v := .int .i64 (1 + (z2 : Int))) rfl (by simp [execOp, go_sem, q50, s11, hw2]) ⟨_, rfl, hJ.step hL rfl (Below.refl _ _) (by exact rfl)⟩
        · intro L vs a w' hJ hF hP hL
          have p5 : L 5 = true := hP ⟨5, .data⟩ (by simp) rfl
          have s5 : vs 5 = .int .i64 (z1 : Int) := hJ.sp 5 p5
          have q44 := hF.slot 5 44 rfl p5
          have p12 : L 12 = true := hP ⟨12, .data⟩ (by simp) rfl
          have s12 : vs 12 = .int .i64 (1 + (z2 : Int)) := hJ.sp 12 p12
          have q51 := hF.slot 12 51 rfl p12
          refine run_call (f := 25) (args := #[.int .i64 (z1 : Int), .int .i64 (1 + (z2 : Int))]) rfl (by simp [go_sem, q44, s5, q51, s12]) (CO2.out _) ?_
          rintro e w2 ⟨v1, rfl, h1, hb⟩
          exact ⟨_, rfl, _, rfl, hJ.step hL rfl hb (by exact ⟨v1, rfl, h1⟩)⟩
        · intro L vs a w' hJ hF hP hL
          have p13 : L 13 = true := hP ⟨13, .data⟩ (by simp) rfl
          have s13 : ∃ p, vs 13 = .tuple #[p, .bool true] ∧ RRt w' p (shX F i) (shY F i) := hJ.sp 13 p13
          have q52 := hF.slot 13 52 rfl p13
          exact run_val (v := vs 13) rfl (by simp [execOp, go_sem, q52]) ⟨_, rfl, hJ.step hL rfl (Below.refl _ _) (by exact s13)⟩
        · intro L vs a w' hJ hF hP hL
          have p14 : L 14 = true := hP ⟨14, .data⟩ (by simp) rfl
          have s14 : ∃ p, vs 14 = .tuple #[p, .bool true] ∧ RRt w' p (shX F i) (shY F i) := hJ.sp 14 p14
          have q38 := hF.slot 14 38 rfl p14
          obtain ⟨vp, e1, e2⟩ := s14
          exact run_val (v := vp) rfl (by simp [execOp, go_sem, q38, e1]) ⟨_, rfl, hJ.step hL rfl (Below.refl _ _) (by exact e2)⟩
        · intro L vs a w' hJ hF hP hL
          have p14 : L 14 = true := hP ⟨14, .data⟩ (by simp) rfl
          have s14 : ∃ p, vs 14 = .tuple #[p, .bool true] ∧ RRt w' p (shX F i) (shY F i) := hJ.sp 14 p14
          have q38 := hF.slot 14 38 rfl p14
          obtain ⟨vp, e1, e2⟩ := s14
          exact run_val (v := .bool true) rfl (by simp [execOp, go_sem, q38, e1]) ⟨_, rfl, hJ.step hL rfl (Below.refl _ _) (by exact rfl)⟩
        · intro L vs a w' hJ hF hP hL
          exact run_val (v := .pointer (some ⟨w'.heap.size, 0, none⟩)) (w' := w'.alloc (.cells #[.slice none 0 0, .slice none 0 0] 53)) rfl (by simp [execOp, go_sem]) ⟨_, rfl, hJ.alloc hL rfl (by decide) rfl _⟩
        · intro L vs a w' hJ hF hP hL
          have p17 : L 17 = true := hP ⟨17, .data⟩ (by simp) rfl
          have q9 := hF.slot 17 9 rfl p17
          have p15 : L 15 = true := hP ⟨15, .data⟩ (by simp) rfl
          have s15 : RRt w' (vs 15) (shX F i) (shY F i) := hJ.sp 15 p15
          have q53 := hF.slot 15 53 rfl p15
          obtain ⟨bk, e1, e2, e3, e4, e4', e5, e6⟩ := hJ.bx p17
          obtain ⟨e7, e7'⟩ := e5 hL
          have s15' := s15
          obtain ⟨aa, nn, cc, a2, n2, c2, e8, _, _⟩ := s15'
          exact run_unit (w' := (w'.setCell ⟨bk, 0, none⟩ (.slice aa nn cc)).setCell ⟨bk, 1, none⟩ (.slice a2 n2 c2)) rfl (by simp [execOp, go_sem, q9, q53, e1, e8, e7, e4, e7', e4']) ⟨undef, rfl, hJ.store hL p17 p15 (by decide) rfl e1 e8⟩
        · intro L vs a w' hJ hF hP hL
          have p16 : L 16 = true := hP ⟨16, .data⟩ (by simp) rfl
          have s16 : vs 16 = .bool true := hJ.sp 16 p16
          have q54 := hF.slot 16 54 rfl p16
          exact run_val (v := .bool true) rfl (by simp [execOp, go_sem, q54, s16]) ⟨_, rfl, hJ.step hL rfl (Below.refl _ _) (by exact rfl)⟩
        intro L vs w' hA hJ
        have s15 : RRt w' (vs 15) (shX F i) (shY F i) := hJ.sp 15 (hA 15 (by simp))
        have s16 : vs 16 = .bool true := hJ.sp 16 (hA 16 (by simp))
        obtain ⟨bk17, eb17, ge17, lt17, fz17, fz17', _, e6⟩ := hJ.bx (hA 17 (by simp))
        obtain ⟨_, u17, u17', eu17, ce17, ce17'⟩ := e6 (hA 18 (by simp))
        clear e6
        simp only [putL, Act.put, List.setIfInBounds_toArray, List.set_cons_zero, List.set_cons_succ, Nat.reduceAdd]
        have s15r := s15
        obtain ⟨a9, n9, c9, d9, m9, g9, ev, _, _⟩ := s15r
        rw [ev] at s15 eu17
        obtain ⟨rfl, rfl⟩ : u17 = .slice a9 n9 c9 ∧ u17' = .slice d9 m9 g9 := by simpa [eq_comm] using eu17
        simp only [eb17, s16]
        have S3 : Hid (ShS w w' (shX F) (shY F) i i u4 u5 La Lb) := S2.out.go hJ.bel
        obtain ⟨w7, ew⟩ : ∃ w7, w7 = w' := ⟨_, rfl⟩
        obtain ⟨b9, eb⟩ : ∃ b9, b9 = bk17 := ⟨_, rfl⟩
        have B9 : Hid (Below w6.heap.size w6 w') := hJ.bel
        have R9 : Hid (RRt w' (.agg #[.slice a9 n9 c9, .slice d9 m9 g9]) (shX F i) (shY F i)) := s15
        have G9 : Hid (w6.heap.size ≤ bk17) := ge17
        rw [← ew] at S3 B9 R9 ce17 ce17'
        rw [← eb] at G9 ce17 ce17'
        rw [← ew, ← eb]
        have C9 : Hid (w7.cell? ⟨b9, 0, none⟩ = some (.slice a9 n9 c9) ∧ w7.cell? ⟨b9, 1, none⟩ = some (.slice d9 m9 g9)) := ⟨ce17, ce17'⟩
        have R7b : Hid (Rt w7 (.agg #[.slice a7 n7 c7, .slice d7 m7 g7]) (shX F i) (shY F i)) := R7.out.mono B9.out
        have C7b : Hid (w7.cell? ⟨b7, 0, none⟩ = some (.slice a7 n7 c7) ∧ w7.cell? ⟨b7, 1, none⟩ = some (.slice d7 m7 g7)) := ⟨cell_later B9.out C7.out.1, cell_later B9.out C7.out.2⟩
        clear ew eb ev s15 s16 eu17 eb17 ce17 ce17' ge17 lt17 fz17 fz17' hJ hA S2
        have y0 := C7b.out.1
        have y1 := C7b.out.2
        have bl := bel_al (o := .cells #[.slice a7 n7 c7, .slice d7 m7 g7] 47) (bel_refl w7)
        have S4 : Hid (ShS w (w7.alloc (.cells #[.slice a7 n7 c7, .slice d7 m7 g7] 47)) (shX F) (shY F) i i u4 u5 La Lb) := S3.out.go bl
        have hla := S3.out.la
        have hlb := S3.out.lb
        go_upto_region 9 with (refine (id ?_ : wpList Tryz.prog _ _ (⟨some 58, _, _, _, _, _⟩ :: _) _ _); refine wp_appF rfl (.tmp 55) (.tmp 57) rfl w.heap.size u4 La rfl S4.out.ra w7.heap.size (.slice a7 n7 c7, .slice d7 m7 g7) rfl (by simp [go_sem]) (by simp [go_sem]) ⟨_, _, _, rfl⟩ ⟨_, _, _, rfl⟩ (by omega) S4.out.bel.size ?_; intro v8 w8 HG8)
        obtain ⟨hfo, hgr⟩ := HG8.out
        have S5 : Hid (ShS w w8 (shX F) (shY F) (i + 1) i v8 u5 (La ++ [(.slice a7 n7 c7, .slice d7 m7 g7)]) Lb) := S4.out.appA (R7b.out.mono bl) hfo hgr
        have hblk : w8.heap[b9]? = w7.heap[b9]? := (hgr.block b9 (Nat.lt_of_lt_of_le (World.block_lt_of_cell? _ ⟨b9, 0, none⟩ C9.out.1) bl.size) (fun e => by
          have h1 := O4.out b9 e.symm
          have h2 := G9.out
          have h3 := B7.out.size
          omega)).trans (bl.block b9 (World.block_lt_of_cell? _ ⟨b9, 0, none⟩ C9.out.1))
        have y2 : w8.cell? ⟨b9, 0, none⟩ = some (.slice a9 n9 c9) := (World.cell?_of_block (a := ⟨b9, 0, none⟩) hblk).trans C9.out.1
        have y3 : w8.cell? ⟨b9, 1, none⟩ = some (.slice d9 m9 g9) := (World.cell?_of_block (a := ⟨b9, 1, none⟩) hblk).trans C9.out.2
        have R9b : Hid (RRt w8 (.agg #[.slice a9 n9 c9, .slice d9 m9 g9]) (shX F i) (shY F i)) := (R9.out.mono bl).fb (fb_grown hgr) S4.out.ra.oddK
        clear hfo hgr hblk y0 y1
        have bl8 := bel_al (o := .cells #[.slice a9 n9 c9, .slice d9 m9 g9] 53) (bel_refl w8)
        have S6 : Hid (ShS w (w8.alloc (.cells #[.slice a9 n9 c9, .slice d9 m9 g9] 53)) (shX F) (shY F) (i + 1) i v8 u5 (La ++ [(.slice a7 n7 c7, .slice d7 m7 g7)]) Lb) := S5.out.go bl8
        go_wp2_with (refine (id ?_ : wpList Tryz.prog _ _ (⟨some 62, _, _, _, _, _⟩ :: _) _ _); refine wp_appF2 rfl (.tmp 59) (.tmp 61) rfl w.heap.size u5 Lb rfl S6.out.rb w8.heap.size (.slice a9 n9 c9, .slice d9 m9 g9) rfl (by simp [go_sem]) (by simp [go_sem]) ⟨_, _, _, rfl⟩ ⟨_, _, _, rfl⟩ (by omega) S6.out.bel.size ?_; intro v9 w9 HG9)
        obtain ⟨hfo9, hgr9⟩ := HG9.out
        have S7 : Hid (ShS w w9 (shX F) (shY F) (i + 1) (i + 1) v8 v9 (La ++ [(.slice a7 n7 c7, .slice d7 m7 g7)]) (Lb ++ [(.slice a9 n9 c9, .slice d9 m9 g9)])) := S6.out.appB (R9b.out.mono bl8) hfo9 hgr9
        go_roundw
        case rel => exact ⟨i + 1, _, _, by omega, by go_num, S7.out⟩
        case measure => simp [intOf]; omega
      have hmin : i = min n0 12 := by omega
      go_wp2_with fail
      exact bodyPost_ret (v := .tuple #[u4, u5]) (by simp [results, Tryz.results8, go_sem]) rfl ⟨u4, u5, La, Lb, rfl, hmin ▸ S1.out⟩
    have hmin : i = min n0 12 := by omega
    go_wp2_with fail
    exact bodyPost_ret (v := .tuple #[u4, u5]) (by simp [results, Tryz.results8, go_sem]) rfl ⟨u4, u5, La, Lb, rfl, hmin ▸ S1.out⟩
end Go.Proofs.YtfkkomppfghagaaGreatDoor
