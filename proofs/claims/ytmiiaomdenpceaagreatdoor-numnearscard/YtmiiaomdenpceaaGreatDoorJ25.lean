/- Contracts of the program's functions, part 25: own work, joined in build order. -/
import Derived.Test.YtmiiaomdenpceaaGreatDoorJ24
import Derived.WalkKit
import Derived.ProofKit
import Derived.OpenShut
import Derived.ShutString
import Derived.ChangeOld
import Derived.Below
import Derived.LaidMore
import Derived.Lib.LaidTab
namespace Go.Proofs.YtmiiaomdenpceaaGreatDoor
open Go.RowKit
set_option maxRecDepth 100000
set_option linter.unusedVariables false
theorem SY.put2 {w0 w : World} {N M : List (Value × Nat)} {F G : List (Value × Nat × Nat)} {C : List (Nat × Nat × Value)} {Z : List Nat} (h : SY w0 w N M F G C Z) {b : Nat} {a1 a2 : Option Addr} {n1 c1 n2 c2 : Nat} (k0 : w.cell? ⟨b, 0, none⟩ = some (.slice a1 n1 c1)) (k1 : w.cell? ⟨b, 1, none⟩ = some (.slice a2 n2 c2)) (hb : b ∈ Z) (C' : List (Nat × Nat × Value)) (hC : ∀ p ∈ C', p ∈ C ∧ p.1 ≠ b) (u u' : Value) :
    SY w0 ((w.setCell ⟨b, 0, none⟩ u).setCell ⟨b, 1, none⟩ u') N M F G ((b, 0, u) :: (b, 1, u') :: C') Z := by
  have h1 := h.set k0 (h.lo b hb) C' hC u
  have j1 : (w.setCell ⟨b, 0, none⟩ u).cell? ⟨b, 1, none⟩ = some (.slice a2 n2 c2) := by simp [go_sem, k1]
  have h2 := h1.set j1 (h.lo b hb) C' (fun p hp => ⟨hp, (hC p hp).2⟩) u'
  have j2 : ((w.setCell ⟨b, 0, none⟩ u).setCell ⟨b, 1, none⟩ u').cell? ⟨b, 1, none⟩ = some u' := by simp [go_sem, k1]
  have j3 : ((w.setCell ⟨b, 0, none⟩ u).setCell ⟨b, 1, none⟩ u').cell? ⟨b, 0, none⟩ = some u := by simp [go_sem, k0]
  exact (h2.addC j2).addC j3
end Go.Proofs.YtmiiaomdenpceaaGreatDoor

namespace Go.Proofs.YtmiiaomdenpceaaGreatDoor
open Go.ChangeShapes Go.WideShapes Go.ChangeAt Go.RowKit
set_option linter.unusedVariables false
theorem wf_u64 {n : Int} (h : (Lit.int .u64 n).wf = true) : ∃ u : Nat, n = (u : Int) ∧ u < 18446744073709551616 := by
  have hmin : IntKind.u64.min = 0 := rfl
  have hmax : IntKind.u64.max = 18446744073709551615 := rfl
  have h2 : IntKind.u64.min ≤ n ∧ n ≤ IntKind.u64.max := by simpa [Lit.wf] using h
  rw [hmin, hmax] at h2
  exact ⟨n.toNat, by omega, by omega⟩
theorem ownD : ownKnob Tryz.prog.godebug = none := by kernel_rfl
theorem laidOutD : laidOutB Tryz.prog = true := by kernel_rfl
def IsRow (k : IntKind) (w : World) (a : Option Addr) (len cap : Nat) (zs : List Int) : Prop :=
  (a = none ∧ len = 0 ∧ cap = 0 ∧ zs = []) ∨
  ∃ x, a = some x ∧ len ≤ cap ∧ cap ≤ maxLen ∧ zs.length = cap ∧ (∀ i, i < zs.length → w.cell? (x.add i) = some (.int k (zs.getD i 0))) ∧ ∀ n ∈ zs, (Lit.int k n).wf = true
theorem row_bsl {w : World} {a : Option Addr} {len cap : Nat} {zs : List Int} (h : IsRow .u8 w a len cap zs) : BSl w a len cap (fun i => (zs.getD i 0).toNat) := by
  rcases h with ⟨rfl, rfl, rfl, rfl⟩ | ⟨x, rfl, hl, hm, hz, hcell, hwz⟩
  · exact ⟨Nat.le_refl _, by omega, fun i hi => absurd hi (by omega), .inl rfl⟩
  · have hw : ∀ i, i < len → 0 ≤ zs.getD i 0 ∧ zs.getD i 0 < 256 := by
      intro i hi
      have hi2 : i < zs.length := by omega
      have := hwz (zs.getD i 0) (by rw [List.getD_eq_getElem?_getD, List.getElem?_eq_getElem hi2]; exact List.getElem_mem hi2)
      have hmin : IntKind.u8.min = 0 := rfl
      have hmax : IntKind.u8.max = 255 := rfl
      have h2 : IntKind.u8.min ≤ zs.getD i 0 ∧ zs.getD i 0 ≤ IntKind.u8.max := by simpa [Lit.wf] using this
      rw [hmin, hmax] at h2
      omega
    refine ⟨hl, by simp only [maxLen] at hm; omega, fun i hi => ?_, ?_⟩
    · have := hw i hi
      show (zs.getD i 0).toNat < 256
      omega
    · rcases Nat.eq_zero_or_pos len with e | e
      · exact .inl e
      · obtain ⟨b, off, spot⟩ := x
        have hc := hcell 0 (by omega)
        have hspot : spot = none := by simpa [Addr.add] using World.cell?_spot hc
        subst hspot
        refine .inr ⟨b, off, rfl, fun i hi => ?_⟩
        have h1 := hcell i (by omega)
        have h2 := hw i hi
        have h3 : (⟨b, off, none⟩ : Addr).add i = ⟨b, off + i, none⟩ := by unfold Addr.add; split <;> simp_all
        rw [h3] at h1
        rw [h1]
        show some (Value.int .u8 (zs.getD i 0)) = some (Value.int .u8 (((zs.getD i 0).toNat : Nat) : Int))
        rw [Int.toNat_of_nonneg h2.1]
theorem openB {W : World} {H : Type} {enc : TypeId × Value → H} {fuel : Nat} {a : Option Addr} {len cap : Nat} {y : DataW H × List MemPlace} (hf : DataW.trod enc Tryz.prog W 0 (fun _ => true) true fuel 22 (Value.slice a len cap).cells.toList = some y) : ∃ D, BSl W a len cap D := by
  rcases open_ints Tryz.underlying22 Tryz.underlying5 (by kernel_rfl) hf with ⟨hcs, _⟩ | ⟨x, l, c, zs, hcs, _, hl, hm, hz, _, hcell, hwz⟩
  · simp [Value.cells] at hcs
    obtain ⟨rfl, rfl, rfl⟩ := hcs
    exact ⟨_, row_bsl (zs := []) (.inl ⟨rfl, rfl, rfl, rfl⟩)⟩
  · simp [Value.cells] at hcs
    obtain ⟨rfl, rfl, rfl⟩ := hcs
    exact ⟨_, row_bsl (zs := zs) (.inr ⟨_, rfl, hl, hm, by simpa using hz, hcell, hwz⟩)⟩
end Go.Proofs.YtmiiaomdenpceaaGreatDoor

namespace Go.Proofs.YtmiiaomdenpceaaGreatDoor
open Go.RowKit
set_option maxRecDepth 100000
set_option linter.unusedVariables false
end Go.Proofs.YtmiiaomdenpceaaGreatDoor

namespace Go.Proofs.YtmiiaomdenpceaaGreatDoor
open Go.RowKit
theorem made_fc {x y : Nat} (hx : x < P 38) (hy : y < P 38) : Fc (x / Nat.gcd x (orOne y)) (orOne y / Nat.gcd x (orOne y)) (x / Nat.gcd x (orOne y)) (orOne y / Nat.gcd x (orOne y)) 38 := by
  obtain ⟨e1, e2, e3⟩ := gcd_low (p := x) (orOne_pos y)
  exact Fc.own (n := 38) e2 e3 (Nat.lt_of_le_of_lt (Nat.div_le_self _ _) hx) (Nat.lt_of_le_of_lt (Nat.div_le_self _ _) (orOne_38 hy))
end Go.Proofs.YtmiiaomdenpceaaGreatDoor

namespace Go.Proofs.YtmiiaomdenpceaaGreatDoor
open Go.RowKit
set_option maxRecDepth 100000
set_option linter.unusedVariables false
set_option maxHeartbeats 8000000 in
theorem rdivInt2_yes (v : Value) (p q k : Nat) (w : World) (h : RRt w v p q) (hp : RS p) (hq : RS q) (hk : k ≤ 9223372036854775807) (hq0 : 0 < q) (hk0 : 0 < k) :
    Calls Tryz.prog 14 #[v, .int .i64 (k : Int)] w (MakesRRB w (p * 1 / Nat.gcd (p * 1) (q * k)) (q * k / Nat.gcd (p * 1) (q * k)) true) := by
  obtain ⟨a1, n1, c1, a2, n2, c2, e0, g1, g2⟩ := h
  subst e0
  have S1 : Hid _ := ((((sx_start w).addG (v := .agg #[.slice a1 n1 c1, .slice a2 n2 c2]) (x := p) (y := q) ⟨_, _, _, _, _, _, rfl, g1, g2⟩).box (.slice a1 n1 c1) (.slice a2 n2 c2) 32 _ rfl).box (.slice none 0 0) (.slice none 0 0) 32 _ rfl)
  simp only [World.size_alloc] at S1
  obtain ⟨w0, hw0⟩ : ∃ w0, w0 = (w.alloc (.cells #[.slice a1 n1 c1, .slice a2 n2 c2] 32)).alloc (.cells #[.slice none 0 0, .slice none 0 0] 32) := ⟨_, rfl⟩
  have f6 : w0.frozen? ⟨w.heap.size + 1, 0, none⟩ = false := by rw [hw0]; simp [go_sem]
  have f7 : w0.frozen? ⟨w.heap.size + 1, 1, none⟩ = false := by rw [hw0]; simp [go_sem]
  have FZ : Hid _ := And.intro f6 f7
  have hk2 : RS k := rs_word (by omega)
  have h1 : RS 1 := rs_word (by omega)
  have HH : Hid (RS p ∧ RS q ∧ RS k ∧ RS 1 ∧ 0 < q ∧ k < 18446744073709551616 ∧ 0 < k) := ⟨hp, hq, hk2, h1, hq0, by omega, hk0⟩
  have d1 : decide ((k : Int) < 1) = false := decide_eq_false (by omega)
  have m1 : IntKind.u64.wrap (k : Int) = (k : Int) := by rw [IntKind.wrap_u64]; omega
  clear g1 g2 hp hq hq0 hk2 h1 f6 f7 hk0
  go_enter Tryz.func14, Tryz.ntmps14
  go_wp2_with fail
  rw [← hw0] at S1
  rw [← hw0]
  obtain ⟨b2, hb2⟩ : ∃ b2, b2 = w.heap.size := ⟨_, rfl⟩
  have HB : Hid (w.heap.size ≤ b2 + 1) := by show _ ≤ _; omega
  rw [← hb2] at S1 FZ
  rw [← hb2]
  clear hw0 hb2
  refine wp_region_held_drew (S := fun w9 => w9.cell? ⟨b2, 0, none⟩ = some (.slice a1 n1 c1) ∧ w9.cell? ⟨b2, 1, none⟩ = some (.slice a2 n2 c2)) (by kernel_rfl) ⟨(S1.out.cel (b2) 0 (.slice a1 n1 c1)), (S1.out.cel (b2) 1 (.slice a2 n2 c2))⟩ (fun hHeld => ?_)
  refine wpAnyH_take (i := 0) (v := .agg #[.slice a1 n1 c1, .slice a2 n2 c2]) rfl (by kernel_rfl) (by kernel_rfl) (by kernel_rfl) (fun _ _ _ h => h) (Or.inl ⟨by rfl, ?_⟩) (by assumption) ?_
  · intro w hSw
    obtain ⟨g0, g1⟩ := hSw
    go_simp
  refine wpAnyH_take (i := 1) (v := .int .i64 (k : Int)) rfl (by kernel_rfl) (by kernel_rfl) (by kernel_rfl) (fun _ _ _ h => h) (Or.inl ⟨by rfl, ?_⟩) (by assumption) ?_
  · intro w hSw
    obtain ⟨g0, g1⟩ := hSw
    go_simp
  refine wpAnyH_take (i := 2) (v := .int .u64 (k : Int)) rfl (by kernel_rfl) (by kernel_rfl) (by kernel_rfl) (fun _ _ _ h => h) (Or.inl ⟨by rfl, ?_⟩) (by assumption) ?_
  · intro w hSw
    obtain ⟨g0, g1⟩ := hSw
    go_simp
  refine wpAnyH_ready (rs := [3]) (by kernel_rfl) (by simp) ?_
  refine AllReadyH.cons rfl (fun K9 hK9 => ?_) AllReadyH.nil
  go_simp
  refine Calls.mono (rwhole_any k _ HH.out.2.2.2.2.2.1) ?_
  rintro e w3 ⟨v3, rfl, hv3, hb3⟩
  replace hb3 : Below w0.heap.size w0 w3 := bel_undrew hb3
  have FZ : Hid (w3.frozen? ⟨b2 + 1, 0, none⟩ = false ∧ w3.frozen? ⟨b2 + 1, 1, none⟩ = false) := ⟨(hb3.frozen (World.block_lt_of_cell? _ _ (S1.out.cel (b2 + 1) 0 (.slice none 0 0)))).trans FZ.out.1, (hb3.frozen (World.block_lt_of_cell? _ _ (S1.out.cel (b2 + 1) 1 (.slice none 0 0)))).trans FZ.out.2⟩
  have S2 : Hid _ := (S1.out.go hb3).addG hv3
  clear hv3 hb3 S1 hHeld
  refine hK9.out _ _ ⟨(S2.out.cel (b2) 0 (.slice a1 n1 c1)), (S2.out.cel (b2) 1 (.slice a2 n2 c2))⟩ (fun hHeld => ?_)
  clear hK9 K9
  refine wpAnyH_ready (rs := [4]) (by kernel_rfl) (by simp) ?_
  refine AllReadyH.cons rfl (fun K9 hK9 => ?_) AllReadyH.nil
  go_simp
  refine Calls.mono (rdiv2_yes _ v3 p q k 1 _ (S2.out.rfr (.agg #[.slice a1 n1 c1, .slice a2 n2 c2]) p q) (S2.out.rfr v3 k 1) HH.out.1 HH.out.2.1 HH.out.2.2.1 HH.out.2.2.2.1 HH.out.2.2.2.2.1 HH.out.2.2.2.2.2.2) ?_
  rintro e w6 ⟨v6, rfl, hv6, hb6⟩
  have FZ : Hid (w6.frozen? ⟨b2 + 1, 0, none⟩ = false ∧ w6.frozen? ⟨b2 + 1, 1, none⟩ = false) := ⟨(hb6.frozen (World.block_lt_of_cell? _ _ (S2.out.cel (b2 + 1) 0 (.slice none 0 0)))).trans FZ.out.1, (hb6.frozen (World.block_lt_of_cell? _ _ (S2.out.cel (b2 + 1) 1 (.slice none 0 0)))).trans FZ.out.2⟩
  have S4 : Hid _ := (S2.out.go hb6).addG hv6
  obtain ⟨a6, n6, c6, a7, n7, c7, ev, _, _⟩ := hv6
  subst ev
  clear hb6 S2 hHeld
  have z0 := S4.out.cel (b2 + 1) 0 (.slice none 0 0)
  have z1 := S4.out.cel (b2 + 1) 1 (.slice none 0 0)
  have y0 := FZ.out.1
  have y1 := FZ.out.2
  have t0 := (S4.out.cel (b2) 0 (.slice a1 n1 c1))
  have t1 := (S4.out.cel (b2) 1 (.slice a2 n2 c2))
  refine hK9.out _ _ ⟨t0, t1⟩ (fun hHeld => ?_)
  clear hK9 K9
  refine wpAnyH_take (i := 5) (v := .agg #[.slice a6 n6 c6, .slice a7 n7 c7]) rfl (by kernel_rfl) (by kernel_rfl) (by kernel_rfl) (fun _ _ _ h => h) (Or.inl ⟨by rfl, ?_⟩) (by assumption) ?_
  · intro w hSw
    obtain ⟨g0, g1⟩ := hSw
    go_simp
  refine wpAnyH_take (i := 6) (v := .bool true) rfl (by kernel_rfl) (by kernel_rfl) (by kernel_rfl) (fun _ _ _ h => h) (Or.inl ⟨by rfl, ?_⟩) (by assumption) ?_
  · intro w hSw
    obtain ⟨g0, g1⟩ := hSw
    go_simp
  refine wpAnyH_ready (rs := [7]) (by kernel_rfl) (by simp) ?_
  refine AllReadyH.cons rfl (fun K9 hK9 => ?_) AllReadyH.nil
  go_simp
  clear hHeld
  refine hK9.out _ _ (by simp [go_sem, *]) (fun hHeld => ?_)
  clear hK9 K9
  refine wpAnyH_take (i := 8) (v := .bool true) rfl (by kernel_rfl) (by kernel_rfl) (by kernel_rfl) (fun _ _ _ h => h) (Or.inl ⟨by rfl, ?_⟩) (by assumption) ?_
  · intro w hSw
    obtain ⟨g0, g1⟩ := hSw
    go_simp
  refine wpAnyH_done (by kernel_rfl) ?_ _
  have Z : Hid _ := rrat_put (w0 := w) (v := .slice a6 n6 c6) (u := .slice a7 n7 c7) z0 z1 (S4.out.rfr (.agg #[.slice a6 n6 c6, .slice a7 n7 c7]) (p * 1 / Nat.gcd (p * 1) (q * k)) (q * k / Nat.gcd (p * 1) (q * k))) S4.out.bel HB.out
  clear S4 FZ t0 t1
  go_wp2_with fail
  exact bodyPost_ret (v := .tuple #[.agg #[.slice a6 n6 c6, .slice a7 n7 c7], .bool true]) (by simp [results, Tryz.results14, go_sem, z0, z1]) rfl ⟨_, rfl, Z.out.1, Z.out.2⟩
theorem Fc.rdivInt {p q N D n k : Nat} (h : Fc p q N D n) (hn : n ≤ 80) (hk : k ≤ 9223372036854775807) (hk0 : 0 < k) : ∃ A B, Fc A B N (D * k) (n + 1) ∧ ∀ v w, RRt w v p q → Calls Tryz.prog 14 #[v, .int .i64 (k : Int)] w (MakesRRB w A B true) := by
  have kk : Fc 1 k 1 k 1 := ⟨Nat.gcd_one_left _, by omega, by omega, rfl, by rw [P_one]; omega, by rw [P_one]; omega⟩
  have low := low_terms (p * 1) (q * k) (Nat.mul_pos h.pos hk0)
  have s1 : p * 1 < P (n + 1) := mulP_lt h.s1 kk.s1
  have s2 : q * k < P (n + 1) := mulP_lt h.s2 kk.s2
  have vv := val_mul h.pos kk.pos h.val kk.val low.2.1
  rw [Nat.mul_one N] at vv
  exact ⟨_, _, ⟨low.1, low.2.2, Nat.mul_pos h.dpos hk0, vv, Nat.lt_of_le_of_lt (Nat.div_le_self _ _) s1, Nat.lt_of_le_of_lt (Nat.div_le_self _ _) s2⟩, fun v w e => rdivInt2_yes v p q k w e (h.rs1 (by omega)) (h.rs2 (by omega)) hk h.pos hk0⟩
end Go.Proofs.YtmiiaomdenpceaaGreatDoor

namespace Go.Proofs.YtmiiaomdenpceaaGreatDoor
open Go.RowKit
set_option maxRecDepth 100000
set_option linter.unusedVariables false
/-- i digits of a difference are made, c is borrowed. -/
structure Mi (w0 wr : World) (v : Value) (F : Nat → Nat) (G : Nat → Nat) (m i c : Nat) (H : Nat → Nat) : Prop where
  own : OR wr 23 w0.heap.size v i (wd H)
  dg : Dg H i
  sum : U H i + U (cutU G m 0) i = U F i + c * B i
  car : c ≤ 1
  bel : Below w0.heap.size w0 wr
theorem mi_sum {F c b G f g s U1 : Nat} (hs : s + g + c = 4294967296 + f) (hl : s < 8589934592) (e : U1 + G = F + c * b) : U1 + s % 4294967296 * b + (G + g * b) = F + f * b + (1 - s / 4294967296) * (b * 4294967296) := by
  have h2 : (s + g + c) * b = (4294967296 + f) * b := by rw [hs]
  rcases Nat.lt_or_ge s 4294967296 with h | h
  · rw [Nat.mod_eq_of_lt h, Nat.div_eq_of_lt h]
    grind
  · obtain ⟨z, rfl⟩ : ∃ z, s = 4294967296 + z := ⟨s - 4294967296, by omega⟩
    rw [show (4294967296 + z) % 4294967296 = z by omega, show (4294967296 + z) / 4294967296 = 1 by omega]
    grind
theorem Mi.step {w0 wr w2 : World} {v v2 : Value} {F G H : Nat → Nat} {m i c g : Nat} (h : Mi w0 wr v F G m i c H) (hg : g = cutU G m 0 i) (lf : F i < 4294967296) (lg : g < 4294967296)
    (ho : OR w2 23 w0.heap.size v2 (i + 1) (fun j => if j = i then .int .u64 (((4294967296 + F i - g - c : Nat) : Int) % 4294967296) else wd H j)) (hb : Below w0.heap.size w0 w2) :
    Mi w0 w2 v2 F G m (i + 1) (1 - (4294967296 + F i - g - c) / 4294967296) (put H i ((4294967296 + F i - g - c) % 4294967296)) := by
  have hc := h.car
  refine ⟨OR.congr ho fun j hj => ?_, fun j hj => ?_, ?_, by omega, hb⟩
  · unfold wd put
    split
    · congr 1
    · rfl
  · unfold put
    split
    · exact Nat.mod_lt _ (by decide)
    · exact h.dg j (by omega)
  · rw [U_succ, U_succ, U_succ, put_same, U_congr (F := put H i _) (G := H) fun j hj => put_other _ _ (by omega), ← hg, B_succ]
    exact mi_sum (by omega) (by omega) h.sum
theorem Mi.done {w0 wr : World} {v : Value} {F G H : Nat → Nat} {n m c : Nat} (h : Mi w0 wr v F G m n c H) (hm : m ≤ n) (dF : Dg F n) (hle : U G m ≤ U F n) : U H n = U F n - U G m := by
  have h1 := h.sum
  rw [U_cut hm] at h1
  have h2 := U_lt h.dg
  have h5 : c = 0 ∨ c = 1 := by have := h.car; omega
  rcases h5 with rfl | rfl <;> omega
set_option maxHeartbeats 2000000 in
theorem rminus_any (v u : Value) (x y : Nat) (w : World) (h : RNat w v x) (k : RNat w u y) (hx : RFits x) (hle : y ≤ x) :
    Calls Tryz.prog 91 #[v, u] w (RMakes w (x - y)) := by
  obtain ⟨ax, n, cap, rfl⟩ := h.isAgg
  obtain ⟨ay, m, cap', rfl⟩ := k.isAgg
  obtain ⟨F, hs, hd, h1, hv⟩ := h.open
  obtain ⟨G, ks, kd, k1, kv⟩ := k.open
  have hn : n ≤ 4294967296 := rfits_len (hv.symm ▸ hx) h1
  have hm : m ≤ n := by
    refine U_len_le (m := n) ?_ k1
    rw [kv]
    exact Nat.lt_of_le_of_lt hle (hv ▸ U_lt hd)
  have hle' : U G m ≤ U F n := by rw [kv, hv]; exact hle
  have hm3 : m ≤ 4294967296 := by omega
  have HH : Hid (Sl w ax n cap F ∧ Dg F n ∧ U F n = x ∧ Sl w ay m cap' G ∧ Dg G m ∧ U G m = y ∧ U G m ≤ U F n) := ⟨hs, hd, hv, ks, kd, kv, hle'⟩
  clear hs hd h1 hv ks kd k1 kv h k hx hle hle'
  have HB : Hid (Below w.heap.size w (((w.alloc (.cells #[.slice ax n cap] 30)).alloc (.cells #[.slice ay m cap'] 30)).alloc (.cells #[.slice none 0 0] 30))) := (bel_alloc2 _ _ _).alloc (by simp <;> omega) _
  go_enter Tryz.func91, Tryz.ntmps91
  go_wp2_with fail
  obtain ⟨w0, hw0⟩ : ∃ w0, w0 = ((w.alloc (.cells #[.slice ax n cap] 30)).alloc (.cells #[.slice ay m cap'] 30)).alloc (.cells #[.slice none 0 0] 30) := ⟨_, rfl⟩
  have c1 : w0.cell? ⟨w.heap.size, 0, none⟩ = some (.slice ax n cap) := by rw [hw0]; simp [go_sem]
  have c2 : w0.cell? ⟨w.heap.size + 1, 0, none⟩ = some (.slice ay m cap') := by rw [hw0]; simp [go_sem]
  have c3 : w0.cell? ⟨w.heap.size + 1 + 1, 0, none⟩ = some (.slice none 0 0) := by rw [hw0]; simp [go_sem]
  have f3 : w0.frozen? ⟨w.heap.size + 1 + 1, 0, none⟩ = false := by rw [hw0]; simp [go_sem]
  rw [← hw0] at HB ⊢
  clear hw0
  have CC : Hid _ := And.intro c1 (And.intro c2 (And.intro c3 f3))
  clear c1 c2 c3 f3
  go_loopw [5, 6, 7] (fun l q t wr => ∃ (i c : Nat) (H : Nat → Nat), i ≤ n ∧ t = .int .i64 (i : Int) ∧ q = .int .u64 (c : Int) ∧ Hid (Mi w0 wr l F G m i c H) ∧ Hid (i = 0 → l = .slice none 0 0)) (fun _ _ t _ => n - (intOf t).toNat)
  case atStart => exact ⟨0, 0, fun _ => 0, by omega, rfl, rfl, ⟨OR.nil _ _ _ _, fun i hi => absurd hi (by omega), by simp [U_zero], by omega, Below.refl _ _⟩, fun _ => rfl⟩
  case round =>
    obtain ⟨i, c, H, hi, rfl, rfl, hP, HZ⟩ := hrel
    have d1 := cell_later hP.out.bel CC.out.1
    have d2 := cell_later hP.out.bel CC.out.2.1
    by_cases him : i < n
    · have him' : (i : Int) < n := by omega
      have hc1 := hP.out.car
      have hf := HH.out.2.1 i him
      have hg := dg_cut HH.out.2.2.2.2.1 i
      obtain ⟨g, eg⟩ : ∃ g, g = cutU G m 0 i := ⟨_, rfl⟩
      have EG : Hid (g = cutU G m 0 i) := eg
      rw [← eg] at hg
      clear eg
      obtain ⟨b, o, rfl, hw⟩ := HH.out.1.at i him
      have e1 : wr.cell? ⟨b, o + i, none⟩ = some (.int .u64 (F i : Nat)) := cell_later (bel_go HB.out hP.out.bel) (hw i him)
      obtain ⟨f, ef⟩ : ∃ f, f = F i := ⟨_, rfl⟩
      have EF : Hid (f = F i) := ef
      rw [← ef] at hf e1
      clear ef hw
      have r1 : IntKind.u64.wrap (4294967296 + (f : Int)) = 4294967296 + (f : Int) := by rw [IntKind.wrap_u64]; omega
      have r2 : IntKind.u64.wrap (4294967296 + (f : Int) - (g : Int)) = 4294967296 + (f : Int) - (g : Int) := by rw [IntKind.wrap_u64]; omega
      have r3 : IntKind.u64.wrap (4294967296 + (f : Int) - (g : Int) - (c : Int)) = ((4294967296 + f - g - c : Nat) : Int) := by rw [IntKind.wrap_u64]; omega
      have DG : Hid (∀ k, Calls Tryz.prog 89 #[.slice ay m cap', .int .i64 (i : Int)] (wr.drewN k) fun e w' => e = .returned (.int .u64 (g : Int)) ∧ w' = wr.drewN k) := fun k => by
        rw [EG.out]
        exact rdigit_any _ _ _ G i _ (HH.out.2.2.2.1.mono (bel_drewN (bel_go HB.out hP.out.bel) k)) (by omega)
      go_wp2_with fail
      go_quiet ((go_at_call 89; exact Calls.quiet_of_same (DG.out _)))
      obtain ⟨s, hs⟩ : ∃ s, s = 4294967296 + f - g - c := ⟨_, rfl⟩
      have hsl : s < 8589934592 := by omega
      have ES : Hid (s = 4294967296 + f - g - c) := hs
      rw [← hs]
      clear hs r1 r2 r3
      have r4 : IntKind.u64.wrap (1 - (s : Int) / 4294967296) = ((1 - s / 4294967296 : Nat) : Int) := by rw [IntKind.wrap_u64]; omega
      have OW : Hid _ := hP.out.own.below (bel_al (bel_drewN (bel_refl wr) nq) (o := .cells #[.int .u64 ((s : Int) % 4294967296)] 23))
      have CE : Hid (((wr.drewN nq).alloc (.cells #[.int .u64 ((s : Int) % 4294967296)] 23)).cell? ⟨wr.heap.size, 0, none⟩ = some (.int .u64 ((s : Int) % 4294967296))) := cell_new (wr.drewN nq) _ _
      have SZ : Hid (w0.heap.size ≤ ((wr.drewN nq).alloc (.cells #[.int .u64 ((s : Int) % 4294967296)] 23)).heap.size) := Nat.le_trans hP.out.bel.size (bel_al (bel_drewN (bel_refl wr) nq)).size
      have hs7 : w0.heap.size ≤ wr.heap.size := hP.out.bel.size
      go_wp2_with (refine (id ?_ : wpList Tryz.prog _ _ (⟨some 33, _, _, _, _, _⟩ :: _) _ _); refine hold ?_)
      intro _
      refine wpList_append_one rfl (.tmp 29) (.tmp 32) 24 rfl 23 (.int .u64 0) 8 Tryz.underlying24 Tryz.info22b rfl (by omega) w0.heap.size _ i (wd H) rfl OW.out _ _ rfl _ CE.out rfl (by omega) SZ.out ?_
      intro g2 cap2 w2 ho hg2 _ _
      rw [ES.out, EF.out] at ho
      have S : Hid _ := hP.out.step EG.out (EF.out ▸ hf) hg ho (((bel_drewN hP.out.bel nq).alloc hs7 _).grown hg2 SZ.out hP.out.own.blk)
      rw [← EF.out, ← ES.out] at S
      clear ho hg2 OW
      go_wp2_with fail
      go_roundw
      case rel => exact ⟨i + 1, _, _, by omega, by go_num, by go_num, S.out, fun e => absurd e (by omega)⟩
      case measure => simp [intOf]; omega
    · obtain rfl : i = n := by omega
      have B0 : Hid (Below w.heap.size w wr) := bel_go HB.out hP.out.bel
      obtain ⟨a, cap1, rfl, hsl⟩ := hP.out.own.sl (fun j hj => by have := hP.out.dg j hj; omega)
      have hcr : wr.cell? ⟨w.heap.size + 1 + 1, 0, none⟩ = some (.slice none 0 0) := cell_later hP.out.bel CC.out.2.2.1
      have hfr : wr.frozen? ⟨w.heap.size + 1 + 1, 0, none⟩ = false := (hP.out.bel.frozen (World.block_lt_of_cell? _ _ CC.out.2.2.1)).trans CC.out.2.2.2
      have HS : Hid (Sl wr a i cap1 H) := hsl
      have H0 : Hid (i = 0 → a = none ∧ cap1 = 0) := fun e => by
        have := HZ.out e
        cases this
        exact ⟨rfl, rfl⟩
      clear hsl
      go_wp2_with fail
      refine (rtrimmed_any _ i _ H wr HS.out hP.out.dg (by omega) H0.out).mono ?_
      rintro e w3 ⟨v3, rfl, hv3, hb3⟩
      rw [hP.out.done hm HH.out.2.1 HH.out.2.2.2.2.2.2, HH.out.2.2.1, HH.out.2.2.2.2.2.1] at hv3
      have hcr3 : w3.cell? ⟨w.heap.size + 1 + 1, 0, none⟩ = some (.slice none 0 0) := cell_later hb3 hcr
      have hfr3 : w3.frozen? ⟨w.heap.size + 1 + 1, 0, none⟩ = false := (hb3.frozen (World.block_lt_of_cell? _ _ hcr)).trans hfr
      obtain ⟨a3, n3, cap3, rfl⟩ := hv3.isAgg
      have HV3 : Hid (RNat w3 (.agg #[.slice a3 n3 cap3]) (x - y)) := hv3
      have B3 : Hid (Below w.heap.size w w3) := bel_go B0.out hb3
      clear hv3 hb3 hcr hfr
      go_wp2_with fail
      refine bodyPost_ret (v := .agg #[.slice a3 n3 cap3]) (by simp [results, Tryz.results91, go_sem, hcr3]) rfl ⟨_, rfl, ?_, B3.out.setCell (by show _ ≤ _ + 1 + 1; omega) _⟩
      exact HV3.out.setCell (no_int_slice hcr3) _
end Go.Proofs.YtmiiaomdenpceaaGreatDoor

namespace Go.Proofs.YtmiiaomdenpceaaGreatDoor
open Go.RowKit
set_option maxRecDepth 100000
set_option linter.unusedVariables false
set_option maxHeartbeats 8000000 in
theorem rcmp2_any (v u : Value) (p q x y : Nat) (w : World) (h : RRt w v p q) (k : RRt w u x y) (hp : RS p) (hq : RS q) (hx : RS x) (hy : RS y) (z : Int) (hz : cmpI (p * y) (x * q) = z) :
    Calls Tryz.prog 19 #[v, u] w fun e w' => e = .returned (.int .i64 z) ∧ Below w.heap.size w w' := by
  obtain ⟨a1, n1, c1, a2, n2, c2, e0, g1, g2⟩ := h
  subst e0
  obtain ⟨a3, n3, c3, a4, n4, c4, e1, g3, g4⟩ := k
  subst e1
  have S1 : Hid _ := ((((((sx_start w).addM g1).addM g2).addM g3).addM g4).box (.slice a1 n1 c1) (.slice a2 n2 c2) 32 _ rfl).box (.slice a3 n3 c3) (.slice a4 n4 c4) 32 _ rfl
  simp only [World.size_alloc] at S1
  obtain ⟨w0, hw0⟩ : ∃ w0, w0 = (w.alloc (.cells #[.slice a1 n1 c1, .slice a2 n2 c2] 32)).alloc (.cells #[.slice a3 n3 c3, .slice a4 n4 c4] 32) := ⟨_, rfl⟩
  have HH : Hid (RS p ∧ RS q ∧ RS x ∧ RS y ∧ RFits (p * y) ∧ RFits (x * q)) := ⟨hp, hq, hx, hy, rfits_P (hp.mul hy) (by omega), rfits_P (hx.mul hq) (by omega)⟩
  have HZ : Hid (cmpI (p * y) (x * q) = z) := hz
  clear g1 g2 g3 g4 hp hq hx hy hz
  go_enter Tryz.func19, Tryz.ntmps19
  go_wp2_with fail
  rw [← hw0] at S1
  rw [← hw0]
  obtain ⟨b2, hb2⟩ : ∃ b2, b2 = w.heap.size := ⟨_, rfl⟩
  rw [← hb2] at S1
  rw [← hb2]
  clear hw0 hb2
  refine wp_region_held_drew (S := fun w9 => w9.cell? ⟨b2, 0, none⟩ = some (.slice a1 n1 c1) ∧ w9.cell? ⟨b2, 1, none⟩ = some (.slice a2 n2 c2) ∧ w9.cell? ⟨b2 + 1, 0, none⟩ = some (.slice a3 n3 c3) ∧ w9.cell? ⟨b2 + 1, 1, none⟩ = some (.slice a4 n4 c4)) (by kernel_rfl) ⟨(S1.out.cel (b2) 0 (.slice a1 n1 c1)), (S1.out.cel (b2) 1 (.slice a2 n2 c2)), (S1.out.cel (b2 + 1) 0 (.slice a3 n3 c3)), (S1.out.cel (b2 + 1) 1 (.slice a4 n4 c4))⟩ (fun hHeld => ?_)
  refine wpAnyH_take (i := 0) (v := .pointer (some ⟨b2, 0, none⟩)) rfl (by kernel_rfl) (by kernel_rfl) (by kernel_rfl) (fun _ _ _ h => h) (Or.inl ⟨by rfl, ?_⟩) (by assumption) ?_
  · intro w hSw
    obtain ⟨g0, g1, g2, g3⟩ := hSw
    go_simp
  refine wpAnyH_take (i := 1) (v := .agg #[.slice a1 n1 c1]) rfl (by kernel_rfl) (by kernel_rfl) (by kernel_rfl) (fun _ _ _ h => h) (Or.inl ⟨by rfl, ?_⟩) (by assumption) ?_
  · intro w hSw
    obtain ⟨g0, g1, g2, g3⟩ := hSw
    go_simp
  refine wpAnyH_take (i := 2) (v := .pointer (some ⟨b2 + 1, 1, none⟩)) rfl (by kernel_rfl) (by kernel_rfl) (by kernel_rfl) (fun _ _ _ h => h) (Or.inl ⟨by rfl, ?_⟩) (by assumption) ?_
  · intro w hSw
    obtain ⟨g0, g1, g2, g3⟩ := hSw
    go_simp
  refine wpAnyH_take (i := 3) (v := .agg #[.slice a4 n4 c4]) rfl (by kernel_rfl) (by kernel_rfl) (by kernel_rfl) (fun _ _ _ h => h) (Or.inl ⟨by rfl, ?_⟩) (by assumption) ?_
  · intro w hSw
    obtain ⟨g0, g1, g2, g3⟩ := hSw
    go_simp
  refine wpAnyH_take (i := 5) (v := .pointer (some ⟨b2 + 1, 0, none⟩)) rfl (by kernel_rfl) (by kernel_rfl) (by kernel_rfl) (fun _ _ _ h => h) (Or.inl ⟨by rfl, ?_⟩) (by assumption) ?_
  · intro w hSw
    obtain ⟨g0, g1, g2, g3⟩ := hSw
    go_simp
  refine wpAnyH_take (i := 6) (v := .agg #[.slice a3 n3 c3]) rfl (by kernel_rfl) (by kernel_rfl) (by kernel_rfl) (fun _ _ _ h => h) (Or.inl ⟨by rfl, ?_⟩) (by assumption) ?_
  · intro w hSw
    obtain ⟨g0, g1, g2, g3⟩ := hSw
    go_simp
  refine wpAnyH_take (i := 7) (v := .pointer (some ⟨b2, 1, none⟩)) rfl (by kernel_rfl) (by kernel_rfl) (by kernel_rfl) (fun _ _ _ h => h) (Or.inl ⟨by rfl, ?_⟩) (by assumption) ?_
  · intro w hSw
    obtain ⟨g0, g1, g2, g3⟩ := hSw
    go_simp
  refine wpAnyH_take (i := 8) (v := .agg #[.slice a2 n2 c2]) rfl (by kernel_rfl) (by kernel_rfl) (by kernel_rfl) (fun _ _ _ h => h) (Or.inl ⟨by rfl, ?_⟩) (by assumption) ?_
  · intro w hSw
    obtain ⟨g0, g1, g2, g3⟩ := hSw
    go_simp
  refine wpAnyH_ready (rs := [4]) (by kernel_rfl) (by simp) ?_
  refine AllReadyH.cons rfl (fun K9 hK9 => ?_) AllReadyH.nil
  go_simp
  refine Calls.mono (rtimes_any _ _ p y _ ((S1.out.rat (.agg #[.slice a1 n1 c1]) p).mono (bel_dr (bel_refl _))) ((S1.out.rat (.agg #[.slice a4 n4 c4]) y).mono (bel_dr (bel_refl _))) HH.out.1.rfits HH.out.2.2.2.1.rfits) ?_
  rintro e w3 ⟨v3, rfl, hv3, hb3⟩
  replace hb3 : Below w0.heap.size w0 w3 := bel_undrew hb3
  have S2 : Hid _ := (S1.out.go hb3).addM hv3
  clear hv3 hb3 S1 hHeld
  refine hK9.out _ _ ⟨(S2.out.cel (b2) 0 (.slice a1 n1 c1)), (S2.out.cel (b2) 1 (.slice a2 n2 c2)), (S2.out.cel (b2 + 1) 0 (.slice a3 n3 c3)), (S2.out.cel (b2 + 1) 1 (.slice a4 n4 c4))⟩ (fun hHeld => ?_)
  clear hK9 K9
  refine wpAnyH_ready (rs := [9]) (by kernel_rfl) (by simp) ?_
  refine AllReadyH.cons rfl (fun K9 hK9 => ?_) AllReadyH.nil
  go_simp
  refine Calls.mono (rtimes_any _ _ x q _ (S2.out.rat (.agg #[.slice a3 n3 c3]) x) (S2.out.rat (.agg #[.slice a2 n2 c2]) q) HH.out.2.2.1.rfits HH.out.2.1.rfits) ?_
  rintro e w4 ⟨v4, rfl, hv4, hb4⟩
  have S3 : Hid _ := (S2.out.go hb4).addM hv4
  clear hv4 hb4 S2 hHeld
  refine hK9.out _ _ ⟨(S3.out.cel (b2) 0 (.slice a1 n1 c1)), (S3.out.cel (b2) 1 (.slice a2 n2 c2)), (S3.out.cel (b2 + 1) 0 (.slice a3 n3 c3)), (S3.out.cel (b2 + 1) 1 (.slice a4 n4 c4))⟩ (fun hHeld => ?_)
  clear hK9 K9
  refine wpAnyH_ready (rs := [10]) (by kernel_rfl) (by simp) ?_
  refine AllReadyH.cons rfl (fun K9 hK9 => ?_) AllReadyH.nil
  go_simp
  refine Calls.mono (rcmp_any v3 v4 (p * y) (x * q) _ (S3.out.rat v3 (p * y)) (S3.out.rat v4 (x * q)) HH.out.2.2.2.2.1 HH.out.2.2.2.2.2) ?_
  rintro e w6 ⟨rfl, hb6⟩
  have S4 : Hid _ := S3.out.go hb6
  rw [HZ.out]
  clear hb6 S3 hHeld
  refine hK9.out _ _ ⟨(S4.out.cel (b2) 0 (.slice a1 n1 c1)), (S4.out.cel (b2) 1 (.slice a2 n2 c2)), (S4.out.cel (b2 + 1) 0 (.slice a3 n3 c3)), (S4.out.cel (b2 + 1) 1 (.slice a4 n4 c4))⟩ (fun hHeld => ?_)
  clear hK9 K9
  refine wpAnyH_take (i := 11) (v := .int .i64 z) rfl (by kernel_rfl) (by kernel_rfl) (by kernel_rfl) (fun _ _ _ h => h) (Or.inl ⟨by rfl, ?_⟩) (by assumption) ?_
  · intro w hSw
    obtain ⟨g0, g1, g2, g3⟩ := hSw
    go_simp
  refine wpAnyH_done (by kernel_rfl) ?_ _
  go_wp2_with fail
  go_ret
  exact ⟨rfl, S4.out.bel⟩
set_option maxHeartbeats 8000000 in
theorem rsub2_yes (v u : Value) (p q x y : Nat) (w : World) (h : RRt w v p q) (k : RRt w u x y) (hp : RS p) (hq : RS q) (hx : RS x) (hy : RS y) (hq0 : 0 < q) (hy0 : 0 < y) (hle : x * q ≤ p * y) :
    Calls Tryz.prog 62 #[v, u] w (MakesRRB w ((p * y - x * q) / Nat.gcd (p * y - x * q) (q * y)) ((q * y) / Nat.gcd (p * y - x * q) (q * y)) true) := by
  have HR : Hid (RRt w v p q ∧ RRt w u x y) := ⟨h, k⟩
  obtain ⟨a1, n1, c1, a2, n2, c2, e0, g1, g2⟩ := h
  subst e0
  obtain ⟨a3, n3, c3, a4, n4, c4, e1, g3, g4⟩ := k
  subst e1
  have S0 : Hid _ := ((((((sx_start w).addM g1).addM g2).addM g3).addM g4).box (.slice a1 n1 c1) (.slice a2 n2 c2) 32 _ rfl).box (.slice a3 n3 c3) (.slice a4 n4 c4) 32 _ rfl
  simp only [World.size_alloc] at S0
  have S1 : Hid _ := S0.out.box (.slice none 0 0) (.slice none 0 0) 32 _ rfl
  simp only [World.size_alloc] at S1
  obtain ⟨w0, hw0⟩ : ∃ w0, w0 = ((w.alloc (.cells #[.slice a1 n1 c1, .slice a2 n2 c2] 32)).alloc (.cells #[.slice a3 n3 c3, .slice a4 n4 c4] 32)).alloc (.cells #[.slice none 0 0, .slice none 0 0] 32) := ⟨_, rfl⟩
  have f6 : w0.frozen? ⟨w.heap.size + 1 + 1, 0, none⟩ = false := by rw [hw0]; simp [go_sem]
  have f7 : w0.frozen? ⟨w.heap.size + 1 + 1, 1, none⟩ = false := by rw [hw0]; simp [go_sem]
  have FZ : Hid _ := And.intro f6 f7
  obtain ⟨z, hz⟩ : ∃ z, cmpI (p * y) (x * q) = z := ⟨_, rfl⟩
  have HC : Hid (RS p ∧ RS q ∧ RS x ∧ RS y ∧ cmpI (p * y) (x * q) = z) := ⟨hp, hq, hx, hy, hz⟩
  have dz : decide (z < 0) = false := decide_eq_false (by rw [← hz]; unfold cmpI; rw [if_neg (by omega)]; split <;> omega)
  have s1 : RSome (p * y - x * q) := ⟨Nat.lt_of_le_of_lt (Nat.sub_le _ _) (Nat.lt_of_lt_of_le (by rw [← P_B]; exact hp.mul hy) (B_le (show 2 * 180 ≤ 1000000 by omega)))⟩
  have s2 : RSome (q * y) := ⟨Nat.lt_of_lt_of_le (by rw [← P_B]; exact hq.mul hy) (B_le (show 2 * 180 ≤ 1000000 by omega))⟩
  have HH : Hid (RFits (p * y) ∧ x * q ≤ p * y ∧ RSome (p * y - x * q) ∧ RSome (q * y) ∧ 0 < q * y) := ⟨rfits_P (hp.mul hy) (by omega), hle, s1, s2, Nat.mul_pos hq0 hy0⟩
  clear g1 g2 g3 g4 hp hq hx hy hq0 hy0 hle s1 s2 S0 f6 f7 hz
  go_enter Tryz.func62, Tryz.ntmps62
  go_wp2_with fail
  rw [← hw0] at S1
  rw [← hw0]
  obtain ⟨b2, hb2⟩ : ∃ b2, b2 = w.heap.size := ⟨_, rfl⟩
  have HB : Hid (w.heap.size ≤ b2 + 1 + 1) := by show _ ≤ _; omega
  rw [← hb2] at S1 FZ
  rw [← hb2]
  clear hw0 hb2
  refine (rcmp2_any _ _ p q x y _ (HR.out.1.mono S1.out.bel) (HR.out.2.mono S1.out.bel) HC.out.1 HC.out.2.1 HC.out.2.2.1 HC.out.2.2.2.1 z HC.out.2.2.2.2).mono ?_
  rintro e w5 ⟨rfl, hb5⟩
  have FZ : Hid (w5.frozen? ⟨b2 + 1 + 1, 0, none⟩ = false ∧ w5.frozen? ⟨b2 + 1 + 1, 1, none⟩ = false) := ⟨(hb5.frozen (World.block_lt_of_cell? _ _ (S1.out.cel (b2 + 1 + 1) 0 (.slice none 0 0)))).trans FZ.out.1, (hb5.frozen (World.block_lt_of_cell? _ _ (S1.out.cel (b2 + 1 + 1) 1 (.slice none 0 0)))).trans FZ.out.2⟩
  have S1 : Hid _ := S1.out.go hb5
  clear hb5 HR
  go_wp2_with fail
  obtain ⟨w0, ew0⟩ : ∃ w0, w0 = w5 := ⟨_, rfl⟩
  rw [← ew0] at S1 FZ
  rw [← ew0]
  clear ew0
  refine wp_region_held_drew (S := fun w9 => w9.cell? ⟨b2, 0, none⟩ = some (.slice a1 n1 c1) ∧ w9.cell? ⟨b2, 1, none⟩ = some (.slice a2 n2 c2) ∧ w9.cell? ⟨b2 + 1, 0, none⟩ = some (.slice a3 n3 c3) ∧ w9.cell? ⟨b2 + 1, 1, none⟩ = some (.slice a4 n4 c4)) (by kernel_rfl) ⟨(S1.out.cel (b2) 0 (.slice a1 n1 c1)), (S1.out.cel (b2) 1 (.slice a2 n2 c2)), (S1.out.cel (b2 + 1) 0 (.slice a3 n3 c3)), (S1.out.cel (b2 + 1) 1 (.slice a4 n4 c4))⟩ (fun hHeld => ?_)
  refine wpAnyH_take (i := 0) (v := .pointer (some ⟨b2, 0, none⟩)) rfl (by kernel_rfl) (by kernel_rfl) (by kernel_rfl) (fun _ _ _ h => h) (Or.inl ⟨by rfl, ?_⟩) (by assumption) ?_
  · intro w hSw
    obtain ⟨g0, g1, g2, g3⟩ := hSw
    go_simp
  refine wpAnyH_take (i := 1) (v := .agg #[.slice a1 n1 c1]) rfl (by kernel_rfl) (by kernel_rfl) (by kernel_rfl) (fun _ _ _ h => h) (Or.inl ⟨by rfl, ?_⟩) (by assumption) ?_
  · intro w hSw
    obtain ⟨g0, g1, g2, g3⟩ := hSw
    go_simp
  refine wpAnyH_take (i := 2) (v := .pointer (some ⟨b2 + 1, 1, none⟩)) rfl (by kernel_rfl) (by kernel_rfl) (by kernel_rfl) (fun _ _ _ h => h) (Or.inl ⟨by rfl, ?_⟩) (by assumption) ?_
  · intro w hSw
    obtain ⟨g0, g1, g2, g3⟩ := hSw
    go_simp
  refine wpAnyH_take (i := 3) (v := .agg #[.slice a4 n4 c4]) rfl (by kernel_rfl) (by kernel_rfl) (by kernel_rfl) (fun _ _ _ h => h) (Or.inl ⟨by rfl, ?_⟩) (by assumption) ?_
  · intro w hSw
    obtain ⟨g0, g1, g2, g3⟩ := hSw
    go_simp
  refine wpAnyH_take (i := 5) (v := .pointer (some ⟨b2 + 1, 0, none⟩)) rfl (by kernel_rfl) (by kernel_rfl) (by kernel_rfl) (fun _ _ _ h => h) (Or.inl ⟨by rfl, ?_⟩) (by assumption) ?_
  · intro w hSw
    obtain ⟨g0, g1, g2, g3⟩ := hSw
    go_simp
  refine wpAnyH_take (i := 6) (v := .agg #[.slice a3 n3 c3]) rfl (by kernel_rfl) (by kernel_rfl) (by kernel_rfl) (fun _ _ _ h => h) (Or.inl ⟨by rfl, ?_⟩) (by assumption) ?_
  · intro w hSw
    obtain ⟨g0, g1, g2, g3⟩ := hSw
    go_simp
  refine wpAnyH_take (i := 7) (v := .pointer (some ⟨b2, 1, none⟩)) rfl (by kernel_rfl) (by kernel_rfl) (by kernel_rfl) (fun _ _ _ h => h) (Or.inl ⟨by rfl, ?_⟩) (by assumption) ?_
  · intro w hSw
    obtain ⟨g0, g1, g2, g3⟩ := hSw
    go_simp
  refine wpAnyH_take (i := 8) (v := .agg #[.slice a2 n2 c2]) rfl (by kernel_rfl) (by kernel_rfl) (by kernel_rfl) (fun _ _ _ h => h) (Or.inl ⟨by rfl, ?_⟩) (by assumption) ?_
  · intro w hSw
    obtain ⟨g0, g1, g2, g3⟩ := hSw
    go_simp
  refine wpAnyH_take (i := 11) (v := .pointer (some ⟨b2, 1, none⟩)) rfl (by kernel_rfl) (by kernel_rfl) (by kernel_rfl) (fun _ _ _ h => h) (Or.inl ⟨by rfl, ?_⟩) (by assumption) ?_
  · intro w hSw
    obtain ⟨g0, g1, g2, g3⟩ := hSw
    go_simp
  refine wpAnyH_take (i := 12) (v := .agg #[.slice a2 n2 c2]) rfl (by kernel_rfl) (by kernel_rfl) (by kernel_rfl) (fun _ _ _ h => h) (Or.inl ⟨by rfl, ?_⟩) (by assumption) ?_
  · intro w hSw
    obtain ⟨g0, g1, g2, g3⟩ := hSw
    go_simp
  refine wpAnyH_take (i := 13) (v := .pointer (some ⟨b2 + 1, 1, none⟩)) rfl (by kernel_rfl) (by kernel_rfl) (by kernel_rfl) (fun _ _ _ h => h) (Or.inl ⟨by rfl, ?_⟩) (by assumption) ?_
  · intro w hSw
    obtain ⟨g0, g1, g2, g3⟩ := hSw
    go_simp
  refine wpAnyH_take (i := 14) (v := .agg #[.slice a4 n4 c4]) rfl (by kernel_rfl) (by kernel_rfl) (by kernel_rfl) (fun _ _ _ h => h) (Or.inl ⟨by rfl, ?_⟩) (by assumption) ?_
  · intro w hSw
    obtain ⟨g0, g1, g2, g3⟩ := hSw
    go_simp
  refine wpAnyH_ready (rs := [4]) (by kernel_rfl) (by simp) ?_
  refine AllReadyH.cons rfl (fun K9 hK9 => ?_) AllReadyH.nil
  go_simp
  refine Calls.mono (rtimes_any _ _ p y _ ((S1.out.rat (.agg #[.slice a1 n1 c1]) p).mono (bel_dr (bel_refl _))) ((S1.out.rat (.agg #[.slice a4 n4 c4]) y).mono (bel_dr (bel_refl _))) HC.out.1.rfits HC.out.2.2.2.1.rfits) ?_
  rintro e w3 ⟨v3, rfl, hv3, hb3⟩
  replace hb3 : Below w0.heap.size w0 w3 := bel_undrew hb3
  have FZ : Hid (w3.frozen? ⟨b2 + 1 + 1, 0, none⟩ = false ∧ w3.frozen? ⟨b2 + 1 + 1, 1, none⟩ = false) := ⟨(hb3.frozen (World.block_lt_of_cell? _ _ (S1.out.cel (b2 + 1 + 1) 0 (.slice none 0 0)))).trans FZ.out.1, (hb3.frozen (World.block_lt_of_cell? _ _ (S1.out.cel (b2 + 1 + 1) 1 (.slice none 0 0)))).trans FZ.out.2⟩
  have S2 : Hid _ := (S1.out.go hb3).addM hv3
  clear hv3 hb3 S1 hHeld
  refine hK9.out _ _ ⟨(S2.out.cel (b2) 0 (.slice a1 n1 c1)), (S2.out.cel (b2) 1 (.slice a2 n2 c2)), (S2.out.cel (b2 + 1) 0 (.slice a3 n3 c3)), (S2.out.cel (b2 + 1) 1 (.slice a4 n4 c4))⟩ (fun hHeld => ?_)
  clear hK9 K9
  refine wpAnyH_ready (rs := [9]) (by kernel_rfl) (by simp) ?_
  refine AllReadyH.cons rfl (fun K9 hK9 => ?_) AllReadyH.nil
  go_simp
  refine Calls.mono (rtimes_any _ _ x q _ (S2.out.rat (.agg #[.slice a3 n3 c3]) x) (S2.out.rat (.agg #[.slice a2 n2 c2]) q) HC.out.2.2.1.rfits HC.out.2.1.rfits) ?_
  rintro e w4 ⟨v4, rfl, hv4, hb4⟩
  have FZ : Hid (w4.frozen? ⟨b2 + 1 + 1, 0, none⟩ = false ∧ w4.frozen? ⟨b2 + 1 + 1, 1, none⟩ = false) := ⟨(hb4.frozen (World.block_lt_of_cell? _ _ (S2.out.cel (b2 + 1 + 1) 0 (.slice none 0 0)))).trans FZ.out.1, (hb4.frozen (World.block_lt_of_cell? _ _ (S2.out.cel (b2 + 1 + 1) 1 (.slice none 0 0)))).trans FZ.out.2⟩
  have S3 : Hid _ := (S2.out.go hb4).addM hv4
  clear hv4 hb4 S2 hHeld
  refine hK9.out _ _ ⟨(S3.out.cel (b2) 0 (.slice a1 n1 c1)), (S3.out.cel (b2) 1 (.slice a2 n2 c2)), (S3.out.cel (b2 + 1) 0 (.slice a3 n3 c3)), (S3.out.cel (b2 + 1) 1 (.slice a4 n4 c4))⟩ (fun hHeld => ?_)
  clear hK9 K9
  refine wpAnyH_ready (rs := [10]) (by kernel_rfl) (by simp) ?_
  refine AllReadyH.cons rfl (fun K9 hK9 => ?_) AllReadyH.nil
  go_simp
  refine Calls.mono (rminus_any v3 v4 (p * y) (x * q) _ (S3.out.rat v3 (p * y)) (S3.out.rat v4 (x * q)) HH.out.1 HH.out.2.1) ?_
  rintro e w7 ⟨v7, rfl, hv7, hb7⟩
  have FZ : Hid (w7.frozen? ⟨b2 + 1 + 1, 0, none⟩ = false ∧ w7.frozen? ⟨b2 + 1 + 1, 1, none⟩ = false) := ⟨(hb7.frozen (World.block_lt_of_cell? _ _ (S3.out.cel (b2 + 1 + 1) 0 (.slice none 0 0)))).trans FZ.out.1, (hb7.frozen (World.block_lt_of_cell? _ _ (S3.out.cel (b2 + 1 + 1) 1 (.slice none 0 0)))).trans FZ.out.2⟩
  have S4 : Hid _ := (S3.out.go hb7).addM hv7
  clear hv7 hb7 S3 hHeld
  refine hK9.out _ _ ⟨(S4.out.cel (b2) 0 (.slice a1 n1 c1)), (S4.out.cel (b2) 1 (.slice a2 n2 c2)), (S4.out.cel (b2 + 1) 0 (.slice a3 n3 c3)), (S4.out.cel (b2 + 1) 1 (.slice a4 n4 c4))⟩ (fun hHeld => ?_)
  clear hK9 K9
  refine wpAnyH_ready (rs := [15]) (by kernel_rfl) (by simp) ?_
  refine AllReadyH.cons rfl (fun K9 hK9 => ?_) AllReadyH.nil
  go_simp
  refine Calls.mono (rtimes_any _ _ q y _ (S4.out.rat (.agg #[.slice a2 n2 c2]) q) (S4.out.rat (.agg #[.slice a4 n4 c4]) y) HC.out.2.1.rfits HC.out.2.2.2.1.rfits) ?_
  rintro e w8 ⟨v8, rfl, hv8, hb8⟩
  have FZ : Hid (w8.frozen? ⟨b2 + 1 + 1, 0, none⟩ = false ∧ w8.frozen? ⟨b2 + 1 + 1, 1, none⟩ = false) := ⟨(hb8.frozen (World.block_lt_of_cell? _ _ (S4.out.cel (b2 + 1 + 1) 0 (.slice none 0 0)))).trans FZ.out.1, (hb8.frozen (World.block_lt_of_cell? _ _ (S4.out.cel (b2 + 1 + 1) 1 (.slice none 0 0)))).trans FZ.out.2⟩
  have S5 : Hid _ := (S4.out.go hb8).addM hv8
  clear hv8 hb8 S4 hHeld
  refine hK9.out _ _ ⟨(S5.out.cel (b2) 0 (.slice a1 n1 c1)), (S5.out.cel (b2) 1 (.slice a2 n2 c2)), (S5.out.cel (b2 + 1) 0 (.slice a3 n3 c3)), (S5.out.cel (b2 + 1) 1 (.slice a4 n4 c4))⟩ (fun hHeld => ?_)
  clear hK9 K9
  refine wpAnyH_ready (rs := [16]) (by kernel_rfl) (by simp) ?_
  refine AllReadyH.cons rfl (fun K9 hK9 => ?_) AllReadyH.nil
  go_simp
  refine Calls.mono (rmade_any v7 v8 (p * y - x * q) (q * y) _ (S5.out.rat v7 (p * y - x * q)) (S5.out.rat v8 (q * y)) HH.out.2.2.1 HH.out.2.2.2.1 HH.out.2.2.2.2) ?_
  rintro e w6 ⟨v6, rfl, hv6, hb6⟩
  have FZ : Hid (w6.frozen? ⟨b2 + 1 + 1, 0, none⟩ = false ∧ w6.frozen? ⟨b2 + 1 + 1, 1, none⟩ = false) := ⟨(hb6.frozen (World.block_lt_of_cell? _ _ (S5.out.cel (b2 + 1 + 1) 0 (.slice none 0 0)))).trans FZ.out.1, (hb6.frozen (World.block_lt_of_cell? _ _ (S5.out.cel (b2 + 1 + 1) 1 (.slice none 0 0)))).trans FZ.out.2⟩
  have S6 : Hid _ := (S5.out.go hb6).addG hv6
  obtain ⟨a6, n6, c6, a7, n7, c7, ev, _, _⟩ := hv6
  subst ev
  clear hb6 S5 hHeld
  have z0 := S6.out.cel (b2 + 1 + 1) 0 (.slice none 0 0)
  have z1 := S6.out.cel (b2 + 1 + 1) 1 (.slice none 0 0)
  have y0 := FZ.out.1
  have y1 := FZ.out.2
  have t0 := (S6.out.cel (b2) 0 (.slice a1 n1 c1))
  have t1 := (S6.out.cel (b2) 1 (.slice a2 n2 c2))
  have t2 := (S6.out.cel (b2 + 1) 0 (.slice a3 n3 c3))
  have t3 := (S6.out.cel (b2 + 1) 1 (.slice a4 n4 c4))
  refine hK9.out _ _ ⟨t0, t1, t2, t3⟩ (fun hHeld => ?_)
  clear hK9 K9
  refine wpAnyH_ready (rs := [17]) (by kernel_rfl) (by simp) ?_
  refine AllReadyH.cons rfl (fun K9 hK9 => ?_) AllReadyH.nil
  go_simp
  clear hHeld
  refine hK9.out _ _ (by simp [go_sem, *]) (fun hHeld => ?_)
  clear hK9 K9
  refine wpAnyH_take (i := 18) (v := .bool true) rfl (by kernel_rfl) (by kernel_rfl) (by kernel_rfl) (fun _ _ _ h => h) (Or.inl ⟨by rfl, ?_⟩) (by assumption) ?_
  · intro w hSw
    obtain ⟨g0, g1, g2, g3⟩ := hSw
    go_simp
  refine wpAnyH_done (by kernel_rfl) ?_ _
  have Z : Hid _ := rrat_put (w0 := w) (v := .slice a6 n6 c6) (u := .slice a7 n7 c7) z0 z1 (S6.out.rfr (.agg #[.slice a6 n6 c6, .slice a7 n7 c7]) ((p * y - x * q) / Nat.gcd (p * y - x * q) (q * y)) ((q * y) / Nat.gcd (p * y - x * q) (q * y))) S6.out.bel HB.out
  clear S6 FZ t0 t1 t2 t3
  go_wp2_with fail
  exact bodyPost_ret (v := .tuple #[.agg #[.slice a6 n6 c6, .slice a7 n7 c7], .bool true]) (by simp [results, Tryz.results62, go_sem, z0, z1]) rfl ⟨_, rfl, Z.out.1, Z.out.2⟩
end Go.Proofs.YtmiiaomdenpceaaGreatDoor

namespace Go.Proofs.YtmiiaomdenpceaaGreatDoor
open Go.RowKit
set_option maxRecDepth 100000
set_option linter.unusedVariables false
theorem Fc.radd {p q N1 D1 n x y N2 D2 m : Nat} (h : Fc p q N1 D1 n) (k : Fc x y N2 D2 m) (hn : n ≤ 90) (hm : m ≤ 90) : ∃ A B, Fc A B (N1 * D2 + N2 * D1) (D1 * D2) (n + m + 1) ∧ ∀ v u w, RRt w v p q → RRt w u x y → Calls Tryz.prog 15 #[v, u] w (MakesRR w A B) := by
  have low := low_terms (p * y + x * q) (q * y) (Nat.mul_pos h.pos k.pos)
  have s1 : p * y + x * q < P (n + m + 1) := P_twice (mulP_lt h.s1 k.s2) (by rw [Nat.add_comm n m]; exact mulP_lt k.s1 h.s2)
  have s2 : q * y < P (n + m + 1) := P_up (mulP_lt h.s2 k.s2) (by omega)
  exact ⟨_, _, ⟨low.1, low.2.2, Nat.mul_pos h.dpos k.dpos, val_add h.pos k.pos h.val k.val low.2.1, Nat.lt_of_le_of_lt (Nat.div_le_self _ _) s1, Nat.lt_of_le_of_lt (Nat.div_le_self _ _) s2⟩, fun v u w e1 e2 => radd2_any v u p q x y w e1 e2 (h.rs1 hn) (h.rs2 hn) (k.rs1 hm) (k.rs2 hm) h.pos k.pos⟩
theorem Fc.rsub {p q N1 D1 n x y N2 D2 m : Nat} (h : Fc p q N1 D1 n) (k : Fc x y N2 D2 m) (hn : n ≤ 90) (hm : m ≤ 90) (hle : N2 * D1 ≤ N1 * D2) : ∃ A B, Fc A B (N1 * D2 - N2 * D1) (D1 * D2) (n + m) ∧ ∀ v u w, RRt w v p q → RRt w u x y → Calls Tryz.prog 62 #[v, u] w (MakesRRB w A B true) := by
  have hle' := (h.le k).2 hle
  have low := low_terms (p * y - x * q) (q * y) (Nat.mul_pos h.pos k.pos)
  have s1 : p * y - x * q < P (n + m) := Nat.lt_of_le_of_lt (Nat.sub_le _ _) (mulP_lt h.s1 k.s2)
  exact ⟨_, _, ⟨low.1, low.2.2, Nat.mul_pos h.dpos k.dpos, (val_sub h.pos k.pos h.dpos k.dpos h.val k.val hle' low.2.1).1, Nat.lt_of_le_of_lt (Nat.div_le_self _ _) s1, Nat.lt_of_le_of_lt (Nat.div_le_self _ _) (mulP_lt h.s2 k.s2)⟩, fun v u w e1 e2 => rsub2_yes v u p q x y w e1 e2 (h.rs1 hn) (h.rs2 hn) (k.rs1 hm) (k.rs2 hm) h.pos k.pos hle'⟩
theorem Fc.rcmp {p q N1 D1 n x y N2 D2 m : Nat} (h : Fc p q N1 D1 n) (k : Fc x y N2 D2 m) (hn : n ≤ 90) (hm : m ≤ 90) {z : Int} (hz : cmpI (N1 * D2) (N2 * D1) = z) : ∀ v u w, RRt w v p q → RRt w u x y → Calls Tryz.prog 19 #[v, u] w fun e w' => e = .returned (.int .i64 z) ∧ Below w.heap.size w w' := fun v u w e1 e2 =>
  rcmp2_any v u p q x y w e1 e2 (h.rs1 hn) (h.rs2 hn) (k.rs1 hm) (k.rs2 hm) z (by rw [cmp_scale (Nat.mul_pos h.dpos k.dpos) (Nat.mul_pos h.pos k.pos) (h.cross k).1 (h.cross k).2, hz])
/-- v is a bucket of the document's. -/
structure RB (W : World) (v : Value) (T N R D B : Nat) : Prop where
  ex : ∃ p q a1 n1 c1 a2 n2 c2 a3 n3 c3 a4 n4 c4, v = .agg #[.int .i64 (B : Int), .slice a1 n1 c1, .slice a2 n2 c2, .slice a3 n3 c3, .slice a4 n4 c4, .int .i64 (T : Int)] ∧ RRt W (.agg #[.slice a1 n1 c1, .slice a2 n2 c2]) R D ∧ RRt W (.agg #[.slice a3 n3 c3, .slice a4 n4 c4]) p q ∧ Fc p q N D 20
  cT : T ≤ 4611686018427387904
  cB : 1 ≤ B ∧ B ≤ 1099511627776
  cD : 0 < D ∧ D < P 18
  cR : R < P 17
  low : Nat.gcd R D = 1
  cN : N ≤ B * D
theorem RB.mono {W W' : World} {v : Value} {T N R D B : Nat} (h : RB W v T N R D B) (k : Below W.heap.size W W') : RB W' v T N R D B := by
  obtain ⟨p, q, a1, n1, c1, a2, n2, c2, a3, n3, c3, a4, n4, c4, e, h1, h2, h3⟩ := h.ex
  exact ⟨⟨p, q, a1, n1, c1, a2, n2, c2, a3, n3, c3, a4, n4, c4, e, h1.mono k, h2.mono k, h3⟩, h.cT, h.cB, h.cD, h.cR, h.low, h.cN⟩
theorem RB.fb {S : Nat → Prop} {W W' : World} {v : Value} {T N R D B : Nat} (h : RB W v T N R D B) (f : Fb S W W') (hn : ∀ k, S k → Odd W k) : RB W' v T N R D B := by
  obtain ⟨p, q, a1, n1, c1, a2, n2, c2, a3, n3, c3, a4, n4, c4, e, h1, h2, h3⟩ := h.ex
  exact ⟨⟨p, q, a1, n1, c1, a2, n2, c2, a3, n3, c3, a4, n4, c4, e, h1.fb f hn, h2.fb f hn, h3⟩, h.cT, h.cB, h.cD, h.cR, h.low, h.cN⟩
end Go.Proofs.YtmiiaomdenpceaaGreatDoor


