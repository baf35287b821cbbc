/- Contracts of the program's functions, part 23: own work, joined in build order. -/
import Derived.Test.YtmiiaomdenpceaaGreatDoorJ22
import Derived.Handy
import Derived.Deep.Cut
import Derived.Shelf.Strings.Repeat
import Derived.Test.YtmiiaomdenpceaaGreatDoorProg
namespace Go.Proofs.YtmiiaomdenpceaaGreatDoor
open Go.RowKit
set_option maxRecDepth 100000
set_option linter.unusedVariables false
theorem rtext_k (v : Value) (x k : Nat) (w : World) (h : RNat w v x) (hx : RFits x) (hk : DecLen x k) : Calls Tryz.prog 69 #[v] w fun e w' => e = .returned (.string (decText x k)) ∧ Below w.heap.size w w' := by
  refine (rtext_any v x w h hx).mono ?_
  rintro e w' ⟨l, rfl, hl, hb⟩
  rw [hl.unique hk]
  exact ⟨rfl, hb⟩
theorem cmpI_zero {x y : Nat} : cmpI x y = 0 ↔ x = y := by
  unfold cmpI
  split
  · constructor <;> intro h <;> omega
  · split
    · constructor <;> intro h <;> omega
    · constructor <;> intro h <;> omega
set_option maxHeartbeats 1000000 in
theorem rformat_any (v : Value) (p q k l : Nat) (w : World) (h : RRt w v p q) (hp : RS p) (hq : RS q) (hk : DecLen p k) (hl : DecLen q l) :
    Calls Tryz.prog 25 #[v] w fun e w' => e = .returned (.string (fmtT p q k l)) ∧ Below w.heap.size w w' := by
  have HH : Hid (RS p ∧ RS q ∧ DecLen p k ∧ DecLen q l) := ⟨hp, hq, hk, hl⟩
  have kp := dec_len hk (P_up hp.lt (by omega))
  have kq := dec_len hl (P_up hq.lt (by omega))
  have sp : (decText p k).size = k := text_size _ _
  have sq : (decText q l).size = l := text_size _ _
  have m1 : (decText p k).size ≤ 9223372036854775806 := by omega
  have m2 : (decText p k).size + 1 + (decText q l).size ≤ 9223372036854775807 := by omega
  clear hp hq hk hl kp kq sp sq
  have h' := h
  obtain ⟨a1, n1, c1, a2, n2, c2, e0, hP, hQ⟩ := h'
  subst e0
  have S1 : Hid _ := (((sy_start w).addM hP).addM hQ).box (.slice a1 n1 c1) (.slice a2 n2 c2) 32 _ rfl
  clear hP hQ h
  obtain ⟨z, hz⟩ : ∃ z, cmpI q 1 = z := ⟨_, rfl⟩
  have HZ : Hid (cmpI q 1 = z) := hz
  by_cases h1 : q = 1
  · have z1 : z = 0 := by rw [← hz]; exact cmpI_zero.2 h1
    have HV : Hid (fmtT p q k l = decText p k) := by show _ = _; unfold fmtT; rw [if_pos h1]
    clear h1 hz
    go_enter Tryz.func25, Tryz.ntmps25
    go_wp2_with fail
    obtain ⟨w1, ew⟩ : ∃ w1, w1 = w.alloc (.cells #[.slice a1 n1 c1, .slice a2 n2 c2] 32) := ⟨_, rfl⟩
    obtain ⟨g, eb⟩ : ∃ g, g = w.heap.size := ⟨_, rfl⟩
    rw [← ew, ← eb] at S1
    rw [← ew, ← eb]
    clear ew eb
    refine wp_region_inv (JB w1 [sEq (.pointer (some ⟨g, 1, none⟩)), sR (q), sR (1), sEq (.int .i64 z), sEq (.bool true)] []) 19 (by kernel_rfl) rfl (by kernel_rfl) (JB.start _ _ _) (fun HG HN => ⟨?_, ?_, ?_, ?_, ?_, trivial⟩) ?_
    · intro L vs a w' hJ hF hP hL
      have q1 : (a.tmps[1]?).getD undef = .pointer (some ⟨g, 0, none⟩) := hF.old 1 rfl
      exact run_val (v := .pointer (some ⟨g, 1, none⟩)) rfl (by simp [execOp, go_sem, q1]) ⟨_, rfl, hJ.step hL rfl (Below.refl _ _) (by exact rfl)⟩
    · intro L vs a w' hJ hF hP hL
      have p0 : L 0 = true := hP ⟨0, .data⟩ (by simp) rfl
      have s0 : vs 0 = .pointer (some ⟨g, 1, none⟩) := hJ.sp 0 p0
      have q3 := hF.slot 0 3 rfl p0
      have cb := cell_later hJ.bel (S1.out.cel (g) 1 (.slice a2 n2 c2))
      exact run_val (v := .agg #[.slice a2 n2 c2]) rfl (by simp [execOp, go_sem, q3, s0, cb]) ⟨_, rfl, hJ.step hL rfl (Below.refl _ _) (by exact ((S1.out.rat (.agg #[.slice a2 n2 c2]) (q)).mono hJ.bel))⟩
    · intro L vs a w' hJ hF hP hL
      refine run_call (f := 17) (args := #[.int .u64 1]) rfl (by simp [go_sem]) (rof_any 1 _ (by omega)) ?_
      rintro e w2 ⟨v, rfl, hv, hb⟩
      exact ⟨_, rfl, _, rfl, hJ.step hL rfl hb (by exact hv)⟩
    · intro L vs a w' hJ hF hP hL
      have p1 : L 1 = true := hP ⟨1, .data⟩ (by simp) rfl
      have s1 : RNat w' (vs 1) (q) := hJ.sp 1 p1
      have q4 := hF.slot 1 4 rfl p1
      have p2 : L 2 = true := hP ⟨2, .data⟩ (by simp) rfl
      have s2 : RNat w' (vs 2) (1) := hJ.sp 2 p2
      have q5 := hF.slot 2 5 rfl p2
      refine run_call (f := 61) (args := #[vs 1, vs 2]) rfl (by simp [go_sem, q4, q5]) (rcmp_any _ _ q 1 _ s1 s2 HH.out.2.1.rfits (rs_word (by omega)).rfits) ?_
      rintro e w2 ⟨rfl, hb⟩
      rw [HZ.out]
      exact ⟨_, rfl, _, rfl, hJ.step hL rfl hb (by exact rfl)⟩
    · intro L vs a w' hJ hF hP hL
      have p3 : L 3 = true := hP ⟨3, .data⟩ (by simp) rfl
      have s3 : vs 3 = .int .i64 z := hJ.sp 3 p3
      have q6 := hF.slot 3 6 rfl p3
      exact run_val (v := .bool true) rfl (by simp [execOp, go_sem, q6, s3, z1]) ⟨_, rfl, hJ.step hL rfl (Below.refl _ _) (by exact rfl)⟩
    intro L vs w' hA hJ
    have s4 : vs 4 = .bool true := hJ.sp 4 (hA 4 (by simp))
    simp only [putL, Act.put, List.setIfInBounds_toArray, List.set_cons_zero, List.set_cons_succ, Nat.reduceAdd]
    simp only [s4]
    obtain ⟨w2, ew⟩ : ∃ w2, w2 = w' := ⟨_, rfl⟩
    have S2 : Hid _ := S1.out.go hJ.bel
    rw [← ew] at S2
    rw [← ew]
    clear ew s4 hJ hA S1
    have y0 := S2.out.cel g 0 (.slice a1 n1 c1)
    go_wp2_with fail
    refine (rtext_k _ p k _ (S2.out.rat (.agg #[.slice a1 n1 c1]) p) HH.out.1.rfits HH.out.2.2.1).mono ?_
    rintro e w3 ⟨rfl, hb⟩
    have HB : Hid (Below w.heap.size w w3) := (S2.out.go hb).bel
    clear hb S2 y0
    go_wp2_with fail
    go_ret
    rw [HV.out]
    exact ⟨rfl, HB.out⟩
  · have z1 : ¬ z = 0 := by rw [← hz]; exact fun e => h1 (cmpI_zero.1 e)
    have HV : Hid (fmtT p q k l = decText p k ++ ⟨#[47]⟩ ++ decText q l) := by show _ = _; unfold fmtT; rw [if_neg h1]
    clear h1 hz
    go_enter Tryz.func25, Tryz.ntmps25
    go_wp2_with fail
    obtain ⟨w1, ew⟩ : ∃ w1, w1 = w.alloc (.cells #[.slice a1 n1 c1, .slice a2 n2 c2] 32) := ⟨_, rfl⟩
    obtain ⟨g, eb⟩ : ∃ g, g = w.heap.size := ⟨_, rfl⟩
    rw [← ew, ← eb] at S1
    rw [← ew, ← eb]
    clear ew eb
    refine wp_region_inv (JB w1 [sEq (.pointer (some ⟨g, 1, none⟩)), sR (q), sR (1), sEq (.int .i64 z), sEq (.bool false)] []) 19 (by kernel_rfl) rfl (by kernel_rfl) (JB.start _ _ _) (fun HG HN => ⟨?_, ?_, ?_, ?_, ?_, trivial⟩) ?_
    · intro L vs a w' hJ hF hP hL
      have q1 : (a.tmps[1]?).getD undef = .pointer (some ⟨g, 0, none⟩) := hF.old 1 rfl
      exact run_val (v := .pointer (some ⟨g, 1, none⟩)) rfl (by simp [execOp, go_sem, q1]) ⟨_, rfl, hJ.step hL rfl (Below.refl _ _) (by exact rfl)⟩
    · intro L vs a w' hJ hF hP hL
      have p0 : L 0 = true := hP ⟨0, .data⟩ (by simp) rfl
      have s0 : vs 0 = .pointer (some ⟨g, 1, none⟩) := hJ.sp 0 p0
      have q3 := hF.slot 0 3 rfl p0
      have cb := cell_later hJ.bel (S1.out.cel (g) 1 (.slice a2 n2 c2))
      exact run_val (v := .agg #[.slice a2 n2 c2]) rfl (by simp [execOp, go_sem, q3, s0, cb]) ⟨_, rfl, hJ.step hL rfl (Below.refl _ _) (by exact ((S1.out.rat (.agg #[.slice a2 n2 c2]) (q)).mono hJ.bel))⟩
    · intro L vs a w' hJ hF hP hL
      refine run_call (f := 17) (args := #[.int .u64 1]) rfl (by simp [go_sem]) (rof_any 1 _ (by omega)) ?_
      rintro e w2 ⟨v, rfl, hv, hb⟩
      exact ⟨_, rfl, _, rfl, hJ.step hL rfl hb (by exact hv)⟩
    · intro L vs a w' hJ hF hP hL
      have p1 : L 1 = true := hP ⟨1, .data⟩ (by simp) rfl
      have s1 : RNat w' (vs 1) (q) := hJ.sp 1 p1
      have q4 := hF.slot 1 4 rfl p1
      have p2 : L 2 = true := hP ⟨2, .data⟩ (by simp) rfl
      have s2 : RNat w' (vs 2) (1) := hJ.sp 2 p2
      have q5 := hF.slot 2 5 rfl p2
      refine run_call (f := 61) (args := #[vs 1, vs 2]) rfl (by simp [go_sem, q4, q5]) (rcmp_any _ _ q 1 _ s1 s2 HH.out.2.1.rfits (rs_word (by omega)).rfits) ?_
      rintro e w2 ⟨rfl, hb⟩
      rw [HZ.out]
      exact ⟨_, rfl, _, rfl, hJ.step hL rfl hb (by exact rfl)⟩
    · intro L vs a w' hJ hF hP hL
      have p3 : L 3 = true := hP ⟨3, .data⟩ (by simp) rfl
      have s3 : vs 3 = .int .i64 z := hJ.sp 3 p3
      have q6 := hF.slot 3 6 rfl p3
      exact run_val (v := .bool false) rfl (by simp [execOp, go_sem, q6, s3, z1]) ⟨_, rfl, hJ.step hL rfl (Below.refl _ _) (by exact rfl)⟩
    intro L vs w' hA hJ
    have s4 : vs 4 = .bool false := hJ.sp 4 (hA 4 (by simp))
    simp only [putL, Act.put, List.setIfInBounds_toArray, List.set_cons_zero, List.set_cons_succ, Nat.reduceAdd]
    simp only [s4]
    obtain ⟨w2, ew⟩ : ∃ w2, w2 = w' := ⟨_, rfl⟩
    have S2 : Hid _ := S1.out.go hJ.bel
    rw [← ew] at S2
    rw [← ew]
    clear ew s4 hJ hA S1
    go_wp2_with fail
    refine wp_region_inv (JB w2 [sEq (.pointer (some ⟨g, 0, none⟩)), sR (p), sEq (.string (decText p k)), sEq (.string (decText p k ++ ⟨#[47]⟩)), sEq (.pointer (some ⟨g, 1, none⟩)), sR (q), sEq (.string (decText q l)), sEq (.string (decText p k ++ ⟨#[47]⟩ ++ decText q l)), sEq (.string (decText p k ++ ⟨#[47]⟩ ++ decText q l))] []) 19 (by kernel_rfl) rfl (by kernel_rfl) (JB.start _ _ _) (fun HG HN => ⟨?_, ?_, ?_, ?_, ?_, ?_, ?_, ?_, ?_, trivial⟩) ?_
    · intro L vs a w' hJ hF hP hL
      have q1 : (a.tmps[1]?).getD undef = .pointer (some ⟨g, 0, none⟩) := hF.old 1 rfl
      exact run_val (v := .pointer (some ⟨g, 0, none⟩)) rfl (by simp [execOp, go_sem, q1]) ⟨_, rfl, hJ.step hL rfl (Below.refl _ _) (by exact rfl)⟩
    · intro L vs a w' hJ hF hP hL
      have p0 : L 0 = true := hP ⟨0, .data⟩ (by simp) rfl
      have s0 : vs 0 = .pointer (some ⟨g, 0, none⟩) := hJ.sp 0 p0
      have q11 := hF.slot 0 11 rfl p0
      have cb := cell_later hJ.bel (S2.out.cel (g) 0 (.slice a1 n1 c1))
      exact run_val (v := .agg #[.slice a1 n1 c1]) rfl (by simp [execOp, go_sem, q11, s0, cb]) ⟨_, rfl, hJ.step hL rfl (Below.refl _ _) (by exact ((S2.out.rat (.agg #[.slice a1 n1 c1]) (p)).mono hJ.bel))⟩
    · intro L vs a w' hJ hF hP hL
      have p1 : L 1 = true := hP ⟨1, .data⟩ (by simp) rfl
      have s1 : RNat w' (vs 1) (p) := hJ.sp 1 p1
      have q12 := hF.slot 1 12 rfl p1
      refine run_call (f := 69) (args := #[vs 1]) rfl (by simp [go_sem, q12]) (rtext_k _ p k _ s1 HH.out.1.rfits HH.out.2.2.1) ?_
      rintro e w2 ⟨rfl, hb⟩
      exact ⟨_, rfl, _, rfl, hJ.step hL rfl hb (by exact rfl)⟩
    · intro L vs a w' hJ hF hP hL
      have p2 : L 2 = true := hP ⟨2, .data⟩ (by simp) rfl
      have s2 : vs 2 = .string (decText p k) := hJ.sp 2 p2
      have q13 := hF.slot 2 13 rfl p2
      exact run_val (v := .string (decText p k ++ ⟨#[47]⟩)) rfl (by simp [execOp, go_sem, q13, s2, m1]) ⟨_, rfl, hJ.step hL rfl (Below.refl _ _) (by exact rfl)⟩
    · intro L vs a w' hJ hF hP hL
      have q1 : (a.tmps[1]?).getD undef = .pointer (some ⟨g, 0, none⟩) := hF.old 1 rfl
      exact run_val (v := .pointer (some ⟨g, 1, none⟩)) rfl (by simp [execOp, go_sem, q1]) ⟨_, rfl, hJ.step hL rfl (Below.refl _ _) (by exact rfl)⟩
    · intro L vs a w' hJ hF hP hL
      have p4 : L 4 = true := hP ⟨4, .data⟩ (by simp) rfl
      have s4 : vs 4 = .pointer (some ⟨g, 1, none⟩) := hJ.sp 4 p4
      have q15 := hF.slot 4 15 rfl p4
      have cb := cell_later hJ.bel (S2.out.cel (g) 1 (.slice a2 n2 c2))
      exact run_val (v := .agg #[.slice a2 n2 c2]) rfl (by simp [execOp, go_sem, q15, s4, cb]) ⟨_, rfl, hJ.step hL rfl (Below.refl _ _) (by exact ((S2.out.rat (.agg #[.slice a2 n2 c2]) (q)).mono hJ.bel))⟩
    · intro L vs a w' hJ hF hP hL
      have p5 : L 5 = true := hP ⟨5, .data⟩ (by simp) rfl
      have s5 : RNat w' (vs 5) (q) := hJ.sp 5 p5
      have q16 := hF.slot 5 16 rfl p5
      refine run_call (f := 69) (args := #[vs 5]) rfl (by simp [go_sem, q16]) (rtext_k _ q l _ s5 HH.out.2.1.rfits HH.out.2.2.2) ?_
      rintro e w2 ⟨rfl, hb⟩
      exact ⟨_, rfl, _, rfl, hJ.step hL rfl hb (by exact rfl)⟩
    · intro L vs a w' hJ hF hP hL
      have p3 : L 3 = true := hP ⟨3, .data⟩ (by simp) rfl
      have s3 : vs 3 = .string (decText p k ++ ⟨#[47]⟩) := hJ.sp 3 p3
      have q14 := hF.slot 3 14 rfl p3
      have p6 : L 6 = true := hP ⟨6, .data⟩ (by simp) rfl
      have s6 : vs 6 = .string (decText q l) := hJ.sp 6 p6
      have q17 := hF.slot 6 17 rfl p6
      exact run_val (v := .string (decText p k ++ ⟨#[47]⟩ ++ decText q l)) rfl (by simp [execOp, go_sem, q14, s3, q17, s6, m2]) ⟨_, rfl, hJ.step hL rfl (Below.refl _ _) (by exact rfl)⟩
    · intro L vs a w' hJ hF hP hL
      have p7 : L 7 = true := hP ⟨7, .data⟩ (by simp) rfl
      have s7 : vs 7 = .string (decText p k ++ ⟨#[47]⟩ ++ decText q l) := hJ.sp 7 p7
      have q18 := hF.slot 7 18 rfl p7
      exact run_val (v := .string (decText p k ++ ⟨#[47]⟩ ++ decText q l)) rfl (by simp [execOp, go_sem, q18, s7]) ⟨_, rfl, hJ.step hL rfl (Below.refl _ _) (by exact rfl)⟩
    intro L vs w' hA hJ
    have s8 : vs 8 = .string (decText p k ++ ⟨#[47]⟩ ++ decText q l) := hJ.sp 8 (hA 8 (by simp))
    simp only [putL, Act.put, List.setIfInBounds_toArray, List.set_cons_zero, List.set_cons_succ, Nat.reduceAdd]
    simp only [s8]
    have HB : Hid (Below w.heap.size w w') := (S2.out.go hJ.bel).bel
    go_wp2_with fail
    go_ret
    rw [HV.out]
    exact ⟨rfl, HB.out⟩
end Go.Proofs.YtmiiaomdenpceaaGreatDoor

namespace Go.Proofs.YtmiiaomdenpceaaGreatDoor
open Go.RowKit
set_option maxRecDepth 100000
set_option linter.unusedVariables false
theorem rdecimal_no (v : Value) (z : Int) (w : World) (p q : Nat) (h : RRt w v p q) (hz : z < 0 ∨ 100 < z) :
    Calls Tryz.prog 27 #[v, .int .i64 z] w fun e w' => e = .returned (.tuple #[.string ⟨#[]⟩, .bool false]) ∧ Below w.heap.size w w' := by
  obtain ⟨a1, n1, c1, a2, n2, c2, e0, _, _⟩ := h
  subst e0
  have S1 : Hid _ := (sy_start w).box (.slice a1 n1 c1) (.slice a2 n2 c2) 32 _ rfl
  by_cases h0 : z < 0
  · have t1 : decide (z < 0) = true := decide_eq_true h0
    clear hz h0
    go_enter Tryz.func27, Tryz.ntmps27
    go_wp2_with fail
    exact bodyPost_ret (v := .tuple #[.string ⟨#[]⟩, .bool false]) (by simp [results, Tryz.results27, go_sem]) rfl ⟨rfl, S1.out.bel⟩
  · have t1 : decide (z < 0) = false := decide_eq_false h0
    have t2 : decide (100 < z) = true := decide_eq_true (by omega)
    clear hz h0
    go_enter Tryz.func27, Tryz.ntmps27
    go_wp2_with fail
    exact bodyPost_ret (v := .tuple #[.string ⟨#[]⟩, .bool false]) (by simp [results, Tryz.results27, go_sem]) rfl ⟨rfl, S1.out.bel⟩
/-- Is it rounded up? -/
def upB (X q : Nat) : Bool := decide (q < 2 * (X % q)) || (decide (2 * (X % q) = q) && decide (X / q % 2 = 1))
theorem near_up (X q : Nat) : nearN X q = if upB X q then X / q + 1 else X / q := by
  unfold nearN upB
  by_cases h1 : 2 * (X % q) < q
  · rw [if_pos h1, decide_eq_false (by omega), decide_eq_false (by omega)]
    rfl
  · rw [if_neg h1]
    by_cases h2 : 2 * (X % q) = q
    · rw [decide_eq_false (by omega), decide_eq_true h2]
      by_cases h3 : X / q % 2 = 0
      · rw [if_pos ⟨h2, h3⟩, decide_eq_false (by omega)]
        rfl
      · rw [if_neg (by omega), decide_eq_true (by omega)]
        rfl
    · rw [if_neg (by omega), decide_eq_true (by omega)]
      rfl
def strN (v : Value) : Nat := match v with | .string s => s.size | _ => 0
theorem zrs_succ (i : Nat) (D : ByteArray) : ⟨#[48]⟩ ++ (zrs i ++ D) = zrs (i + 1) ++ D := by
  refine sb_eq (by simp only [ByteArray.size_append, zrs_size, one_size]; omega) fun j hj => ?_
  simp only [ByteArray.size_append, zrs_size, one_size] at hj
  simp only [sb_app, zrs_size, one_size]
  by_cases h1 : j < 1
  · rw [if_pos h1, if_pos (by omega), zrs_at (by omega), show j = 0 by omega, sb_one]
    rfl
  · rw [if_neg h1]
    by_cases h2 : j - 1 < i
    · rw [if_pos h2, if_pos (by omega), zrs_at h2, zrs_at (by omega)]
    · rw [if_neg h2, if_neg (by omega), show j - 1 - i = j - (i + 1) by omega]
theorem zrs_zero (D : ByteArray) : zrs 0 ++ D = D := by
  refine sb_eq (by simp only [ByteArray.size_append, zrs_size]; omega) fun j hj => ?_
  rw [sb_app, zrs_size, if_neg (by omega), Nat.sub_zero]
set_option maxHeartbeats 1000000 in
theorem rdecimal_any (v : Value) (p q m k : Nat) (w : World) (h : RRt w v p q) (hp : p < P 80) (hq : q < P 80) (hq0 : 0 < q) (hm : m ≤ 100) (hk : DecLen (nearN (p * 10 ^ m) q) k) :
    Calls Tryz.prog 27 #[v, .int .i64 (m : Int)] w fun e w' => e = .returned (.tuple #[.string (decimalT p q m k), .bool true]) ∧ Below w.heap.size w w' := by
  obtain ⟨X, hX⟩ : ∃ X, X = p * 10 ^ m := ⟨_, rfl⟩
  obtain ⟨E, hE⟩ : ∃ E, E = 10 ^ m := ⟨_, rfl⟩
  obtain ⟨Y, hY⟩ : ∃ Y, Y = nearN X q := ⟨_, rfl⟩
  obtain ⟨Q0, hQ0⟩ : ∃ Q0, Q0 = X / q := ⟨_, rfl⟩
  obtain ⟨R0, hR0⟩ : ∃ R0, R0 = X % q := ⟨_, rfl⟩
  have sE : E < P 6 := by
    rw [hE]
    have h1 : 10 ^ m ≤ 10 ^ 100 := Nat.pow_le_pow_right (by omega) hm
    have h2 : 10 ^ 100 < P 6 := by decide +kernel
    omega
  have sX : X < P 86 := by rw [hX, ← hE]; exact mulP_lt hp sE
  have sY : Y ≤ X + 1 := by rw [hY]; exact nearN_up X q
  have sY2 : Y < P 87 := by
    have h1 : P 87 = P 86 * 18446744073709551616 := P_succ 86
    have h2 := P_pos 86
    omega
  rw [← hX, ← hY] at hk
  have kl := dec_len hk (P_up sY2 (by omega))
  have k0 := hk.1
  have sQ : Q0 < P 86 := Nat.lt_of_le_of_lt (by rw [hQ0]; exact Nat.div_le_self _ _) sX
  have sR : R0 < P 80 := Nat.lt_trans (by rw [hR0]; exact Nat.mod_lt _ hq0) hq
  obtain ⟨z, hz⟩ : ∃ z, cmpI (R0 * 2) q = z := ⟨_, rfl⟩
  obtain ⟨UB, hUB⟩ : ∃ UB, upB X q = UB := ⟨_, rfl⟩
  have HU : Hid (Y = if UB then Q0 + 1 else Q0) := by show _ = _; rw [hY, near_up, hUB, hQ0]
  have HZ : Hid (cmpI (R0 * 2) q = z) := hz
  have HUB : Hid ((R0 * 2 < q → UB = false) ∧ (q < R0 * 2 → UB = true) ∧ (R0 * 2 = q → UB = decide (Q0 % 2 = 1))) := by
    rw [← hUB, hQ0, hR0]
    unfold upB
    refine ⟨fun h => ?_, fun h => ?_, fun h => ?_⟩
    · rw [decide_eq_false (by omega), decide_eq_false (by omega)]; rfl
    · rw [decide_eq_true (by omega)]; rfl
    · rw [decide_eq_false (by omega), decide_eq_true (by omega)]; rfl
  have HH : Hid (m ≤ 1500 ∧ RFits p ∧ RFits E ∧ RSome X ∧ RSome q ∧ q ≠ 0 ∧ RFits R0 ∧ RFits (R0 * 2) ∧ RFits q ∧ RFits Q0 ∧ E = 10 ^ m ∧ X = p * E ∧ Q0 = X / q ∧ R0 = X % q) := ⟨by omega, rfits_P hp (by omega), rfits_P sE (by omega), RS.rsome ⟨P_up sX (by omega)⟩, RS.rsome ⟨P_up hq (by omega)⟩, by omega, rfits_P sR (by omega), rfits_P (n := 81) (by have := P_succ 80; rw [show 80 + 1 = 81 from rfl] at this; omega) (by omega), rfits_P hq (by omega), rfits_P sQ (by omega), hE, by rw [hE]; exact hX, hQ0, hR0⟩
  have HY : Hid (DecLen Y k ∧ RFits Y) := ⟨hk, rfits_P sY2 (by omega)⟩
  have HD : Hid (decimalT p q m k = if m = 0 then decText Y k else ptT (zrs (m + 1 - k) ++ decText Y k) m) := by show _ = _; unfold decimalT; rw [← hX, ← hY]
  have t1 : decide ((m : Int) < 0) = false := decide_eq_false (by omega)
  have t2 : decide (100 < (m : Int)) = false := decide_eq_false (by omega)
  have h' := h
  obtain ⟨a1, n1, c1, a2, n2, c2, e0, hP, hQ⟩ := h'
  subst e0
  have S1 : Hid _ := (((sy_start w).addM hP).addM hQ).box (.slice a1 n1 c1) (.slice a2 n2 c2) 32 _ rfl
  clear hP hQ h
  clear hp hq hq0 hk hX hE hY hQ0 hR0 sE sX sY sY2 sQ sR hz hUB
  go_enter Tryz.func27, Tryz.ntmps27
  go_wp2_with fail
  obtain ⟨w1, ew⟩ : ∃ w1, w1 = w.alloc (.cells #[.slice a1 n1 c1, .slice a2 n2 c2] 32) := ⟨_, rfl⟩
  obtain ⟨g, eb⟩ : ∃ g, g = w.heap.size := ⟨_, rfl⟩
  rw [← ew, ← eb] at S1
  rw [← ew, ← eb]
  clear ew eb
  refine wp_region_inv (JB w1 [sEq (.pointer (some ⟨g, 0, none⟩)), sR (p), sEq (.int .i64 (m : Int)), sR (E), sR (X), sEq (.pointer (some ⟨g, 1, none⟩)), sR (q), sRQR (Q0) (R0), sRQR (Q0) (R0), sR (Q0), sR (R0), sAny, sAny, sAny, sAny] [(11, 13, 9), (12, 14, 10)]) 70 (by kernel_rfl) rfl (by kernel_rfl) (JB.start _ _ _) (fun HG HN => ⟨?_, ?_, ?_, ?_, ?_, ?_, ?_, ?_, ?_, ?_, ?_, ?_, ?_, ?_, ?_, trivial⟩) ?_
  · intro L vs a w' hJ hF hP hL
    have q2 : (a.tmps[2]?).getD undef = .pointer (some ⟨g, 0, none⟩) := hF.old 2 rfl
    exact run_val (v := .pointer (some ⟨g, 0, none⟩)) rfl (by simp [execOp, go_sem, q2]) ⟨_, rfl, hJ.step hL rfl (Below.refl _ _) (by exact rfl)⟩
  · intro L vs a w' hJ hF hP hL
    have p0 : L 0 = true := hP ⟨0, .data⟩ (by simp) rfl
    have s0 : vs 0 = .pointer (some ⟨g, 0, none⟩) := hJ.sp 0 p0
    have q17 := hF.slot 0 17 rfl p0
    have cb := cell_later hJ.bel (S1.out.cel (g) 0 (.slice a1 n1 c1))
    exact run_val (v := .agg #[.slice a1 n1 c1]) rfl (by simp [execOp, go_sem, q17, s0, cb]) ⟨_, rfl, hJ.step hL rfl (Below.refl _ _) (by exact ((S1.out.rat (.agg #[.slice a1 n1 c1]) (p)).mono hJ.bel))⟩
  · intro L vs a w' hJ hF hP hL
    have q1 : (a.tmps[1]?).getD undef = .int .i64 (m : Int) := hF.old 1 rfl
    exact run_val (v := .int .i64 (m : Int)) rfl (by simp [execOp, go_sem, q1]) ⟨_, rfl, hJ.step hL rfl (Below.refl _ _) (by exact rfl)⟩
  · intro L vs a w' hJ hF hP hL
    have p2 : L 2 = true := hP ⟨2, .data⟩ (by simp) rfl
    have s2 : vs 2 = .int .i64 (m : Int) := hJ.sp 2 p2
    have q19 := hF.slot 2 19 rfl p2
    refine run_call (f := 74) (args := #[.int .i64 (m : Int)]) rfl (by simp [go_sem, q19, s2]) (rten_any m _ HH.out.1) ?_
    rintro e w2 ⟨v, rfl, hv, hb⟩
    rw [← HH.out.2.2.2.2.2.2.2.2.2.2.1] at hv
    exact ⟨_, rfl, _, rfl, hJ.step hL rfl hb (by exact hv)⟩
  · intro L vs a w' hJ hF hP hL
    have p1 : L 1 = true := hP ⟨1, .data⟩ (by simp) rfl
    have s1 : RNat w' (vs 1) (p) := hJ.sp 1 p1
    have q18 := hF.slot 1 18 rfl p1
    have p3 : L 3 = true := hP ⟨3, .data⟩ (by simp) rfl
    have s3 : RNat w' (vs 3) (E) := hJ.sp 3 p3
    have q20 := hF.slot 3 20 rfl p3
    refine run_call (f := 58) (args := #[vs 1, vs 3]) rfl (by simp [go_sem, q18, q20]) (rtimes_any _ _ p E _ s1 s3 HH.out.2.1 HH.out.2.2.1) ?_
    rintro e w2 ⟨v, rfl, hv, hb⟩
    rw [← HH.out.2.2.2.2.2.2.2.2.2.2.2.1] at hv
    exact ⟨_, rfl, _, rfl, hJ.step hL rfl hb (by exact hv)⟩
  · intro L vs a w' hJ hF hP hL
    have q2 : (a.tmps[2]?).getD undef = .pointer (some ⟨g, 0, none⟩) := hF.old 2 rfl
    exact run_val (v := .pointer (some ⟨g, 1, none⟩)) rfl (by simp [execOp, go_sem, q2]) ⟨_, rfl, hJ.step hL rfl (Below.refl _ _) (by exact rfl)⟩
  · intro L vs a w' hJ hF hP hL
    have p5 : L 5 = true := hP ⟨5, .data⟩ (by simp) rfl
    have s5 : vs 5 = .pointer (some ⟨g, 1, none⟩) := hJ.sp 5 p5
    have q22 := hF.slot 5 22 rfl p5
    have cb := cell_later hJ.bel (S1.out.cel (g) 1 (.slice a2 n2 c2))
    exact run_val (v := .agg #[.slice a2 n2 c2]) rfl (by simp [execOp, go_sem, q22, s5, cb]) ⟨_, rfl, hJ.step hL rfl (Below.refl _ _) (by exact ((S1.out.rat (.agg #[.slice a2 n2 c2]) (q)).mono hJ.bel))⟩
  · intro L vs a w' hJ hF hP hL
    have p4 : L 4 = true := hP ⟨4, .data⟩ (by simp) rfl
    have s4 : RNat w' (vs 4) (X) := hJ.sp 4 p4
    have q21 := hF.slot 4 21 rfl p4
    have p6 : L 6 = true := hP ⟨6, .data⟩ (by simp) rfl
    have s6 : RNat w' (vs 6) (q) := hJ.sp 6 p6
    have q23 := hF.slot 6 23 rfl p6
    refine run_call (f := 73) (args := #[vs 4, vs 6]) rfl (by simp [go_sem, q21, q23]) (rdivMod_any _ _ X q _ s4 s6 HH.out.2.2.2.1 HH.out.2.2.2.2.1 HH.out.2.2.2.2.2.1) ?_
    rintro e w2 ⟨v1, v2, rfl, h1, h2, hb⟩
    (rw [← HH.out.2.2.2.2.2.2.2.2.2.2.2.2.1] at h1; rw [← HH.out.2.2.2.2.2.2.2.2.2.2.2.2.2] at h2)
    exact ⟨_, rfl, _, rfl, hJ.step hL rfl hb (by exact ⟨v1, v2, rfl, h1, h2⟩)⟩
  · intro L vs a w' hJ hF hP hL
    have p7 : L 7 = true := hP ⟨7, .data⟩ (by simp) rfl
    have s7 : ∃ p q, vs 7 = .tuple #[p, q] ∧ RNat w' p (Q0) ∧ RNat w' q (R0) := hJ.sp 7 p7
    have q24 := hF.slot 7 24 rfl p7
    exact run_val (v := vs 7) rfl (by simp [execOp, go_sem, q24]) ⟨_, rfl, hJ.step hL rfl (Below.refl _ _) (by exact s7)⟩
  · intro L vs a w' hJ hF hP hL
    have p8 : L 8 = true := hP ⟨8, .data⟩ (by simp) rfl
    have s8 : ∃ p q, vs 8 = .tuple #[p, q] ∧ RNat w' p (Q0) ∧ RNat w' q (R0) := hJ.sp 8 p8
    have q16 := hF.slot 8 16 rfl p8
    obtain ⟨vp, vq, e1, e2, e3⟩ := s8
    exact run_val (v := vp) rfl (by simp [execOp, go_sem, q16, e1]) ⟨_, rfl, hJ.step hL rfl (Below.refl _ _) (by exact e2)⟩
  · intro L vs a w' hJ hF hP hL
    have p8 : L 8 = true := hP ⟨8, .data⟩ (by simp) rfl
    have s8 : ∃ p q, vs 8 = .tuple #[p, q] ∧ RNat w' p (Q0) ∧ RNat w' q (R0) := hJ.sp 8 p8
    have q16 := hF.slot 8 16 rfl p8
    obtain ⟨vp, vq, e1, e2, e3⟩ := s8
    exact run_val (v := vq) rfl (by simp [execOp, go_sem, q16, e1]) ⟨_, rfl, hJ.step hL rfl (Below.refl _ _) (by exact e3)⟩
  · intro L vs a w' hJ hF hP hL
    exact run_val (v := .pointer (some ⟨w'.heap.size, 0, none⟩)) (w' := w'.alloc (.cells #[.slice none 0 0] 30)) rfl (by simp [execOp, go_sem]) ⟨_, rfl, hJ.alloc hL rfl rfl _⟩
  · intro L vs a w' hJ hF hP hL
    exact run_val (v := .pointer (some ⟨w'.heap.size, 0, none⟩)) (w' := w'.alloc (.cells #[.slice none 0 0] 30)) rfl (by simp [execOp, go_sem]) ⟨_, rfl, hJ.alloc hL rfl rfl _⟩
  · intro L vs a w' hJ hF hP hL
    have p11 : L 11 = true := hP ⟨11, .data⟩ (by simp) rfl
    have q6 := hF.slot 11 6 rfl p11
    have p9 : L 9 = true := hP ⟨9, .data⟩ (by simp) rfl
    have s9 : RNat w' (vs 9) (Q0) := hJ.sp 9 p9
    have q25 := hF.slot 9 25 rfl p9
    obtain ⟨bk, e1, e2, e3, e4, e5, e6⟩ := hJ.bx (11, 13, 9) (by simp) p11
    have e7 := e5 hL
    obtain ⟨aa, nn, cc, e8⟩ := s9.isAgg
    exact run_unit (w' := w'.setCell ⟨bk, 0, none⟩ (.slice aa nn cc)) rfl (by simp [execOp, go_sem, q6, q25, e1, e8, e7, e4]) ⟨undef, rfl, hJ.store (b := (11, 13, 9)) (by simp) hL p11 p9 (by decide) rfl e1 e8⟩
  · intro L vs a w' hJ hF hP hL
    have p12 : L 12 = true := hP ⟨12, .data⟩ (by simp) rfl
    have q7 := hF.slot 12 7 rfl p12
    have p10 : L 10 = true := hP ⟨10, .data⟩ (by simp) rfl
    have s10 : RNat w' (vs 10) (R0) := hJ.sp 10 p10
    have q26 := hF.slot 10 26 rfl p10
    obtain ⟨bk, e1, e2, e3, e4, e5, e6⟩ := hJ.bx (12, 14, 10) (by simp) p12
    have e7 := e5 hL
    obtain ⟨aa, nn, cc, e8⟩ := s10.isAgg
    exact run_unit (w' := w'.setCell ⟨bk, 0, none⟩ (.slice aa nn cc)) rfl (by simp [execOp, go_sem, q7, q26, e1, e8, e7, e4]) ⟨undef, rfl, hJ.store (b := (12, 14, 10)) (by simp) hL p12 p10 (by decide) rfl e1 e8⟩
  intro L vs w' hA hJ
  have s9 : RNat w' (vs 9) (Q0) := hJ.sp 9 (hA 9 (by simp))
  have s10 : RNat w' (vs 10) (R0) := hJ.sp 10 (hA 10 (by simp))
  obtain ⟨bk11, eb11, ge11, lt11, fz11, _, e6⟩ := hJ.bx (11, 13, 9) (by simp) (hA 11 (by simp))
  obtain ⟨_, u11, eu11, ce11⟩ := e6 (hA 13 (by simp))
  clear e6
  obtain ⟨bk12, eb12, ge12, lt12, fz12, _, e6⟩ := hJ.bx (12, 14, 10) (by simp) (hA 12 (by simp))
  obtain ⟨_, u12, eu12, ce12⟩ := e6 (hA 14 (by simp))
  clear e6
  simp only [putL, Act.put, List.setIfInBounds_toArray, List.set_cons_zero, List.set_cons_succ, Nat.reduceAdd]
  obtain ⟨am, nm, cm, q1⟩ := s9.isAgg
  obtain ⟨ar, nr, cr, q2⟩ := s10.isAgg
  rw [q1] at s9 eu11
  rw [q2] at s10 eu12
  obtain rfl : u11 = .slice am nm cm := by simpa using eu11.symm
  obtain rfl : u12 = .slice ar nr cr := by simpa using eu12.symm
  simp only [eb11, eb12]
  have HG : Hid (g < w1.heap.size) := S1.out.lt g
  have S2 : Hid _ := ((((S1.out.go hJ.bel).addM s9).addM s10).addC ce11).addC ce12
  have FZ : Hid (w'.frozen? ⟨bk11, 0, none⟩ = false) := fz11
  have LO : Hid (w.heap.size ≤ bk11) := by have := S1.out.bel.size; show _ ≤ _; omega
  have NE : Hid (bk12 ≠ bk11 ∧ g ≠ bk11) := ⟨fun e => hJ.dj (11, 13, 9) (by simp) (12, 14, 10) (by simp) (hA 11 (by simp)) (hA 12 (by simp)) (by decide) (by rw [eb11, eb12, e]), by have := HG.out; omega⟩
  obtain ⟨w2, ew⟩ : ∃ w2, w2 = w' := ⟨_, rfl⟩
  obtain ⟨bm, e1⟩ : ∃ bm, bm = bk11 := ⟨_, rfl⟩
  obtain ⟨br, e2⟩ : ∃ br, br = bk12 := ⟨_, rfl⟩
  rw [← ew, ← e1, ← e2] at S2
  rw [← e1, ← e2] at NE
  rw [← ew, ← e1] at FZ
  rw [← e1] at LO
  rw [← ew, ← e1, ← e2]
  clear ew e1 e2 q1 q2 s9 s10 eu11 eu12 eb11 eb12 ce11 ce12 ge11 ge12 lt11 lt12 fz11 fz12 hJ hA S1 HG
  go_wp2_with fail
  refine wp_region_inv (JB w2 [sR (R0), sR (R0 * 2), sEq (.pointer (some ⟨g, 1, none⟩)), sR (q), sEq (.int .i64 z), sEq (.int .i64 z)] []) 70 (by kernel_rfl) rfl (by kernel_rfl) (JB.start _ _ _) (fun HG HN => ⟨?_, ?_, ?_, ?_, ?_, ?_, trivial⟩) ?_
  · intro L vs a w' hJ hF hP hL
    have q7 : (a.tmps[7]?).getD undef = .pointer (some ⟨br, 0, none⟩) := hF.old 7 rfl
    have cb := cell_later hJ.bel (S2.out.cel (br) 0 (.slice ar nr cr))
    exact run_val (v := .agg #[.slice ar nr cr]) rfl (by simp [execOp, go_sem, q7, cb]) ⟨_, rfl, hJ.step hL rfl (Below.refl _ _) (by exact ((S2.out.rat (.agg #[.slice ar nr cr]) (R0)).mono hJ.bel))⟩
  · intro L vs a w' hJ hF hP hL
    have p0 : L 0 = true := hP ⟨0, .data⟩ (by simp) rfl
    have s0 : RNat w' (vs 0) (R0) := hJ.sp 0 p0
    have q27 := hF.slot 0 27 rfl p0
    refine run_call (f := 18) (args := #[vs 0, .int .i64 1]) rfl (by simp [go_sem, q27]) (rleft_any _ R0 1 _ s0 HH.out.2.2.2.2.2.2.1 (by omega)) ?_
    rintro e w2 ⟨v, rfl, hv, hb⟩
    rw [show R0 * 2 ^ 1 = R0 * 2 from rfl] at hv
    exact ⟨_, rfl, _, rfl, hJ.step hL rfl hb (by exact hv)⟩
  · intro L vs a w' hJ hF hP hL
    have q2 : (a.tmps[2]?).getD undef = .pointer (some ⟨g, 0, none⟩) := hF.old 2 rfl
    exact run_val (v := .pointer (some ⟨g, 1, none⟩)) rfl (by simp [execOp, go_sem, q2]) ⟨_, rfl, hJ.step hL rfl (Below.refl _ _) (by exact rfl)⟩
  · intro L vs a w' hJ hF hP hL
    have p2 : L 2 = true := hP ⟨2, .data⟩ (by simp) rfl
    have s2 : vs 2 = .pointer (some ⟨g, 1, none⟩) := hJ.sp 2 p2
    have q29 := hF.slot 2 29 rfl p2
    have cb := cell_later hJ.bel (S2.out.cel (g) 1 (.slice a2 n2 c2))
    exact run_val (v := .agg #[.slice a2 n2 c2]) rfl (by simp [execOp, go_sem, q29, s2, cb]) ⟨_, rfl, hJ.step hL rfl (Below.refl _ _) (by exact ((S2.out.rat (.agg #[.slice a2 n2 c2]) (q)).mono hJ.bel))⟩
  · intro L vs a w' hJ hF hP hL
    have p1 : L 1 = true := hP ⟨1, .data⟩ (by simp) rfl
    have s1 : RNat w' (vs 1) (R0 * 2) := hJ.sp 1 p1
    have q28 := hF.slot 1 28 rfl p1
    have p3 : L 3 = true := hP ⟨3, .data⟩ (by simp) rfl
    have s3 : RNat w' (vs 3) (q) := hJ.sp 3 p3
    have q30 := hF.slot 3 30 rfl p3
    refine run_call (f := 61) (args := #[vs 1, vs 3]) rfl (by simp [go_sem, q28, q30]) (rcmp_any _ _ (R0 * 2) q _ s1 s3 HH.out.2.2.2.2.2.2.2.1 HH.out.2.2.2.2.2.2.2.2.1) ?_
    rintro e w2 ⟨rfl, hb⟩
    rw [HZ.out]
    exact ⟨_, rfl, _, rfl, hJ.step hL rfl hb (by exact rfl)⟩
  · intro L vs a w' hJ hF hP hL
    have p4 : L 4 = true := hP ⟨4, .data⟩ (by simp) rfl
    have s4 : vs 4 = .int .i64 z := hJ.sp 4 p4
    have q31 := hF.slot 4 31 rfl p4
    exact run_val (v := .int .i64 z) rfl (by simp [execOp, go_sem, q31, s4]) ⟨_, rfl, hJ.step hL rfl (Below.refl _ _) (by exact rfl)⟩
  intro L vs w' hA hJ
  have s5 : vs 5 = .int .i64 z := hJ.sp 5 (hA 5 (by simp))
  simp only [putL, Act.put, List.setIfInBounds_toArray, List.set_cons_zero, List.set_cons_succ, Nat.reduceAdd]
  simp only [s5]
  obtain ⟨w3, ew⟩ : ∃ w3, w3 = w' := ⟨_, rfl⟩
  have S3 : Hid _ := S2.out.go hJ.bel
  have FY : Hid (w'.frozen? ⟨bm, 0, none⟩ = false) := (hJ.bel.frozen (p := ⟨bm, 0, none⟩) (World.block_lt_of_cell? _ _ (S2.out.cel bm 0 (.slice am nm cm)))).trans FZ.out
  rw [← ew] at S3 FY
  rw [← ew]
  clear ew s5 hJ hA S2 FZ
  go_upto_region 5 with fail
  go_cut [41] from 32 (fun s41 wx => Hid (Below w3.heap.size w3 wx) ∧ s41 = .bool UB)
  case first =>
    have yb := S3.out.cell bm (.slice am nm cm)
    rcases Nat.lt_trichotomy (R0 * 2) q with h1 | h1 | h1
    · have z1 : z = -1 := by rw [← HZ.out, cmpI_lt h1]
      have z2 : UB = false := HUB.out.1 h1
      subst z1 z2
      go_wp2_with fail
      go_meet
      exact ⟨bel_refl _, rfl⟩
    · have z1 : z = 0 := by rw [← HZ.out]; exact cmpI_zero.2 h1
      have z2 : UB = decide (Q0 % 2 = 1) := HUB.out.2.2 h1
      subst z1
      go_wp2_with fail
      refine (rbit_any _ Q0 0 _ (S3.out.rat (.agg #[.slice am nm cm]) Q0) (by omega) (by omega)).mono ?_
      rintro e w4 ⟨rfl, hb⟩
      have HB : Hid (Below w3.heap.size w3 w4) := hb
      have HV : Hid ((decide ((0 : Int) ≤ 0) && bitOf Q0 (0 : Int).toNat) = UB) := by show _ = _; rw [z2, show (0 : Int).toNat = 0 from rfl, bitOf_zero]; rfl
      rw [HV.out]
      clear hb z2
      go_wp2_with fail
      all_goals (go_meet; exact ⟨HB, rfl⟩)
    · have z1 : z = 1 := by rw [← HZ.out, cmpI_gt h1]
      have z2 : UB = true := HUB.out.2.1 h1
      subst z1 z2
      go_wp2_with fail
      go_meet
      exact ⟨bel_refl _, rfl⟩
  case rest =>
    obtain ⟨hb, rfl⟩ := hcut
    have S4 : Hid _ := S3.out.go hb.out
    have FZ : Hid (wc.frozen? ⟨bm, 0, none⟩ = false) := (hb.out.frozen (p := ⟨bm, 0, none⟩) (World.block_lt_of_cell? _ _ (S3.out.cel bm 0 (.slice am nm cm)))).trans FY.out
    clear hb S3 FY
    cases UB
    · have HE : Hid (Y = Q0) := HU.out
      rw [← HE.out] at S4
      clear HU HUB HE
      have yb := S4.out.cell bm (.slice am nm cm)
      go_wp2_with fail
      refine (rtext_k _ Y k _ (S4.out.rat (.agg #[.slice am nm cm]) Y) HY.out.2 HY.out.1).mono ?_
      rintro e w5 ⟨rfl, hb5⟩
      have HB : Hid (Below w.heap.size w w5) := (S4.out.go hb5).bel
      clear hb5 S4 yb
      by_cases h0 : m = 0
      · have t3 : decide ((m : Int) = 0) = true := decide_eq_true (by omega)
        have t4 : ((m : Int) == 0) = true := by simp; omega
        have HV : Hid (decimalT p q m k = decText Y k) := by show _ = _; rw [HD.out, if_pos h0]
        clear h0 HD
        go_wp2_with fail
        exact bodyPost_ret (v := .tuple #[.string (decText Y k), .bool true]) (by simp [results, Tryz.results27, go_sem]) rfl ⟨by rw [HV.out], HB.out⟩
      · have t3 : decide ((m : Int) = 0) = false := decide_eq_false (by omega)
        have t4 : ((m : Int) == 0) = false := by simp; omega
        have HV : Hid (decimalT p q m k = ptT (zrs (m + 1 - k) ++ decText Y k) m) := by show _ = _; rw [HD.out, if_neg h0]
        clear HD
        have HM : Hid (m ≤ 100 ∧ 0 < k ∧ k ≤ 5000) := ⟨hm, k0, kl⟩
        clear hm k0 kl h0
        obtain ⟨DT, hDT⟩ : ∃ DT, decText Y k = DT := ⟨_, rfl⟩
        have HDT : Hid (decText Y k = DT ∧ DT.size = k) := ⟨hDT, by rw [← hDT]; exact text_size _ _⟩
        rw [hDT]
        clear hDT
        go_wp2_with fail
        go_loop [9] (fun t => ∃ i : Nat, i ≤ m + 1 - k ∧ t = .string (zrs i ++ DT)) (fun t => 6000 - strN t)
        case atStart => exact ⟨0, by omega, by rw [zrs_zero]⟩
        case round =>
          obtain ⟨i, hi, rfl⟩ := hrel
          obtain ⟨X2, hX2⟩ : ∃ X2, zrs i ++ DT = X2 := ⟨_, rfl⟩
          have sx : X2.size = i + k := by rw [← hX2, ByteArray.size_append, zrs_size, HDT.out.2]
          rw [hX2]
          obtain ⟨x2, hx2⟩ : ∃ x2, X2.size = x2 := ⟨_, rfl⟩
          by_cases hc : X2.size ≤ m
          · have q1 : (1 : Nat) + X2.size ≤ 9223372036854775807 := by have := HM.out; omega
            have c1 := cat_run ⟨#[48]⟩ X2 q1
            have p1 : ∀ w : World, (Op.stringOp .add ⟨#[48]⟩ X2).run Tryz.prog w = .ok (.string (⟨#[48]⟩ ++ X2)) w := fun w => run_string_add_sum w _ _ q1
            have HN : Hid (⟨#[48]⟩ ++ X2 = zrs (i + 1) ++ DT ∧ i + 1 ≤ m + 1 - k ∧ (⟨#[48]⟩ ++ X2).size = 1 + X2.size ∧ X2.size ≤ 5000) := ⟨by rw [← hX2, zrs_succ], by omega, by rw [ByteArray.size_append]; rfl, by have := HM.out; omega⟩
            clear hX2 sx hx2 hi
            go_wp2_with fail
            go_round
            case rel => exact ⟨i + 1, HN.out.2.1, by rw [HN.out.1]⟩
            case measure =>
              have h1 := HN.out
              show 6000 - (⟨#[48]⟩ ++ X2).size < 6000 - X2.size
              omega
          · have hi2 : i = m + 1 - k := by omega
            have HW : Hid (decimalT p q m k = ptT X2 m) := by show _ = _; rw [HV.out, HDT.out.1, ← hi2, hX2]
            obtain ⟨d, hd⟩ : ∃ d, d = x2 - m := ⟨_, rfl⟩
            have lim := HM.out
            have hdx : d ≤ x2 := by omega
            have u1 : ∀ w : World, (Instr.slice 9 (.string X2) none (some (.int .i64 (d : Int))) none).run Tryz.prog w = .ok (.string (X2.extract 0 d)) w := fun w => by
              rw [run_slice_string_to_if _ _ _ _ _ (by kernel_rfl), if_pos ⟨by omega, by rw [hx2]; omega⟩]
              rfl
            have u2 : ∀ w : World, (Instr.slice 9 (.string X2) (some (.int .i64 (d : Int))) none none).run Tryz.prog w = .ok (.string (X2.extract d x2)) w := fun w => by
              rw [run_slice_string_from_if _ _ _ _ _ (by kernel_rfl), if_pos ⟨by omega, by rw [hx2]; omega⟩, hx2]
              rfl
            obtain ⟨s1, hs1⟩ : ∃ s1, s1 = X2.extract 0 d := ⟨_, rfl⟩
            obtain ⟨s2, hs2⟩ : ∃ s2, s2 = X2.extract d x2 := ⟨_, rfl⟩
            rw [← hs1] at u1
            rw [← hs2] at u2
            have se1 : s1.size ≤ 10000 := by rw [hs1, ByteArray.size_extract]; omega
            have se2 : s2.size ≤ 10000 := by rw [hs2, ByteArray.size_extract]; omega
            obtain ⟨s3, hs3⟩ : ∃ s3, s3 = s1 ++ ⟨#[46]⟩ := ⟨_, rfl⟩
            have se3 : s3.size ≤ 10001 := by rw [hs3, ByteArray.size_append]; show _ + 1 ≤ _; omega
            have c2 := cat_run s1 ⟨#[46]⟩ (by show _ + 1 ≤ _; omega)
            rw [← hs3] at c2
            have c3 := cat_run s3 s2 (by omega)
            have p2 : ∀ w : World, (Op.stringOp .add s1 ⟨#[46]⟩).run Tryz.prog w = .ok (.string s3) w := fun w => by rw [hs3]; exact run_string_add_sum w _ _ (by show _ + 1 ≤ _; omega)
            have p3 : ∀ w : World, (Op.stringOp .add s3 s2).run Tryz.prog w = .ok (.string (s3 ++ s2)) w := fun w => run_string_add_sum w _ _ (by omega)
            have HV2 : Hid (decimalT p q m k = s3 ++ s2) := by
              show _ = _
              rw [HW.out, ptT, hx2, ← hd, hs3, hs1, hs2]
            have b6 : wrap64 ((x2 : Int) - (m : Int)) = (d : Int) := by rw [IntWalk.wrap64_in _ ⟨by omega, by omega⟩]; omega
            have HQ : Hid (¬ X2.size ≤ m) := hc
            rw [hx2] at hc
            clear HW HV hX2 hd se1 se2 se3 hi2 hi hs1 hs2 hs3 hdx lim sx HDT
            go_wp2_with fail
            go_quiet (fail)
            go_wp2_with fail
            exact bodyPost_ret (v := .tuple #[.string (s3 ++ s2), .bool true]) (by simp [results, Tryz.results27, go_sem]) rfl ⟨by rw [HV2.out], bel_drewN HB.out nq⟩
    · have HE : Hid (Y = Q0 + 1) := HU.out
      clear HU HUB
      go_wp2_with fail
      refine wp_region_inv (JD wc [sR (Q0), sR (1), sR (Y), sAny] [[], [], [0, 1], [2]] 3 2 [0, 1, 2] (Sto1 (bm))) 70 (by kernel_rfl) rfl (by kernel_rfl) (JD.start _ _ _ _ _ _ _) (fun HG HN => ⟨?_, ?_, ?_, ?_, trivial⟩) ?_
      · intro L vs a w' hJ hF hP hL
        have hK := hJ
        have hJ := hK.open hL (by decide)
        have q6 : (a.tmps[6]?).getD undef = .pointer (some ⟨bm, 0, none⟩) := hF.old 6 rfl
        have cb := cell_later hJ.bel (S4.out.cel (bm) 0 (.slice am nm cm))
        exact run_val (v := .agg #[.slice am nm cm]) rfl (by simp [execOp, go_sem, q6, cb]) ⟨_, rfl, hK.step hL (by decide) (by decide) rfl (nd_nil) <| hJ.step hL rfl (Below.refl _ _) (by exact ((S4.out.rat (.agg #[.slice am nm cm]) (Q0)).mono hJ.bel))⟩
      · intro L vs a w' hJ hF hP hL
        have hK := hJ
        have hJ := hK.open hL (by decide)
        refine run_call (f := 17) (args := #[.int .u64 1]) rfl (by simp [go_sem]) (rof_any 1 _ (by omega)) ?_
        rintro e w2 ⟨v, rfl, hv, hb⟩
        exact ⟨_, rfl, _, rfl, hK.step hL (by decide) (by decide) rfl (nd_nil) <| hJ.step hL rfl hb (by exact hv)⟩
      · intro L vs a w' hJ hF hP hL
        have hK := hJ
        have hJ := hK.open hL (by decide)
        have p0 : L 0 = true := hP ⟨0, .data⟩ (by simp) rfl
        have s0 : RNat w' (vs 0) (Q0) := hJ.sp 0 p0
        have q42 := hF.slot 0 42 rfl p0
        have p1 : L 1 = true := hP ⟨1, .data⟩ (by simp) rfl
        have s1 : RNat w' (vs 1) (1) := hJ.sp 1 p1
        have q43 := hF.slot 1 43 rfl p1
        refine run_call (f := 57) (args := #[vs 0, vs 1]) rfl (by simp [go_sem, q42, q43]) (rplus_any _ _ Q0 1 _ s0 s1 HH.out.2.2.2.2.2.2.2.2.2.1 (rs_word (by omega)).rfits) ?_
        rintro e w2 ⟨v, rfl, hv, hb⟩
        rw [← HE.out] at hv
        exact ⟨_, rfl, _, rfl, hK.step hL (by decide) (by decide) rfl (nd_cons p0 (nd_cons p1 (nd_nil))) <| hJ.step hL rfl hb (by exact hv)⟩
      · intro L vs a w' hJ hF hP hL
        have hK := hJ
        have hJ := hK.core hL
        have q6 : (a.tmps[6]?).getD undef = .pointer (some ⟨bm, 0, none⟩) := hF.old 6 rfl
        have p2 : L 2 = true := hP ⟨2, .data⟩ (by simp) rfl
        have s2 : RNat w' (vs 2) (Y) := hJ.sp 2 p2
        have q44 := hF.slot 2 44 rfl p2
        have p0 : L 0 = true := hK.cl 2 p2 0 (by simp)
        have p1 : L 1 = true := hK.cl 2 p2 1 (by simp)
        have x0 := cell_later hJ.bel (S4.out.cel bm 0 (.slice am nm cm))
        have y0 := (hJ.bel.frozen (World.block_lt_of_cell? _ _ (S4.out.cel bm 0 (.slice am nm cm)))).trans FZ.out
        obtain ⟨aa, nn, cc, e8⟩ := s2.isAgg
        exact run_unit (w' := (w'.setCell ⟨bm, 0, none⟩ (.slice aa nn cc))) rfl (by simp [execOp, go_sem, q6, q44, e8, x0, y0]) ⟨undef, rfl, hK.put hL (by decide) rfl (nd_cons p2 (nd_nil)) (nd_cons p0 (nd_cons p1 (nd_cons p2 (nd_nil)))) p2 ⟨_, e8, rfl⟩⟩
      intro L vs w' hA hK
      obtain ⟨_, w1, hb1, sv, u1, ev, ew⟩ := hK.fin (hA 3 (by simp))
      replace sv : RNat w1 (vs 2) (Y) := sv
      simp only [putL, Act.put, List.setIfInBounds_toArray, List.set_cons_zero, List.set_cons_succ, Nat.reduceAdd]
      obtain ⟨aa, nn, cc, e9⟩ := sv.isAgg
      have S9 : Hid _ := (S4.out.go hb1).addM sv
      have j1 := S9.out.cel bm 0 (.slice am nm cm)
      obtain rfl : u1 = .slice aa nn cc := by rw [e9] at ev; simpa using ev.symm
      rw [e9] at S9
      have S7 : Hid _ := (S9.out.set (b := bm) (i := 0) j1 LO.out [] (by simp) (.slice aa nn cc)).addC (b := bm) (i := 0) (v := .slice aa nn cc) (by simp [go_sem, j1])
      have S8 : Hid (SY w w' [] [(.agg #[.slice aa nn cc], Y)] [] [] [(bm, 0, .slice aa nn cc)] []) := by
        rw [ew]
        exact S7.out.sub _ _ _ _ _ _ (by simp) (by simp) (by simp) (by simp) (by simp) (by simp)
      clear S7 S9 S4 sv e9 ev ew hb1 j1 hK hA HE FZ
      clear am nm cm
      obtain ⟨am, e1⟩ : ∃ am, am = aa := ⟨_, rfl⟩
      obtain ⟨nm, e2⟩ : ∃ nm, nm = nn := ⟨_, rfl⟩
      obtain ⟨cm, e3⟩ : ∃ cm, cm = cc := ⟨_, rfl⟩
      rw [← e1, ← e2, ← e3] at S8
      clear e1 e2 e3
      have yb := S8.out.cell bm (.slice am nm cm)
      go_wp2_with fail
      refine (rtext_k _ Y k _ (S8.out.rat (.agg #[.slice am nm cm]) Y) HY.out.2 HY.out.1).mono ?_
      rintro e w5 ⟨rfl, hb5⟩
      have HB : Hid (Below w.heap.size w w5) := (S8.out.go hb5).bel
      clear hb5 S8 yb
      by_cases h0 : m = 0
      · have t3 : decide ((m : Int) = 0) = true := decide_eq_true (by omega)
        have t4 : ((m : Int) == 0) = true := by simp; omega
        have HV : Hid (decimalT p q m k = decText Y k) := by show _ = _; rw [HD.out, if_pos h0]
        clear h0 HD
        go_wp2_with fail
        exact bodyPost_ret (v := .tuple #[.string (decText Y k), .bool true]) (by simp [results, Tryz.results27, go_sem]) rfl ⟨by rw [HV.out], HB.out⟩
      · have t3 : decide ((m : Int) = 0) = false := decide_eq_false (by omega)
        have t4 : ((m : Int) == 0) = false := by simp; omega
        have HV : Hid (decimalT p q m k = ptT (zrs (m + 1 - k) ++ decText Y k) m) := by show _ = _; rw [HD.out, if_neg h0]
        clear HD
        have HM : Hid (m ≤ 100 ∧ 0 < k ∧ k ≤ 5000) := ⟨hm, k0, kl⟩
        clear hm k0 kl h0
        obtain ⟨DT, hDT⟩ : ∃ DT, decText Y k = DT := ⟨_, rfl⟩
        have HDT : Hid (decText Y k = DT ∧ DT.size = k) := ⟨hDT, by rw [← hDT]; exact text_size _ _⟩
        rw [hDT]
        clear hDT
        go_wp2_with fail
        go_loop [9] (fun t => ∃ i : Nat, i ≤ m + 1 - k ∧ t = .string (zrs i ++ DT)) (fun t => 6000 - strN t)
        case atStart => exact ⟨0, by omega, by rw [zrs_zero]⟩
        case round =>
          obtain ⟨i, hi, rfl⟩ := hrel
          obtain ⟨X2, hX2⟩ : ∃ X2, zrs i ++ DT = X2 := ⟨_, rfl⟩
          have sx : X2.size = i + k := by rw [← hX2, ByteArray.size_append, zrs_size, HDT.out.2]
          rw [hX2]
          obtain ⟨x2, hx2⟩ : ∃ x2, X2.size = x2 := ⟨_, rfl⟩
          by_cases hc : X2.size ≤ m
          · have q1 : (1 : Nat) + X2.size ≤ 9223372036854775807 := by have := HM.out; omega
            have c1 := cat_run ⟨#[48]⟩ X2 q1
            have p1 : ∀ w : World, (Op.stringOp .add ⟨#[48]⟩ X2).run Tryz.prog w = .ok (.string (⟨#[48]⟩ ++ X2)) w := fun w => run_string_add_sum w _ _ q1
            have HN : Hid (⟨#[48]⟩ ++ X2 = zrs (i + 1) ++ DT ∧ i + 1 ≤ m + 1 - k ∧ (⟨#[48]⟩ ++ X2).size = 1 + X2.size ∧ X2.size ≤ 5000) := ⟨by rw [← hX2, zrs_succ], by omega, by rw [ByteArray.size_append]; rfl, by have := HM.out; omega⟩
            clear hX2 sx hx2 hi
            go_wp2_with fail
            go_round
            case rel => exact ⟨i + 1, HN.out.2.1, by rw [HN.out.1]⟩
            case measure =>
              have h1 := HN.out
              show 6000 - (⟨#[48]⟩ ++ X2).size < 6000 - X2.size
              omega
          · have hi2 : i = m + 1 - k := by omega
            have HW : Hid (decimalT p q m k = ptT X2 m) := by show _ = _; rw [HV.out, HDT.out.1, ← hi2, hX2]
            obtain ⟨d, hd⟩ : ∃ d, d = x2 - m := ⟨_, rfl⟩
            have lim := HM.out
            have hdx : d ≤ x2 := by omega
            have u1 : ∀ w : World, (Instr.slice 9 (.string X2) none (some (.int .i64 (d : Int))) none).run Tryz.prog w = .ok (.string (X2.extract 0 d)) w := fun w => by
              rw [run_slice_string_to_if _ _ _ _ _ (by kernel_rfl), if_pos ⟨by omega, by rw [hx2]; omega⟩]
              rfl
            have u2 : ∀ w : World, (Instr.slice 9 (.string X2) (some (.int .i64 (d : Int))) none none).run Tryz.prog w = .ok (.string (X2.extract d x2)) w := fun w => by
              rw [run_slice_string_from_if _ _ _ _ _ (by kernel_rfl), if_pos ⟨by omega, by rw [hx2]; omega⟩, hx2]
              rfl
            obtain ⟨s1, hs1⟩ : ∃ s1, s1 = X2.extract 0 d := ⟨_, rfl⟩
            obtain ⟨s2, hs2⟩ : ∃ s2, s2 = X2.extract d x2 := ⟨_, rfl⟩
            rw [← hs1] at u1
            rw [← hs2] at u2
            have se1 : s1.size ≤ 10000 := by rw [hs1, ByteArray.size_extract]; omega
            have se2 : s2.size ≤ 10000 := by rw [hs2, ByteArray.size_extract]; omega
            obtain ⟨s3, hs3⟩ : ∃ s3, s3 = s1 ++ ⟨#[46]⟩ := ⟨_, rfl⟩
            have se3 : s3.size ≤ 10001 := by rw [hs3, ByteArray.size_append]; show _ + 1 ≤ _; omega
            have c2 := cat_run s1 ⟨#[46]⟩ (by show _ + 1 ≤ _; omega)
            rw [← hs3] at c2
            have c3 := cat_run s3 s2 (by omega)
            have p2 : ∀ w : World, (Op.stringOp .add s1 ⟨#[46]⟩).run Tryz.prog w = .ok (.string s3) w := fun w => by rw [hs3]; exact run_string_add_sum w _ _ (by show _ + 1 ≤ _; omega)
            have p3 : ∀ w : World, (Op.stringOp .add s3 s2).run Tryz.prog w = .ok (.string (s3 ++ s2)) w := fun w => run_string_add_sum w _ _ (by omega)
            have HV2 : Hid (decimalT p q m k = s3 ++ s2) := by
              show _ = _
              rw [HW.out, ptT, hx2, ← hd, hs3, hs1, hs2]
            have b6 : wrap64 ((x2 : Int) - (m : Int)) = (d : Int) := by rw [IntWalk.wrap64_in _ ⟨by omega, by omega⟩]; omega
            have HQ : Hid (¬ X2.size ≤ m) := hc
            rw [hx2] at hc
            clear HW HV hX2 hd se1 se2 se3 hi2 hi hs1 hs2 hs3 hdx lim sx HDT
            go_wp2_with fail
            go_quiet (fail)
            go_wp2_with fail
            exact bodyPost_ret (v := .tuple #[.string (s3 ++ s2), .bool true]) (by simp [results, Tryz.results27, go_sem]) rfl ⟨by rw [HV2.out], bel_drewN HB.out nq⟩
end Go.Proofs.YtmiiaomdenpceaaGreatDoor

namespace Go.Proofs
open Go.Shelf
def Tryz.lays105_ren : Go.Shelf.Ren := ⟨fun | 105 => 72 | 212 => 103 | 99 => 104 | 165 => 105 | 166 => 106 | 170 => 107 | 169 => 108 | 263 => 132 | 264 => 133 | 206 => 134 | 240 => 135 | 241 => 136 | 276 => 146 | 277 => 147 | n => n, fun | 9 => 9 | 3 => 3 | 4 => 4 | 20 => 20 | 0 => 0 | 46 => 66 | 109 => 140 | 5 => 5 | 72 => 145 | 76 => 149 | 51 => 173 | 146 => 174 | 53 => 23 | 148 => 165 | 70 => 143 | 37 => 22 | 75 => 148 | 127 => 177 | 164 => 185 | 80 => 106 | n => n, fun | n => n⟩
theorem Tryz.lays105 : Go.Proofs.Lays.n105 Tryz.prog Tryz.lays105_ren := {
  mixed := by kernel_rfl
  f99 := Tryz.func104.trans (congrArg some (by kernel_rfl))
  f105 := Tryz.func72.trans (congrArg some (by kernel_rfl))
  f165 := Tryz.func105.trans (congrArg some (by kernel_rfl))
  f166 := Tryz.func106.trans (congrArg some (by kernel_rfl))
  f169 := Tryz.func108.trans (congrArg some (by kernel_rfl))
  f170 := Tryz.func107.trans (congrArg some (by kernel_rfl))
  f206 := Tryz.func134.trans (congrArg some (by kernel_rfl))
  f212 := Tryz.func103.trans (congrArg some (by kernel_rfl))
  f240 := Tryz.func135.trans (congrArg some (by kernel_rfl))
  f241 := Tryz.func136.trans (congrArg some (by kernel_rfl))
  f263 := Tryz.func132.trans (congrArg some (by kernel_rfl))
  f264 := Tryz.func133.trans (congrArg some (by kernel_rfl))
  f276 := Tryz.func146.trans (congrArg some (by kernel_rfl))
  f277 := Tryz.func147.trans (congrArg some (by kernel_rfl))
  t0 := Tryz.underlying0
  a0 := Tryz.isAgg0
  z0 := Tryz.sizeOf0
  v0 := Tryz.zeroValue0
  t3 := Tryz.underlying3
  a3 := Tryz.isAgg3
  z3 := Tryz.sizeOf3
  v3 := Tryz.zeroValue3
  t4 := Tryz.underlying4
  a4 := Tryz.isAgg4
  z4 := Tryz.sizeOf4
  v4 := Tryz.zeroValue4
  t5 := Tryz.underlying5
  a5 := Tryz.isAgg5
  z5 := Tryz.sizeOf5
  v5 := Tryz.zeroValue5
  t9 := Tryz.underlying9
  a9 := Tryz.isAgg9
  z9 := Tryz.sizeOf9
  v9 := Tryz.zeroValue9
  t20 := Tryz.underlying20
  a20 := Tryz.isAgg20
  z20 := Tryz.sizeOf20
  v20 := Tryz.zeroValue20
  t37 := Tryz.underlying22
  a37 := Tryz.isAgg22
  z37 := Tryz.sizeOf22
  v37 := Tryz.zeroValue22
  t46 := Tryz.underlying66
  a46 := Tryz.isAgg66
  z46 := Tryz.sizeOf66
  v46 := Tryz.zeroValue66
  t51 := Tryz.underlying173
  a51 := Tryz.isAgg173
  z51 := Tryz.sizeOf173
  v51 := Tryz.zeroValue173
  t53 := Tryz.underlying23
  a53 := Tryz.isAgg23
  z53 := Tryz.sizeOf23
  v53 := Tryz.zeroValue23
  t70 := Tryz.underlying143
  a70 := Tryz.isAgg143
  z70 := Tryz.sizeOf143
  v70 := Tryz.zeroValue143
  t72 := Tryz.underlying145
  a72 := Tryz.isAgg145
  z72 := Tryz.sizeOf145
  v72 := Tryz.zeroValue145
  t75 := Tryz.underlying148
  a75 := Tryz.isAgg148
  z75 := Tryz.sizeOf148
  v75 := Tryz.zeroValue148
  t76 := Tryz.underlying149
  a76 := Tryz.isAgg149
  z76 := Tryz.sizeOf149
  v76 := Tryz.zeroValue149
  t109 := Tryz.underlying140
  a109 := Tryz.isAgg140
  z109 := Tryz.sizeOf140
  v109 := Tryz.zeroValue140
  t127 := Tryz.underlying177
  a127 := Tryz.isAgg177
  z127 := Tryz.sizeOf177
  v127 := Tryz.zeroValue177
  t146 := Tryz.underlying174
  a146 := Tryz.isAgg174
  z146 := Tryz.sizeOf174
  v146 := Tryz.zeroValue174
  t148 := Tryz.underlying165
  a148 := Tryz.isAgg165
  z148 := Tryz.sizeOf165
  v148 := Tryz.zeroValue165
  t164 := Tryz.underlying185
  a164 := Tryz.isAgg185
  z164 := Tryz.sizeOf185
  v164 := Tryz.zeroValue185 }
theorem Tryz.Builder_Extra_105 : Builder.Extra Tryz.prog Tryz.lays105_ren := {
  sizeBuilder := by kernel_rfl
  liesBuilder := by kernel_rfl
  t5 := Tryz.underlying5
  a5 := Tryz.isAgg5
  z5 := Tryz.sizeOf5
  v5 := Tryz.zeroValue5
  infoByte := by kernel_rfl
  cellsByte := by kernel_rfl
  sizeByte := by kernel_rfl
  neB5 := by decide }
end Go.Proofs

namespace Go.Proofs.YtmiiaomdenpceaaGreatDoor
open Go.RowKit
set_option linter.unusedVariables false
theorem repeat_zero (n : Nat) : Lib.repeatL [48] n = List.replicate n (48 : UInt8) := by
  induction n with
  | zero => rfl
  | succ n ih =>
    rw [Lib.repeatL, ih, List.replicate_succ]
    rfl
theorem rep_any {n : Nat} (hn : n ≤ 1000) : RepIs n := fun w => by
  have h : Calls Tryz.prog 72 #[.string ⟨#[48]⟩, .int .i64 (n : Int)] w _ := Any.strings_Repeat Tryz.lays105 Tryz.Builder_Extra_105 ⟨#[48]⟩ n w (by omega) (by show 1 * n ≤ _; omega)
  refine h.mono ?_
  rintro e w' ⟨rfl, hb⟩
  refine ⟨?_, hb⟩
  rw [show (⟨#[48]⟩ : ByteArray).data.toList = [48] from rfl, repeat_zero]
  unfold zrs
  rw [List.toArray_replicate]
end Go.Proofs.YtmiiaomdenpceaaGreatDoor

