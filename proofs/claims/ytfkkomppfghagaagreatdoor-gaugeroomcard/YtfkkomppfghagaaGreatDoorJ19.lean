/- Contracts of the program's functions, part 19: own work, joined in build order. -/
import Derived.Test.YtfkkomppfghagaaGreatDoorJ18
import Derived.Deep.Cut
import Derived.Deep.CutRange
import Derived.Test.YtfkkomppfghagaaGreatDoorRows
import Derived.Maps.OwnSet
import Derived.Maps.Views
import Derived.Lib.SlKeysI
import Derived.Deep.OwnRows
import Derived.Shelf.SlIterI.Nil
import Derived.Shelf.SortM.Plain
import Derived.Shelf.SortM.SortNone
import Derived.Ground.GgzProg
import Derived.Ground.SlgmProg
namespace Go.Proofs.YtfkkomppfghagaaGreatDoor
open Go.RowKit
set_option maxRecDepth 100000
set_option linter.unusedVariables false
structure ShS (w0 w : World) (X Y : Nat → Nat) (i k : Nat) (va vb : Value) (La Lb : List (Value × Value)) : Prop where
  ra : Fo w0.heap.size w va La
  rb : Fo2 w0.heap.size w vb Lb
  la : La.length = i
  lb : Lb.length = k
  ea : ∀ j, (h : j < La.length) → Rt w (.agg #[La[j].1, La[j].2]) (X j) (Y j)
  eb : ∀ j, (h : j < Lb.length) → RRt w (.agg #[Lb[j].1, Lb[j].2]) (X j) (Y j)
  bel : Below w0.heap.size w0 w
theorem ShS.go {w0 w w' : World} {X Y : Nat → Nat} {i k : Nat} {va vb : Value} {La Lb : List (Value × Value)} (h : ShS w0 w X Y i k va vb La Lb) (hb : Below w.heap.size w w') : ShS w0 w' X Y i k va vb La Lb :=
  ⟨h.ra.below hb, h.rb.below hb, h.la, h.lb, fun j hj => (h.ea j hj).mono hb, fun j hj => (h.eb j hj).mono hb, bel_go h.bel hb⟩
theorem ShS.start (w : World) (X Y : Nat → Nat) : ShS w w X Y 0 0 (.slice none 0 0) (.slice none 0 0) [] [] :=
  ⟨Fo.nil _ _, Fo2.nil _ _, rfl, rfl, fun j h => absurd h (Nat.not_lt_zero _), fun j h => absurd h (Nat.not_lt_zero _), Below.refl _ _⟩
theorem fb_grown {w w' : World} {row : Option Nat} (h : w.grownBy w' row) : Fb (fun k => some k = row) w w' := ⟨h.os, h.tape, h.output, h.size, fun i hi hn => h.block i hi hn⟩
theorem get_snoc {L : List (Value × Value)} {y : Value × Value} {j : Nat} (h : j < (L ++ [y]).length) : (∃ h' : j < L.length, (L ++ [y])[j] = L[j]) ∨ (j = L.length ∧ (L ++ [y])[j] = y) := by
  rcases Nat.lt_or_ge j L.length with e | e
  · exact .inl ⟨e, List.getElem_append_left e⟩
  have e2 : j = L.length := by simp at h; omega
  subst e2
  exact .inr ⟨rfl, by simp⟩
theorem ShS.appA {w0 w w' : World} {X Y : Nat → Nat} {i k : Nat} {va vb v' : Value} {La Lb : List (Value × Value)} {y : Value × Value} (h : ShS w0 w X Y i k va vb La Lb) (hv : Rt w (.agg #[y.1, y.2]) (X i) (Y i)) (hr : Fo w0.heap.size w' v' (La ++ [y])) (hg : w.grownBy w' va.ownBlock) : ShS w0 w' X Y (i + 1) k v' vb (La ++ [y]) Lb := by
  have f := fb_grown hg
  have ho := h.ra.oddK
  refine ⟨hr, h.rb.kept fun b hb => ?_, by rw [List.length_append, h.la]; rfl, h.lb, fun j hj => ?_, fun j hj => (h.eb j hj).fb f ho, ?_⟩
  · obtain ⟨_, cs, e⟩ := h.rb.row.own hb
    refine hg.block b (Array.getElem?_eq_some_iff.1 e).1 fun e2 => ?_
    obtain ⟨_, cs2, e3⟩ := h.ra.row.own e2.symm
    rw [e] at e3
    injection e3 with e3
    injection e3 with _ e4
    exact absurd e4 (by decide)
  · rcases get_snoc hj with ⟨h1, e⟩ | ⟨e1, e⟩
    · rw [e]; exact (h.ea j h1).fb f ho
    rw [e, e1, h.la]; exact hv.fb f ho
  exact h.bel.trans (f.below h.bel.size fun b e => (h.ra.row.own e.symm).1)
theorem ShS.appB {w0 w w' : World} {X Y : Nat → Nat} {i k : Nat} {va vb v' : Value} {La Lb : List (Value × Value)} {y : Value × Value} (h : ShS w0 w X Y i k va vb La Lb) (hv : RRt w (.agg #[y.1, y.2]) (X k) (Y k)) (hr : Fo2 w0.heap.size w' v' (Lb ++ [y])) (hg : w.grownBy w' vb.ownBlock) : ShS w0 w' X Y i (k + 1) va v' La (Lb ++ [y]) := by
  have f := fb_grown hg
  have ho := h.rb.oddK
  refine ⟨h.ra.kept fun b hb => ?_, hr, h.la, by rw [List.length_append, h.lb]; rfl, fun j hj => (h.ea j hj).fb f ho, fun j hj => ?_, ?_⟩
  · obtain ⟨_, cs, e⟩ := h.ra.row.own hb
    refine hg.block b (Array.getElem?_eq_some_iff.1 e).1 fun e2 => ?_
    obtain ⟨_, cs2, e3⟩ := h.rb.row.own e2.symm
    rw [e] at e3
    injection e3 with e3
    injection e3 with _ e4
    exact absurd e4 (by decide)
  · rcases get_snoc hj with ⟨h1, e⟩ | ⟨e1, e⟩
    · rw [e]; exact (h.eb j h1).fb f ho
    rw [e, e1, h.lb]; exact hv.fb f ho
  exact h.bel.trans (f.below h.bel.size fun b e => (h.rb.row.own e.symm).1)
def shN (F : Nat → Nat → Int) (i : Nat) : Nat := (F i 0 % 65536).toNat
def shD (F : Nat → Nat → Int) (i : Nat) : Nat := 1 + (F i 1 % 4096).toNat
def shX (F : Nat → Nat → Int) (i : Nat) : Nat := shN F i / Nat.gcd (shN F i) (shD F i)
def shY (F : Nat → Nat → Int) (i : Nat) : Nat := shD F i / Nat.gcd (shN F i) (shD F i)
theorem sh_le (F : Nat → Nat → Int) (i : Nat) : shN F i ≤ 65535 ∧ 1 ≤ shD F i ∧ shD F i ≤ 4096 := by unfold shN shD; omega
theorem sh_of1 (F : Nat → Nat → Int) (i : Nat) (w : World) (hT : Tab w) : Calls Tryz.prog 20 #[.int .i64 (shN F i : Int), .int .i64 (shD F i : Int)] w (MakesRB w (shX F i) (shY F i) true) := by
  have h := sh_le F i
  exact ratOf_yes (shN F i) (shD F i) w (by omega) (by omega) (by omega) hT
theorem sh_of2 (F : Nat → Nat → Int) (i : Nat) (w : World) : Calls Tryz.prog 25 #[.int .i64 (shN F i : Int), .int .i64 (shD F i : Int)] w (MakesRRB w (shX F i) (shY F i) true) := by
  have h := sh_le F i
  exact rof2_yes (shN F i) (shD F i) w (by omega) (by omega) (by omega)
set_option maxHeartbeats 16000000 in
theorem shares_any (a0 : Option Addr) (n0 cap0 : Nat) (F : Nat → Nat → Int) (w : World) (h : AbIn w a0 n0 F) (hn : n0 ≤ 9223372036854775807) (hT : Tab w) :
    Calls Tryz.prog 8 #[.slice a0 n0 cap0] w fun e w' => ∃ va vb La Lb, e = .returned (.tuple #[va, vb]) ∧ ShS w w' (shX F) (shY F) (min n0 12) (min n0 12) va vb La Lb := by
  have HI : Hid (AbIn w a0 n0 F) := h
  have HT : Hid (Tab w) := hT
  clear h hT
  go_enter Tryz.func8, Tryz.ntmps8
  go_wp2_with fail
  go_loopw [6, 4, 5] (fun t va vb wr => ∃ (i : Nat) (La Lb : List (Value × Value)), i ≤ min n0 12 ∧ t = .int .i64 (i : Int) ∧ ShS w wr (shX F) (shY F) i i va vb La Lb) (fun t _ _ _ => 12 - (intOf t).toNat)
  case atStart => exact ⟨0, [], [], by omega, rfl, ShS.start w _ _⟩
  case round =>
    obtain ⟨i, La, Lb, hi, rfl, hS⟩ := hrel
    have S1 : Hid (ShS w wr (shX F) (shY F) i i u4 u5 La Lb) := hS
    clear hS
    by_cases hin : i < n0
    · by_cases h12 : i < 12
      · obtain ⟨g, o, rfl, c0, c1⟩ := HI.out.at S1.out.bel hin
        obtain ⟨z2, hz2⟩ : ∃ z2, z2 = (F i 1 % 4096).toNat := ⟨_, rfl⟩
        obtain ⟨z1, hz1⟩ : ∃ z1, z1 = shN F i := ⟨_, rfl⟩
        have hm1 : bits .and .i64 (F i 0) 65535 = (z1 : Int) := by rw [i64_and65535G, hz1]; unfold shN; omega
        have hm2 : bits .and .i64 (F i 1) 4095 = (z2 : Int) := by rw [i64_and4095G, hz2]; omega
        have hz3 : (shD F i : Int) = 1 + (z2 : Int) := by rw [hz2]; unfold shD; omega
        have hz4 : z2 ≤ 4095 := by rw [hz2]; omega
        have CO : Hid (∀ w', Tab w' → Calls Tryz.prog 20 #[.int .i64 (z1 : Int), .int .i64 (1 + (z2 : Int))] w' (MakesRB w' (shX F i) (shY F i) true)) := fun w' hT => by
          rw [hz1, ← hz3]
          exact sh_of1 F i w' hT
        have CO2 : Hid (∀ w', Calls Tryz.prog 25 #[.int .i64 (z1 : Int), .int .i64 (1 + (z2 : Int))] w' (MakesRRB w' (shX F i) (shY F i) true)) := fun w' => by
          rw [hz1, ← hz3]
          exact sh_of2 F i w'
        have K0 := c0
        have K1 := c1
        have hw2 : IntKind.i64.wrap (1 + (z2 : Int)) = 1 + (z2 : Int) := by rw [IntKind.wrap_i64]; omega
        have HI2 : Hid ((i : Int) < (n0 : Int)) := by show (i : Int) < (n0 : Int); omega
        clear hz1 hz2 hz3 c0 c1
        go_upto_region 6 with fail
        refine wp_region_inv (JC wr [sEq (.slice (some ⟨g, o, none⟩) n0 cap0), sEq (.int .i64 (i : Int)), sEq (.pointer (some ⟨g, o + i * 2, none⟩)), sEq (.pointer (some ⟨g, o + i * 2, none⟩)), sEq (.int .i64 (F i 0)), sEq (.int .i64 (z1 : Int)), sEq (.slice (some ⟨g, o, none⟩) n0 cap0), sEq (.int .i64 (i : Int)), sEq (.pointer (some ⟨g, o + i * 2, none⟩)), sEq (.pointer (some ⟨g, o + i * 2 + 1, none⟩)), sEq (.int .i64 (F i 1)), sEq (.int .i64 (z2 : Int)), sEq (.int .i64 (1 + (z2 : Int))), sRtB (shX F i) (shY F i) true, sRtB (shX F i) (shY F i) true, sRt (shX F i) (shY F i), sEq (.bool true), sAny, sAny, sEq (.bool true)] (17, 18, 15)) 65 (by kernel_rfl) rfl (by kernel_rfl) (JC.start _ _ _) (fun HG HN => ⟨?_, ?_, ?_, ?_, ?_, ?_, ?_, ?_, ?_, ?_, ?_, ?_, ?_, ?_, ?_, ?_, ?_, ?_, ?_, ?_, trivial⟩) ?_
        · intro L vs a w' hJ hF hP hL
          have q0 : (a.tmps[0]?).getD undef = .slice (some ⟨g, o, none⟩) n0 cap0 := hF.old 0 rfl
          exact run_val (v := .slice (some ⟨g, o, none⟩) n0 cap0) rfl (by simp [execOp, go_sem, q0]) ⟨_, rfl, hJ.step hL rfl (Below.refl _ _) (by exact rfl)⟩
        · intro L vs a w' hJ hF hP hL
          have q6 : (a.tmps[6]?).getD undef = .int .i64 (i : Int) := hF.old 6 rfl
          exact run_val (v := .int .i64 (i : Int)) rfl (by simp [execOp, go_sem, q6]) ⟨_, rfl, hJ.step hL rfl (Below.refl _ _) (by exact rfl)⟩
        · intro L vs a w' hJ hF hP hL
          have p0 : L 0 = true := hP ⟨0, .data⟩ (by simp) rfl
          have s0 : vs 0 = .slice (some ⟨g, o, none⟩) n0 cap0 := hJ.sp 0 p0
          have q22 := hF.slot 0 22 rfl p0
          have p1 : L 1 = true := hP ⟨1, .data⟩ (by simp) rfl
          have s1 : vs 1 = .int .i64 (i : Int) := hJ.sp 1 p1
          have q23 := hF.slot 1 23 rfl p1
          exact run_val (v := .pointer (some ⟨g, o + i * 2, none⟩)) rfl (by simp [execOp, go_sem, q22, s0, q23, s1, HI2.out]) ⟨_, rfl, hJ.step hL rfl (Below.refl _ _) (by exact rfl)⟩
        · intro L vs a w' hJ hF hP hL
          have p2 : L 2 = true := hP ⟨2, .data⟩ (by simp) rfl
          have s2 : vs 2 = .pointer (some ⟨g, o + i * 2, none⟩) := hJ.sp 2 p2
          have q24 := hF.slot 2 24 rfl p2
          exact run_val (v := .pointer (some ⟨g, o + i * 2, none⟩)) rfl (by simp [execOp, go_sem, q24, s2]) ⟨_, rfl, hJ.step hL rfl (Below.refl _ _) (by exact rfl)⟩
        · intro L vs a w' hJ hF hP hL
          have p3 : L 3 = true := hP ⟨3, .data⟩ (by simp) rfl
          have s3 : vs 3 = .pointer (some ⟨g, o + i * 2, none⟩) := hJ.sp 3 p3
          have q25 := hF.slot 3 25 rfl p3
          have cb := cell_later hJ.bel K0
          exact run_val (v := .int .i64 (F i 0)) rfl (by simp [execOp, go_sem, q25, s3, cb]) ⟨_, rfl, hJ.step hL rfl (Below.refl _ _) (by exact rfl)⟩
        · intro L vs a w' hJ hF hP hL
          have p4 : L 4 = true := hP ⟨4, .data⟩ (by simp) rfl
          have s4 : vs 4 = .int .i64 (F i 0) := hJ.sp 4 p4
          have q26 := hF.slot 4 26 rfl p4
          exact run_val (v := .int .i64 (z1 : Int)) rfl (by simp [execOp, go_sem, q26, s4, hm1]) ⟨_, rfl, hJ.step hL rfl (Below.refl _ _) (by exact rfl)⟩
        · intro L vs a w' hJ hF hP hL
          have q0 : (a.tmps[0]?).getD undef = .slice (some ⟨g, o, none⟩) n0 cap0 := hF.old 0 rfl
          exact run_val (v := .slice (some ⟨g, o, none⟩) n0 cap0) rfl (by simp [execOp, go_sem, q0]) ⟨_, rfl, hJ.step hL rfl (Below.refl _ _) (by exact rfl)⟩
        · intro L vs a w' hJ hF hP hL
          have q6 : (a.tmps[6]?).getD undef = .int .i64 (i : Int) := hF.old 6 rfl
          exact run_val (v := .int .i64 (i : Int)) rfl (by simp [execOp, go_sem, q6]) ⟨_, rfl, hJ.step hL rfl (Below.refl _ _) (by exact rfl)⟩
        · intro L vs a w' hJ hF hP hL
          have p6 : L 6 = true := hP ⟨6, .data⟩ (by simp) rfl
          have s6 : vs 6 = .slice (some ⟨g, o, none⟩) n0 cap0 := hJ.sp 6 p6
          have q28 := hF.slot 6 28 rfl p6
          have p7 : L 7 = true := hP ⟨7, .data⟩ (by simp) rfl
          have s7 : vs 7 = .int .i64 (i : Int) := hJ.sp 7 p7
          have q29 := hF.slot 7 29 rfl p7
          exact run_val (v := .pointer (some ⟨g, o + i * 2, none⟩)) rfl (by simp [execOp, go_sem, q28, s6, q29, s7, HI2.out]) ⟨_, rfl, hJ.step hL rfl (Below.refl _ _) (by exact rfl)⟩
        · intro L vs a w' hJ hF hP hL
          have p8 : L 8 = true := hP ⟨8, .data⟩ (by simp) rfl
          have s8 : vs 8 = .pointer (some ⟨g, o + i * 2, none⟩) := hJ.sp 8 p8
          have q30 := hF.slot 8 30 rfl p8
          exact run_val (v := .pointer (some ⟨g, o + i * 2 + 1, none⟩)) rfl (by simp [execOp, go_sem, q30, s8]) ⟨_, rfl, hJ.step hL rfl (Below.refl _ _) (by exact rfl)⟩
        · intro L vs a w' hJ hF hP hL
          have p9 : L 9 = true := hP ⟨9, .data⟩ (by simp) rfl
          have s9 : vs 9 = .pointer (some ⟨g, o + i * 2 + 1, none⟩) := hJ.sp 9 p9
          have q31 := hF.slot 9 31 rfl p9
          have cb := cell_later hJ.bel K1
          exact run_val (v := .int .i64 (F i 1)) rfl (by simp [execOp, go_sem, q31, s9, cb]) ⟨_, rfl, hJ.step hL rfl (Below.refl _ _) (by exact rfl)⟩
        · intro L vs a w' hJ hF hP hL
          have p10 : L 10 = true := hP ⟨10, .data⟩ (by simp) rfl
          have s10 : vs 10 = .int .i64 (F i 1) := hJ.sp 10 p10
          have q32 := hF.slot 10 32 rfl p10
          exact run_val (v := .int .i64 (z2 : Int)) rfl (by simp [execOp, go_sem, q32, s10, hm2]) ⟨_, rfl, hJ.step hL rfl (Below.refl _ _) (by exact rfl)⟩
        · intro L vs a w' hJ hF hP hL
          have p11 : L 11 = true := hP ⟨11, .data⟩ (by simp) rfl
          have s11 : vs 11 = .int .i64 (z2 : Int) := hJ.sp 11 p11
          have q33 := hF.slot 11 33 rfl p11
          exact run_val (v := .int .i64 (1 + (z2 : Int))) rfl (by simp [execOp, go_sem, q33, s11, hw2]) ⟨_, rfl, hJ.step hL rfl (Below.refl _ _) (by exact rfl)⟩
        · intro L vs a w' hJ hF hP hL
          have p5 : L 5 = true := hP ⟨5, .data⟩ (by simp) rfl
          have s5 : vs 5 = .int .i64 (z1 : Int) := hJ.sp 5 p5
          have q27 := hF.slot 5 27 rfl p5
          have p12 : L 12 = true := hP ⟨12, .data⟩ (by simp) rfl
          have s12 : vs 12 = .int .i64 (1 + (z2 : Int)) := hJ.sp 12 p12
          have q34 := hF.slot 12 34 rfl p12
          refine run_call (f := 20) (args := #[.int .i64 (z1 : Int), .int .i64 (1 + (z2 : Int))]) rfl (by simp [go_sem, q27, s5, q34, s12]) (CO.out _ (HT.out.go (bel_go S1.out.bel hJ.bel))) ?_
          rintro e w2 ⟨v1, rfl, h1, hb⟩
          exact ⟨_, rfl, _, rfl, hJ.step hL rfl hb (by exact ⟨v1, rfl, h1⟩)⟩
        · intro L vs a w' hJ hF hP hL
          have p13 : L 13 = true := hP ⟨13, .data⟩ (by simp) rfl
          have s13 : ∃ p, vs 13 = .tuple #[p, .bool true] ∧ Rt w' p (shX F i) (shY F i) := hJ.sp 13 p13
          have q35 := hF.slot 13 35 rfl p13
          exact run_val (v := vs 13) rfl (by simp [execOp, go_sem, q35]) ⟨_, rfl, hJ.step hL rfl (Below.refl _ _) (by exact s13)⟩
        · intro L vs a w' hJ hF hP hL
          have p14 : L 14 = true := hP ⟨14, .data⟩ (by simp) rfl
          have s14 : ∃ p, vs 14 = .tuple #[p, .bool true] ∧ Rt w' p (shX F i) (shY F i) := hJ.sp 14 p14
          have q21 := hF.slot 14 21 rfl p14
          obtain ⟨vp, e1, e2⟩ := s14
          exact run_val (v := vp) rfl (by simp [execOp, go_sem, q21, e1]) ⟨_, rfl, hJ.step hL rfl (Below.refl _ _) (by exact e2)⟩
        · intro L vs a w' hJ hF hP hL
          have p14 : L 14 = true := hP ⟨14, .data⟩ (by simp) rfl
          have s14 : ∃ p, vs 14 = .tuple #[p, .bool true] ∧ Rt w' p (shX F i) (shY F i) := hJ.sp 14 p14
          have q21 := hF.slot 14 21 rfl p14
          obtain ⟨vp, e1, e2⟩ := s14
          exact run_val (v := .bool true) rfl (by simp [execOp, go_sem, q21, e1]) ⟨_, rfl, hJ.step hL rfl (Below.refl _ _) (by exact rfl)⟩
        · intro L vs a w' hJ hF hP hL
          exact run_val (v := .pointer (some ⟨w'.heap.size, 0, none⟩)) (w' := w'.alloc (.cells #[.slice none 0 0, .slice none 0 0] 47)) rfl (by simp [execOp, go_sem]) ⟨_, rfl, hJ.alloc hL rfl (by decide) rfl _⟩
        · intro L vs a w' hJ hF hP hL
          have p17 : L 17 = true := hP ⟨17, .data⟩ (by simp) rfl
          have q7 := hF.slot 17 7 rfl p17
          have p15 : L 15 = true := hP ⟨15, .data⟩ (by simp) rfl
          have s15 : Rt w' (vs 15) (shX F i) (shY F i) := hJ.sp 15 p15
          have q36 := hF.slot 15 36 rfl p15
          obtain ⟨bk, e1, e2, e3, e4, e4', e5, e6⟩ := hJ.bx p17
          obtain ⟨e7, e7'⟩ := e5 hL
          obtain ⟨aa, nn, cc, a2, n2, c2, e8, _, _⟩ := s15.raw
          exact run_unit (w' := (w'.setCell ⟨bk, 0, none⟩ (.slice aa nn cc)).setCell ⟨bk, 1, none⟩ (.slice a2 n2 c2)) rfl (by simp [execOp, go_sem, q7, q36, e1, e8, e7, e4, e7', e4']) ⟨undef, rfl, hJ.store hL p17 p15 (by decide) rfl e1 e8⟩
        · intro L vs a w' hJ hF hP hL
          have p16 : L 16 = true := hP ⟨16, .data⟩ (by simp) rfl
          have s16 : vs 16 = .bool true := hJ.sp 16 p16
          have q37 := hF.slot 16 37 rfl p16
          exact run_val (v := .bool true) rfl (by simp [execOp, go_sem, q37, s16]) ⟨_, rfl, hJ.step hL rfl (Below.refl _ _) (by exact rfl)⟩
        intro L vs w' hA hJ
        have s15 : Rt w' (vs 15) (shX F i) (shY F i) := hJ.sp 15 (hA 15 (by simp))
        have s16 : vs 16 = .bool true := hJ.sp 16 (hA 16 (by simp))
        obtain ⟨bk17, eb17, ge17, lt17, fz17, fz17', _, e6⟩ := hJ.bx (hA 17 (by simp))
        obtain ⟨_, u17, u17', eu17, ce17, ce17'⟩ := e6 (hA 18 (by simp))
        clear e6
        simp only [putL, Act.put, List.setIfInBounds_toArray, List.set_cons_zero, List.set_cons_succ, Nat.reduceAdd]
        have s15r := s15.raw
        obtain ⟨a7, n7, c7, d7, m7, g7, ev, _, _⟩ := s15r
        rw [ev] at s15 eu17
        obtain ⟨rfl, rfl⟩ : u17 = .slice a7 n7 c7 ∧ u17' = .slice d7 m7 g7 := by simpa [eq_comm] using eu17
        simp only [eb17, s16]
        have S2 : Hid (ShS w w' (shX F) (shY F) i i u4 u5 La Lb) := S1.out.go hJ.bel
        obtain ⟨w6, ew⟩ : ∃ w6, w6 = w' := ⟨_, rfl⟩
        obtain ⟨b7, eb⟩ : ∃ b7, b7 = bk17 := ⟨_, rfl⟩
        have B7 : Hid (Below wr.heap.size wr w') := hJ.bel
        have R7 : Hid (Rt w' (.agg #[.slice a7 n7 c7, .slice d7 m7 g7]) (shX F i) (shY F i)) := s15
        have G7 : Hid (wr.heap.size ≤ bk17) := ge17
        rw [← ew] at S2 B7 R7 ce17 ce17'
        rw [← eb] at G7 ce17 ce17'
        rw [← ew, ← eb]
        have C7 : Hid (w6.cell? ⟨b7, 0, none⟩ = some (.slice a7 n7 c7) ∧ w6.cell? ⟨b7, 1, none⟩ = some (.slice d7 m7 g7)) := ⟨ce17, ce17'⟩
        have KB : Hid (Below wr.heap.size wr w6) := B7.out
        have O4 : Hid (∀ k, u4.ownBlock = some k → k < wr.heap.size) := fun k e => by
          obtain ⟨_, cs, e2⟩ := S1.out.ra.row.own e
          exact (Array.getElem?_eq_some_iff.1 e2).1
        clear ew eb ev s15 s16 eu17 eb17 ce17 ce17' ge17 lt17 fz17 fz17' hJ hA S1
        go_upto_region 7 with fail
        refine wp_region_inv (JC w6 [sEq (.slice (some ⟨g, o, none⟩) n0 cap0), sEq (.int .i64 (i : Int)), sEq (.pointer (some ⟨g, o + i * 2, none⟩)), sEq (.pointer (some ⟨g, o + i * 2, none⟩)), sEq (.int .i64 (F i 0)), sEq (.int .i64 (z1 : Int)), sEq (.slice (some ⟨g, o, none⟩) n0 cap0), sEq (.int .i64 (i : Int)), sEq (.pointer (some ⟨g, o + i * 2, none⟩)), sEq (.pointer (some ⟨g, o + i * 2 + 1, none⟩)), sEq (.int .i64 (F i 1)), sEq (.int .i64 (z2 : Int)), sEq (.int .i64 (1 + (z2 : Int))), sRRtB (shX F i) (shY F i) true, sRRtB (shX F i) (shY F i) true, sRRt (shX F i) (shY F i), sEq (.bool true), sAny, sAny, sEq (.bool true)] (17, 18, 15)) 65 (by kernel_rfl) rfl (by kernel_rfl) (JC.start _ _ _) (fun HG HN => ⟨?_, ?_, ?_, ?_, ?_, ?_, ?_, ?_, ?_, ?_, ?_, ?_, ?_, ?_, ?_, ?_, ?_, ?_, ?_, ?_, trivial⟩) ?_
        · intro L vs a w' hJ hF hP hL
          have q0 : (a.tmps[0]?).getD undef = .slice (some ⟨g, o, none⟩) n0 cap0 := hF.old 0 rfl
          exact run_val (v := .slice (some ⟨g, o, none⟩) n0 cap0) rfl (by simp [execOp, go_sem, q0]) ⟨_, rfl, hJ.step hL rfl (Below.refl _ _) (by exact rfl)⟩
        · intro L vs a w' hJ hF hP hL
          have q6 : (a.tmps[6]?).getD undef = .int .i64 (i : Int) := hF.old 6 rfl
          exact run_val (v := .int .i64 (i : Int)) rfl (by simp [execOp, go_sem, q6]) ⟨_, rfl, hJ.step hL rfl (Below.refl _ _) (by exact rfl)⟩
        · intro L vs a w' hJ hF hP hL
          have p0 : L 0 = true := hP ⟨0, .data⟩ (by simp) rfl
          have s0 : vs 0 = .slice (some ⟨g, o, none⟩) n0 cap0 := hJ.sp 0 p0
          have q39 := hF.slot 0 39 rfl p0
          have p1 : L 1 = true := hP ⟨1, .data⟩ (by simp) rfl
          have s1 : vs 1 = .int .i64 (i : Int) := hJ.sp 1 p1
          have q40 := hF.slot 1 40 rfl p1
          exact run_val (v := .pointer (some ⟨g, o + i * 2, none⟩)) rfl (by simp [execOp, go_sem, q39, s0, q40, s1, HI2.out]) ⟨_, rfl, hJ.step hL rfl (Below.refl _ _) (by exact rfl)⟩
        · intro L vs a w' hJ hF hP hL
          have p2 : L 2 = true := hP ⟨2, .data⟩ (by simp) rfl
          have s2 : vs 2 = .pointer (some ⟨g, o + i * 2, none⟩) := hJ.sp 2 p2
          have q41 := hF.slot 2 41 rfl p2
          exact run_val (v := .pointer (some ⟨g, o + i * 2, none⟩)) rfl (by simp [execOp, go_sem, q41, s2]) ⟨_, rfl, hJ.step hL rfl (Below.refl _ _) (by exact rfl)⟩
        · intro L vs a w' hJ hF hP hL
          have p3 : L 3 = true := hP ⟨3, .data⟩ (by simp) rfl
          have s3 : vs 3 = .pointer (some ⟨g, o + i * 2, none⟩) := hJ.sp 3 p3
          have q42 := hF.slot 3 42 rfl p3
          have cb := cell_later (bel_go KB.out hJ.bel) K0
          exact run_val (v := .int .i64 (F i 0)) rfl (by simp [execOp, go_sem, q42, s3, cb]) ⟨_, rfl, hJ.step hL rfl (Below.refl _ _) (by exact rfl)⟩
        · intro L vs a w' hJ hF hP hL
          have p4 : L 4 = true := hP ⟨4, .data⟩ (by simp) rfl
          have s4 : vs 4 = .int .i64 (F i 0) := hJ.sp 4 p4
          have q43 := hF.slot 4 43 rfl p4
          exact run_val (v := .int .i64 (z1 : Int)) rfl (by simp [execOp, go_sem, q43, s4, hm1]) ⟨_, rfl, hJ.step hL rfl (Below.refl _ _) (by exact rfl)⟩
        · intro L vs a w' hJ hF hP hL
          have q0 : (a.tmps[0]?).getD undef = .slice (some ⟨g, o, none⟩) n0 cap0 := hF.old 0 rfl
          exact run_val (v := .slice (some ⟨g, o, none⟩) n0 cap0) rfl (by simp [execOp, go_sem, q0]) ⟨_, rfl, hJ.step hL rfl (Below.refl _ _) (by exact rfl)⟩
        · intro L vs a w' hJ hF hP hL
          have q6 : (a.tmps[6]?).getD undef = .int .i64 (i : Int) := hF.old 6 rfl
          exact run_val (v := .int .i64 (i : Int)) rfl (by simp [execOp, go_sem, q6]) ⟨_, rfl, hJ.step hL rfl (Below.refl _ _) (by exact rfl)⟩
        · intro L vs a w' hJ hF hP hL
          have p6 : L 6 = true := hP ⟨6, .data⟩ (by simp) rfl
          have s6 : vs 6 = .slice (some ⟨g, o, none⟩) n0 cap0 := hJ.sp 6 p6
          have q45 := hF.slot 6 45 rfl p6
          have p7 : L 7 = true := hP ⟨7, .data⟩ (by simp) rfl
          have s7 : vs 7 = .int .i64 (i : Int) := hJ.sp 7 p7
          have q46 := hF.slot 7 46 rfl p7
          exact run_val (v := .pointer (some ⟨g, o + i * 2, none⟩)) rfl (by simp [execOp, go_sem, q45, s6, q46, s7, HI2.out]) ⟨_, rfl, hJ.step hL rfl (Below.refl _ _) (by exact rfl)⟩
        · intro L vs a w' hJ hF hP hL
          have p8 : L 8 = true := hP ⟨8, .data⟩ (by simp) rfl
          have s8 : vs 8 = .pointer (some ⟨g, o + i * 2, none⟩) := hJ.sp 8 p8
          have q47 := hF.slot 8 47 rfl p8
          exact run_val (v := .pointer (some ⟨g, o + i * 2 + 1, none⟩)) rfl (by simp [execOp, go_sem, q47, s8]) ⟨_, rfl, hJ.step hL rfl (Below.refl _ _) (by exact rfl)⟩
        · intro L vs a w' hJ hF hP hL
          have p9 : L 9 = true := hP ⟨9, .data⟩ (by simp) rfl
          have s9 : vs 9 = .pointer (some ⟨g, o + i * 2 + 1, none⟩) := hJ.sp 9 p9
          have q48 := hF.slot 9 48 rfl p9
          have cb := cell_later (bel_go KB.out hJ.bel) K1
          exact run_val (v := .int .i64 (F i 1)) rfl (by simp [execOp, go_sem, q48, s9, cb]) ⟨_, rfl, hJ.step hL rfl (Below.refl _ _) (by exact rfl)⟩
        · intro L vs a w' hJ hF hP hL
          have p10 : L 10 = true := hP ⟨10, .data⟩ (by simp) rfl
          have s10 : vs 10 = .int .i64 (F i 1) := hJ.sp 10 p10
          have q49 := hF.slot 10 49 rfl p10
          exact run_val (v := .int .i64 (z2 : Int)) rfl (by simp [execOp, go_sem, q49, s10, hm2]) ⟨_, rfl, hJ.step hL rfl (Below.refl _ _) (by exact rfl)⟩
        · intro L vs a w' hJ hF hP hL
          have p11 : L 11 = true := hP ⟨11, .data⟩ (by simp) rfl
          have s11 : vs 11 = .int .i64 (z2 : Int) := hJ.sp 11 p11
          have q50 := hF.slot 11 50 rfl p11
          exact run_val (v := .int .i64 (1 + (z2 : Int))) rfl (by simp [execOp, go_sem, q50, s11, hw2]) ⟨_, rfl, hJ.step hL rfl (Below.refl _ _) (by exact rfl)⟩
        · intro L vs a w' hJ hF hP hL
          have p5 : L 5 = true := hP ⟨5, .data⟩ (by simp) rfl
          have s5 : vs 5 = .int .i64 (z1 : Int) := hJ.sp 5 p5
          have q44 := hF.slot 5 44 rfl p5
          have p12 : L 12 = true := hP ⟨12, .data⟩ (by simp) rfl
          have s12 : vs 12 = .int .i64 (1 + (z2 : Int)) := hJ.sp 12 p12
          have q51 := hF.slot 12 51 rfl p12
          refine run_call (f := 25) (args := #[.int .i64 (z1 : Int), .int .i64 (1 + (z2 : Int))]) rfl (by simp [go_sem, q44, s5, q51, s12]) (CO2.out _) ?_
          rintro e w2 ⟨v1, rfl, h1, hb⟩
          exact ⟨_, rfl, _, rfl, hJ.step hL rfl hb (by exact ⟨v1, rfl, h1⟩)⟩
        · intro L vs a w' hJ hF hP hL
          have p13 : L 13 = true := hP ⟨13, .data⟩ (by simp) rfl
          have s13 : ∃ p, vs 13 = .tuple #[p, .bool true] ∧ RRt w' p (shX F i) (shY F i) := hJ.sp 13 p13
          have q52 := hF.slot 13 52 rfl p13
          exact run_val (v := vs 13) rfl (by simp [execOp, go_sem, q52]) ⟨_, rfl, hJ.step hL rfl (Below.refl _ _) (by exact s13)⟩
        · intro L vs a w' hJ hF hP hL
          have p14 : L 14 = true := hP ⟨14, .data⟩ (by simp) rfl
          have s14 : ∃ p, vs 14 = .tuple #[p, .bool true] ∧ RRt w' p (shX F i) (shY F i) := hJ.sp 14 p14
          have q38 := hF.slot 14 38 rfl p14
          obtain ⟨vp, e1, e2⟩ := s14
          exact run_val (v := vp) rfl (by simp [execOp, go_sem, q38, e1]) ⟨_, rfl, hJ.step hL rfl (Below.refl _ _) (by exact e2)⟩
        · intro L vs a w' hJ hF hP hL
          have p14 : L 14 = true := hP ⟨14, .data⟩ (by simp) rfl
          have s14 : ∃ p, vs 14 = .tuple #[p, .bool true] ∧ RRt w' p (shX F i) (shY F i) := hJ.sp 14 p14
          have q38 := hF.slot 14 38 rfl p14
          obtain ⟨vp, e1, e2⟩ := s14
          exact run_val (v := .bool true) rfl (by simp [execOp, go_sem, q38, e1]) ⟨_, rfl, hJ.step hL rfl (Below.refl _ _) (by exact rfl)⟩
        · intro L vs a w' hJ hF hP hL
          exact run_val (v := .pointer (some ⟨w'.heap.size, 0, none⟩)) (w' := w'.alloc (.cells #[.slice none 0 0, .slice none 0 0] 53)) rfl (by simp [execOp, go_sem]) ⟨_, rfl, hJ.alloc hL rfl (by decide) rfl _⟩
        · intro L vs a w' hJ hF hP hL
          have p17 : L 17 = true := hP ⟨17, .data⟩ (by simp) rfl
          have q9 := hF.slot 17 9 rfl p17
          have p15 : L 15 = true := hP ⟨15, .data⟩ (by simp) rfl
          have s15 : RRt w' (vs 15) (shX F i) (shY F i) := hJ.sp 15 p15
          have q53 := hF.slot 15 53 rfl p15
          obtain ⟨bk, e1, e2, e3, e4, e4', e5, e6⟩ := hJ.bx p17
          obtain ⟨e7, e7'⟩ := e5 hL
          have s15' := s15
          obtain ⟨aa, nn, cc, a2, n2, c2, e8, _, _⟩ := s15'
          exact run_unit (w' := (w'.setCell ⟨bk, 0, none⟩ (.slice aa nn cc)).setCell ⟨bk, 1, none⟩ (.slice a2 n2 c2)) rfl (by simp [execOp, go_sem, q9, q53, e1, e8, e7, e4, e7', e4']) ⟨undef, rfl, hJ.store hL p17 p15 (by decide) rfl e1 e8⟩
        · intro L vs a w' hJ hF hP hL
          have p16 : L 16 = true := hP ⟨16, .data⟩ (by simp) rfl
          have s16 : vs 16 = .bool true := hJ.sp 16 p16
          have q54 := hF.slot 16 54 rfl p16
          exact run_val (v := .bool true) rfl (by simp [execOp, go_sem, q54, s16]) ⟨_, rfl, hJ.step hL rfl (Below.refl _ _) (by exact rfl)⟩
        intro L vs w' hA hJ
        have s15 : RRt w' (vs 15) (shX F i) (shY F i) := hJ.sp 15 (hA 15 (by simp))
        have s16 : vs 16 = .bool true := hJ.sp 16 (hA 16 (by simp))
        obtain ⟨bk17, eb17, ge17, lt17, fz17, fz17', _, e6⟩ := hJ.bx (hA 17 (by simp))
        obtain ⟨_, u17, u17', eu17, ce17, ce17'⟩ := e6 (hA 18 (by simp))
        clear e6
        simp only [putL, Act.put, List.setIfInBounds_toArray, List.set_cons_zero, List.set_cons_succ, Nat.reduceAdd]
        have s15r := s15
        obtain ⟨a9, n9, c9, d9, m9, g9, ev, _, _⟩ := s15r
        rw [ev] at s15 eu17
        obtain ⟨rfl, rfl⟩ : u17 = .slice a9 n9 c9 ∧ u17' = .slice d9 m9 g9 := by simpa [eq_comm] using eu17
        simp only [eb17, s16]
        have S3 : Hid (ShS w w' (shX F) (shY F) i i u4 u5 La Lb) := S2.out.go hJ.bel
        obtain ⟨w7, ew⟩ : ∃ w7, w7 = w' := ⟨_, rfl⟩
        obtain ⟨b9, eb⟩ : ∃ b9, b9 = bk17 := ⟨_, rfl⟩
        have B9 : Hid (Below w6.heap.size w6 w') := hJ.bel
        have R9 : Hid (RRt w' (.agg #[.slice a9 n9 c9, .slice d9 m9 g9]) (shX F i) (shY F i)) := s15
        have G9 : Hid (w6.heap.size ≤ bk17) := ge17
        rw [← ew] at S3 B9 R9 ce17 ce17'
        rw [← eb] at G9 ce17 ce17'
        rw [← ew, ← eb]
        have C9 : Hid (w7.cell? ⟨b9, 0, none⟩ = some (.slice a9 n9 c9) ∧ w7.cell? ⟨b9, 1, none⟩ = some (.slice d9 m9 g9)) := ⟨ce17, ce17'⟩
        have R7b : Hid (Rt w7 (.agg #[.slice a7 n7 c7, .slice d7 m7 g7]) (shX F i) (shY F i)) := R7.out.mono B9.out
        have C7b : Hid (w7.cell? ⟨b7, 0, none⟩ = some (.slice a7 n7 c7) ∧ w7.cell? ⟨b7, 1, none⟩ = some (.slice d7 m7 g7)) := ⟨cell_later B9.out C7.out.1, cell_later B9.out C7.out.2⟩
        clear ew eb ev s15 s16 eu17 eb17 ce17 ce17' ge17 lt17 fz17 fz17' hJ hA S2
        have y0 := C7b.out.1
        have y1 := C7b.out.2
        have bl := bel_al (o := .cells #[.slice a7 n7 c7, .slice d7 m7 g7] 47) (bel_refl w7)
        have S4 : Hid (ShS w (w7.alloc (.cells #[.slice a7 n7 c7, .slice d7 m7 g7] 47)) (shX F) (shY F) i i u4 u5 La Lb) := S3.out.go bl
        have hla := S3.out.la
        have hlb := S3.out.lb
        go_upto_region 9 with (refine (id ?_ : wpList Tryz.prog _ _ (⟨some 58, _, _, _, _, _⟩ :: _) _ _); refine wp_appF rfl (.tmp 55) (.tmp 57) rfl w.heap.size u4 La rfl S4.out.ra w7.heap.size (.slice a7 n7 c7, .slice d7 m7 g7) rfl (by simp [go_sem]) (by simp [go_sem]) ⟨_, _, _, rfl⟩ ⟨_, _, _, rfl⟩ (by omega) S4.out.bel.size ?_; intro v8 w8 HG8)
        obtain ⟨hfo, hgr⟩ := HG8.out
        have S5 : Hid (ShS w w8 (shX F) (shY F) (i + 1) i v8 u5 (La ++ [(.slice a7 n7 c7, .slice d7 m7 g7)]) Lb) := S4.out.appA (R7b.out.mono bl) hfo hgr
        have hblk : w8.heap[b9]? = w7.heap[b9]? := (hgr.block b9 (Nat.lt_of_lt_of_le (World.block_lt_of_cell? _ ⟨b9, 0, none⟩ C9.out.1) bl.size) (fun e => by
          have h1 := O4.out b9 e.symm
          have h2 := G9.out
          have h3 := B7.out.size
          omega)).trans (bl.block b9 (World.block_lt_of_cell? _ ⟨b9, 0, none⟩ C9.out.1))
        have y2 : w8.cell? ⟨b9, 0, none⟩ = some (.slice a9 n9 c9) := (World.cell?_of_block (a := ⟨b9, 0, none⟩) hblk).trans C9.out.1
        have y3 : w8.cell? ⟨b9, 1, none⟩ = some (.slice d9 m9 g9) := (World.cell?_of_block (a := ⟨b9, 1, none⟩) hblk).trans C9.out.2
        have R9b : Hid (RRt w8 (.agg #[.slice a9 n9 c9, .slice d9 m9 g9]) (shX F i) (shY F i)) := (R9.out.mono bl).fb (fb_grown hgr) S4.out.ra.oddK
        clear hfo hgr hblk y0 y1
        have bl8 := bel_al (o := .cells #[.slice a9 n9 c9, .slice d9 m9 g9] 53) (bel_refl w8)
        have S6 : Hid (ShS w (w8.alloc (.cells #[.slice a9 n9 c9, .slice d9 m9 g9] 53)) (shX F) (shY F) (i + 1) i v8 u5 (La ++ [(.slice a7 n7 c7, .slice d7 m7 g7)]) Lb) := S5.out.go bl8
        go_wp2_with (refine (id ?_ : wpList Tryz.prog _ _ (⟨some 62, _, _, _, _, _⟩ :: _) _ _); refine wp_appF2 rfl (.tmp 59) (.tmp 61) rfl w.heap.size u5 Lb rfl S6.out.rb w8.heap.size (.slice a9 n9 c9, .slice d9 m9 g9) rfl (by simp [go_sem]) (by simp [go_sem]) ⟨_, _, _, rfl⟩ ⟨_, _, _, rfl⟩ (by omega) S6.out.bel.size ?_; intro v9 w9 HG9)
        obtain ⟨hfo9, hgr9⟩ := HG9.out
        have S7 : Hid (ShS w w9 (shX F) (shY F) (i + 1) (i + 1) v8 v9 (La ++ [(.slice a7 n7 c7, .slice d7 m7 g7)]) (Lb ++ [(.slice a9 n9 c9, .slice d9 m9 g9)])) := S6.out.appB (R9b.out.mono bl8) hfo9 hgr9
        go_roundw
        case rel => exact ⟨i + 1, _, _, by omega, by go_num, S7.out⟩
        case measure => simp [intOf]; omega
      have hmin : i = min n0 12 := by omega
      go_wp2_with fail
      exact bodyPost_ret (v := .tuple #[u4, u5]) (by simp [results, Tryz.results8, go_sem]) rfl ⟨u4, u5, La, Lb, rfl, hmin ▸ S1.out⟩
    have hmin : i = min n0 12 := by omega
    go_wp2_with fail
    exact bodyPost_ret (v := .tuple #[u4, u5]) (by simp [results, Tryz.results8, go_sem]) rfl ⟨u4, u5, La, Lb, rfl, hmin ▸ S1.out⟩
def JnP (N D : Nat → Nat) (n : Nat) (x y : Nat) (ok : Bool) : Prop := ok = decide (0 < nu2 N D n) ∧ RS x ∧ RS y ∧ (nu2 N D n = 0 → x = 0 ∧ y = 1) ∧ (0 < nu2 N D n → Fc x y (nu1 N D n * nu1 N D n) (nu2 N D n * n) 64)
theorem fc_low (x y : Nat) (hy : 0 < y) (h1 : x < P 1) (h2 : y < P 1) : Fc (x / Nat.gcd x y) (y / Nat.gcd x y) x y 1 := by
  have g0 : 0 < Nat.gcd x y := Nat.gcd_pos_of_pos_right _ hy
  refine ⟨?_, Nat.div_pos (Nat.gcd_le_right _ hy) g0, hy, ?_, Nat.lt_of_le_of_lt (Nat.div_le_self _ _) h1, Nat.lt_of_le_of_lt (Nat.div_le_self _ _) h2⟩
  · rw [Nat.gcd_div (Nat.gcd_dvd_left _ _) (Nat.gcd_dvd_right _ _), Nat.div_self g0]
  obtain ⟨a, ha⟩ := Nat.gcd_dvd_left x y
  obtain ⟨b, hb⟩ := Nat.gcd_dvd_right x y
  generalize Nat.gcd x y = g at *
  subst ha hb
  rw [Nat.mul_div_cancel_left _ g0, Nat.mul_div_cancel_left _ g0]
  grind
theorem fq_sh (F : Nat → Nat → Int) (n : Nat) (hn : n ≤ 15) : Fq n (shX F) (shY F) (shN F) (shD F) := by
  refine ⟨hn, fun i hi => ?_, fun i hi => ?_⟩
  · have h := sh_le F i
    exact fc_low _ _ (by omega) (by rw [P_one]; omega) (by rw [P_one]; omega)
  have h := sh_le F i
  rw [P_one]
  omega
def RiG (v : Value) : Option (DataW Unit × List MemPlace) := match v with
  | .int .i64 n => some (.lit (.int .i64 n), [])
  | _ => none
theorem RiG_mk (n : Int) : RiG (.int .i64 n) = some (.lit (.int .i64 n), []) := rfl
theorem RiG_inv {v : Value} {n : Int} {ps : List MemPlace} (h : RiG v = some (.lit (.int .i64 n), ps)) : v = .int .i64 n := by
  unfold RiG at h
  split at h
  · simp at h
    rw [h.1]
  cases h
theorem wf_64g {i : Int} (h : -9223372036854775808 ≤ i) (h2 : i ≤ 9223372036854775807) : (Lit.int .i64 i).wf = true := by
  have hmin : IntKind.i64.min = -9223372036854775808 := rfl
  have hmax : IntKind.i64.max = 9223372036854775807 := rfl
  have : IntKind.i64.min ≤ i ∧ i ≤ IntKind.i64.max := by rw [hmin, hmax]; exact ⟨h, h2⟩
  simpa [Lit.wf] using this
def cntL (L : List Nat) (i : Int) : Nat := L.countP fun (d : Nat) => decide ((d : Int) = i)
theorem cntL_le (L : List Nat) (i : Int) : cntL L i ≤ L.length := List.countP_le_length
theorem cntL_app (L : List Nat) (d : Nat) (i : Int) : cntL (L ++ [d]) i = cntL L i + if (d : Int) = i then 1 else 0 := by
  unfold cntL
  rw [List.countP_append]
  congr 1
  by_cases h : (d : Int) = i <;> simp [h]
theorem cntL_pos {L : List Nat} {i : Int} : 0 < cntL L i ↔ ∃ d ∈ L, (d : Int) = i := by
  unfold cntL
  rw [List.countP_pos_iff]
  simp
def McG (W : World) (mb : Nat) (L : List Nat) : Prop :=
  ∃ (D : DataW Unit) (n : Nat), W.ownsMap Tryz.prog 3 RiG mb n D ∧ n ≤ L.length ∧ (∀ i : Int, D.atKey (.int .i64 i) (.lit (.int .i64 0)) = .lit (.int .i64 (cntL L i))) ∧ ∀ i : Int, Maps.has D (.int .i64 i) = true ↔ 0 < cntL L i
theorem McG.kept {W W' : World} {mb : Nat} {L : List Nat} (h : McG W mb L) (hk : W'.heap[mb]? = W.heap[mb]?) : McG W' mb L := by
  obtain ⟨D, n, ⟨es, clock, hb, r⟩, hD⟩ := h
  exact ⟨D, n, ⟨es, clock, hk.trans hb, r⟩, hD⟩
theorem McG.block {W : World} {mb : Nat} {L : List Nat} (h : McG W mb L) : ∃ es clock, W.heap[mb]? = some (.map es clock) := by
  obtain ⟨D, n, ⟨es, clock, hb, r⟩, hD⟩ := h
  exact ⟨_, _, hb⟩
theorem McG.lt {W : World} {mb : Nat} {L : List Nat} (h : McG W mb L) : mb < W.heap.size := by
  obtain ⟨es, clock, hb⟩ := h.block
  exact (Array.getElem?_eq_some_iff.1 hb).1
theorem McG.go {W W' : World} {mb : Nat} {L : List Nat} (h : McG W mb L) (hb : Below W.heap.size W W') : McG W' mb L := h.kept (hb.block _ h.lt)
theorem McG.made (W : World) : McG (W.alloc (.map #[] 0)) W.heap.size [] := ⟨.map [], 0, World.ownsMap_made _ _ _ _, Nat.le_refl _, fun _ => rfl, fun _ => by simp [Maps.has_eq, cntL]⟩
theorem McG.look {W : World} {mb : Nat} {L : List Nat} (h : McG W mb L) {t e : TypeId} (ht : Tryz.prog.underlying t = some (.map 3 e)) (hz : (zeroValue e).run Tryz.prog W = .ok (.int .i64 0) W) {i : Int} (h1 : -9223372036854775808 ≤ i) (h2 : i ≤ 9223372036854775807) :
    (Instr.lookup t (.map (some mb)) (.int .i64 i) false).run Tryz.prog W = .ok (.int .i64 (cntL L i)) W := by
  obtain ⟨D, n, hD, hn, r, _⟩ := h
  obtain ⟨v, ps, hr, hv⟩ := hD.lookup (Maps.int_keyed Tryz.underlying3) ht hz (zd := .lit (.int .i64 0)) (zp := []) rfl (Maps.keyOf_int_mk Tryz.underlying3 (wf_64g h1 h2))
  rw [r i] at hv
  rw [hr, RiG_inv hv]
theorem McG.store {W : World} {mb : Nat} {L : List Nat} (h : McG W mb L) (hn : L.length < 1099511627776) {t e : TypeId} (ht : Tryz.prog.underlying t = some (.map 3 e)) {d : Nat} (h2 : d ≤ 9223372036854775807) {z : Int} (hz : z = (cntL L d : Int) + 1) :
    ∃ W', (Instr.mapUpdate t (.map (some mb)) (.int .i64 (d : Int)) (.int .i64 z)).run Tryz.prog W = .ok () W' ∧ McG W' mb (L ++ [d]) ∧ W.grownBy W' (some mb) := by
  obtain ⟨D, n, hD, hln, r, hh⟩ := h
  obtain ⟨W', hr, h3, h4⟩ := hD.store (Maps.int_keyed Tryz.underlying3) ht (by simp only [maxLen]; omega) (Maps.keyOf_int_mk Tryz.underlying3 (a := (d : Int)) (wf_64g (by omega) (by omega))) (RiG_mk z)
  refine ⟨W', hr, ⟨_, _, h3, by rw [List.length_append, List.length_singleton]; omega, fun j => ?_, fun j => ?_⟩, h4.grown⟩
  · rw [cntL_app]
    by_cases c : j = (d : Int)
    · rw [c, Maps.atKey_put_same hD.isMap (by simp [WideAt.IsKeyLit]) _ _, if_pos rfl, hz]
      push_cast
      rfl
    rw [Maps.atKey_put_other (by intro e; injection e with _ e; exact c e), if_neg (fun e => c e.symm)]
    exact r j
  rw [cntL_app]
  by_cases c : j = (d : Int)
  · rw [c, Maps.has_put_same hD.isMap (by simp [WideAt.IsKeyLit]), if_pos rfl]
    simp
  rw [Maps.has_put_other (by intro e; injection e with _ e; exact c e), if_neg (fun e => c e.symm)]
  exact hh j
structure KeysG (L : List Nat) (ss : List Int) : Prop where
  mem : ∀ x, x ∈ ss ↔ 0 < cntL L x
  asc : ss.Pairwise (· < ·)
  len : ss.length ≤ L.length
def sumG : List Nat → Nat
  | [] => 0
  | d :: r => d + sumG r
theorem sumG_app (L M : List Nat) : sumG (L ++ M) = sumG L + sumG M := by
  induction L with
  | nil => simp [sumG]
  | cons d r ih => simp only [List.cons_append, sumG, ih]; omega
theorem sumG_le {L : List Nat} {m : Nat} (h : ∀ d ∈ L, d ≤ m) : sumG L ≤ L.length * m := by
  induction L with
  | nil => simp [sumG]
  | cons d r ih =>
    have h1 := ih fun x hx => h x (List.mem_cons_of_mem _ hx)
    have h2 := h d (List.mem_cons_self ..)
    rw [sumG, List.length_cons, Nat.add_mul, Nat.one_mul]
    omega
def gaF (n b : Nat) (v : Value) (mb : Nat) : Nat → Value := fun i => if i = 0 then .int .i64 (n : Int) else if i = 1 then .int .i64 (b : Int) else if i = 2 then v else .map (some mb)
structure Gau (W : World) (g mb : Nat) (L : List Nat) (B : Nat) : Prop where
  row : ∃ a n c, W.rowIs g 77 4 (gaF L.length B (.slice a n c) mb) ∧ IsNat W (.agg #[.slice a n c]) (sumG L)
  mp : McG W mb L
  few : L.length ≤ 1000
  del : ∀ d ∈ L, d ≤ 9223372036854775807
  byt : B ≤ 65536 * L.length
theorem Gau.lt {W : World} {g mb : Nat} {L : List Nat} {B : Nat} (h : Gau W g mb L B) : g < W.heap.size ∧ mb < W.heap.size := by
  obtain ⟨a, n, c, h1, _⟩ := h.row
  exact ⟨h1.lt, h.mp.lt⟩
theorem Gau.go {W W' : World} {g mb : Nat} {L : List Nat} {B : Nat} (h : Gau W g mb L B) (hb : Below W.heap.size W W') : Gau W' g mb L B := by
  obtain ⟨a, n, c, h1, h2⟩ := h.row
  exact ⟨⟨a, n, c, h1.of_block (hb.block _ h1.lt), h2.mono hb⟩, h.mp.go hb, h.few, h.del, h.byt⟩
theorem Gau.fb {S : Nat → Prop} {W W' : World} {g mb : Nat} {L : List Nat} {B : Nat} (h : Gau W g mb L B) (f : Fb S W W') (hn : ∀ k, S k → Odd W k) (h1 : ¬ S g) (h2 : ¬ S mb) : Gau W' g mb L B := by
  obtain ⟨a, n, c, k1, k2⟩ := h.row
  exact ⟨⟨a, n, c, k1.of_block (f.block _ k1.lt h1), k2.fb f hn⟩, h.mp.kept (f.block _ h.mp.lt h2), h.few, h.del, h.byt⟩
theorem gaRow_odd {W : World} {g n b mb : Nat} {v : Value} (hv : isSl v) (h1 : W.rowIs g 77 4 (gaF n b v mb)) : Odd W g := by
  obtain ⟨v1, v2, v3, rfl⟩ := hv
  intro i q z hc
  obtain ⟨cs, hb, hs, hf⟩ := h1
  simp only [World.cell?, hb] at hc
  have hi : i < 4 := by
    rcases Nat.lt_or_ge i 4 with e | e
    · exact e
    simp [Array.getElem?_eq_none (show cs.size ≤ i by omega)] at hc
  have e := hf i hi
  simp [e] at hc
  unfold gaF at hc
  split at hc
  · cases hc; rfl
  split at hc
  · cases hc; rfl
  split at hc <;> cases hc
theorem Gau.odd {W : World} {g mb : Nat} {L : List Nat} {B : Nat} (h : Gau W g mb L B) : ∀ k, k = g ∨ k = mb → Odd W k := by
  obtain ⟨a, n, c, h1, _⟩ := h.row
  rintro k (rfl | rfl)
  · exact gaRow_odd ⟨_, _, _, rfl⟩ h1
  intro i q z hc
  obtain ⟨es, cl, hb⟩ := h.mp.block
  simp [World.cell?, hb] at hc
theorem Gau.ne {W : World} {g mb : Nat} {L : List Nat} {B : Nat} (h : Gau W g mb L B) : g ≠ mb := by
  rintro rfl
  obtain ⟨a, n, c, ⟨cs, hb, _⟩, _⟩ := h.row
  obtain ⟨es, cl, hb'⟩ := h.mp.block
  rw [hb] at hb'
  cases hb'
set_option maxHeartbeats 1000000 in
theorem gnew_any (w : World) : Calls Tryz.prog 7 #[] w fun e w' => ∃ g mb, e = .returned (.pointer (some ⟨g, 0, none⟩)) ∧ w.heap.size ≤ g ∧ w.heap.size ≤ mb ∧ Gau w' g mb [] 0 ∧ Below w.heap.size w w' := by
  have hmm := @run_makeMap Tryz.prog
  go_enter Tryz.func7, Tryz.ntmps7
  go_wp2_with fail
  go_ret
  have hs1 : (w.alloc (.map #[] 0)).heap.size = w.heap.size + 1 := Array.size_push _
  have B0 : Below w.heap.size w (w.alloc (.map #[] 0)) := (Below.refl _ _).alloc (Nat.le_refl _) _
  have M0 := McG.made w
  have B1 : Below (w.alloc (.map #[] 0)).heap.size (w.alloc (.map #[] 0)) ((w.alloc (.map #[] 0)).alloc (.cells #[.int .i64 0, .int .i64 0, .slice none 0 0, .map (some w.heap.size)] 77)) := (Below.refl _ _).alloc (Nat.le_refl _) _
  refine ⟨_, w.heap.size, rfl, by omega, Nat.le_refl _, ⟨⟨none, 0, 0, ?_, isNat_zero _⟩, M0.go B1, Nat.zero_le _, (fun d hd => by cases hd), Nat.zero_le _⟩, bel_go B0 B1⟩
  have h := World.rowIs_alloc (w.alloc (.map #[] 0)) #[.int .i64 0, .int .i64 0, .slice none 0 0, .map (some w.heap.size)] 77 (gaF 0 0 (.slice none 0 0) w.heap.size) (fun i hi => by
    match i, hi with
    | 0, _ => rfl
    | 1, _ => rfl
    | 2, _ => rfl
    | 3, _ => rfl)
  rw [hs1] at h
  exact h
theorem gaF_put {n' b' : Nat} {v' : Value} {mb : Nat} {f : Nat → Value} (h : ∀ i, i < 4 → f i = gaF n' b' v' mb i) {W : World} {g : Nat} (r : W.rowIs g 77 4 f) : W.rowIs g 77 4 (gaF n' b' v' mb) := r.congr h
theorem fits_few {x : Nat} (h : x < 340282366920938463463374607431768211456) : Fits x := (RS.mk (Nat.lt_of_lt_of_le (show x < P 2 from h) (P_le (by omega)))).fits
theorem gadd_end {w W2 w7 : World} {g mb n b x : Nat} {v : Value} (hv : isSl v) (h : Hid (W2.rowIs g 77 4 (gaF n b v mb) ∧ Fb (fun k => k = g) w W2)) {r : Option Addr} {k j : Nat} (hA : Hid (IsNat w7 (.agg #[.slice r k j]) x ∧ Below W2.heap.size W2 w7)) :
    Hid ((w7.setCell ⟨g, 2, none⟩ (.slice r k j)).rowIs g 77 4 (gaF n b (.slice r k j) mb) ∧ IsNat (w7.setCell ⟨g, 2, none⟩ (.slice r k j)) (.agg #[.slice r k j]) x ∧ Fb (fun k => k = g) w (w7.setCell ⟨g, 2, none⟩ (.slice r k j))) := by
  have r7 := h.out.1.of_block (hA.out.2.block _ h.out.1.lt)
  have f7 : Fb (fun k => k = g) w7 (w7.setCell ⟨g, 2, none⟩ (.slice r k j)) := (Fb.refl (fun k => k = g) w7).set (x := ⟨g, 2, none⟩) rfl _
  refine ⟨gaF_put (fun i hi => ?_) (r7.set 2 (.slice r k j)), hA.out.1.fb f7 (fun k' e => e ▸ gaRow_odd hv r7), (h.out.2.go hA.out.2).trans f7⟩
  match i, hi with
  | 0, _ => simp [gaF]
  | 1, _ => simp [gaF]
  | 2, _ => simp [gaF]
  | 3, _ => simp [gaF]
theorem gadd_fin {w wc W' : World} {g mb d s : Nat} {L : List Nat} {B : Nat} {r : Option Addr} {k j : Nat} (GA : Hid (Gau w g mb L B)) (hcu : Hid (wc.rowIs g 77 4 (gaF (L.length + 1) (B + s) (.slice r k j) mb) ∧ IsNat wc (.agg #[.slice r k j]) (sumG L + d) ∧ Fb (fun k => k = g) w wc)) (HM : Hid (McG wc mb L ∧ McG W' mb (L ++ [d]) ∧ wc.grownBy W' (some mb))) (hl : L.length < 1000) (hd : d ≤ 9223372036854775807) (hs : s ≤ 65536) : Gau W' g mb (L ++ [d]) (B + s) := by
  obtain ⟨h1, h2, h3⟩ := hcu.out
  obtain ⟨m1, m2, m3⟩ := HM.out
  have hfb : Fb (fun x => x = mb) wc W' := ⟨m3.os, m3.tape, m3.output, m3.size, fun i hi hn => m3.block i hi fun e => hn (by cases e; rfl)⟩
  have hodd : ∀ x, x = mb → Odd wc x := by
    rintro x rfl i q z hc
    obtain ⟨es, cl, hb⟩ := m1.block
    simp [World.cell?, hb] at hc
  refine ⟨⟨r, k, j, ?_, ?_⟩, m2, by simp; omega, fun x hx => ?_, ?_⟩
  · rw [List.length_append, List.length_singleton]
    exact h1.of_block (hfb.block _ h1.lt GA.out.ne)
  · rw [sumG_app]
    exact h2.fb hfb hodd
  · rcases List.mem_append.1 hx with e | e
    · exact GA.out.del x e
    rw [List.mem_singleton.1 e]; exact hd
  have := GA.out.byt
  rw [List.length_append, List.length_singleton]
  omega
set_option maxHeartbeats 4000000 in
theorem gadd_yes (g mb d s : Nat) (L : List Nat) (B : Nat) (w : World) (h : Gau w g mb L B) (hd : d ≤ 9223372036854775807) (hs : 1 ≤ s) (hs2 : s ≤ 65536) (hl : L.length < 1000) :
    Calls Tryz.prog 11 #[.pointer (some ⟨g, 0, none⟩), .int .i64 (d : Int), .int .i64 (s : Int)] w fun e w' => e = .returned (.int .i64 0) ∧ Gau w' g mb (L ++ [d]) (B + s) ∧ Fb (fun k => k = g ∨ k = mb) w w' := by
  obtain ⟨a, n, c, hr, hn⟩ := h.row
  have hby := h.byt
  have c0 := hr.cell (i := 0) (by omega)
  have c1 := hr.cell (i := 1) (by omega)
  have f0 := hr.frozen 0
  have f1 := hr.frozen 1
  simp only [gaF, if_true, if_false, Nat.one_ne_zero] at c0 c1
  have GA : Hid (Gau w g mb L B) := h
  have d0 : ¬ ((d : Int) < 0) := by omega
  have s0 : ¬ ((s : Int) < 1) := by omega
  have s1 : ¬ ((s : Int) > 65536) := by omega
  obtain ⟨W2, hW2⟩ : ∃ W2, W2 = (w.setCell ⟨g, 0, none⟩ (.int .i64 ((L.length : Int) + 1))).setCell ⟨g, 1, none⟩ (.int .i64 ((B : Int) + (s : Int))) := ⟨_, rfl⟩
  have F2 : Fb (fun k => k = g) w W2 := by rw [hW2]; exact ((Fb.refl (fun k => k = g) w).set (x := ⟨g, 0, none⟩) rfl _).set (x := ⟨g, 1, none⟩) rfl _
  have hodd : ∀ k, k = g → Odd w k := fun k e => h.odd k (.inl e)
  have N2 := hn.fb F2 hodd
  have R2 : W2.rowIs g 77 4 (gaF (L.length + 1) (B + s) (.slice a n c) mb) := by
    rw [hW2]
    refine gaF_put (fun i hi => ?_) ((hr.set 0 (.int .i64 ((L.length : Int) + 1))).set 1 (.int .i64 ((B : Int) + (s : Int))))
    match i, hi with
    | 0, _ => simp [gaF]
    | 1, _ => simp [gaF]
    | 2, _ => simp [gaF]
    | 3, _ => simp [gaF]
  have HS : Hid (Fits (sumG L) ∧ Fits d) := by
    have := sumG_le h.del
    have h2 : L.length * 9223372036854775807 ≤ 1000 * 9223372036854775807 := Nat.mul_le_mul (by omega) (Nat.le_refl _)
    exact ⟨fits_few (by omega), fits_few (by omega)⟩
  have KC : Hid (∀ w', Below W2.heap.size W2 w' → w'.cell? ⟨g, 2, none⟩ = some (.slice a n c) ∧ w'.frozen? ⟨g, 2, none⟩ = false) := fun w' h' => by
    have r := R2.of_block (h'.block _ R2.lt)
    exact ⟨r.cell (i := 2) (by omega), r.frozen 2⟩
  have hwr : IntKind.u64.wrap (d : Int) = (d : Int) := by rw [IntKind.wrap_u64]; omega
  have CO : Hid (∀ w', Below W2.heap.size W2 w' → Calls Tryz.prog 27 #[.int .u64 (IntKind.u64.wrap (d : Int))] w' fun e w9 => ∃ (r : Option Addr) (k j : Nat), e = .returned (.agg #[.slice r k j]) ∧ Hid (IsNat w9 (.agg #[.slice r k j]) d ∧ Below W2.heap.size W2 w9)) := fun w' h' => by
    rw [hwr]
    refine (of_any d w' (by omega)).mono fun e w9 ⟨v, ev, hv, hb⟩ => ?_
    obtain ⟨r, k, j, e1⟩ := hv.isAgg
    subst e1
    exact ⟨r, k, j, ev, hv, bel_go h' hb⟩
  have CA : Hid (∀ (r : Option Addr) (k j : Nat) w', Hid (IsNat w' (.agg #[.slice r k j]) d ∧ Below W2.heap.size W2 w') → Calls Tryz.prog 26 #[.agg #[.slice a n c], .agg #[.slice r k j]] w' fun e w9 => ∃ (r : Option Addr) (k j : Nat), e = .returned (.agg #[.slice r k j]) ∧ Hid (IsNat w9 (.agg #[.slice r k j]) (sumG L + d) ∧ Below W2.heap.size W2 w9)) := fun r k j w' h' => (add_any _ _ (sumG L) d w' (N2.mono h'.out.2) h'.out.1 HS.out.1 HS.out.2).mono fun e w9 ⟨v, ev, hv, hb⟩ => by
    obtain ⟨r, k, j, e1⟩ := hv.isAgg
    subst e1
    exact ⟨r, k, j, ev, hv, bel_go h'.out.2 hb⟩
  have HR2 : Hid (W2.rowIs g 77 4 (gaF (L.length + 1) (B + s) (.slice a n c) mb) ∧ Fb (fun k => k = g) w W2) := ⟨R2, F2⟩
  have q2 := R2.cell (i := 2) (by omega)
  have p2 := R2.frozen 2
  have k2 : gaF (L.length + 1) (B + s) (.slice a n c) mb 2 = .slice a n c := rfl
  rw [k2] at q2
  clear h hr hn F2 hodd N2 R2 HS k2 hwr
  go_enter Tryz.func11, Tryz.ntmps11
  go_upto_region 7 with fail
  rw [← hW2]
  clear hW2 c0 c1 f0 f1
  go_cut [6] from 34 to 44 (fun s6 wx => s6 = .int .i64 0 ∧ ∃ (r : Option Addr) (k j : Nat), Hid (wx.rowIs g 77 4 (gaF (L.length + 1) (B + s) (.slice r k j) mb) ∧ IsNat wx (.agg #[.slice r k j]) (sumG L + d) ∧ Fb (fun k => k = g) w wx))
  case first =>
    go_region_with (first
      | (go_at_call 27; refine Calls.mono (CO.out _ (show Below _ _ _ from (by with_reducible exact bel_drew (Below.refl _ _)))) ?_; rintro e w6 ⟨r1, i1, j1, rfl, hM⟩; obtain ⟨m0, m1⟩ := KC.out _ hM.out.2)
      | (go_at_call 26; refine Calls.mono (CA.out _ _ _ _ hM) ?_; rintro e w7 ⟨r2, i2, j2, rfl, hA⟩; obtain ⟨l0, l1⟩ := KC.out _ hA.out.2))
    all_goals
      go_wp2_with fail
      go_meet
      refine ⟨rfl, r2, i2, j2, ?_⟩
      exact gadd_end ⟨_, _, _, rfl⟩ HR2 hA
  case rest =>
    obtain ⟨rfl, r, k, j, hcu⟩ := hcut
    have hm : McG wc mb L := GA.out.mp.kept (hcu.out.2.2.block mb GA.out.mp.lt (fun e => GA.out.ne e.symm))
    have c3 := hcu.out.1.cell (i := 3) (by omega)
    have k3 : gaF (L.length + 1) (B + s) (.slice r k j) mb 3 = .map (some mb) := rfl
    rw [k3] at c3
    have lk := hm.look Tryz.underlying73 (by rfl) (i := (d : Int)) (by omega) (by omega)
    obtain ⟨W', hst, hm', hg⟩ := hm.store (by omega) Tryz.underlying73 hd (z := (cntL L (d : Int) : Int) + 1) rfl
    have hcl : cntL L (d : Int) ≤ 1000 := Nat.le_trans (cntL_le L _) (by omega)
    have HM : Hid (McG wc mb L ∧ McG W' mb (L ++ [d]) ∧ wc.grownBy W' (some mb)) := ⟨hm, hm', hg⟩
    clear hm hm' hg k3 KC CO CA HR2 q2 p2
    go_wp2_with fail
    go_ret
    refine ⟨rfl, gadd_fin GA hcu HM (by omega) hd (by omega), ?_⟩
    refine ⟨HM.out.2.2.os.trans hcu.out.2.2.os, HM.out.2.2.tape.trans hcu.out.2.2.tape, HM.out.2.2.output.trans hcu.out.2.2.output, Nat.le_trans hcu.out.2.2.size HM.out.2.2.size, fun i hi hn => ?_⟩
    exact (HM.out.2.2.block i (Nat.lt_of_lt_of_le hi hcu.out.2.2.size) (fun e => hn (.inr (by cases e; rfl)))).trans (hcu.out.2.2.block i hi fun e => hn (.inl e))
set_option maxHeartbeats 1000000 in
theorem gadd_arg (g : Nat) (d s : Int) (w : World) (hd : d < 0) :
    Calls Tryz.prog 11 #[.pointer (some ⟨g, 0, none⟩), .int .i64 d, .int .i64 s] w fun e w' => e = .returned (.int .i64 1) ∧ w' = w := by
  go_enter Tryz.func11, Tryz.ntmps11
  go_wp2_with fail
  go_ret
  exact ⟨rfl, rfl⟩
set_option maxHeartbeats 400000 in
theorem num18_any (z : Int) (w : World) : Calls Tryz.prog 10 #[.int .i64 z] w fun e w' => e = .returned (.int .i64 z) ∧ w' = w := by
  go_enter Tryz.func10, Tryz.ntmps10
  go_wp2_with fail
  go_ret
  exact ⟨rfl, rfl⟩
end Go.Proofs.YtfkkomppfghagaaGreatDoor
namespace Go.Proofs
open Go.Shelf
def Tryz.keysG_ren : Go.Shelf.Ren := ⟨fun | 7 => 79 | 10 => 103 | n => n, fun | 23 => 73 | 26 => 3 | 3 => 3 | 28 => 137 | 0 => 0 | 27 => 136 | 33 => 160 | 4 => 4 | n => n, fun | n => n⟩
theorem Tryz.keysG : Go.Proofs.SlLaysZI.n7 Tryz.prog Tryz.keysG_ren := {
  mixed := by kernel_rfl
  f7 := ⟨Tryz.f79.name, by decide, Tryz.func79.trans (congrArg some (by kernel_rfl))⟩
  f10 := ⟨Tryz.f103.name, by decide, Tryz.func103.trans (congrArg some (by kernel_rfl))⟩
  t0 := Tryz.underlying0
  a0 := Tryz.isAgg0
  z0 := Tryz.sizeOf0
  v0 := Tryz.zeroValue0
  t4 := Tryz.underlying4
  a4 := Tryz.isAgg4
  z4 := Tryz.sizeOf4
  v4 := Tryz.zeroValue4
  t23 := Tryz.underlying73
  a23 := Tryz.isAgg73
  z23 := Tryz.sizeOf73
  v23 := Tryz.zeroValue73
  t26 := Tryz.underlying3
  a26 := Tryz.isAgg3
  z26 := Tryz.sizeOf3
  v26 := Tryz.zeroValue3
  t27 := Tryz.underlying136
  a27 := Tryz.isAgg136
  z27 := Tryz.sizeOf136
  v27 := Tryz.zeroValue136
  t28 := Tryz.underlying137
  a28 := Tryz.isAgg137
  z28 := Tryz.sizeOf137
  v28 := Tryz.zeroValue137
  t33 := Tryz.underlying160
  a33 := Tryz.isAgg160
  z33 := Tryz.sizeOf160
  v33 := Tryz.zeroValue160 }
def Tryz.sortedG_ren : Go.Shelf.Ren := ⟨fun | 6 => 78 | 8 => 101 | 9 => 102 | 11 => 128 | 13 => 54 | 12 => 129 | 23 => 86 | 24 => 87 | 14 => 140 | 15 => 141 | 16 => 142 | 17 => 143 | 18 => 144 | 19 => 145 | 20 => 146 | 21 => 147 | 22 => 148 | 25 => 153 | 26 => 154 | 27 => 155 | 28 => 156 | 29 => 157 | 30 => 158 | 31 => 160 | n => n, fun | 26 => 3 | 28 => 137 | 24 => 34 | 0 => 0 | 3 => 3 | 37 => 109 | 48 => 147 | 50 => 82 | 4 => 4 | 40 => 196 | 39 => 195 | 45 => 60 | 5 => 5 | 9 => 9 | 51 => 205 | 55 => 209 | 57 => 211 | 58 => 212 | 33 => 160 | n => n, fun | n => n⟩
theorem Tryz.sortedG : Go.Proofs.SlLaysZI.n6 Tryz.prog Tryz.sortedG_ren := {
  mixed := by kernel_rfl
  f6 := ⟨Tryz.f78.name, by decide, Tryz.func78.trans (congrArg some (by kernel_rfl))⟩
  f8 := ⟨Tryz.f101.name, by decide, Tryz.func101.trans (congrArg some (by kernel_rfl))⟩
  f11 := ⟨Tryz.f128.name, by decide, Tryz.func128.trans (congrArg some (by kernel_rfl))⟩
  t0 := Tryz.underlying0
  a0 := Tryz.isAgg0
  z0 := Tryz.sizeOf0
  v0 := Tryz.zeroValue0
  t24 := Tryz.underlying34
  a24 := Tryz.isAgg34
  z24 := Tryz.sizeOf34
  v24 := Tryz.zeroValue34
  t26 := Tryz.underlying3
  a26 := Tryz.isAgg3
  z26 := Tryz.sizeOf3
  v26 := Tryz.zeroValue3
  t28 := Tryz.underlying137
  a28 := Tryz.isAgg137
  z28 := Tryz.sizeOf137
  v28 := Tryz.zeroValue137
  i26 := by kernel_rfl }
def Tryz.sortG_ren : Go.Shelf.Ren := ⟨fun | 5 => 102 | 8 => 54 | 7 => 129 | 19 => 86 | 20 => 87 | 10 => 140 | 11 => 141 | 12 => 142 | 13 => 143 | 14 => 144 | 15 => 145 | 16 => 146 | 17 => 147 | 18 => 148 | 30 => 153 | 31 => 154 | 32 => 155 | 33 => 156 | 34 => 157 | 35 => 158 | 40 => 160 | n => n, fun | 23 => 34 | 25 => 3 | 3 => 3 | 32 => 109 | 22 => 34 | 0 => 0 | 44 => 147 | 46 => 82 | 4 => 4 | 36 => 196 | 35 => 195 | 41 => 60 | 5 => 5 | 9 => 9 | 53 => 205 | 57 => 209 | 63 => 211 | 64 => 212 | n => n, fun | n => n⟩
theorem Tryz.sortG : Go.Proofs.SlLaysM.n5 Tryz.prog Tryz.sortG_ren := {
  mixed := by kernel_rfl
  f5 := ⟨Tryz.f102.name, by decide, Tryz.func102.trans (congrArg some (by kernel_rfl))⟩
  f7 := ⟨Tryz.f129.name, by decide, Tryz.func129.trans (congrArg some (by kernel_rfl))⟩
  f8 := Tryz.func54.trans (congrArg some (by kernel_rfl))
  f10 := ⟨Tryz.f140.name, by decide, Tryz.func140.trans (congrArg some (by kernel_rfl))⟩
  f11 := ⟨Tryz.f141.name, by decide, Tryz.func141.trans (congrArg some (by kernel_rfl))⟩
  f12 := ⟨Tryz.f142.name, by decide, Tryz.func142.trans (congrArg some (by kernel_rfl))⟩
  f13 := ⟨Tryz.f143.name, by decide, Tryz.func143.trans (congrArg some (by kernel_rfl))⟩
  f14 := ⟨Tryz.f144.name, by decide, Tryz.func144.trans (congrArg some (by kernel_rfl))⟩
  f15 := ⟨Tryz.f145.name, by decide, Tryz.func145.trans (congrArg some (by kernel_rfl))⟩
  f16 := ⟨Tryz.f146.name, by decide, Tryz.func146.trans (congrArg some (by kernel_rfl))⟩
  f17 := ⟨Tryz.f147.name, by decide, Tryz.func147.trans (congrArg some (by kernel_rfl))⟩
  f18 := ⟨Tryz.f148.name, by decide, Tryz.func148.trans (congrArg some (by kernel_rfl))⟩
  f19 := Tryz.func86.trans (congrArg some (by kernel_rfl))
  f20 := Tryz.func87.trans (congrArg some (by kernel_rfl))
  f30 := ⟨Tryz.f153.name, by decide, Tryz.func153.trans (congrArg some (by kernel_rfl))⟩
  f31 := Tryz.func154.trans (congrArg some (by kernel_rfl))
  f32 := Tryz.func155.trans (congrArg some (by kernel_rfl))
  f33 := ⟨Tryz.f156.name, by decide, Tryz.func156.trans (congrArg some (by kernel_rfl))⟩
  f34 := ⟨Tryz.f157.name, by decide, Tryz.func157.trans (congrArg some (by kernel_rfl))⟩
  f35 := ⟨Tryz.f158.name, by decide, Tryz.func158.trans (congrArg some (by kernel_rfl))⟩
  f40 := ⟨Tryz.f160.name, by decide, Tryz.func160.trans (congrArg some (by kernel_rfl))⟩
  t0 := Tryz.underlying0
  a0 := Tryz.isAgg0
  z0 := Tryz.sizeOf0
  v0 := Tryz.zeroValue0
  t3 := Tryz.underlying3
  a3 := Tryz.isAgg3
  z3 := Tryz.sizeOf3
  v3 := Tryz.zeroValue3
  t4 := Tryz.underlying4
  a4 := Tryz.isAgg4
  z4 := Tryz.sizeOf4
  v4 := Tryz.zeroValue4
  t5 := Tryz.underlying5
  a5 := Tryz.isAgg5
  z5 := Tryz.sizeOf5
  v5 := Tryz.zeroValue5
  t9 := Tryz.underlying9
  a9 := Tryz.isAgg9
  z9 := Tryz.sizeOf9
  v9 := Tryz.zeroValue9
  t22 := Tryz.underlying34
  a22 := Tryz.isAgg34
  z22 := Tryz.sizeOf34
  v22 := Tryz.zeroValue34
  t23 := Tryz.underlying34
  a23 := Tryz.isAgg34
  z23 := Tryz.sizeOf34
  v23 := Tryz.zeroValue34
  t25 := Tryz.underlying3
  a25 := Tryz.isAgg3
  z25 := Tryz.sizeOf3
  v25 := Tryz.zeroValue3
  t32 := Tryz.underlying109
  a32 := Tryz.isAgg109
  z32 := Tryz.sizeOf109
  v32 := Tryz.zeroValue109
  t35 := Tryz.underlying195
  a35 := Tryz.isAgg195
  z35 := Tryz.sizeOf195
  v35 := Tryz.zeroValue195
  t36 := Tryz.underlying196
  a36 := Tryz.isAgg196
  z36 := Tryz.sizeOf196
  v36 := Tryz.zeroValue196
  t41 := Tryz.underlying60
  a41 := Tryz.isAgg60
  z41 := Tryz.sizeOf60
  v41 := Tryz.zeroValue60
  t44 := Tryz.underlying147
  a44 := Tryz.isAgg147
  z44 := Tryz.sizeOf147
  v44 := Tryz.zeroValue147
  t46 := Tryz.underlying82
  a46 := Tryz.isAgg82
  z46 := Tryz.sizeOf82
  v46 := Tryz.zeroValue82
  t53 := Tryz.underlying205
  a53 := Tryz.isAgg205
  z53 := Tryz.sizeOf205
  v53 := Tryz.zeroValue205
  t57 := Tryz.underlying209
  a57 := Tryz.isAgg209
  z57 := Tryz.sizeOf209
  v57 := Tryz.zeroValue209
  t63 := Tryz.underlying211
  a63 := Tryz.isAgg211
  z63 := Tryz.sizeOf211
  v63 := Tryz.zeroValue211
  t64 := Tryz.underlying212
  a64 := Tryz.isAgg212
  z64 := Tryz.sizeOf212
  v64 := Tryz.zeroValue212 }
end Go.Proofs
