/- What Between tells lies between the two, and any other fraction that does has no lesser denominator and, if it has the same one, is not below it, for every input of RatBetween; its listed table (math/bits.deBruijn64tab) is tied to the program's text; no further condition. -/
import Derived.Test.YtkhdapmipcghoaaDoorJ17
import Derived.Test.YtkhdapmipcghoaaDoorTie
import Derived.Test.YtkhdapmipcghoaaDoorCards
import Derived.Stop.LaidErr
import Derived.SevenTiedAt
import Derived.Stop.Joined
namespace Go.Proofs.YtkhdapmipcghoaaDoor.ratBetween
open Go.ChangeShapes Go.WideShapes Go.ChangeAt Go.RowKit
open Go.ChangeMaps (open_string shut_string)
set_option linter.unusedVariables false

theorem gTab : Tryd.prog.globalNamed "math/bits.deBruijn64tab" = some 0 := by kernel_rfl
theorem tTab : (Tryd.prog.globals[0]?).map (·.type) = some 136 := by kernel_rfl
def tabZ : List Int := [0, 1, 56, 2, 57, 49, 28, 3, 61, 58, 42, 50, 38, 29, 17, 4, 62, 47, 59, 36, 45, 43, 51, 22, 53, 39, 33, 30, 24, 18, 12, 5, 63, 55, 48, 27, 60, 41, 37, 16, 46, 35, 44, 21, 52, 32, 23, 11, 54, 26, 40, 15, 34, 20, 31, 10, 25, 14, 19, 9, 13, 8, 7, 6]
theorem tabZ_at : ∀ j, j < 64 → tabZ.getD j 0 = ((Lib.deBruijn64tab.getD j 0 : Nat) : Int) := by decide +kernel
theorem tab_laid {W : World} (h : laidMetH Tryd.prog Rows.ratBetweenRow.laid W) : Tab W := by
  rw [MakeChecks.laidMetH_plain _ _ _ (by kernel_rfl)] at h
  have hT := Lib.tabIs_of_head (k := .u8) (zs := tabZ) (rest := []) gTab tTab Tryd.underlying136 Tryd.underlying5 (by kernel_rfl) (by kernel_rfl) h
  intro j hj
  have hj2 : j < 64 := hj
  have hc := hT.cell gTab j (show j < tabZ.length from hj2)
  rw [← tabZ_at j hj2]
  exact hc
theorem door_met (os : Os) (args : Array Value) : laidMetH Tryd.prog Rows.ratBetweenRow.laid ((World.doorLaid Tryd.prog 133 os).forCall (fun _ _ => 0) ⟨#[], args, []⟩).memory :=
  laidMetH_of_parts3 (fuel := 8) (laidMet_of_run' 8 (by kernel_rfl) (by kernel_rfl)) (by kernel_rfl) (by kernel_rfl)
theorem walk (a0 : Option Addr) (len0 cap0 : Nat) (z0 : List Int) (b0 : Option Addr) (ken0 kap0 : Nat) (y0 : List Int) (a1 : Option Addr) (len1 cap1 : Nat) (z1 : List Int) (b1 : Option Addr) (ken1 kap1 : Nat) (y1 : List Int) (a2 : Int) (a3 : Int) (w : World) (w0 : IsRow .u8 w a0 len0 cap0 z0) (x0 : IsRow .u8 w b0 ken0 kap0 y0) (w1 : IsRow .u8 w a1 len1 cap1 z1) (x1 : IsRow .u8 w b1 ken1 kap1 y1) (w2 : (Lit.int .i64 a2).wf = true) (w3 : (Lit.int .i64 a3).wf = true) (hT : Tab w) :
    Calls Tryd.prog 6 #[.agg #[.slice a0 len0 cap0, .slice b0 ken0 kap0], .agg #[.slice a1 len1 cap1, .slice b1 ken1 kap1], .int .i64 a2, .int .i64 a3] w fun e w' => e = .returned (.bool true) ∧ Below w.heap.size w w' := by
  have h2 : IntKind.i64.min ≤ a2 ∧ a2 ≤ IntKind.i64.max := by simpa [Lit.wf] using w2
  have h3 : IntKind.i64.min ≤ a3 ∧ a3 ≤ IntKind.i64.max := by simpa [Lit.wf] using w3
  have m3 : IntKind.i64.max = 9223372036854775807 := rfl
  have m4 : IntKind.i64.min = -9223372036854775808 := rfl
  rw [m3, m4] at h2 h3
  exact ratBetween_true _ _ _ _ _ _ _ _ _ _ _ _ _ _ _ _ a2 a3 w (row_bsl w0) (row_bsl x0) (row_bsl w1) (row_bsl x1) h2.1 h2.2 h3.1 h3.2 hT

set_option maxHeartbeats 4000000 in
set_option maxRecDepth 100000 in
theorem lifted (os : Os) (started : os.Started) (H : Type) (enc : TypeId × Value → H) :
    ReturnsInHanded {} Tryd.checked os 6 .any (fun w args => (Rows.ratBetweenSpec.pre enc Tryd.prog Tryd.f6 [] false w args ∧ laidMetH Tryd.prog Rows.ratBetweenRow.laid w) ∧ sizedMet enc Tryd.prog Tryd.f6 (OpenSpec.ofChange Rows.ratBetweenSpec) false w args)
      (Rows.ratBetweenSpec.post enc Tryd.prog Tryd.f6 false true false false) := by
  refine returnsInHanded_of_change_and (C := Tryd.checked) (X := fun w _ => laidMetH Tryd.prog Rows.ratBetweenRow.laid w) (fun _ _ _ hh h => h.of_heap hh) ownD started (by kernel_rfl) Tryd.func6
    (ChangeSpec.witness_shaped (enc := enc) (C := Tryd.checked) (os := os) (X := fun w _ => laidMetH Tryd.prog Rows.ratBetweenRow.laid w) false (World.doorLaid Tryd.prog 133 os) #[.agg #[.slice none 0 0, .slice none 0 0], .agg #[.slice none 0 0, .slice none 0 0], .int .i64 0, .int .i64 0] 8 rfl (World.shaped_of_RefB (by kernel_rfl) (by kernel_rfl)) (by kernel_rfl) (by kernel_rfl) (by kernel_rfl) (door_met os _)) ?_
  intro W base args ds gs before hval0 hW _ _ hL _
  have hval : ∀ (j : Nat) t v, Tryd.f6.params[j]? = some t → args[j]? = some v → Value.okWide Tryd.prog W .any base t v := hval0
  have hW' := hW
  obtain ⟨p, q, hA0, hV, rfl, hfz, hnd⟩ := hW
  have hA : DataW.TrodAll enc Tryd.prog W 0 (fun _ => true) true Tryd.f6.params.toList args.toList ds p := hA0
  rw [Tryd.params6] at hA hval
  obtain ⟨v0, vs0, d0, ds0, p0, q0, hargs, rfl, rfl, h0, r0⟩ := trodAll_cons hA
  obtain ⟨v1, vs1, d1, ds1, p1, q1, rfl, rfl, rfl, h1, r1⟩ := trodAll_cons r0
  obtain ⟨v2, vs2, d2, ds2, p2, q2, rfl, rfl, rfl, h2, r2⟩ := trodAll_cons r1
  obtain ⟨v3, vs3, d3, ds3, p3, q3, rfl, rfl, rfl, h3, r3⟩ := trodAll_cons r2
  obtain ⟨rfl, rfl, rfl⟩ := trodAll_nil r3
  obtain rfl : args = #[v0, v1, v2, v3] := by cases args; simp_all
  obtain ⟨rfl, rfl⟩ := trodVars_none hV
  have k0 := h0
  have lt0 : ∀ x ∈ p0, x.block < W.heap.size := by obtain ⟨m, hm⟩ := k0; exact DataW.trod_lt m _ _ _ hm
  have o0 := hval 0 24 v0 rfl rfl
  obtain ⟨a0, len0, cap0, z0, b0, ken0, kap0, y0, rfl, w0, x0⟩ : ∃ a2 len2 cap2 z2 a3 len3 cap3 z3, v0 = .agg #[.slice a2 len2 cap2, .slice a3 len3 cap3] ∧ IsRow .u8 W a2 len2 cap2 z2 ∧ IsRow .u8 W a3 len3 cap3 z3 := by
    refine openF (W := W) (base := base) (v := v0) (d := d0) (ps := p0) (enc := enc) ?_ ?_ <;> assumption
  clear o0
  have k1 := h1
  have lt1 : ∀ x ∈ p1, x.block < W.heap.size := by obtain ⟨m, hm⟩ := k1; exact DataW.trod_lt m _ _ _ hm
  have o1 := hval 1 24 v1 rfl rfl
  obtain ⟨a1, len1, cap1, z1, b1, ken1, kap1, y1, rfl, w1, x1⟩ : ∃ a2 len2 cap2 z2 a3 len3 cap3 z3, v1 = .agg #[.slice a2 len2 cap2, .slice a3 len3 cap3] ∧ IsRow .u8 W a2 len2 cap2 z2 ∧ IsRow .u8 W a3 len3 cap3 z3 := by
    refine openF (W := W) (base := base) (v := v1) (d := d1) (ps := p1) (enc := enc) ?_ ?_ <;> assumption
  clear o1
  obtain ⟨a2, rfl, rfl, rfl, w2⟩ := open_int Tryd.underlying3 (hval 2 3 v2 rfl rfl) h2
  obtain ⟨a3, rfl, rfl, rfl, w3⟩ := open_int Tryd.underlying3 (hval 3 3 v3 rfl rfl) h3
  clear hA0 hval0
  refine (walk a0 len0 cap0 z0 b0 ken0 kap0 y0 a1 len1 cap1 z1 b1 ken1 kap1 y1 a2 a3 W w0 x0 w1 x1 w2 w3 (tab_laid hL)).mono fun e W' ⟨he, bel⟩ => ?_
  subst he
  exact ⟨_, rfl, _, _, _, [], _, [], hW', trodAll_mk1 (shut_bool Tryd.underlying4 _), (trodAll_cons_mk (Below.trod laidOutD (by kernel_rfl) (of_decide_eq_true (by kernel_rfl)) k0 bel lt0) (trodAll_cons_mk (Below.trod laidOutD (by kernel_rfl) (of_decide_eq_true (by kernel_rfl)) k1 bel lt1) (trodAll_cons_mk (shut_int Tryd.underlying3 w2) (trodAll_cons_mk (shut_int Tryd.underlying3 w3) trodAll_mk0)))), rfl, bel.frame _, fun h => by cases h⟩

theorem over : Rows.ratBetweenRow.holds Tryd.pinned (OpenSpec.ofChange Rows.ratBetweenSpec) :=
  OpenClaim.holds_of_wide 6 Tryd.f6 rfl rfl rfl rfl rfl rfl rfl ⟨rfl, rfl, rfl, rfl, rfl⟩ rfl rfl rfl rfl rfl (by kernel_rfl) Tryd.func6 (by kernel_rfl)
    (of_decide_eq_true (by kernel_rfl)) (by unfold Func.isWrapper; first | (rw [if_pos (by decide +kernel)]; kernel_rfl) | (rw [if_neg (by decide +kernel)]; exact ⟨rfl, rfl⟩))
    (fun os started H enc _ => lifted os started H enc)

theorem card : Rows.RatBetweenCardSaid :=
  Claim7.holds_tied_plain_at .later [] [.data] true (true, "7e90644d25f96ac2fe733af85ea0bd980fc719be2230011a94a6965e9132d5e5") false
    over (fun _ h => by cases h) (by kernel_rfl) (fun _ h => by cases h) ratBetween_row_tie rfl ⟨rfl, rfl⟩ (by kernel_rfl) rfl
    (fun f fn hf hfn => by
      obtain rfl : f = 6 := Option.some.inj ((show Tryd.prog.funcNamed "millrace/millracelaw2.RatBetween" = some 6 by kernel_rfl).symm.trans hf) |>.symm
      obtain rfl : fn = Tryd.f6 := (Option.some.inj (Tryd.func6.symm.trans hfn)).symm
      exact ⟨by kernel_rfl, fun j t ht => by
        rw [Tryd.params6] at ht
        rcases j with _ | _ | _ | _ | j <;> simp at ht <;> subst ht <;> kernel_rfl⟩)
    (by kernel_rfl)
#print axioms card
end Go.Proofs.YtkhdapmipcghoaaDoor.ratBetween
