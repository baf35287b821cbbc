/- Contracts of the program's functions, part 15: own work, joined in build order. -/
import Derived.Test.YtdobjanhmllloaaDoorJ14
import Derived.SliceStrings
import Derived.Deep.Slices
import Derived.ChangeSlices
import Derived.ProofKit
import Derived.LaidMore
import Derived.Lib.LaidTab
import Derived.WalkKit
import Derived.OpenShut
import Derived.ShutString
import Derived.ChangeOld
import Derived.Below
namespace Go.Proofs.YtdobjanhmllloaaDoor
open Go.RowKit Go.ChangeShapes Go.WideShapes Go.ChangeAt
set_option linter.unusedVariables false
theorem wf_i64 {n : Int} (h : (Lit.int .i64 n).wf = true) : -9223372036854775808 ≤ n ∧ n ≤ 9223372036854775807 := by
  have hmin : IntKind.i64.min = -9223372036854775808 := rfl
  have hmax : IntKind.i64.max = 9223372036854775807 := rfl
  have h2 : IntKind.i64.min ≤ n ∧ n ≤ IntKind.i64.max := by simpa [Lit.wf] using h
  rw [hmin, hmax] at h2
  exact h2
theorem add_more (a : Addr) (m j : Nat) : (a.add m).add j = a.add (m + j) := by
  unfold Addr.add
  rcases Nat.eq_zero_or_pos m with e | e
  · subst e; simp
  rcases Nat.eq_zero_or_pos j with e2 | e2
  · subst e2; simp
  rw [if_neg (by omega), if_neg (by omega), if_neg (by omega)]
  simp [Nat.add_assoc]
section
variable {H : Type} {enc : TypeId × Value → H} {w : World} {base : Nat} {spare : Nat → Bool} {held : Bool} {fuel : Nat} {t : TypeId} {cs : List Value} {x : DataW H × List MemPlace}
theorem fld6 {fs : Array Field} (ht : Tryd.prog.underlying t = some (.struct fs)) (h : DataW.trod enc Tryd.prog w base spare held fuel t cs = some x) (j off m : Nat) (t' : TypeId) (hf : ∃ f, fs[j]? = some f ∧ f.offset = off ∧ f.type = t') (hc : Tryd.prog.cellsOf t' = m) : ∃ k y, DataW.trod enc Tryd.prog w base spare held k t' ((cs.drop off).take m) = some y := by
  obtain ⟨xs, k, _, _, _, hxl, hff⟩ := DataW.trod_struct ht h
  obtain ⟨f, f1, f2, f3⟩ := hf
  have g := hff j f f1
  rw [f2, f3, hc] at g
  have hj : j < xs.length := by rw [hxl]; exact (Array.getElem?_eq_some_iff.1 f1).1
  exact ⟨k, _, g.trans (List.getElem?_eq_getElem hj)⟩
theorem int6 {off : Nat} (hu : Tryd.prog.underlying t = some (.int .i64)) (h : DataW.trod enc Tryd.prog w base spare held fuel t ((cs.drop off).take 1) = some x) : ∃ v, cs[off]? = some (.int .i64 v) ∧ (Lit.int .i64 v).wf = true := by
  obtain ⟨v, hv, _, hw⟩ := DataW.trod_int hu h
  refine ⟨v, ?_, hw⟩
  have e2 := congrArg (fun l => l[0]?) hv
  simpa using e2
theorem c1_int : Tryd.prog.cellsOf 3 = 1 := by kernel_rfl
theorem c2_hdl : Tryd.prog.cellsOf 38 = 2 := by kernel_rfl
theorem step6_of (h : DataW.trod enc Tryd.prog w base spare held fuel 40 cs = some x) : ∀ j, j < 5 → ∃ v, cs[j]? = some (.int .i64 v) ∧ (Lit.int .i64 v).wf = true := by
  intro j hj
  obtain ⟨k0, z0, g0⟩ := fld6 Tryd.underlying40 h 0 0 1 3 ⟨_, rfl, rfl, rfl⟩ c1_int
  obtain ⟨k1, z1, g1⟩ := fld6 Tryd.underlying40 h 1 1 1 3 ⟨_, rfl, rfl, rfl⟩ c1_int
  obtain ⟨k2, z2, g2⟩ := fld6 Tryd.underlying40 h 2 2 2 38 ⟨_, rfl, rfl, rfl⟩ c2_hdl
  obtain ⟨k3, z3, g3⟩ := fld6 Tryd.underlying40 h 3 4 1 3 ⟨_, rfl, rfl, rfl⟩ c1_int
  obtain ⟨k4, z4, g4⟩ := fld6 Tryd.underlying38 g2 0 0 1 3 ⟨_, rfl, rfl, rfl⟩ c1_int
  obtain ⟨k5, z5, g5⟩ := fld6 Tryd.underlying38 g2 1 1 1 3 ⟨_, rfl, rfl, rfl⟩ c1_int
  match j, hj with
  | 0, _ => exact int6 Tryd.underlying3 g0
  | 1, _ => exact int6 Tryd.underlying3 g1
  | 2, _ =>
    obtain ⟨v, hv, hw⟩ := int6 Tryd.underlying3 g4
    exact ⟨v, by simpa using hv, hw⟩
  | 3, _ =>
    obtain ⟨v, hv, hw⟩ := int6 Tryd.underlying3 g5
    exact ⟨v, by simpa using hv, hw⟩
  | 4, _ => exact int6 Tryd.underlying3 g3
end
theorem ssl_of {w : World} {a : Addr} {len cap : Nat} (hl : len ≤ cap) (hm : cap ≤ maxLen) (h : ∀ i j, i < len → j < 5 → ∃ v, w.cell? (a.add (i * 5 + j)) = some (.int .i64 v) ∧ (Lit.int .i64 v).wf = true) :
    ∃ F, SSl w (some a) len cap F := by
  refine ⟨fun i j => intOf ((w.cell? (a.add (i * 5 + j))).getD undef), hl, by simp only [maxLen] at hm; omega, fun i j hi hj => ?_, ?_⟩
  · obtain ⟨v, hv, hw⟩ := h i j hi hj
    show -9223372036854775808 ≤ intOf ((w.cell? (a.add (i * 5 + j))).getD undef) ∧ _
    rw [hv]
    exact wf_i64 hw
  rcases Nat.eq_zero_or_pos len with e | e
  · exact .inl e
  obtain ⟨b, off, spot⟩ := a
  obtain ⟨v, hc, _⟩ := h 0 0 e (by omega)
  have hspot : spot = none := by simpa [Addr.add] using World.cell?_spot hc
  subst hspot
  refine .inr ⟨b, off, rfl, fun i j hi hj => ?_⟩
  obtain ⟨v, hv, _⟩ := h i j hi hj
  rw [ax_add] at hv
  have e3 : off + i * 5 + j = off + (i * 5 + j) := by omega
  rw [e3, hv, ax_add, hv]
  rfl
theorem steps6_of {H : Type} {enc : TypeId × Value → H} {w : World} {base : Nat} {spare : Nat → Bool} {held : Bool} {fuel : Nat} {a : Option Addr} {len cap : Nat} {x : DataW H × List MemPlace} (h : DataW.trod enc Tryd.prog w base spare held fuel 22 (Value.slice a len cap).cells.toList = some x) : ∃ F, SSl w a len cap F := by
  have ce : Tryd.prog.cellsOf 40 = 5 := by kernel_rfl
  rcases Deep.open_slice Tryd.underlying22 h with ⟨h0, _⟩ | ⟨a', len', cap', m, n, D, Pl, hcs, hb, hl, hm, hmm, _, hx⟩
  · simp [Value.cells] at h0
    obtain ⟨rfl, rfl, rfl⟩ := h0
    exact ⟨fun _ _ => 0, Nat.le_refl _, by omega, fun i j hi _ => by omega, .inl rfl⟩
  simp [Value.cells] at hcs
  obtain ⟨rfl, rfl, rfl⟩ := hcs
  refine ssl_of hl hm fun i j hi hj => ?_
  have hlm : len ≤ m := by rw [hmm]; split <;> omega
  obtain ⟨cs', h1, h2⟩ := hx i (by omega)
  rw [ce] at h1
  obtain ⟨_, hlen, hcell⟩ := World.cells?_some h1
  obtain ⟨v, hv, hw⟩ := step6_of h2 j hj
  refine ⟨v, ?_, hw⟩
  have e1 := hcell j hj
  rw [add_more] at e1
  rw [e1]
  exact hv
theorem ownD : ownKnob Tryd.prog.godebug = none := by kernel_rfl
theorem laidOutD : laidOutB Tryd.prog = true := by kernel_rfl
end Go.Proofs.YtdobjanhmllloaaDoor
