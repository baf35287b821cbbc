/- Contracts of the program's functions, part 17: own work, joined in build order. -/
import Derived.Test.YtkhdapmipcghoaaDoorJ16
import Derived.WalkKit
import Derived.ProofKit
import Derived.OpenShut
import Derived.ShutString
import Derived.ChangeOld
import Derived.Below
import Derived.LaidMore
import Derived.Lib.LaidTab
namespace Go.Proofs.YtkhdapmipcghoaaDoor
open Go.ChangeShapes Go.WideShapes Go.ChangeAt Go.RowKit
set_option linter.unusedVariables false
theorem ownD : ownKnob Tryd.prog.godebug = none := by kernel_rfl
theorem cellsF : Tryd.prog.cellsOf 24 = 2 := by kernel_rfl
theorem cellsB : Tryd.prog.cellsOf 22 = 1 := by kernel_rfl
theorem laidOutD : laidOutB Tryd.prog = true := by kernel_rfl

def IsRow (k : IntKind) (w : World) (a : Option Addr) (len cap : Nat) (zs : List Int) : Prop :=
  (a = none ∧ len = 0 ∧ cap = 0 ∧ zs = []) ∨
  ∃ x, a = some x ∧ len ≤ cap ∧ cap ≤ maxLen ∧ zs.length = cap ∧ (∀ i, i < zs.length → w.cell? (x.add i) = some (.int k (zs.getD i 0))) ∧ ∀ n ∈ zs, (Lit.int k n).wf = true

theorem row_bsl {w : World} {a : Option Addr} {len cap : Nat} {zs : List Int} (h : IsRow .u8 w a len cap zs) : BSl w a len cap (fun i => (zs.getD i 0).toNat) := by
  rcases h with ⟨rfl, rfl, rfl, rfl⟩ | ⟨x, rfl, hl, hm, hz, hcell, hwz⟩
  · exact ⟨Nat.le_refl _, by omega, fun i hi => absurd hi (by omega), .inl rfl⟩
  · have hw : ∀ i, i < len → 0 ≤ zs.getD i 0 ∧ zs.getD i 0 < 256 := by
      intro i hi
      have hi2 : i < zs.length := by omega
      have := hwz (zs.getD i 0) (by rw [List.getD_eq_getElem?_getD, List.getElem?_eq_getElem hi2]; exact List.getElem_mem hi2)
      have hmin : IntKind.u8.min = 0 := rfl
      have hmax : IntKind.u8.max = 255 := rfl
      have h2 : IntKind.u8.min ≤ zs.getD i 0 ∧ zs.getD i 0 ≤ IntKind.u8.max := by simpa [Lit.wf] using this
      rw [hmin, hmax] at h2
      omega
    refine ⟨hl, by simp only [maxLen] at hm; omega, fun i hi => ?_, ?_⟩
    · have := hw i hi
      show (zs.getD i 0).toNat < 256
      omega
    · rcases Nat.eq_zero_or_pos len with e | e
      · exact .inl e
      · obtain ⟨b, off, spot⟩ := x
        have hc := hcell 0 (by omega)
        have hspot : spot = none := by simpa [Addr.add] using World.cell?_spot hc
        subst hspot
        refine .inr ⟨b, off, rfl, fun i hi => ?_⟩
        have h1 := hcell i (by omega)
        have h2 := hw i hi
        have h3 : (⟨b, off, none⟩ : Addr).add i = ⟨b, off + i, none⟩ := by unfold Addr.add; split <;> simp_all
        rw [h3] at h1
        rw [h1]
        show some (Value.int .u8 (zs.getD i 0)) = some (Value.int .u8 (((zs.getD i 0).toNat : Nat) : Int))
        rw [Int.toNat_of_nonneg h2.1]

theorem row_nil {k : IntKind} {w : World} {a : Option Addr} {len cap : Nat} {zs : List Int} (h : IsRow k w a len cap zs) : a = none → cap = 0 := by
  rcases h with ⟨_, _, h, _⟩ | ⟨x, e, _⟩
  · exact fun _ => h
  · intro e2
    rw [e2] at e
    cases e
theorem open_two {P : Program} {t tb te : TypeId} {f0 f1 : Field} (ht : P.underlying t = some (.struct #[f0, f1])) (h0t : f0.type = tb) (h0o : f0.offset = 0) (h1t : f1.type = tb) (h1o : f1.offset = 1) (hb : P.underlying tb = some (.slice te)) (he : P.underlying te = some (.int .u8)) (hce : P.cellsOf te = 1) (hcb : P.cellsOf tb = 1) (hct : P.cellsOf t = 2)
    {W : World} {H : Type} {enc : TypeId × Value → H} {base : Nat} {v : Value} {d : DataW H} {ps : List MemPlace} : Value.okWide P W .any base t v → DataW.Trod enc P W 0 (fun _ => true) true t v d ps →
    ∃ a2 len2 cap2 z2 a3 len3 cap3 z3, v = .agg #[.slice a2 len2 cap2, .slice a3 len3 cap3] ∧ IsRow .u8 W a2 len2 cap2 z2 ∧ IsRow .u8 W a3 len3 cap3 z3 := by
  intro ho h
  obtain ⟨cs, rfl, hsz⟩ := okWide_struct ht ho
  rw [hct] at hsz
  obtain ⟨l⟩ := cs
  obtain ⟨c0, c1, rfl⟩ : ∃ c0 c1, l = [c0, c1] := by
    match l, hsz with
    | [c0, c1], _ => exact ⟨c0, c1, rfl⟩
  obtain ⟨fuel, hf⟩ := h
  obtain ⟨y0, y1, m, _, _, hy0, hy1⟩ := trod_struct2 ht hf
  rw [h0t, h0o, hcb] at hy0
  rw [h1t, h1o, hcb] at hy1
  simp [Value.cells] at hy0 hy1
  have one : ∀ c y, DataW.trod enc P W 0 (fun _ => true) true m tb [c] = some y → ∃ a len cap zs, c = .slice a len cap ∧ IsRow .u8 W a len cap zs := fun c y hy => by
    rcases open_ints hb he hce hy with ⟨hcs, _⟩ | ⟨x, l, c, zs, hcs, _, hl, hm, hz, _, hcell, hwz⟩
    · simp at hcs
      exact ⟨_, _, _, [], hcs, .inl ⟨rfl, rfl, rfl, rfl⟩⟩
    · simp at hcs
      exact ⟨_, _, _, zs, hcs, .inr ⟨_, rfl, hl, hm, by simpa using hz, hcell, hwz⟩⟩
  obtain ⟨b0, l0, k0, z0, rfl, g0⟩ := one _ _ hy0
  obtain ⟨b1, l1, k1, z1, rfl, g1⟩ := one _ _ hy1
  exact ⟨_, _, _, _, _, _, _, _, rfl, g0, g1⟩
theorem openF {W : World} {H : Type} {enc : TypeId × Value → H} {base : Nat} {v : Value} {d : DataW H} {ps : List MemPlace} : Value.okWide Tryd.prog W .any base 24 v → DataW.Trod enc Tryd.prog W 0 (fun _ => true) true 24 v d ps →
    ∃ a2 len2 cap2 z2 a3 len3 cap3 z3, v = .agg #[.slice a2 len2 cap2, .slice a3 len3 cap3] ∧ IsRow .u8 W a2 len2 cap2 z2 ∧ IsRow .u8 W a3 len3 cap3 z3 :=
  open_two Tryd.underlying24 rfl rfl rfl rfl Tryd.underlying22 Tryd.underlying5 (by kernel_rfl) cellsB cellsF
end Go.Proofs.YtkhdapmipcghoaaDoor
