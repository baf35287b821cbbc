/- Contracts of the program's functions, part 13: own work, joined in build order. -/
import Derived.Test.YtjnfcihichaonaaJ12
import Derived.Maps.OwnSet
import Derived.Maps.Views
namespace Go.Proofs.Ytjnfcihichaonaa
open Go.RowKit
set_option maxRecDepth 100000
set_option linter.unusedVariables false
def Rp (v : Value) : Option (DataW Unit × List MemPlace) := match v with
  | .pointer none => some (.lit (.bool false), [])
  | .pointer (some ⟨b, 0, none⟩) => some (.lit (.int .i64 (b : Int)), [])
  | _ => none
def pV : Option Nat → Value
  | none => .pointer none
  | some b => .pointer (some ⟨b, 0, none⟩)
def pD : Option Nat → DataW Unit
  | none => .lit (.bool false)
  | some b => .lit (.int .i64 (b : Int))
theorem Rp_mk (o : Option Nat) : Rp (pV o) = some (pD o, []) := by cases o <;> rfl
theorem Rp_inv {v : Value} {o : Option Nat} {ps : List MemPlace} (h : Rp v = some (pD o, ps)) : v = pV o := by
  unfold Rp at h
  split at h
  · cases o with
    | none => rfl
    | some b => simp [pD] at h
  · cases o with
    | none => simp [pD] at h
    | some b =>
      simp [pD] at h
      simp [pV]
  · cases h
def updI {α : Type} (g : Int → α) (i : Int) (x : α) : Int → α := fun j => if j = i then x else g j
/-- The map at the block mb: of each number the thing. -/
def Mp (W : World) (mb nn : Nat) (g : Int → Option Nat) : Prop :=
  ∃ D : DataW Unit, W.ownsMap Try.prog 3 Rp mb nn D ∧ ∀ i : Int, D.atKey (.int .i64 i) (.lit (.bool false)) = pD (g i)
theorem wf64 {i : Int} (h : -9223372036854775808 ≤ i) (h2 : i ≤ 9223372036854775807) : (Lit.int .i64 i).wf = true := by
  have hmin : IntKind.i64.min = -9223372036854775808 := rfl
  have hmax : IntKind.i64.max = 9223372036854775807 := rfl
  have : IntKind.i64.min ≤ i ∧ i ≤ IntKind.i64.max := by rw [hmin, hmax]; exact ⟨h, h2⟩
  simpa [Lit.wf] using this
theorem Mp.kept {W W' : World} {mb nn : Nat} {g : Int → Option Nat} (h : Mp W mb nn g) (hk : W'.heap[mb]? = W.heap[mb]?) : Mp W' mb nn g := by
  obtain ⟨D, ⟨es, clock, hb, r⟩, hD⟩ := h
  exact ⟨D, ⟨es, clock, hk.trans hb, r⟩, hD⟩
theorem Mp.block {W : World} {mb nn : Nat} {g : Int → Option Nat} (h : Mp W mb nn g) : ∃ es clock, W.heap[mb]? = some (.map es clock) := by
  obtain ⟨D, ⟨es, clock, hb, r⟩, hD⟩ := h
  exact ⟨_, _, hb⟩
theorem Mp.mono {W : World} {mb nn n' : Nat} {g : Int → Option Nat} (h : Mp W mb nn g) (hn : nn ≤ n') : Mp W mb n' g := by
  obtain ⟨D, hD, r⟩ := h
  exact ⟨D, hD.mono hn, r⟩
theorem Mp.made (W : World) : Mp (W.alloc (.map #[] 0)) W.heap.size 0 (fun _ => none) := ⟨.map [], World.ownsMap_made _ _ _ _, fun _ => rfl⟩
theorem Mp.look {W : World} {mb nn : Nat} {g : Int → Option Nat} (h : Mp W mb nn g) {t e : TypeId} (ht : Try.prog.underlying t = some (.map 3 e)) (hz : (zeroValue e).run Try.prog W = .ok (.pointer none) W) {i : Int} (h1 : -9223372036854775808 ≤ i) (h2 : i ≤ 9223372036854775807) :
    (Instr.lookup t (.map (some mb)) (.int .i64 i) false).run Try.prog W = .ok (pV (g i)) W := by
  obtain ⟨D, hD, r⟩ := h
  obtain ⟨v, ps, hr, hv⟩ := hD.lookup (Maps.int_keyed Try.underlying3) ht hz (zd := .lit (.bool false)) (zp := []) rfl (Maps.keyOf_int_mk Try.underlying3 (wf64 h1 h2))
  rw [r i] at hv
  rw [hr, Rp_inv hv]
theorem Mp.store {W : World} {mb nn : Nat} {g : Int → Option Nat} (h : Mp W mb nn g) (hn : nn < 1099511627776) {t e : TypeId} (ht : Try.prog.underlying t = some (.map 3 e)) {i : Int} (h1 : -9223372036854775808 ≤ i) (h2 : i ≤ 9223372036854775807) (b : Nat) :
    ∃ W', (Instr.mapUpdate t (.map (some mb)) (.int .i64 i) (.pointer (some ⟨b, 0, none⟩))).run Try.prog W = .ok () W' ∧ Mp W' mb (nn + 1) (updI g i (some b)) ∧ W.grownBy W' (some mb) := by
  obtain ⟨D, hD, r⟩ := h
  obtain ⟨W', hr, h3, h4⟩ := hD.store (Maps.int_keyed Try.underlying3) ht (by simp only [maxLen]; omega) (Maps.keyOf_int_mk Try.underlying3 (wf64 h1 h2)) (Rp_mk (some b))
  refine ⟨W', hr, ⟨_, h3, fun j => ?_⟩, h4.grown⟩
  unfold updI
  split <;> rename_i c
  · rw [c]
    exact Maps.atKey_put_same hD.isMap (by simp [WideAt.IsKeyLit]) _ _
  · rw [Maps.atKey_put_other (by intro e; injection e with _ e; exact c e)]
    exact r j
theorem Mp.drop {W : World} {mb nn : Nat} {g : Int → Option Nat} (h : Mp W mb nn g) {t e : TypeId} (ht : Try.prog.underlying t = some (.map 3 e)) {i : Int} (h1 : -9223372036854775808 ≤ i) (h2 : i ≤ 9223372036854775807) (ty : TypeId) :
    ∃ W', (Builtin.delete_ #[t, 3] ty #[.map (some mb), .int .i64 i]).run Try.prog W = .ok (.tuple #[]) W' ∧ Mp W' mb nn (updI g i none) ∧ W.grownBy W' (some mb) := by
  obtain ⟨D, hD, r⟩ := h
  obtain ⟨W', hr, h3, h4⟩ := hD.drop (Maps.int_keyed Try.underlying3) ht (Maps.keyOf_int_mk Try.underlying3 (wf64 h1 h2)) ty
  refine ⟨W', hr, ⟨_, h3, fun j => ?_⟩, h4.grown⟩
  unfold updI
  split <;> rename_i c
  · rw [c]
    exact Maps.atKey_del_same _
  · rw [Maps.atKey_del_other (by intro e; injection e with _ e; exact c e)]
    exact r j
end Go.Proofs.Ytjnfcihichaonaa
