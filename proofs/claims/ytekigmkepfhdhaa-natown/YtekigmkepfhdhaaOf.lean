/- Of a word: its number. -/
import Derived.Test.YtekigmkepfhdhaaTrim
namespace Go.Proofs.Ytekigmkepfhdhaa
open Go.RowKit
set_option maxRecDepth 100000
theorem sl_one (w : World) (n g : Nat) (hn : n < 18446744073709551616) (hg : g = w.heap.size) (t : TypeId) : Sl (w.alloc (.cells #[.int .u64 (n : Int)] t)) (some ⟨g, 0, none⟩) 1 1 (fun _ => n) :=
  ⟨Nat.le_refl _, by omega, fun _ _ => hn, .inr ⟨g, 0, rfl, fun i hi => by
    obtain rfl : i = 0 := by omega
    subst hg
    simp⟩⟩
/-- A store into a cell that holds no word leaves numbers as they are. -/
theorem Sl.setCell {w : World} {a : Option Addr} {n cap : Nat} {F : Nat → Nat} (h : Sl w a n cap F) {p : Addr} (hp : ∀ k q, w.cell? p ≠ some (.int k q)) (u : Value) : Sl (w.setCell p u) a n cap F := by
  obtain ⟨h1, h2, h3, h4⟩ := h
  refine ⟨h1, h2, h3, h4.imp id ?_⟩
  rintro ⟨b, o, ha, hw⟩
  refine ⟨b, o, ha, fun i hi => ?_⟩
  have hne : (⟨b, o + i, none⟩ : Addr) ≠ p := fun e => hp _ _ (e ▸ hw i hi)
  exact (World.cell?_setCell_other (h := hne.symm) ..).trans (hw i hi)
theorem IsNat.setCell {w : World} {v : Value} {x : Nat} (h : IsNat w v x) {p : Addr} (hp : ∀ k q, w.cell? p ≠ some (.int k q)) (u : Value) : IsNat (w.setCell p u) v x := by
  obtain ⟨a, n, cap, F, rfl, hs, h0, h1, hv⟩ := h
  exact ⟨a, n, cap, F, rfl, hs.setCell hp u, h0, h1, hv⟩
theorem no_int_slice {w : World} {p : Addr} {a : Option Addr} {n c : Nat} (h : w.cell? p = some (.slice a n c)) : ∀ k q, w.cell? p ≠ some (.int k q) := fun k q e => by rw [h] at e; cases e
set_option maxHeartbeats 400000 in
theorem of_any (n : Nat) (w : World) (hn : n < 18446744073709551616) :
    Calls Try.prog 14 #[.int .u64 (n : Int)] w fun e w' => ∃ v, e = .returned v ∧ IsNat w' v n ∧ Below w.heap.size w w' := by
  go_enter Try.func14, Try.ntmps14
  go_wp2_with fail
  refine (trimmed_any _ 1 1 (fun _ => n) _ (sl_one _ n _ hn (by simp) _) (by omega)).mono ?_
  rintro e w1 ⟨v, rfl, hv, hb⟩
  have hc : w1.cell? ⟨w.heap.size, 0, none⟩ = some (.slice none 0 0) := cell_later hb (by simp)
  have hf : w1.frozen? ⟨w.heap.size, 0, none⟩ = false := (hb.frozen (by simp; omega)).trans (by simp)
  have HBB : Hid (Below w.heap.size w w1) := ((((Below.refl _ _).alloc (Nat.le_refl _) _).alloc (by simp) _)).trans (hb.mono (by simp; omega))
  obtain ⟨a', n', cap', F', rfl, HF⟩ := id hv
  have HV : Hid _ := hv
  clear hb hv HF
  go_wp2_with fail
  refine bodyPost_ret (v := .agg #[.slice a' n' cap']) (by simp [results, Try.results14, go_sem, hc]) rfl ⟨_, rfl, ?_, ?_⟩
  · have hx : IsNat w1 _ _ := HV.out
    rw [V_succ, V_zero, P_zero, Nat.zero_add, Nat.mul_one] at hx
    exact hx.setCell (no_int_slice hc) _
  · exact HBB.out.setCell (Nat.le_refl _) _
end Go.Proofs.Ytekigmkepfhdhaa
