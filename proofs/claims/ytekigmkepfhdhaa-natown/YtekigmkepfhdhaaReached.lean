/- reached: how many of the marks a number is not below. -/
import Derived.Test.YtekigmkepfhdhaaCmp
namespace Go.Proofs.Ytekigmkepfhdhaa
open Go.RowKit
set_option maxRecDepth 100000
set_option linter.unusedVariables false
/-- Numbers lie in w from b's cell o on. -/
def NRow (w : World) (b o K : Nat) (M : Nat → Nat) : Prop := ∀ i, i < K → ∃ a n c, w.cell? ⟨b, o + i, none⟩ = some (.slice a n c) ∧ IsNat w (.agg #[.slice a n c]) (M i)
theorem NRow.mono {w w' : World} {b o K : Nat} {M : Nat → Nat} (h : NRow w b o K M) (hb : Below w.heap.size w w') : NRow w' b o K M := by
  intro i hi
  obtain ⟨a, n, c, h1, h2⟩ := h i hi
  exact ⟨a, n, c, cell_later hb h1, h2.mono hb⟩
def cnt (M : Nat → Nat) (x : Nat) : Nat → Nat
  | 0 => 0
  | k + 1 => cnt M x k + (if M k ≤ x then 1 else 0)
theorem cnt_le (M : Nat → Nat) (x : Nat) : ∀ k, cnt M x k ≤ k
  | 0 => Nat.le_refl _
  | k + 1 => by
    have := cnt_le M x k
    unfold cnt
    split <;> omega
set_option maxHeartbeats 1000000 in
theorem reached_any (v : Value) (x : Nat) (b o K cap : Nat) (M : Nat → Nat) (w : World) (h : IsNat w v x) (hx : Fits x) (hM : NRow w b o K M) (hf : ∀ i, i < K → Fits (M i)) (hK : K ≤ 4294967296) :
    Calls Try.prog 72 #[.slice (some ⟨b, o, none⟩) K cap, .func (.func 26) #[v] #[]] w fun e w' => e = .returned (.int .i64 ((cnt M x K : Nat) : Int)) ∧ Below w.heap.size w w' := by
  have A0 : Hid (IsNat w v x ∧ NRow w b o K M ∧ ∀ i, i < K → Fits (M i)) := ⟨h, hM, hf⟩
  clear h hM hf
  go_enter Try.func72, Try.ntmps72
  go_wp2_with fail
  go_loopw [5, 10] (fun nv t wr => ∃ (k : Nat), k ≤ K ∧ nv = .int .i64 ((cnt M x k : Nat) : Int) ∧ t = .int .i64 (k : Int) ∧ Below w.heap.size w wr) (fun _ t _ => K - (intOf t).toNat)
  case atStart => exact ⟨0, Nat.zero_le _, rfl, rfl, Below.refl _ _⟩
  case round =>
    obtain ⟨k, hk, rfl, rfl, hb⟩ := hrel
    by_cases hk0 : k = K
    · subst hk0
      have HB : Hid _ := hb
      clear hb
      go_wp2_with fail
      go_ret
      exact ⟨rfl, HB.out⟩
    · have hc := cnt_le M x k
      obtain ⟨a1, n1, c1, e1, e2⟩ := (A0.out.2.1.mono hb) k (by omega)
      have HB : Hid _ := hb
      have HE : Hid (IsNat wr (.agg #[.slice a1 n1 c1]) (M k)) := e2
      clear hb e2
      go_wp2_with fail
      have ba : Below wr.heap.size wr (wr.alloc (Obj.cells #[Value.slice a1 n1 c1] 27)) := (Below.refl _ _).alloc (Nat.le_refl _) _
      refine (cmp_any v _ x (M k) _ ((A0.out.1.mono HB.out).mono ba) (HE.out.mono ba) hx (A0.out.2.2 k (by omega))).mono ?_
      rintro e w3 ⟨rfl, hb3⟩
      have B3 : Hid (Below w.heap.size w w3) := bel_trans HB.out (bel_trans ba hb3)
      clear hb3 ba HB HE e1
      by_cases hm : M k ≤ x
      · have hcm : decide (0 ≤ cmpI x (M k)) = true := by
          rcases Nat.lt_or_ge (M k) x with h1 | h1
          · rw [cmpI_gt h1]
            rfl
          · rw [show M k = x by omega, cmpI_eq]
            rfl
        go_wp2_with fail
        go_roundw
        case rel => exact ⟨k + 1, by omega, by simp [cnt, hm], by simp, B3.out⟩
        case measure => simp [intOf]; omega
      · have hcm : decide (0 ≤ cmpI x (M k)) = false := by
          rw [cmpI_lt (by omega)]
          rfl
        go_wp2_with fail
        go_roundw
        case rel => exact ⟨k + 1, by omega, by simp [cnt, hm], by simp, B3.out⟩
        case measure => simp [intOf]; omega
end Go.Proofs.Ytekigmkepfhdhaa
