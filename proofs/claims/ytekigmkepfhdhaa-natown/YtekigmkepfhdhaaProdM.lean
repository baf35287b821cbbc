/- Rows and products with a digit: the plain mathematics. -/
import Derived.Test.YtekigmkepfhdhaaMul64
namespace Go.Proofs.Ytekigmkepfhdhaa
open Go.RowKit
set_option maxRecDepth 100000
theorem mul_top (w d s c : Nat) (hw : w < 18446744073709551616) (hd : d < 18446744073709551616) (hs : s < 18446744073709551616) (hc : c < 18446744073709551616) : s + c + w * d < 18446744073709551616 * 18446744073709551616 := by
  have h1 : w * d ≤ 18446744073709551615 * 18446744073709551615 := Nat.mul_le_mul (by omega) (by omega)
  omega
/-- The word that addProduct leaves at a place, and what it carries. -/
def apLo (w d s c : Nat) : Nat := addLo s (addLo (mulLo w d) c 0) 0
def apHi (w d s c : Nat) : Nat := mulHi w d + addHi (mulLo w d) c 0 + addHi s (addLo (mulLo w d) c 0) 0
def spLo (w d s c : Nat) : Nat := subLo s (addLo (mulLo w d) c 0) 0
def spHi (w d s c : Nat) : Nat := mulHi w d + addHi (mulLo w d) c 0 + subHi s (addLo (mulLo w d) c 0) 0
theorem lin3 (p t u x s c vb rb qb : Nat) (h1 : u + vb = x) (h2 : t + rb = u + c + 0) (h3 : p + qb = s + t + 0) : p + (vb + rb + qb) = s + x + c := by omega
theorem lin3m (p t u x s c vb rb qb : Nat) (h1 : u + vb = x) (h2 : t + rb = u + c + 0) (h3 : p + t + 0 = s + qb) : p + x + c = s + (vb + rb + qb) := by omega
theorem ap_eq (w d s c : Nat) : apLo w d s c + apHi w d s c * 18446744073709551616 = s + w * d + c := by
  unfold apLo apHi
  rw [Nat.add_mul, Nat.add_mul]
  exact lin3 _ _ _ _ _ _ _ _ _ (mul_eq w d) (add_eq (mulLo w d) c 0) (add_eq s (addLo (mulLo w d) c 0) 0)
theorem ap_lt (w d s c : Nat) (hw : w < 18446744073709551616) (hd : d < 18446744073709551616) (hs : s < 18446744073709551616) (hc : c < 18446744073709551616) : apHi w d s c < 18446744073709551616 := by
  have h1 := ap_eq w d s c
  have h2 := mul_top w d s c hw hd hs hc
  omega
theorem sp_eq (w d s c : Nat) (hs : s < 18446744073709551616) : spLo w d s c + w * d + c = s + spHi w d s c * 18446744073709551616 := by
  unfold spLo spHi
  rw [Nat.add_mul, Nat.add_mul]
  exact lin3m _ _ _ _ _ _ _ _ _ (mul_eq w d) (add_eq (mulLo w d) c 0) (sub_eq s (addLo (mulLo w d) c 0) 0 hs (addLo_lt _ _ _) (by omega))
theorem sp_lt (w d s c : Nat) (hw : w < 18446744073709551616) (hd : d < 18446744073709551616) (hs : s < 18446744073709551616) (hc : c < 18446744073709551616) : spHi w d s c < 18446744073709551616 := by
  have h1 := sp_eq w d s c hs
  have h2 := mul_top w d (spLo w d s c) c hw hd (subLo_lt _ _ _) hc
  omega
theorem mid_le (w d c : Nat) (hw : w < 18446744073709551616) (hd : d < 18446744073709551616) (hc : c < 18446744073709551616) : mulHi w d + addHi (mulLo w d) c 0 < 18446744073709551616 := by
  have h1 := mulHi_le w d hw hd
  have h2 := addHi_le (mulLo w d) c 0 (mulLo_lt _ _) hc (by omega)
  omega
/-- What a loop that adds a product has made of the row F, k words far. -/
def Prod (w wr : World) (b N o : Nat) (F : Nat → Nat) (y k c : Nat) (H : Nat → Nat) : Prop :=
  Row wr b N H ∧ (∀ j, j < o ∨ o + k ≤ j → H j = F j) ∧ c < 18446744073709551616 ∧ V (fro H o) k + c * P k = V (fro F o) k + y ∧ w.grownBy wr (some b)
/-- What a loop that takes a product away has made of the row F, k words far. -/
def Prodm (w wr : World) (b N o : Nat) (F : Nat → Nat) (y k c : Nat) (H : Nat → Nat) : Prop :=
  Row wr b N H ∧ (∀ j, j < o ∨ o + k ≤ j → H j = F j) ∧ c < 18446744073709551616 ∧ V (fro H o) k + y = V (fro F o) k + c * P k ∧ w.grownBy wr (some b)
theorem Prod.start {w : World} {b N : Nat} {F : Nat → Nat} (o : Nat) (h : Row w b N F) : Prod w w b N o F 0 0 0 F :=
  ⟨h, fun _ _ => rfl, by omega, by simp [V_zero], World.grownBy.refl _ _⟩
theorem Prodm.start {w : World} {b N : Nat} {F : Nat → Nat} (o : Nat) (h : Row w b N F) : Prodm w w b N o F 0 0 0 F :=
  ⟨h, fun _ _ => rfl, by omega, by simp [V_zero], World.grownBy.refl _ _⟩
theorem Prod.step {w wr : World} {b N o : Nat} {F : Nat → Nat} {G : Nat → Nat} {d k c : Nat} {H : Nat → Nat} (h : Prod w wr b N o F (V G k * d) k c H) (hk : o + k < N) (hg : G k < 18446744073709551616) (hd : d < 18446744073709551616) :
    Prod w (wr.setCell ⟨b, o + k, none⟩ (.int .u64 (apLo (G k) d (H (o + k)) c : Nat))) b N o F (V G (k + 1) * d) (k + 1) (apHi (G k) d (H (o + k)) c) (put H (o + k) (apLo (G k) d (H (o + k)) c)) := by
  obtain ⟨h1, h2, h3, h4, h5⟩ := h
  refine ⟨h1.set _ (addLo_lt _ _ _), fun j hj => ?_, ap_lt _ _ _ _ hg hd (h1.2 _ hk) h3, ?_, grown_set _ h5 _ _⟩
  · rw [put_other _ _ (by omega)]
    exact h2 j (by omega)
  · have hF : F (o + k) = H (o + k) := (h2 _ (by omega)).symm
    rw [V_succ, V_succ, V_succ, V_put, P_succ, Nat.add_mul]
    show V (fro H o) k + put H (o + k) _ (o + k) * P k + _ = V (fro F o) k + F (o + k) * P k + _
    rw [put_same, hF, Nat.mul_right_comm (G k)]
    exact add_step _ _ _ _ _ _ _ _ _ (ap_eq _ _ _ _) h4
theorem Prodm.step {w wr : World} {b N o : Nat} {F : Nat → Nat} {G : Nat → Nat} {d k c : Nat} {H : Nat → Nat} (h : Prodm w wr b N o F (V G k * d) k c H) (hk : o + k < N) (hg : G k < 18446744073709551616) (hd : d < 18446744073709551616) :
    Prodm w (wr.setCell ⟨b, o + k, none⟩ (.int .u64 (spLo (G k) d (H (o + k)) c : Nat))) b N o F (V G (k + 1) * d) (k + 1) (spHi (G k) d (H (o + k)) c) (put H (o + k) (spLo (G k) d (H (o + k)) c)) := by
  obtain ⟨h1, h2, h3, h4, h5⟩ := h
  refine ⟨h1.set _ (subLo_lt _ _ _), fun j hj => ?_, sp_lt _ _ _ _ hg hd (h1.2 _ hk) h3, ?_, grown_set _ h5 _ _⟩
  · rw [put_other _ _ (by omega)]
    exact h2 j (by omega)
  · have hF : F (o + k) = H (o + k) := (h2 _ (by omega)).symm
    rw [V_succ, V_succ, V_succ, V_put, P_succ, Nat.add_mul]
    show V (fro H o) k + put H (o + k) _ (o + k) * P k + _ = V (fro F o) k + F (o + k) * P k + _
    rw [put_same, hF, Nat.mul_right_comm (G k)]
    exact sub_step _ _ _ _ _ _ _ _ _ (sp_eq _ _ _ _ (h1.2 _ hk)) h4
end Go.Proofs.Ytekigmkepfhdhaa
