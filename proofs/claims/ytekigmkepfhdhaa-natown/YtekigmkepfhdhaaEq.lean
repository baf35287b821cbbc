/- eq: the same number. -/
import Derived.Test.YtekigmkepfhdhaaParse
namespace Go.Proofs.Ytekigmkepfhdhaa
open Go.RowKit
set_option maxRecDepth 100000
set_option linter.unusedVariables false
/-- x's bytes, as a string. -/
def byteText (x : Nat) : ByteArray := strOf (fun i => byteAt x (byteLen x - 1 - i)) (byteLen x)
theorem conv_b {w : World} {g x : Nat} (h : BRow w g (byteLen x) (fun i => byteAt x (byteLen x - 1 - i))) : (convert 23 9 (.slice (some ⟨g, 0, none⟩) (byteLen x) (byteLen x))).run Try.prog w = .ok (.string (byteText x)) w := by
  rw [conv_bytes h 0 _ _ (by omega)]
  unfold byteText
  rw [strOf_congr (D := fun i => byteAt x (byteLen x - 1 - (0 + i))) (E := fun i => byteAt x (byteLen x - 1 - i)) fun i hi => by rw [Nat.zero_add]]
set_option maxHeartbeats 2000000 in
theorem eq_true (v u : Value) (x : Nat) (w : World) (h : IsNat w v x) (k : IsNat w u x) (ht : Tx x) :
    Calls Try.prog 22 #[v, u] w fun e w' => e = .returned (.bool true) ∧ Below w.heap.size w w' := by
  obtain ⟨a, m, c, rfl⟩ := h.isAgg
  obtain ⟨a', m', c', rfl⟩ := k.isAgg
  have HT : Hid (Tx x) := ⟨ht.lt⟩
  have I0 : Hid (IsNat w (.agg #[.slice a m c]) x ∧ IsNat w (.agg #[.slice a' m' c']) x) := ⟨h, k⟩
  clear h k ht
  go_enter Try.func22, Try.ntmps22
  go_wp2_with fail
  have ba := bel_alloc2 w (Obj.cells #[Value.slice a m c] 27) (Obj.cells #[Value.slice a' m' c'] 27)
  have c0 : ((w.alloc (Obj.cells #[Value.slice a m c] 27)).alloc (Obj.cells #[Value.slice a' m' c'] 27)).cell? ⟨w.heap.size, 0, none⟩ = some (.slice a m c) := by simp [go_sem]
  have c1 : ((w.alloc (Obj.cells #[Value.slice a m c] 27)).alloc (Obj.cells #[Value.slice a' m' c'] 27)).cell? ⟨w.heap.size + 1, 0, none⟩ = some (.slice a' m' c') := by simp [go_sem]
  obtain ⟨w2, hw2⟩ : ∃ w2, w2 = (w.alloc (Obj.cells #[Value.slice a m c] 27)).alloc (Obj.cells #[Value.slice a' m' c'] 27) := ⟨_, rfl⟩
  rw [← hw2] at ba c0 c1 ⊢
  have I : Hid (IsNat w2 (.agg #[.slice a m c]) x ∧ IsNat w2 (.agg #[.slice a' m' c']) x ∧ Below w.heap.size w w2) := ⟨I0.out.1.mono ba, I0.out.2.mono ba, ba⟩
  clear hw2 ba I0
  go_cut [5] (fun p wx => p = .bool true ∧ wx.cell? ⟨w.heap.size, 0, none⟩ = some (.slice a m c) ∧ wx.cell? ⟨w.heap.size + 1, 0, none⟩ = some (.slice a' m' c') ∧ Hid (IsNat wx (.agg #[.slice a m c]) x ∧ IsNat wx (.agg #[.slice a' m' c']) x ∧ Below w.heap.size w wx))
  case first =>
    go_region_with
    (first
      | (go_at_call_of 27 (Value.agg #[Value.slice a m c]); refine Calls.mono (bytes_any _ x _ ?_ HT.out.fits) ?_; exact I.out.1; rintro e w3 ⟨g3, rfl, hg3, hR3, hb3⟩; have hb3 : Below w2.heap.size w2 w3 := (by first | exact hb3 | exact bel_undrew hb3); have c2 := cell_later hb3 c0; have c3 := cell_later hb3 c1; have cvA := conv_b hR3; have I3 : Hid (IsNat w3 (.agg #[.slice a m c]) x ∧ IsNat w3 (.agg #[.slice a' m' c']) x ∧ Below w.heap.size w w3) := ⟨I.out.1.mono hb3, I.out.2.1.mono hb3, bel_go I.out.2.2 hb3⟩; have J3 : Hid _ := hR3; clear hR3 hb3 hg3)
      | (go_at_call 27; refine Calls.mono (bytes_any _ x _ ?_ HT.out.fits) ?_; exact I3.out.2.1; rintro e w4 ⟨g4, rfl, hg4, hR4, hb4⟩; have hb4 : Below w3.heap.size w3 w4 := (by first | exact hb4 | exact bel_undrew hb4); have c4 := cell_later hb4 c2; have c5 := cell_later hb4 c3; have cvB := conv_b (BRow.below J3.out hb4); have cvC := conv_b hR4; have I4 : Hid (IsNat w4 (.agg #[.slice a m c]) x ∧ IsNat w4 (.agg #[.slice a' m' c']) x ∧ Below w.heap.size w w4) := ⟨I3.out.1.mono hb4, I3.out.2.1.mono hb4, bel_go I3.out.2.2 hb4⟩; clear hR4 hb4 hg4))
    all_goals go_wp2_with fail
    all_goals go_meet
    all_goals exact ⟨rfl, c4, c5, I4⟩
  case rest =>
    clear I c0 c1
    obtain ⟨rfl, c0, c1, I⟩ := hcut
    go_wp2_with fail
    go_region_held3 (fun w' => w'.cell? ⟨w.heap.size, 0, none⟩ = some (.slice a m c) ∧ w'.cell? ⟨w.heap.size + 1, 0, none⟩ = some (.slice a' m' c')) (first | (simp [go_sem, *]; done) | (trace_state; fail))
      (first
        | (go_at_call_of 26 (Value.agg #[Value.slice a m c]); refine Calls.mono (cmp_any _ _ x x _ ?_ ?_ HT.out.fits HT.out.fits) ?_; exact I.out.1; exact I.out.2.1; rintro e w3 ⟨rfl, hb3⟩; rw [cmpI_eq]; have hb3 : Below wc.heap.size wc w3 := (by first | exact hb3 | exact bel_undrew hb3); have c2 := cell_later hb3 c0; have c3 := cell_later hb3 c1; have I3 : Hid (IsNat w3 (.agg #[.slice a m c]) x ∧ IsNat w3 (.agg #[.slice a' m' c']) x ∧ Below w.heap.size w w3) := ⟨I.out.1.mono hb3, I.out.2.1.mono hb3, bel_go I.out.2.2 hb3⟩; clear hb3)
        | (go_at_call 26; refine Calls.mono (cmp_any _ _ x x _ ?_ ?_ HT.out.fits HT.out.fits) ?_; exact I3.out.2.1; exact I3.out.1; rintro e w4 ⟨rfl, hb4⟩; rw [cmpI_eq]; have hb4 : Below w3.heap.size w3 w4 := (by first | exact hb4 | exact bel_undrew hb4); have c4 := cell_later hb4 c2; have c5 := cell_later hb4 c3; have I4 : Hid (IsNat w4 (.agg #[.slice a m c]) x ∧ IsNat w4 (.agg #[.slice a' m' c']) x ∧ Below w.heap.size w w4) := ⟨I3.out.1.mono hb4, I3.out.2.1.mono hb4, bel_go I3.out.2.2 hb4⟩; clear hb4)
        | (go_at_call_of 28 (Value.agg #[Value.slice a m c]); refine Calls.mono (text_any _ x _ ?_ HT.out) ?_; exact I4.out.1; rintro e w5 ⟨k5, rfl, hk5, hb5⟩; have hb5 : Below w4.heap.size w4 w5 := (by first | exact hb5 | exact bel_undrew hb5); have c6 := cell_later hb5 c4; have c7 := cell_later hb5 c5; have I5 : Hid (IsNat w5 (.agg #[.slice a m c]) x ∧ IsNat w5 (.agg #[.slice a' m' c']) x ∧ Below w.heap.size w w5 ∧ DecLen x k5) := ⟨I4.out.1.mono hb5, I4.out.2.1.mono hb5, bel_go I4.out.2.2 hb5, hk5⟩; clear hb5 hk5)
        | (go_at_call 28; refine Calls.mono (text_any _ x _ ?_ HT.out) ?_; exact I5.out.2.1; rintro e w6 ⟨k6, rfl, hk6, hb6⟩; rw [hk6.unique I5.out.2.2.2]; have hb6 : Below w5.heap.size w5 w6 := (by first | exact hb6 | exact bel_undrew hb6); have c8 := cell_later hb6 c6; have c9 := cell_later hb6 c7; have I6 : Hid (Below w.heap.size w w6) := bel_go I5.out.2.2.1 hb6; clear hb6 hk6))
    go_wp2_with fail
    go_ret
    exact ⟨rfl, I6.out⟩
end Go.Proofs.Ytekigmkepfhdhaa
