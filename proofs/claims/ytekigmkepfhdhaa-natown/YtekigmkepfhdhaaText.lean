/- Text: a number's decimal digits. -/
import Derived.Test.YtekigmkepfhdhaaFill
import Derived.Laws.BytesArg
namespace Go.Proofs.Ytekigmkepfhdhaa
open Go.RowKit
set_option maxRecDepth 100000
set_option linter.unusedVariables false
/-- The powers serve for x. -/
def PowsOk (w : World) (u : Value) (x : Nat) : Prop := x < P 40 ∨ ∃ base K, 0 < K ∧ K ≤ 8 ∧ PowsAt w base u K
theorem PowsOk.below {w w' : World} {u : Value} {x : Nat} (h : PowsOk w u x) (hb : Below w.heap.size w w') : PowsOk w' u x := by
  rcases h with h | ⟨base, K, h1, h2, h3⟩
  · exact .inl h
  · exact .inr ⟨base, K, h1, h2, h3.below hb⟩
theorem chunkPowers_any (v : Value) (x : Nat) (w : World) (h : IsNat w v x) (ht : Tx x) :
    Calls Try.prog 56 #[v] w fun e w' => ∃ u, e = .returned u ∧ PowsOk w' u x ∧ Below w.heap.size w w' := by
  rcases Nat.lt_or_ge x (P 40) with hx | hx
  · refine (chunkPowers_short v x w h hx).mono ?_
    rintro e w' ⟨rfl, hb⟩
    exact ⟨_, rfl, .inl hx, hb⟩
  · refine (chunkPowers_long v x w h hx ht).mono ?_
    rintro e w' ⟨u, rfl, K, h1, h2, h3, hb⟩
    exact ⟨_, rfl, .inr ⟨_, K, h1, h2, h3⟩, hb⟩
theorem fill_ok (b N o n cap : Nat) (v pv : Value) (x : Nat) (D : Nat → Nat) (w : World) (ht : Tx x) (hD : BRow w b N D) (ho : o + n ≤ N) (hn : n ≤ 1099511627776) (hcap : n ≤ cap) (hcap2 : cap ≤ 1099511627776) (h : IsNat w v x) (hxn : x < 10 ^ n) (hP : PowsOk w pv x) :
    Calls Try.prog 55 #[.slice (some ⟨b, o, none⟩) n cap, v, pv] w (Fills w b N o n x D) := by
  rcases hP with hx | ⟨base, K, h1, h2, h3⟩
  · exact fill_short b N o n cap v pv x D w hD ho hn hcap hcap2 h hx
  · exact fill_any b N pv base K h1 h2 x ht o n cap v D w hD ho hn hcap hcap2 h hxn h3
/-- n bytes as a string. -/
def strOf (D : Nat → Nat) (n : Nat) : ByteArray := strOfNums ((List.range n).map fun i => ((D i : Nat) : Int))
theorem strOf_congr {D E : Nat → Nat} {n : Nat} (h : ∀ i, i < n → D i = E i) : strOf D n = strOf E n := by
  unfold strOf
  congr 1
  refine List.map_congr_left fun i hi => ?_
  rw [h i (by simpa using hi)]
theorem conv_bytes {w : World} {b N : Nat} {D : Nat → Nat} (h : BRow w b N D) (o n cap : Nat) (ho : o + n ≤ N) :
    (convert 23 9 (.slice (some ⟨b, o, none⟩) n cap)).run Try.prog w = .ok (.string (strOf (fun i => D (o + i)) n)) w := by
  refine run_convert_bytes_arg (P := Try.prog) w 23 5 (by kernel_rfl) (by kernel_rfl) b o n cap _ (by simp) (fun i hi => ?_) 9 (by kernel_rfl)
  rw [h.cell (show o + i < N by omega)]
  simp [List.getD, hi]
/-- x's digits, as a string. -/
def decText (x k : Nat) : ByteArray := strOf (fun i => decAt x (k - 1 - i)) k
def Texts (w : World) (x : Nat) (e : Ending) (w' : World) : Prop := ∃ k, e = .returned (.string (decText x k)) ∧ DecLen x k ∧ Below w.heap.size w w'
theorem bitLen_P {x n : Nat} (h : x < P n) : bitLen x ≤ 64 * n := by
  rw [P_two] at h
  rcases Nat.lt_or_ge (64 * n) (bitLen x) with hh | hh
  · have h1 := (bitLen_spec x).2 (by intro e; subst e; simp [bitLen] at hh)
    have h2 : (2 : Nat) ^ (64 * n) ≤ 2 ^ (bitLen x - 1) := Nat.pow_le_pow_right (by omega) (by omega)
    omega
  · exact hh
set_option maxHeartbeats 2000000 in
theorem text_any (v : Value) (x : Nat) (w : World) (h : IsNat w v x) (ht : Tx x) : Calls Try.prog 28 #[v] w (Texts w x) := by
  obtain ⟨a, m, c, rfl⟩ := h.isAgg
  have hL : bitLen x ≤ 64 * 225 := bitLen_P ht.lt
  obtain ⟨L, hLL⟩ : ∃ L, L = bitLen x := ⟨_, rfl⟩
  obtain ⟨n, hnn⟩ : ∃ n, n = L * 30103 / 100000 + 1 := ⟨_, rfl⟩
  have hxn : x < 10 ^ n := by rw [hnn, hLL]; exact lt_ten (bitLen_lt x)
  have HH : Hid (IsNat w (.agg #[.slice a m c]) x ∧ Tx x ∧ x < 10 ^ n ∧ L = bitLen x) := ⟨h, ht, hxn, hLL⟩
  rw [← hLL] at hL
  have mk := makeB_at ((L : Int) * 30103 / 100000 + 1) ((L : Int) * 30103 / 100000 + 1) n n (by rw [hnn]; omega) (by rw [hnn]; omega) (Nat.le_refl _) (by omega)
  have hn0 : 0 < n := by omega
  have hn1 : n ≤ 100000 := by omega
  clear h ht hxn hLL hnn
  go_enter Try.func28, Try.ntmps28
  go_wp2_with fail
  have ba : Below w.heap.size w (w.alloc (Obj.cells #[Value.slice a m c] 27)) := (Below.refl _ _).alloc (Nat.le_refl _) _
  refine (len_any _ x _ (HH.out.1.mono ba) HH.out.2.1.fits).mono ?_
  rintro e w1 ⟨rfl, hb1⟩
  rw [← HH.out.2.2.2]
  have B1 : Hid (Below w.heap.size w w1) := bel_go ba hb1
  have c0 : w1.cell? ⟨w.heap.size, 0, none⟩ = some (.slice a m c) := cell_later hb1 (by simp [go_sem])
  have hl0 : w.heap.size < w1.heap.size := World.block_lt_of_cell? _ _ c0
  clear hb1 ba
  go_wp2_with fail
  have bo : Below w1.heap.size w1 (w1.alloc (.cells (zeroB n) 5)) := (Below.refl _ _).alloc (Nat.le_refl _) _
  have c1 : (w1.alloc (.cells (zeroB n) 5)).cell? ⟨w.heap.size, 0, none⟩ = some (.slice a m c) := cell_later bo c0
  have I1 : Hid (BRow (w1.alloc (.cells (zeroB n) 5)) w1.heap.size n (fun _ => 0) ∧ IsNat (w1.alloc (.cells (zeroB n) 5)) (.agg #[.slice a m c]) x ∧ Below w.heap.size w (w1.alloc (.cells (zeroB n) 5))) := ⟨brow_zeros_at _ _ _ rfl, HH.out.1.mono (bel_go B1.out bo), bel_go B1.out bo⟩
  obtain ⟨w2, hw2⟩ : ∃ w2, w2 = w1.alloc (.cells (zeroB n) 5) := ⟨_, rfl⟩
  rw [← hw2] at I1 c1 ⊢
  clear hw2 bo mk
  go_region_held3 (fun w' => w'.cell? ⟨w.heap.size, 0, none⟩ = some (.slice a m c)) (first | (simp [go_sem, *]; done) | (trace_state; fail))
    (first
      | (go_at_call 56; refine Calls.mono (chunkPowers_any _ x _ ?_ HH.out.2.1) ?_; exact I1.out.2.1; rintro e w3 ⟨u3, rfl, hp3, hb3⟩; have c3 : w3.cell? ⟨w.heap.size, 0, none⟩ = some (.slice a m c) := cell_later hb3 c1; have I3 : Hid (PowsOk w3 u3 x ∧ Below w2.heap.size w2 w3) := ⟨hp3, (by first | exact hb3 | exact bel_undrew hb3)⟩; clear hp3 hb3)
      | (go_at_call 55; refine Calls.mono (fill_ok w1.heap.size n 0 n n _ _ x (fun _ => 0) _ HH.out.2.1 ?_ ?_ ?_ ?_ ?_ ?_ HH.out.2.2.1 ?_) ?_; exact I1.out.1.below I3.out.2; omega; omega; omega; omega; exact I1.out.2.1.mono I3.out.2; exact I3.out.1; rintro e w4 ⟨rfl, D4, hb4, hf4, hg4⟩; have c4 : w4.cell? ⟨w.heap.size, 0, none⟩ = some (.slice a m c) := hg4.cell c3 (fun e => by simp at e; omega); have I4 : Hid (BRow w4 w1.heap.size n D4 ∧ DecFill (fun _ => 0) D4 0 n 0 x ∧ w3.grownBy w4 (some w1.heap.size)) := ⟨hb4, hf4, (by first | exact hg4 | exact gb_undrew hg4)⟩; clear hb4 hf4 hg4))
  clear c0 c1 c3
  obtain ⟨g, hg⟩ : ∃ g, g = w1.heap.size := ⟨_, rfl⟩
  have HG : Hid (g = w1.heap.size) := hg
  rw [← hg] at I4 ⊢
  clear hg
  have I5 : Hid (BRow w4 g n D4 ∧ (∀ i, i < n → D4 i = decAt x (n - 1 - i)) ∧ Below w.heap.size w w4) := by
    refine ⟨I4.out.1, fun i hi => ?_, (bel_go I1.out.2.2 I3.out.2).grown I4.out.2.2 ?_ ?_⟩
    · have := I4.out.2.1.1 i (by omega) hi
      rw [Nat.zero_add] at this
      exact this
    · have := (bel_go I1.out.2.2 I3.out.2).size
      omega
    · intro k hk
      cases hk
      rw [HG.out]
      omega
  clear I1 I3 I4 c4 HG hl0 B1
  go_wp2_with fail
  go_loop [4] (fun t => ∃ p : Nat, p < n ∧ t = .int .i64 (p : Int) ∧ x < 10 ^ (n - p)) (fun t => n - (intOf t).toNat)
  case atStart => exact ⟨0, hn0, rfl, HH.out.2.2.1⟩
  case round =>
    obtain ⟨p, hp, rfl, hxp⟩ := hrel
    have hcp : w4.cell? ⟨g, p, none⟩ = some (.int .u8 (D4 p : Nat)) := I5.out.1.cell hp
    have HP : Hid (x < 10 ^ (n - p)) := hxp
    clear hxp
    have sl := slice_bl g 0 n n p (by omega) (by omega)
    rw [Nat.zero_add] at sl
    have cv := conv_bytes I5.out.1 p (n - p) (n - p) (by omega)
    have ce : strOf (fun i => D4 (p + i)) (n - p) = decText x (n - p) := strOf_congr fun i hi => by
      rw [I5.out.2.1 (p + i) (by omega)]
      congr 1
      omega
    rw [ce] at cv
    clear ce
    by_cases hp1 : p + 1 < n
    · by_cases hd : D4 p = 48
      · rw [hd] at hcp
        have hz : x < 10 ^ (n - (p + 1)) := by
          have h1 := I5.out.2.1 p hp
          rw [hd] at h1
          have h2 := (decAt_zero (x := x) (p := n - 1 - p) (by rw [show n - 1 - p + 1 = n - p by omega]; exact HP.out)).1 h1.symm
          rw [show n - (p + 1) = n - 1 - p by omega]
          exact h2
        have HZ : Hid _ := hz
        clear hz hd sl cv
        go_wp2_with fail
        go_round
        case rel => exact ⟨p + 1, by omega, by go_num, HZ.out⟩
        case measure => simp [intOf]; omega
      · have hdb : ((D4 p : Int) == 48) = false := by simp; omega
        have HZ : Hid (DecLen x (n - p)) := by
          refine ⟨by omega, HP.out, .inr ?_⟩
          rcases Nat.lt_or_ge x (10 ^ (n - p - 1)) with h3 | h3
          · exact absurd (by rw [I5.out.2.1 p hp]; exact (decAt_zero (p := n - 1 - p) (by rw [show n - 1 - p + 1 = n - p by omega]; exact HP.out)).2 (by rw [show n - 1 - p = n - p - 1 by omega]; exact h3)) hd
          · exact h3
        clear hd
        go_wp2_with fail
        go_ret
        exact ⟨n - p, rfl, HZ.out, I5.out.2.2⟩
    · have HZ : Hid (DecLen x (n - p)) := ⟨by omega, HP.out, .inl (by omega)⟩
      go_wp2_with fail
      go_ret
      exact ⟨n - p, rfl, HZ.out, I5.out.2.2⟩
end Go.Proofs.Ytekigmkepfhdhaa
