/- Contracts of the program's functions, part 3: own work, joined in build order. -/
import Derived.Test.YtfkkomppfghagaaGreatDoorJ2
namespace Go.Proofs.YtfkkomppfghagaaGreatDoor
open Go.RowKit
set_option maxRecDepth 100000
set_option linter.unusedVariables false
set_option maxHeartbeats 1000000 in
theorem addProduct_any (b N o n cap : Nat) (F : Nat → Nat) (a : Option Addr) (m cap' : Nat) (G : Nat → Nat) (d : Nat) (w : World) (hF : Row w b N F) (hG : Sl w a m cap' G) (ho : o + m ≤ N) (hn : m ≤ 1099511627776) (hm : m ≤ cap) (hnc : n ≤ cap) (hd : d < 18446744073709551616)
    (hne : ∀ b' o', a = some ⟨b', o', none⟩ → b' ≠ b) :
    Calls Tryz.prog 108 #[.slice (some ⟨b, o, none⟩) n cap, .slice a m cap', .int .u64 (d : Int)] w fun e w' => ∃ c : Nat, e = .returned (.int .u64 (c : Int)) ∧ ∃ H, Prod w w' b N o F (V G m * d) m c H := by
  have A0 := Prod.start o hF
  have HG : Hid (Sl w a m cap' G) := hG
  have HN : Hid _ := hne
  clear hG hF hne
  have hmc : (m : Int) ≤ cap := by omega
  go_enter Tryz.func108, Tryz.ntmps108
  go_wp2_with fail
  go_loopw [7, 19] (fun cv t wr => ∃ (k c : Nat) (H : Nat → Nat), k ≤ m ∧ t = .int .i64 (k : Int) ∧ cv = .int .u64 ((c : Nat) : Int) ∧ Prod w wr b N o F (V G k * d) k c H) (fun _ t _ => m - (intOf t).toNat)
  case atStart => exact ⟨0, 0, F, by omega, rfl, rfl, by rw [V_zero, Nat.zero_mul]; exact A0⟩
  case round =>
    clear A0
    obtain ⟨k, c, H, hk, rfl, rfl, hA⟩ := hrel
    by_cases hkm : k < m
    · obtain ⟨b', o', rfl, hw⟩ := HG.out.at k hkm
      have hbb : b' ≠ b := HN.out b' o' rfl
      have hc1 : wr.cell? ⟨b', o' + k, none⟩ = some (.int .u64 (G k : Nat)) := hA.2.2.2.2.cell (hw k hkm) (by simpa using hbb)
      have hc2 : wr.cell? ⟨b, o + k, none⟩ = some (.int .u64 (H (o + k) : Nat)) := hA.1.cell (by omega)
      have hf2 : wr.frozen? ⟨b, o + k, none⟩ = false := hA.1.frozen _
      have hGk : G k < 18446744073709551616 := HG.out.2.2.1 k hkm
      have ad1 := add64_c0 (mulLo (G k) d) c
      have ad2 := add64_c0 (H (o + k)) (addLo (mulLo (G k) d) c 0)
      have S : Hid _ := hA.step (by omega) hGk hd
      have hb1 : ((mulHi (G k) d : Nat) : Int) + ((addHi (mulLo (G k) d) c 0 : Nat) : Int) < 18446744073709551616 := by have := mid_le (G k) d c hGk hd hA.2.2.1; omega
      have hb2 : ((mulHi (G k) d : Nat) : Int) + ((addHi (mulLo (G k) d) c 0 : Nat) : Int) + ((addHi (H (o + k)) (addLo (mulLo (G k) d) c 0) 0 : Nat) : Int) < 18446744073709551616 := by
        have := ap_lt (G k) d (H (o + k)) c hGk hd (hA.1.2 _ (by omega)) hA.2.2.1
        unfold apHi at this
        omega
      clear hA hw hbb
      go_wp2_with fail
      refine (mul64_any (G k) d _ hGk hd).mono ?_
      rintro e w1 ⟨rfl, rfl⟩
      go_wp2_with fail
      go_roundw
      case rel => exact ⟨k + 1, _, _, by omega, by go_num, by unfold apHi; go_num, S.out⟩
      case measure => simp [intOf]; omega
    obtain rfl : k = m := by omega
    have HA : Hid _ := hA
    clear hA
    go_wp2_with fail
    go_ret
    exact ⟨c, rfl, H, HA.out⟩
set_option maxHeartbeats 1000000 in
theorem subProduct_any (b N o n cap : Nat) (F : Nat → Nat) (a : Option Addr) (m cap' : Nat) (G : Nat → Nat) (d : Nat) (w : World) (hF : Row w b N F) (hG : Sl w a m cap' G) (ho : o + m ≤ N) (hn : m ≤ 1099511627776) (hm : m ≤ cap) (hnc : n ≤ cap) (hd : d < 18446744073709551616)
    (hne : ∀ b' o', a = some ⟨b', o', none⟩ → b' ≠ b) :
    Calls Tryz.prog 150 #[.slice (some ⟨b, o, none⟩) n cap, .slice a m cap', .int .u64 (d : Int)] w fun e w' => ∃ c : Nat, e = .returned (.int .u64 (c : Int)) ∧ ∃ H, Prodm w w' b N o F (V G m * d) m c H := by
  have A0 := Prodm.start o hF
  have HG : Hid (Sl w a m cap' G) := hG
  have HN : Hid _ := hne
  clear hG hF hne
  have hmc : (m : Int) ≤ cap := by omega
  go_enter Tryz.func150, Tryz.ntmps150
  go_wp2_with fail
  go_loopw [7, 19] (fun cv t wr => ∃ (k c : Nat) (H : Nat → Nat), k ≤ m ∧ t = .int .i64 (k : Int) ∧ cv = .int .u64 ((c : Nat) : Int) ∧ Prodm w wr b N o F (V G k * d) k c H) (fun _ t _ => m - (intOf t).toNat)
  case atStart => exact ⟨0, 0, F, by omega, rfl, rfl, by rw [V_zero, Nat.zero_mul]; exact A0⟩
  case round =>
    clear A0
    obtain ⟨k, c, H, hk, rfl, rfl, hA⟩ := hrel
    by_cases hkm : k < m
    · obtain ⟨b', o', rfl, hw⟩ := HG.out.at k hkm
      have hbb : b' ≠ b := HN.out b' o' rfl
      have hc1 : wr.cell? ⟨b', o' + k, none⟩ = some (.int .u64 (G k : Nat)) := hA.2.2.2.2.cell (hw k hkm) (by simpa using hbb)
      have hc2 : wr.cell? ⟨b, o + k, none⟩ = some (.int .u64 (H (o + k) : Nat)) := hA.1.cell (by omega)
      have hf2 : wr.frozen? ⟨b, o + k, none⟩ = false := hA.1.frozen _
      have hGk : G k < 18446744073709551616 := HG.out.2.2.1 k hkm
      have ad1 := add64_c0 (mulLo (G k) d) c
      have ad2 := sub64_c0 (H (o + k)) (addLo (mulLo (G k) d) c 0)
      have S : Hid _ := hA.step (by omega) hGk hd
      have hb1 : ((mulHi (G k) d : Nat) : Int) + ((addHi (mulLo (G k) d) c 0 : Nat) : Int) < 18446744073709551616 := by have := mid_le (G k) d c hGk hd hA.2.2.1; omega
      have hb2 : ((mulHi (G k) d : Nat) : Int) + ((addHi (mulLo (G k) d) c 0 : Nat) : Int) + ((subHi (H (o + k)) (addLo (mulLo (G k) d) c 0) 0 : Nat) : Int) < 18446744073709551616 := by
        have := sp_lt (G k) d (H (o + k)) c hGk hd (hA.1.2 _ (by omega)) hA.2.2.1
        unfold spHi at this
        omega
      clear hA hw hbb
      go_wp2_with fail
      refine (mul64_any (G k) d _ hGk hd).mono ?_
      rintro e w1 ⟨rfl, rfl⟩
      go_wp2_with fail
      go_roundw
      case rel => exact ⟨k + 1, _, _, by omega, by go_num, by unfold spHi; go_num, S.out⟩
      case measure => simp [intOf]; omega
    obtain rfl : k = m := by omega
    have HA : Hid _ := hA
    clear hA
    go_wp2_with fail
    go_ret
    exact ⟨c, rfl, H, HA.out⟩
def Mulled (X Y : Nat → Nat) (n k : Nat) (H : Nat → Nat) : Prop := V H (n + k) = V X n * V Y k ∧ ∀ j, n + k ≤ j → H j = 0
theorem mulled_start (X Y : Nat → Nat) (n : Nat) : Mulled X Y n 0 (fun _ => 0) := ⟨by rw [V_const0, V_zero, Nat.mul_zero], fun _ _ => rfl⟩
theorem Mulled.step {w w' : World} {g N n k c d : Nat} {X Y H H' : Nat → Nat} (h : Mulled X Y n k H) (hp : Prod w w' g N k H (V X n * d) n c H') (hd : Y k = d) : Mulled X Y n (k + 1) (put H' (k + n) c) := by
  obtain ⟨h1, h2⟩ := h
  obtain ⟨p1, p2, p3, p4, p5⟩ := hp
  refine ⟨?_, fun j hj => ?_⟩
  · have e1 : V (put H' (k + n) c) (n + (k + 1)) = V (put H' (k + n) c) (n + k) + c * P (n + k) := by
      rw [← Nat.add_assoc, V_succ, Nat.add_comm n k, put_same]
    have e2 : V (put H' (k + n) c) (n + k) = V H k + P k * V (fro H' k) n := by
      rw [V_congr (G := H') fun i hi => put_other _ _ (by omega), Nat.add_comm n k, V_split, V_congr (F := H') (G := H) fun i hi => p2 i (.inl hi)]
      rfl
    have e3 : V H (n + k) = V H k + P k * V (fro H k) n := by rw [Nat.add_comm n k, V_split]; rfl
    have e4 := congrArg (P k * ·) p4
    simp only [Nat.mul_add] at e4
    rw [e1, e2, V_succ, hd, Nat.mul_add, ← h1, e3, Nat.add_comm n k, P_add]
    have e5 : c * (P k * P n) = P k * (c * P n) := Nat.mul_left_comm ..
    have e6 : V X n * (d * P k) = P k * (V X n * d) := by rw [← Nat.mul_assoc, Nat.mul_comm]
    omega
  rw [put_other _ _ (by omega), p2 j (.inr (by omega))]
  exact h2 j (by omega)
set_option maxHeartbeats 1000000 in
theorem plain_any (a : Option Addr) (n cap : Nat) (X : Nat → Nat) (a' : Option Addr) (m cap' : Nat) (Y : Nat → Nat) (w : World) (hX : Sl w a n cap X) (hY : Sl w a' m cap' Y) (hX0 : n = 0 → a = none) (hn : n ≤ 4294967296) (hm : m ≤ 4294967296) :
    Calls Tryz.prog 81 #[.slice a n cap, .slice a' m cap'] w (Makes w (V X n * V Y m)) := by
  have HX : Hid (Sl w a n cap X ∧ Sl w a' m cap' Y ∧ (n = 0 → a = none)) := ⟨hX, hY, hX0⟩
  clear hX hY hX0
  have mk := make_at ((n : Int) + m) ((n : Int) + m) (n + m) (n + m) (by omega) (by omega) (Nat.le_refl _) (by omega)
  go_enter Tryz.func81, Tryz.ntmps81
  go_wp2_with fail
  go_loopw [16] (fun t wr => ∃ (k : Nat) (H : Nat → Nat), k ≤ m ∧ t = .int .i64 (k : Int) ∧ Row wr (w.heap.size + 1) (n + m) H ∧ Mulled X Y n k H ∧ ((w.alloc (.cells #[.slice none 0 0] 45)).alloc (.cells (zeros (n + m)) 82)).grownBy wr (some (w.heap.size + 1))) (fun t _ => m - (intOf t).toNat)
  case atStart => exact ⟨0, fun _ => 0, by omega, rfl, row_zeros_at _ _ _ (by simp), mulled_start _ _ _, World.grownBy.refl _ _⟩
  case round =>
    clear mk
    obtain ⟨k, H, hk, rfl, hR, hM, hg⟩ := hrel
    have B0 : Hid (Below w.heap.size w wr) := (bel_alloc2 _ _ _).grown hg (by simp <;> omega) (fun k hk => by cases hk; omega)
    by_cases hkm : k < m
    · obtain ⟨b, o, rfl, hw⟩ := HX.out.2.1.at k hkm
      have hb : b < w.heap.size := World.block_lt_of_cell? _ _ (hw k hkm)
      have hcw : wr.cell? ⟨b, o + k, none⟩ = some (.int .u64 (Y k : Nat)) := cell_later B0.out (hw k hkm)
      have hkm' : (k : Int) < m := by omega
      have hni : ¬ (n + m = k) := by omega
      have hYk : Y k < 18446744073709551616 := HX.out.2.1.2.2.1 k hkm
      have HH : Hid (Row wr (w.heap.size + 1) (n + m) H ∧ Mulled X Y n k H ∧ ((w.alloc (.cells #[.slice none 0 0] 45)).alloc (.cells (zeros (n + m)) 82)).grownBy wr (some (w.heap.size + 1))) := ⟨hR, hM, hg⟩
      clear hR hM hg hw
      go_wp2_with fail
      refine (addProduct_any (w.heap.size + 1) (n + m) k (n + m - k) (n + m - k) H a n cap X (Y k) wr HH.out.1 (HX.out.1.mono B0.out) (by omega) (by omega) (by omega) (Nat.le_refl _) hYk ?_).mono ?_
      · intro b' o' ha
        by_cases e0 : n = 0
        · rw [HX.out.2.2 e0] at ha
          cases ha
        have := HX.out.1.ne_block (by omega) (g := w.heap.size + 1) (by omega) b' o' ha
        exact this
      rintro e w1 ⟨c, rfl, H', hP⟩
      have hc2 : w1.cell? ⟨w.heap.size + 1, k + n, none⟩ = some (.int .u64 (H' (k + n) : Nat)) := hP.1.cell (by omega)
      have hf2 : w1.frozen? ⟨w.heap.size + 1, k + n, none⟩ = false := hP.1.frozen _
      have S : Hid _ := And.intro (hP.1.set (k + n) hP.2.2.1) (And.intro (HH.out.2.1.step hP rfl) (grown_set _ (grown_trans HH.out.2.2 hP.2.2.2.2) (k + n) (.int .u64 (c : Int))))
      clear hP
      go_wp2_with fail
      go_roundw
      case rel => exact ⟨k + 1, _, by omega, by go_num, S.out.1, S.out.2.1, S.out.2.2⟩
      case measure => simp [intOf]; omega
    obtain rfl : k = m := by omega
    have hcr : wr.cell? ⟨w.heap.size, 0, none⟩ = some (.slice none 0 0) := hg.cell (by simp [go_sem]) (by simp)
    have hfr : wr.frozen? ⟨w.heap.size, 0, none⟩ = false := (World.frozen?_of_block (hg.block _ (by simp <;> omega) (by simp))).trans (by simp [go_sem])
    have HF : Hid (V H (n + k) = V X n * V Y k) := hM.1
    have HR : Hid (Row wr (w.heap.size + 1) (n + k) H) := hR
    clear hR hM hg
    go_wp2_with fail
    refine (trimmed_any _ (n + k) (n + k) H wr (by have := HR.out.sl (o := 0) (n := n + k) (cap := n + k) (by omega) (Nat.le_refl _) (by omega); rw [fro_zero] at this; exact this) (by omega)).mono ?_
    rintro e w3 ⟨v3, rfl, hv3, hb3⟩
    have hcr3 : w3.cell? ⟨w.heap.size, 0, none⟩ = some (.slice none 0 0) := cell_later hb3 hcr
    have hfr3 : w3.frozen? ⟨w.heap.size, 0, none⟩ = false := (hb3.frozen (World.block_lt_of_cell? _ _ hcr)).trans hfr
    obtain ⟨a3, n3, cap3, rfl⟩ := hv3.isAgg
    have HV3 : Hid (IsNat w3 (.agg #[.slice a3 n3 cap3]) (V H (n + k))) := hv3
    have B3 : Hid (Below w.heap.size w w3) := B0.out.trans (hb3.mono B0.out.size)
    clear hv3 hb3 hcr hfr
    go_wp2_with fail
    refine bodyPost_ret (v := .agg #[.slice a3 n3 cap3]) (by simp [results, Tryz.results81, go_sem, hcr3]) rfl ⟨_, rfl, ?_, B3.out.setCell (by simp) _⟩
    rw [← HF.out]
    exact HV3.out.setCell (no_int_slice hcr3) _
set_option maxHeartbeats 1000000 in
theorem mul_ge (a : Option Addr) (n cap : Nat) (a' : Option Addr) (m cap' : Nat) (x y : Nat) (w : World) (h : IsNat w (.agg #[.slice a n cap]) x) (k : IsNat w (.agg #[.slice a' m cap']) y) (hx : Fits x) (hy : Fits y) (hmn : m ≤ n) (hsh : m < 100) :
    Calls Tryz.prog 52 #[.agg #[.slice a n cap], .agg #[.slice a' m cap']] w (Makes w (x * y)) := by
  obtain ⟨F, hs, h0, h1, hv⟩ := h.fits
  obtain ⟨G, ks, k0, k1, kv⟩ := k.fits
  have hn : n ≤ 4294967296 := fits_len (hv.symm ▸ hx) h1
  have hm : m ≤ 4294967296 := fits_len (kv.symm ▸ hy) k1
  have hd : decide ((n : Int) < m) = false := decide_eq_false (by omega)
  have HH : Hid (Sl w a n cap F ∧ V F n = x ∧ (n = 0 → a = none) ∧ Sl w a' m cap' G ∧ V G m = y ∧ (m = 0 → a' = none)) := ⟨hs, hv, fun e => (h0 e).1, ks, kv, fun e => (k0 e).1⟩
  clear hs h0 h1 hv ks k0 k1 kv hx hy h k
  have HB : Hid (Below w.heap.size w (((w.alloc (.cells #[.slice a n cap] 45)).alloc (.cells #[.slice a' m cap'] 45)).alloc (.cells #[.slice none 0 0] 45))) := (bel_alloc2 _ _ _).alloc (by simp <;> omega) _
  go_enter Tryz.func52, Tryz.ntmps52
  go_wp2_with fail
  refine (plain_any a n cap F a' m cap' G _ (HH.out.1.mono HB.out) (HH.out.2.2.2.1.mono HB.out) HH.out.2.2.1 (by omega) (by omega)).mono ?_
  rintro e w3 ⟨v3, rfl, hv3, hb3⟩
  have hcr3 : w3.cell? ⟨w.heap.size + 1 + 1, 0, none⟩ = some (.slice none 0 0) := cell_later hb3 (by simp [go_sem])
  have hfr3 : w3.frozen? ⟨w.heap.size + 1 + 1, 0, none⟩ = false := (hb3.frozen (by simp <;> omega)).trans (by simp [go_sem])
  obtain ⟨a3, n3, cap3, rfl⟩ := hv3.isAgg
  have HV3 : Hid (IsNat w3 (.agg #[.slice a3 n3 cap3]) (V F n * V G m)) := hv3
  have B3 : Hid (Below w.heap.size w w3) := bel_trans HB.out hb3
  clear hv3 hb3
  go_wp2_with fail
  refine bodyPost_ret (v := .agg #[.slice a3 n3 cap3]) (by simp [results, Tryz.results52, go_sem, hcr3]) rfl ⟨_, rfl, ?_, B3.out.setCell (by simp <;> omega) _⟩
  have e1 : V F n * V G m = x * y := by rw [HH.out.2.1, HH.out.2.2.2.2.1]
  rw [← e1]
  exact HV3.out.setCell (no_int_slice hcr3) _
set_option maxHeartbeats 1000000 in
theorem mul_lt (a : Option Addr) (n cap : Nat) (a' : Option Addr) (m cap' : Nat) (x y : Nat) (w : World) (h : IsNat w (.agg #[.slice a n cap]) x) (k : IsNat w (.agg #[.slice a' m cap']) y) (hx : Fits x) (hy : Fits y) (hmn : n < m) (hsh : n < 100) :
    Calls Tryz.prog 52 #[.agg #[.slice a n cap], .agg #[.slice a' m cap']] w (Makes w (x * y)) := by
  obtain ⟨F, hs, h0, h1, hv⟩ := h.fits
  obtain ⟨G, ks, k0, k1, kv⟩ := k.fits
  have hn : n ≤ 4294967296 := fits_len (hv.symm ▸ hx) h1
  have hm : m ≤ 4294967296 := fits_len (kv.symm ▸ hy) k1
  have hd : (n : Int) < m := by omega
  have HH : Hid (Sl w a n cap F ∧ V F n = x ∧ (n = 0 → a = none) ∧ Sl w a' m cap' G ∧ V G m = y ∧ (m = 0 → a' = none)) := ⟨hs, hv, fun e => (h0 e).1, ks, kv, fun e => (k0 e).1⟩
  clear hs h0 h1 hv ks k0 k1 kv hx hy h k
  have HB : Hid (Below w.heap.size w (((w.alloc (.cells #[.slice a' m cap'] 45)).alloc (.cells #[.slice a n cap] 45)).alloc (.cells #[.slice none 0 0] 45))) := (bel_alloc2 _ _ _).alloc (by simp <;> omega) _
  go_enter Tryz.func52, Tryz.ntmps52
  go_wp2_with fail
  refine (plain_any a' m cap' G a n cap F _ (HH.out.2.2.2.1.mono HB.out) (HH.out.1.mono HB.out) HH.out.2.2.2.2.2 (by omega) (by omega)).mono ?_
  rintro e w3 ⟨v3, rfl, hv3, hb3⟩
  have hcr3 : w3.cell? ⟨w.heap.size + 1 + 1, 0, none⟩ = some (.slice none 0 0) := cell_later hb3 (by simp [go_sem])
  have hfr3 : w3.frozen? ⟨w.heap.size + 1 + 1, 0, none⟩ = false := (hb3.frozen (by simp <;> omega)).trans (by simp [go_sem])
  obtain ⟨a3, n3, cap3, rfl⟩ := hv3.isAgg
  have HV3 : Hid (IsNat w3 (.agg #[.slice a3 n3 cap3]) (V G m * V F n)) := hv3
  have B3 : Hid (Below w.heap.size w w3) := bel_trans HB.out hb3
  clear hv3 hb3
  go_wp2_with fail
  refine bodyPost_ret (v := .agg #[.slice a3 n3 cap3]) (by simp [results, Tryz.results52, go_sem, hcr3]) rfl ⟨_, rfl, ?_, B3.out.setCell (by simp <;> omega) _⟩
  have e1 : V G m * V F n = x * y := by rw [HH.out.2.1, HH.out.2.2.2.2.1]; exact Nat.mul_comm ..
  rw [← e1]
  exact HV3.out.setCell (no_int_slice hcr3) _
theorem isNat_len_le {w : World} {a : Option Addr} {n cap : Nat} {x m : Nat} (h : IsNat w (.agg #[.slice a n cap]) x) (hx : x < P m) : n ≤ m := by
  obtain ⟨F, hs, h0, h1, hv⟩ := h.fits
  exact len_le_of (hv.symm ▸ hx) h1
theorem mul_short (v u : Value) (x y : Nat) (w : World) (h : IsNat w v x) (k : IsNat w u y) (hx : Fits x) (hy : Fits y) (hsh : x < P 99 ∨ y < P 99) :
    Calls Tryz.prog 52 #[v, u] w (Makes w (x * y)) := by
  obtain ⟨a, n, cap, rfl⟩ := h.isAgg
  obtain ⟨a', m, cap', rfl⟩ := k.isAgg
  have hmin : n ≤ 99 ∨ m ≤ 99 := hsh.imp (isNat_len_le h) (isNat_len_le k)
  rcases Nat.lt_or_ge n m with hh | hh
  · exact mul_lt a n cap a' m cap' x y w h k hx hy hh (by omega)
  exact mul_ge a n cap a' m cap' x y w h k hx hy hh (by omega)
def Dig (A u Y y1 q r : Nat) : Prop := q * y1 + r = A ∧ (A * 4294967296 + u) / Y ≤ q
theorem dig_lt {A u Y : Nat} (hA : A < Y) (hu : u < 4294967296) : (A * 4294967296 + u) / Y < 4294967296 := by
  rw [Nat.div_lt_iff_lt_mul (by omega)]
  have h : (A + 1) * 4294967296 ≤ Y * 4294967296 := Nat.mul_le_mul_right _ hA
  rw [Nat.mul_comm 4294967296 Y]
  omega
theorem dig_id (y1 y0 q r u : Nat) : q * (y1 * 4294967296 + y0) + (r * 4294967296 + u) = (q * y1 + r) * 4294967296 + u + q * y0 := by
  rw [Nat.mul_add, Nat.add_mul, Nat.mul_assoc q]
  omega
theorem dig_start {A u Y y1 y0 : Nat} (hY : Y = y1 * 4294967296 + y0) (hu : u < 4294967296) (hy1 : 0 < y1) : Dig A u Y y1 (A / y1) (A % y1) := by
  refine ⟨by rw [Nat.mul_comm]; exact Nat.div_add_mod A y1, ?_⟩
  have h1 : (A * 4294967296 + u) / Y ≤ (A * 4294967296 + u) / (y1 * 4294967296) := Nat.div_le_div_left (by omega) (by omega)
  have h2 : (A * 4294967296 + u) / (y1 * 4294967296) = A / y1 := by
    rw [Nat.mul_comm y1, ← Nat.div_div_eq_div_mul, Nat.mul_comm A, Nat.mul_add_div (by omega), Nat.div_eq_of_lt hu, Nat.add_zero]
  omega
theorem lin_lt {a b c d : Nat} (h : a + b = c + d) (hc : b < d) : c < a := by omega
theorem lin_le {a b c d : Nat} (h : a + b = c + d) (hc : d ≤ b) : a ≤ c := by omega
theorem Dig.step {A u Y y1 y0 q r : Nat} (h : Dig A u Y y1 q r) (hY : Y = y1 * 4294967296 + y0) (hA : A < Y) (hu : u < 4294967296) (hc : 4294967296 ≤ q ∨ r * 4294967296 + u < q * y0) : 0 < q ∧ Dig A u Y y1 (q - 1) (r + y1) := by
  obtain ⟨h1, h2⟩ := h
  have hlt : (A * 4294967296 + u) / Y < q := by
    rcases hc with hc | hc
    · have := dig_lt hA hu
      omega
    rw [Nat.div_lt_iff_lt_mul (by omega)]
    have := dig_id y1 y0 q r u
    rw [h1, ← hY] at this
    exact lin_lt this hc
  refine ⟨Nat.lt_of_le_of_lt (Nat.zero_le _) hlt, ?_, Nat.le_sub_one_of_lt hlt⟩
  have hq0 : 0 < q := Nat.lt_of_le_of_lt (Nat.zero_le _) hlt
  clear hlt hc h2
  obtain ⟨t, rfl⟩ : ∃ t, q = t + 1 := ⟨q - 1, by omega⟩
  rw [Nat.add_mul] at h1
  simp only [Nat.add_sub_cancel]
  omega
theorem Dig.done {A u Y y1 y0 q r : Nat} (h : Dig A u Y y1 q r) (hY : Y = y1 * 4294967296 + y0) (hA : A < Y) (hc : q * y0 ≤ r * 4294967296 + u) : q = (A * 4294967296 + u) / Y := by
  obtain ⟨h1, h2⟩ := h
  refine Nat.le_antisymm ?_ h2
  rw [Nat.le_div_iff_mul_le (by omega)]
  have := dig_id y1 y0 q r u
  rw [h1, ← hY] at this
  exact lin_le this hc
theorem Dig.broke {A u Y y1 y0 q r : Nat} (h : Dig A u Y y1 q r) (hY : Y = y1 * 4294967296 + y0) (hA : A < Y) (h0 : y0 < 4294967296) (hr : 4294967296 ≤ r) : q = (A * 4294967296 + u) / Y := by
  refine h.done hY hA ?_
  have hq : q < 4294967296 := by
    rcases Nat.lt_or_ge q 4294967296 with hq | hq
    · exact hq
    have h3 : 4294967296 * y1 ≤ q * y1 := Nat.mul_le_mul_right _ hq
    have := h.1
    omega
  have h4 : q * y0 ≤ 4294967296 * 4294967296 := Nat.mul_le_mul (by omega) (by omega)
  have h5 : 4294967296 * 4294967296 ≤ r * 4294967296 := Nat.mul_le_mul_right _ hr
  omega
theorem rest_wrap {A u Y q : Nat} (hq : q = (A * 4294967296 + u) / Y) (hY : Y < 18446744073709551616) (hA : A < Y) :
    IntKind.u64.wrap (IntKind.u64.wrap (IntKind.u64.wrap ((A : Int) * 4294967296) + (u : Int)) - IntKind.u64.wrap ((q : Int) * (Y : Int))) = (((A * 4294967296 + u) % Y : Nat) : Int) := by
  have h1 := Nat.div_add_mod (A * 4294967296 + u) Y
  rw [← hq, Nat.mul_comm] at h1
  have h2 : (A * 4294967296 + u) % Y < Y := Nat.mod_lt _ (by omega)
  have e : (q : Int) * (Y : Int) = ((q * Y : Nat) : Int) := (Int.natCast_mul ..).symm
  rw [e]
  simp only [IntKind.wrap_u64]
  omega
set_option maxHeartbeats 1000000 in
theorem div64_small (lo y : Nat) (w : World) (hl : lo < 18446744073709551616) (hy : y < 18446744073709551616) (hy0 : 0 < y) :
    Calls Tryz.prog 137 #[.int .u64 0, .int .u64 (lo : Int), .int .u64 (y : Int)] w fun e w' => e = .returned (.tuple #[.int .u64 ((lo / y : Nat) : Int), .int .u64 ((lo % y : Nat) : Int)]) ∧ ∃ n, w' = w.drewN n := by
  have h0 : ((y : Int) == 0) = false := by simp <;> omega
  have h1 : decide ((y : Int) ≤ 0) = false := decide_eq_false (by omega)
  have h2 : ¬ (y : Int) = 0 := by omega
  go_enter Tryz.func137, Tryz.ntmps137
  go_wp2_with fail
  go_region
  go_wp2_with fail
  go_ret2
  have e1 : ((lo / y : Nat) : Int) = (lo : Int) / (y : Int) := by simp
  have e2 : IntKind.u64.wrap ((lo : Int) / (y : Int)) = ((lo / y : Nat) : Int) := by rw [← e1]; exact wrapU_nat _ (Nat.lt_of_le_of_lt (Nat.div_le_self _ _) hl)
  exact ⟨by simp [e2], 1, rfl⟩
theorem lz64_s (y s : Nat) (w : World) (hy : y < 18446744073709551616) (hs : s = 64 - bitLen y) : Calls Tryz.prog 126 #[.int .u64 (y : Int)] w fun e w' => e = .returned (.int .i64 (s : Int)) ∧ w' = w := by
  rw [hs]
  exact lz64_any y w hy
theorem wrap_quo (A y1 : Nat) (hA : A < 18446744073709551616) : IntKind.u64.wrap ((A : Int) / (y1 : Int)) = ((A / y1 : Nat) : Int) := by
  have e1 : ((A / y1 : Nat) : Int) = (A : Int) / (y1 : Int) := by simp
  rw [← e1]
  exact wrapU_nat _ (Nat.lt_of_le_of_lt (Nat.div_le_self _ _) hA)
theorem wrap_rem (A y1 : Nat) (hA : A < 18446744073709551616) : IntKind.u64.wrap ((A : Int) - IntKind.u64.wrap (((A / y1 : Nat) : Int) * (y1 : Int))) = ((A % y1 : Nat) : Int) := by
  have h1 := Nat.div_add_mod A y1
  rw [Nat.mul_comm] at h1
  have e : ((A / y1 : Nat) : Int) * (y1 : Int) = ((A / y1 * y1 : Nat) : Int) := (Int.natCast_mul ..).symm
  rw [e]
  simp only [IntKind.wrap_u64]
  omega
theorem wrap_mul (a b : Nat) (ha : a < 4294967296) (hb : b < 4294967296) : IntKind.u64.wrap ((a : Int) * (b : Int)) = (a : Int) * (b : Int) := by
  have e : (a : Int) * (b : Int) = ((a * b : Nat) : Int) := (Int.natCast_mul ..).symm
  have h : a * b ≤ 4294967295 * 4294967295 := Nat.mul_le_mul (by omega) (by omega)
  rw [e]
  exact wrapU_nat _ (by omega)
theorem lt_cast {t u g y : Nat} (h : t * 4294967296 + u < g * y) : (4294967296 : Int) * (t : Int) + (u : Int) < (g : Int) * (y : Int) := by
  have e : (g : Int) * (y : Int) = ((g * y : Nat) : Int) := (Int.natCast_mul ..).symm
  rw [e]
  omega
theorem not_lt_cast {t u g y : Nat} (h : ¬ t * 4294967296 + u < g * y) : ¬ (4294967296 : Int) * (t : Int) + (u : Int) < (g : Int) * (y : Int) := by
  have e : (g : Int) * (y : Int) = ((g * y : Nat) : Int) := (Int.natCast_mul ..).symm
  rw [e]
  omega
theorem div_fin {a b d R s x y : Nat} (ha : a = x) (hb : b = y) (hR : R = d) : Ending.returned (.tuple #[.int .u64 ((a : Int) * 4294967296 + (b : Int)), .int .u64 ((R : Int) / 2 ^ s)]) = .returned (.tuple #[.int .u64 ((x * 4294967296 + y : Nat) : Int), .int .u64 ((d / 2 ^ s : Nat) : Int)]) := by
  subst ha hb hR
  rw [div_int, show ((a * 4294967296 + b : Nat) : Int) = (a : Int) * 4294967296 + (b : Int) by omega]
set_option maxHeartbeats 4000000 in
theorem div64_core (hi lo y s Y y1 y0 A L u1 u0 q r A2 q2 r2 : Nat) (w : World) (hh0 : 0 < hi) (hhy : hi < y) (hl : lo < 18446744073709551616) (hy : y < 18446744073709551616) (hs : s = 64 - bitLen y) (hs' : s ≤ 63)
    (e1 : IntKind.u64.wrap ((y : Int) * 2 ^ s) = (Y : Int)) (e2 : (Y : Int) / 4294967296 = (y1 : Int)) (e3 : bits .and .u64 (Y : Int) 4294967295 = (y0 : Int))
    (e4 : bits .or .u64 (IntKind.u64.wrap ((hi : Int) * 2 ^ s)) ((lo : Int) / 2 ^ (64 - s)) = (A : Int)) (e5 : IntKind.u64.wrap ((lo : Int) * 2 ^ s) = (L : Int)) (e6 : (L : Int) / 4294967296 = (u1 : Int)) (e7 : bits .and .u64 (L : Int) 4294967295 = (u0 : Int))
    (e8 : IntKind.u64.wrap ((A : Int) / (y1 : Int)) = (q : Int)) (e9 : IntKind.u64.wrap ((A : Int) - IntKind.u64.wrap ((q : Int) * (y1 : Int))) = (r : Int))
    (hY : Hid (Y = y1 * 4294967296 + y0 ∧ A < Y ∧ Y < 18446744073709551616 ∧ A2 = (A * 4294967296 + u1) % Y ∧ Dig A u1 Y y1 q r ∧ Dig A2 u0 Y y1 q2 r2)) (hy0 : y0 < 4294967296) (hy1 : 0 < y1) (hy1' : y1 < 4294967296) (hu1 : u1 < 4294967296) (hu0 : u0 < 4294967296) (hr : r < 4294967296) (hr2 : r2 < 4294967296) (hqq : q < 18446744073709551616) (hqq2 : q2 < 18446744073709551616)
    (e10 : IntKind.u64.wrap ((A2 : Int) / (y1 : Int)) = (q2 : Int)) (e11 : IntKind.u64.wrap ((A2 : Int) - IntKind.u64.wrap ((q2 : Int) * (y1 : Int))) = (r2 : Int)) :
    Calls Tryz.prog 137 #[.int .u64 (hi : Int), .int .u64 (lo : Int), .int .u64 (y : Int)] w fun e w' => e = .returned (.tuple #[.int .u64 (((A * 4294967296 + u1) / Y * 4294967296 + (A2 * 4294967296 + u0) / Y : Nat) : Int), .int .u64 (((A2 * 4294967296 + u0) % Y / 2 ^ s : Nat) : Int)]) ∧ w' = w := by
  have h0 : ((y : Int) == 0) = false := by simp <;> omega
  have h1 : decide ((y : Int) ≤ (hi : Int)) = false := decide_eq_false (by omega)
  have h2 : ((hi : Int) == 0) = false := by simp <;> omega
  have hyn : ((y1 : Int) == 0) = false := by simp <;> omega
  have hyn' : ¬ (y1 : Int) = 0 := by omega
  have HS : Hid _ := hs
  clear hs
  go_enter Tryz.func137, Tryz.ntmps137
  go_wp2_with fail
  refine (lz64_s y s _ hy HS.out).mono ?_
  rintro e w1 ⟨rfl, rfl⟩
  go_wp2_with fail
  have HA2 : Hid (A2 < Y) := by show A2 < Y; rw [hY.out.2.2.2.1]; exact Nat.mod_lt _ (by have := hY.out.2.1; omega)
  go_loop [15, 16] (fun a c => ∃ (ga ta : Nat), a = .int .u64 ((ga : Nat) : Int) ∧ c = .int .u64 ((ta : Nat) : Int) ∧ ta < 4294967296 ∧ ga < 18446744073709551616 ∧ Hid (Dig A u1 Y y1 ga ta)) (fun a _ => (intOf a).toNat)
  case atStart => exact ⟨q, r, rfl, rfl, hr, hqq, hY.out.2.2.2.2.1⟩
  case round =>
    obtain ⟨ga, ta, rfl, rfl, hta, hga, HDa⟩ := hrel
    by_cases hba : 4294967296 ≤ ga
    · obtain ⟨hpa, HNa⟩ := HDa.out.step hY.out.1 hY.out.2.1 hu1 (.inl hba)
      have dba : decide ((4294967296 : Int) ≤ ((ga : Nat) : Int)) = true := decide_eq_true (by omega)
      obtain ⟨va, hva⟩ : ∃ v, v = ga - 1 := ⟨_, rfl⟩
      have eva : ((ga : Nat) : Int) - 1 = ((va : Nat) : Int) := by omega
      have vla : va < 18446744073709551616 := by omega
      have HMa : Hid (Dig A u1 Y y1 va (ta + y1) ∧ va < ga) := ⟨by rw [hva]; exact HNa, by omega⟩
      clear HNa hva hba
      by_cases hra : 4294967296 ≤ ta + y1
      · have dra : decide ((4294967296 : Int) ≤ ((ta : Nat) : Int) + (y1 : Int)) = true := decide_eq_true (by omega)
        have HQa : Hid (va = (A * 4294967296 + u1) / Y) := HMa.out.1.broke hY.out.1 hY.out.2.1 hy0 hra
        have hqa : (va : Int) < 4294967296 := by have := dig_lt hY.out.2.1 hu1; rw [← HQa.out] at this; omega
        clear hra
        have e12 : IntKind.u64.wrap (IntKind.u64.wrap (IntKind.u64.wrap ((A : Int) * 4294967296) + (u1 : Int)) - IntKind.u64.wrap (((va : Nat) : Int) * (Y : Int))) = (A2 : Int) := by rw [rest_wrap HQa.out hY.out.2.2.1 hY.out.2.1, ← hY.out.2.2.2.1]
        go_wp2_with fail
        go_loop [18, 16] (fun a c => ∃ (gb tb : Nat), a = .int .u64 ((gb : Nat) : Int) ∧ c = .int .u64 ((tb : Nat) : Int) ∧ tb < 4294967296 ∧ gb < 18446744073709551616 ∧ Hid (Dig A2 u0 Y y1 gb tb)) (fun a _ => (intOf a).toNat)
        case atStart => exact ⟨q2, r2, rfl, rfl, hr2, hqq2, hY.out.2.2.2.2.2⟩
        case round =>
          obtain ⟨gb, tb, rfl, rfl, htb, hgb, HDb⟩ := hrel
          by_cases hbb : 4294967296 ≤ gb
          · obtain ⟨hpb, HNb⟩ := HDb.out.step hY.out.1 HA2.out hu0 (.inl hbb)
            have dbb : decide ((4294967296 : Int) ≤ ((gb : Nat) : Int)) = true := decide_eq_true (by omega)
            obtain ⟨vb, hvb⟩ : ∃ v, v = gb - 1 := ⟨_, rfl⟩
            have evb : ((gb : Nat) : Int) - 1 = ((vb : Nat) : Int) := by omega
            have vlb : vb < 18446744073709551616 := by omega
            have HMb : Hid (Dig A2 u0 Y y1 vb (tb + y1) ∧ vb < gb) := ⟨by rw [hvb]; exact HNb, by omega⟩
            clear HNb hvb hbb
            by_cases hrb : 4294967296 ≤ tb + y1
            · have drb : decide ((4294967296 : Int) ≤ ((tb : Nat) : Int) + (y1 : Int)) = true := decide_eq_true (by omega)
              have HQb : Hid (vb = (A2 * 4294967296 + u0) / Y) := HMb.out.1.broke hY.out.1 HA2.out hy0 hrb
              have hqb : (vb : Int) < 4294967296 := by have := dig_lt HA2.out hu0; rw [← HQb.out] at this; omega
              clear hrb
              have e13 : IntKind.u64.wrap (IntKind.u64.wrap (IntKind.u64.wrap ((A2 : Int) * 4294967296) + (u0 : Int)) - IntKind.u64.wrap (((vb : Nat) : Int) * (Y : Int))) = (((A2 * 4294967296 + u0) % Y : Nat) : Int) := rest_wrap HQb.out hY.out.2.2.1 HA2.out
              obtain ⟨R, hR⟩ : ∃ R, R = (A2 * 4294967296 + u0) % Y := ⟨_, rfl⟩
              rw [← hR] at e13
              have HR : Hid _ := hR
              clear hR
              go_wp2_with fail
              go_ret2
              exact ⟨div_fin HQa.out HQb.out HR.out, rfl⟩
            have drb : decide ((4294967296 : Int) ≤ ((tb : Nat) : Int) + (y1 : Int)) = false := decide_eq_false (by omega)
            have hr'b : tb + y1 < 4294967296 := by omega
            clear hrb
            go_wp2_with fail
            go_round
            case rel => exact ⟨vb, tb + y1, rfl, by go_num, hr'b, by omega, HMb.out.1⟩
            case measure => simp [intOf]; have := HMb.out.2; omega
          by_cases hcb : tb * 4294967296 + u0 < gb * y0
          · obtain ⟨hpb, HNb⟩ := HDb.out.step hY.out.1 HA2.out hu0 (.inr hcb)
            have dbb : decide ((4294967296 : Int) ≤ ((gb : Nat) : Int)) = false := decide_eq_false (by omega)
            have mmb : IntKind.u64.wrap (((gb : Nat) : Int) * (y0 : Int)) = ((gb : Nat) : Int) * (y0 : Int) := wrap_mul _ _ (by omega) (by omega)
            have dcb : decide ((4294967296 : Int) * ((tb : Nat) : Int) + (u0 : Int) < ((gb : Nat) : Int) * (y0 : Int)) = true := decide_eq_true (lt_cast hcb)
            obtain ⟨vb, hvb⟩ : ∃ v, v = gb - 1 := ⟨_, rfl⟩
            have evb : ((gb : Nat) : Int) - 1 = ((vb : Nat) : Int) := by omega
            have vlb : vb < 18446744073709551616 := by omega
            have HMb : Hid (Dig A2 u0 Y y1 vb (tb + y1) ∧ vb < gb) := ⟨by rw [hvb]; exact HNb, by omega⟩
            clear HNb hvb hbb hcb
            by_cases hrb : 4294967296 ≤ tb + y1
            · have drb : decide ((4294967296 : Int) ≤ ((tb : Nat) : Int) + (y1 : Int)) = true := decide_eq_true (by omega)
              have HQb : Hid (vb = (A2 * 4294967296 + u0) / Y) := HMb.out.1.broke hY.out.1 HA2.out hy0 hrb
              have hqb : (vb : Int) < 4294967296 := by have := dig_lt HA2.out hu0; rw [← HQb.out] at this; omega
              clear hrb
              have e13 : IntKind.u64.wrap (IntKind.u64.wrap (IntKind.u64.wrap ((A2 : Int) * 4294967296) + (u0 : Int)) - IntKind.u64.wrap (((vb : Nat) : Int) * (Y : Int))) = (((A2 * 4294967296 + u0) % Y : Nat) : Int) := rest_wrap HQb.out hY.out.2.2.1 HA2.out
              obtain ⟨R, hR⟩ : ∃ R, R = (A2 * 4294967296 + u0) % Y := ⟨_, rfl⟩
              rw [← hR] at e13
              have HR : Hid _ := hR
              clear hR
              go_wp2_with fail
              go_ret2
              exact ⟨div_fin HQa.out HQb.out HR.out, rfl⟩
            have drb : decide ((4294967296 : Int) ≤ ((tb : Nat) : Int) + (y1 : Int)) = false := decide_eq_false (by omega)
            have hr'b : tb + y1 < 4294967296 := by omega
            clear hrb
            go_wp2_with fail
            go_round
            case rel => exact ⟨vb, tb + y1, rfl, by go_num, hr'b, by omega, HMb.out.1⟩
            case measure => simp [intOf]; have := HMb.out.2; omega
          have dbb : decide ((4294967296 : Int) ≤ ((gb : Nat) : Int)) = false := decide_eq_false (by omega)
          have mmb : IntKind.u64.wrap (((gb : Nat) : Int) * (y0 : Int)) = ((gb : Nat) : Int) * (y0 : Int) := wrap_mul _ _ (by omega) (by omega)
          have dcb : decide ((4294967296 : Int) * ((tb : Nat) : Int) + (u0 : Int) < ((gb : Nat) : Int) * (y0 : Int)) = false := decide_eq_false (not_lt_cast hcb)
          have HQb : Hid (gb = (A2 * 4294967296 + u0) / Y) := HDb.out.done hY.out.1 HA2.out (by omega)
          have hqb : (gb : Int) < 4294967296 := by omega
          clear hcb hbb
          have e13 : IntKind.u64.wrap (IntKind.u64.wrap (IntKind.u64.wrap ((A2 : Int) * 4294967296) + (u0 : Int)) - IntKind.u64.wrap (((gb : Nat) : Int) * (Y : Int))) = (((A2 * 4294967296 + u0) % Y : Nat) : Int) := rest_wrap HQb.out hY.out.2.2.1 HA2.out
          obtain ⟨R, hR⟩ : ∃ R, R = (A2 * 4294967296 + u0) % Y := ⟨_, rfl⟩
          rw [← hR] at e13
          have HR : Hid _ := hR
          clear hR
          go_wp2_with fail
          go_ret2
          exact ⟨div_fin HQa.out HQb.out HR.out, rfl⟩
      have dra : decide ((4294967296 : Int) ≤ ((ta : Nat) : Int) + (y1 : Int)) = false := decide_eq_false (by omega)
      have hr'a : ta + y1 < 4294967296 := by omega
      clear hra
      go_wp2_with fail
      go_round
      case rel => exact ⟨va, ta + y1, rfl, by go_num, hr'a, by omega, HMa.out.1⟩
      case measure => simp [intOf]; have := HMa.out.2; omega
    by_cases hca : ta * 4294967296 + u1 < ga * y0
    · obtain ⟨hpa, HNa⟩ := HDa.out.step hY.out.1 hY.out.2.1 hu1 (.inr hca)
      have dba : decide ((4294967296 : Int) ≤ ((ga : Nat) : Int)) = false := decide_eq_false (by omega)
      have mma : IntKind.u64.wrap (((ga : Nat) : Int) * (y0 : Int)) = ((ga : Nat) : Int) * (y0 : Int) := wrap_mul _ _ (by omega) (by omega)
      have dca : decide ((4294967296 : Int) * ((ta : Nat) : Int) + (u1 : Int) < ((ga : Nat) : Int) * (y0 : Int)) = true := decide_eq_true (lt_cast hca)
      obtain ⟨va, hva⟩ : ∃ v, v = ga - 1 := ⟨_, rfl⟩
      have eva : ((ga : Nat) : Int) - 1 = ((va : Nat) : Int) := by omega
      have vla : va < 18446744073709551616 := by omega
      have HMa : Hid (Dig A u1 Y y1 va (ta + y1) ∧ va < ga) := ⟨by rw [hva]; exact HNa, by omega⟩
      clear HNa hva hba hca
      by_cases hra : 4294967296 ≤ ta + y1
      · have dra : decide ((4294967296 : Int) ≤ ((ta : Nat) : Int) + (y1 : Int)) = true := decide_eq_true (by omega)
        have HQa : Hid (va = (A * 4294967296 + u1) / Y) := HMa.out.1.broke hY.out.1 hY.out.2.1 hy0 hra
        have hqa : (va : Int) < 4294967296 := by have := dig_lt hY.out.2.1 hu1; rw [← HQa.out] at this; omega
        clear hra
        have e12 : IntKind.u64.wrap (IntKind.u64.wrap (IntKind.u64.wrap ((A : Int) * 4294967296) + (u1 : Int)) - IntKind.u64.wrap (((va : Nat) : Int) * (Y : Int))) = (A2 : Int) := by rw [rest_wrap HQa.out hY.out.2.2.1 hY.out.2.1, ← hY.out.2.2.2.1]
        go_wp2_with fail
        go_loop [18, 16] (fun a c => ∃ (gb tb : Nat), a = .int .u64 ((gb : Nat) : Int) ∧ c = .int .u64 ((tb : Nat) : Int) ∧ tb < 4294967296 ∧ gb < 18446744073709551616 ∧ Hid (Dig A2 u0 Y y1 gb tb)) (fun a _ => (intOf a).toNat)
        case atStart => exact ⟨q2, r2, rfl, rfl, hr2, hqq2, hY.out.2.2.2.2.2⟩
        case round =>
          obtain ⟨gb, tb, rfl, rfl, htb, hgb, HDb⟩ := hrel
          by_cases hbb : 4294967296 ≤ gb
          · obtain ⟨hpb, HNb⟩ := HDb.out.step hY.out.1 HA2.out hu0 (.inl hbb)
            have dbb : decide ((4294967296 : Int) ≤ ((gb : Nat) : Int)) = true := decide_eq_true (by omega)
            obtain ⟨vb, hvb⟩ : ∃ v, v = gb - 1 := ⟨_, rfl⟩
            have evb : ((gb : Nat) : Int) - 1 = ((vb : Nat) : Int) := by omega
            have vlb : vb < 18446744073709551616 := by omega
            have HMb : Hid (Dig A2 u0 Y y1 vb (tb + y1) ∧ vb < gb) := ⟨by rw [hvb]; exact HNb, by omega⟩
            clear HNb hvb hbb
            by_cases hrb : 4294967296 ≤ tb + y1
            · have drb : decide ((4294967296 : Int) ≤ ((tb : Nat) : Int) + (y1 : Int)) = true := decide_eq_true (by omega)
              have HQb : Hid (vb = (A2 * 4294967296 + u0) / Y) := HMb.out.1.broke hY.out.1 HA2.out hy0 hrb
              have hqb : (vb : Int) < 4294967296 := by have := dig_lt HA2.out hu0; rw [← HQb.out] at this; omega
              clear hrb
              have e13 : IntKind.u64.wrap (IntKind.u64.wrap (IntKind.u64.wrap ((A2 : Int) * 4294967296) + (u0 : Int)) - IntKind.u64.wrap (((vb : Nat) : Int) * (Y : Int))) = (((A2 * 4294967296 + u0) % Y : Nat) : Int) := rest_wrap HQb.out hY.out.2.2.1 HA2.out
              obtain ⟨R, hR⟩ : ∃ R, R = (A2 * 4294967296 + u0) % Y := ⟨_, rfl⟩
              rw [← hR] at e13
              have HR : Hid _ := hR
              clear hR
              go_wp2_with fail
              go_ret2
              exact ⟨div_fin HQa.out HQb.out HR.out, rfl⟩
            have drb : decide ((4294967296 : Int) ≤ ((tb : Nat) : Int) + (y1 : Int)) = false := decide_eq_false (by omega)
            have hr'b : tb + y1 < 4294967296 := by omega
            clear hrb
            go_wp2_with fail
            go_round
            case rel => exact ⟨vb, tb + y1, rfl, by go_num, hr'b, by omega, HMb.out.1⟩
            case measure => simp [intOf]; have := HMb.out.2; omega
          by_cases hcb : tb * 4294967296 + u0 < gb * y0
          · obtain ⟨hpb, HNb⟩ := HDb.out.step hY.out.1 HA2.out hu0 (.inr hcb)
            have dbb : decide ((4294967296 : Int) ≤ ((gb : Nat) : Int)) = false := decide_eq_false (by omega)
            have mmb : IntKind.u64.wrap (((gb : Nat) : Int) * (y0 : Int)) = ((gb : Nat) : Int) * (y0 : Int) := wrap_mul _ _ (by omega) (by omega)
            have dcb : decide ((4294967296 : Int) * ((tb : Nat) : Int) + (u0 : Int) < ((gb : Nat) : Int) * (y0 : Int)) = true := decide_eq_true (lt_cast hcb)
            obtain ⟨vb, hvb⟩ : ∃ v, v = gb - 1 := ⟨_, rfl⟩
            have evb : ((gb : Nat) : Int) - 1 = ((vb : Nat) : Int) := by omega
            have vlb : vb < 18446744073709551616 := by omega
            have HMb : Hid (Dig A2 u0 Y y1 vb (tb + y1) ∧ vb < gb) := ⟨by rw [hvb]; exact HNb, by omega⟩
            clear HNb hvb hbb hcb
            by_cases hrb : 4294967296 ≤ tb + y1
            · have drb : decide ((4294967296 : Int) ≤ ((tb : Nat) : Int) + (y1 : Int)) = true := decide_eq_true (by omega)
              have HQb : Hid (vb = (A2 * 4294967296 + u0) / Y) := HMb.out.1.broke hY.out.1 HA2.out hy0 hrb
              have hqb : (vb : Int) < 4294967296 := by have := dig_lt HA2.out hu0; rw [← HQb.out] at this; omega
              clear hrb
              have e13 : IntKind.u64.wrap (IntKind.u64.wrap (IntKind.u64.wrap ((A2 : Int) * 4294967296) + (u0 : Int)) - IntKind.u64.wrap (((vb : Nat) : Int) * (Y : Int))) = (((A2 * 4294967296 + u0) % Y : Nat) : Int) := rest_wrap HQb.out hY.out.2.2.1 HA2.out
              obtain ⟨R, hR⟩ : ∃ R, R = (A2 * 4294967296 + u0) % Y := ⟨_, rfl⟩
              rw [← hR] at e13
              have HR : Hid _ := hR
              clear hR
              go_wp2_with fail
              go_ret2
              exact ⟨div_fin HQa.out HQb.out HR.out, rfl⟩
            have drb : decide ((4294967296 : Int) ≤ ((tb : Nat) : Int) + (y1 : Int)) = false := decide_eq_false (by omega)
            have hr'b : tb + y1 < 4294967296 := by omega
            clear hrb
            go_wp2_with fail
            go_round
            case rel => exact ⟨vb, tb + y1, rfl, by go_num, hr'b, by omega, HMb.out.1⟩
            case measure => simp [intOf]; have := HMb.out.2; omega
          have dbb : decide ((4294967296 : Int) ≤ ((gb : Nat) : Int)) = false := decide_eq_false (by omega)
          have mmb : IntKind.u64.wrap (((gb : Nat) : Int) * (y0 : Int)) = ((gb : Nat) : Int) * (y0 : Int) := wrap_mul _ _ (by omega) (by omega)
          have dcb : decide ((4294967296 : Int) * ((tb : Nat) : Int) + (u0 : Int) < ((gb : Nat) : Int) * (y0 : Int)) = false := decide_eq_false (not_lt_cast hcb)
          have HQb : Hid (gb = (A2 * 4294967296 + u0) / Y) := HDb.out.done hY.out.1 HA2.out (by omega)
          have hqb : (gb : Int) < 4294967296 := by omega
          clear hcb hbb
          have e13 : IntKind.u64.wrap (IntKind.u64.wrap (IntKind.u64.wrap ((A2 : Int) * 4294967296) + (u0 : Int)) - IntKind.u64.wrap (((gb : Nat) : Int) * (Y : Int))) = (((A2 * 4294967296 + u0) % Y : Nat) : Int) := rest_wrap HQb.out hY.out.2.2.1 HA2.out
          obtain ⟨R, hR⟩ : ∃ R, R = (A2 * 4294967296 + u0) % Y := ⟨_, rfl⟩
          rw [← hR] at e13
          have HR : Hid _ := hR
          clear hR
          go_wp2_with fail
          go_ret2
          exact ⟨div_fin HQa.out HQb.out HR.out, rfl⟩
      have dra : decide ((4294967296 : Int) ≤ ((ta : Nat) : Int) + (y1 : Int)) = false := decide_eq_false (by omega)
      have hr'a : ta + y1 < 4294967296 := by omega
      clear hra
      go_wp2_with fail
      go_round
      case rel => exact ⟨va, ta + y1, rfl, by go_num, hr'a, by omega, HMa.out.1⟩
      case measure => simp [intOf]; have := HMa.out.2; omega
    have dba : decide ((4294967296 : Int) ≤ ((ga : Nat) : Int)) = false := decide_eq_false (by omega)
    have mma : IntKind.u64.wrap (((ga : Nat) : Int) * (y0 : Int)) = ((ga : Nat) : Int) * (y0 : Int) := wrap_mul _ _ (by omega) (by omega)
    have dca : decide ((4294967296 : Int) * ((ta : Nat) : Int) + (u1 : Int) < ((ga : Nat) : Int) * (y0 : Int)) = false := decide_eq_false (not_lt_cast hca)
    have HQa : Hid (ga = (A * 4294967296 + u1) / Y) := HDa.out.done hY.out.1 hY.out.2.1 (by omega)
    have hqa : (ga : Int) < 4294967296 := by omega
    clear hca hba
    have e12 : IntKind.u64.wrap (IntKind.u64.wrap (IntKind.u64.wrap ((A : Int) * 4294967296) + (u1 : Int)) - IntKind.u64.wrap (((ga : Nat) : Int) * (Y : Int))) = (A2 : Int) := by rw [rest_wrap HQa.out hY.out.2.2.1 hY.out.2.1, ← hY.out.2.2.2.1]
    go_wp2_with fail
    go_loop [18, 16] (fun a c => ∃ (gb tb : Nat), a = .int .u64 ((gb : Nat) : Int) ∧ c = .int .u64 ((tb : Nat) : Int) ∧ tb < 4294967296 ∧ gb < 18446744073709551616 ∧ Hid (Dig A2 u0 Y y1 gb tb)) (fun a _ => (intOf a).toNat)
    case atStart => exact ⟨q2, r2, rfl, rfl, hr2, hqq2, hY.out.2.2.2.2.2⟩
    case round =>
      obtain ⟨gb, tb, rfl, rfl, htb, hgb, HDb⟩ := hrel
      by_cases hbb : 4294967296 ≤ gb
      · obtain ⟨hpb, HNb⟩ := HDb.out.step hY.out.1 HA2.out hu0 (.inl hbb)
        have dbb : decide ((4294967296 : Int) ≤ ((gb : Nat) : Int)) = true := decide_eq_true (by omega)
        obtain ⟨vb, hvb⟩ : ∃ v, v = gb - 1 := ⟨_, rfl⟩
        have evb : ((gb : Nat) : Int) - 1 = ((vb : Nat) : Int) := by omega
        have vlb : vb < 18446744073709551616 := by omega
        have HMb : Hid (Dig A2 u0 Y y1 vb (tb + y1) ∧ vb < gb) := ⟨by rw [hvb]; exact HNb, by omega⟩
        clear HNb hvb hbb
        by_cases hrb : 4294967296 ≤ tb + y1
        · have drb : decide ((4294967296 : Int) ≤ ((tb : Nat) : Int) + (y1 : Int)) = true := decide_eq_true (by omega)
          have HQb : Hid (vb = (A2 * 4294967296 + u0) / Y) := HMb.out.1.broke hY.out.1 HA2.out hy0 hrb
          have hqb : (vb : Int) < 4294967296 := by have := dig_lt HA2.out hu0; rw [← HQb.out] at this; omega
          clear hrb
          have e13 : IntKind.u64.wrap (IntKind.u64.wrap (IntKind.u64.wrap ((A2 : Int) * 4294967296) + (u0 : Int)) - IntKind.u64.wrap (((vb : Nat) : Int) * (Y : Int))) = (((A2 * 4294967296 + u0) % Y : Nat) : Int) := rest_wrap HQb.out hY.out.2.2.1 HA2.out
          obtain ⟨R, hR⟩ : ∃ R, R = (A2 * 4294967296 + u0) % Y := ⟨_, rfl⟩
          rw [← hR] at e13
          have HR : Hid _ := hR
          clear hR
          go_wp2_with fail
          go_ret2
          exact ⟨div_fin HQa.out HQb.out HR.out, rfl⟩
        have drb : decide ((4294967296 : Int) ≤ ((tb : Nat) : Int) + (y1 : Int)) = false := decide_eq_false (by omega)
        have hr'b : tb + y1 < 4294967296 := by omega
        clear hrb
        go_wp2_with fail
        go_round
        case rel => exact ⟨vb, tb + y1, rfl, by go_num, hr'b, by omega, HMb.out.1⟩
        case measure => simp [intOf]; have := HMb.out.2; omega
      by_cases hcb : tb * 4294967296 + u0 < gb * y0
      · obtain ⟨hpb, HNb⟩ := HDb.out.step hY.out.1 HA2.out hu0 (.inr hcb)
        have dbb : decide ((4294967296 : Int) ≤ ((gb : Nat) : Int)) = false := decide_eq_false (by omega)
        have mmb : IntKind.u64.wrap (((gb : Nat) : Int) * (y0 : Int)) = ((gb : Nat) : Int) * (y0 : Int) := wrap_mul _ _ (by omega) (by omega)
        have dcb : decide ((4294967296 : Int) * ((tb : Nat) : Int) + (u0 : Int) < ((gb : Nat) : Int) * (y0 : Int)) = true := decide_eq_true (lt_cast hcb)
        obtain ⟨vb, hvb⟩ : ∃ v, v = gb - 1 := ⟨_, rfl⟩
        have evb : ((gb : Nat) : Int) - 1 = ((vb : Nat) : Int) := by omega
        have vlb : vb < 18446744073709551616 := by omega
        have HMb : Hid (Dig A2 u0 Y y1 vb (tb + y1) ∧ vb < gb) := ⟨by rw [hvb]; exact HNb, by omega⟩
        clear HNb hvb hbb hcb
        by_cases hrb : 4294967296 ≤ tb + y1
        · have drb : decide ((4294967296 : Int) ≤ ((tb : Nat) : Int) + (y1 : Int)) = true := decide_eq_true (by omega)
          have HQb : Hid (vb = (A2 * 4294967296 + u0) / Y) := HMb.out.1.broke hY.out.1 HA2.out hy0 hrb
          have hqb : (vb : Int) < 4294967296 := by have := dig_lt HA2.out hu0; rw [← HQb.out] at this; omega
          clear hrb
          have e13 : IntKind.u64.wrap (IntKind.u64.wrap (IntKind.u64.wrap ((A2 : Int) * 4294967296) + (u0 : Int)) - IntKind.u64.wrap (((vb : Nat) : Int) * (Y : Int))) = (((A2 * 4294967296 + u0) % Y : Nat) : Int) := rest_wrap HQb.out hY.out.2.2.1 HA2.out
          obtain ⟨R, hR⟩ : ∃ R, R = (A2 * 4294967296 + u0) % Y := ⟨_, rfl⟩
          rw [← hR] at e13
          have HR : Hid _ := hR
          clear hR
          go_wp2_with fail
          go_ret2
          exact ⟨div_fin HQa.out HQb.out HR.out, rfl⟩
        have drb : decide ((4294967296 : Int) ≤ ((tb : Nat) : Int) + (y1 : Int)) = false := decide_eq_false (by omega)
        have hr'b : tb + y1 < 4294967296 := by omega
        clear hrb
        go_wp2_with fail
        go_round
        case rel => exact ⟨vb, tb + y1, rfl, by go_num, hr'b, by omega, HMb.out.1⟩
        case measure => simp [intOf]; have := HMb.out.2; omega
      have dbb : decide ((4294967296 : Int) ≤ ((gb : Nat) : Int)) = false := decide_eq_false (by omega)
      have mmb : IntKind.u64.wrap (((gb : Nat) : Int) * (y0 : Int)) = ((gb : Nat) : Int) * (y0 : Int) := wrap_mul _ _ (by omega) (by omega)
      have dcb : decide ((4294967296 : Int) * ((tb : Nat) : Int) + (u0 : Int) < ((gb : Nat) : Int) * (y0 : Int)) = false := decide_eq_false (not_lt_cast hcb)
      have HQb : Hid (gb = (A2 * 4294967296 + u0) / Y) := HDb.out.done hY.out.1 HA2.out (by omega)
      have hqb : (gb : Int) < 4294967296 := by omega
      clear hcb hbb
      have e13 : IntKind.u64.wrap (IntKind.u64.wrap (IntKind.u64.wrap ((A2 : Int) * 4294967296) + (u0 : Int)) - IntKind.u64.wrap (((gb : Nat) : Int) * (Y : Int))) = (((A2 * 4294967296 + u0) % Y : Nat) : Int) := rest_wrap HQb.out hY.out.2.2.1 HA2.out
      obtain ⟨R, hR⟩ : ∃ R, R = (A2 * 4294967296 + u0) % Y := ⟨_, rfl⟩
      rw [← hR] at e13
      have HR : Hid _ := hR
      clear hR
      go_wp2_with fail
      go_ret2
      exact ⟨div_fin HQa.out HQb.out HR.out, rfl⟩
theorem norm_bounds (y : Nat) (h0 : 0 < y) (hy : y < 18446744073709551616) : y * 2 ^ (64 - bitLen y) < 18446744073709551616 ∧ 9223372036854775808 ≤ y * 2 ^ (64 - bitLen y) ∧ 64 - bitLen y ≤ 63 := by
  obtain ⟨h1, h2⟩ := bitLen_spec y
  have h3 := h2 (by omega)
  have h4 := bitLen_le64 y hy
  have hb : 0 < bitLen y := by
    rcases Nat.eq_zero_or_pos (bitLen y) with e | e
    · rw [e, Nat.pow_zero] at h1
      omega
    exact e
  refine ⟨?_, ?_, by omega⟩
  · have := Nat.mul_lt_mul_of_pos_right h1 (Nat.two_pow_pos (64 - bitLen y))
    rw [← two64 (bitLen y) h4] at this
    exact this
  have := Nat.mul_le_mul_right (2 ^ (64 - bitLen y)) h3
  rw [← Nat.pow_add, show bitLen y - 1 + (64 - bitLen y) = 63 by omega] at this
  exact this
theorem and_low (z : Nat) (hz : z < 18446744073709551616) : bits .and .u64 (z : Int) 4294967295 = ((z % 4294967296 : Nat) : Int) := Go.Proofs.Mul64.maskN z hz
theorem glue_lin (A u1 u0 D M : Nat) (h : D + M = A * 4294967296 + u1) : A * 18446744073709551616 + (u1 * 4294967296 + u0) = D * 4294967296 + (M * 4294967296 + u0) := by omega
theorem div_glue {A L u1 u0 Y T : Nat} (hL : L = u1 * 4294967296 + u0) (hT : T = A * 18446744073709551616 + L) (hY : 0 < Y) :
    T / Y = (A * 4294967296 + u1) / Y * 4294967296 + ((A * 4294967296 + u1) % Y * 4294967296 + u0) / Y ∧ T % Y = ((A * 4294967296 + u1) % Y * 4294967296 + u0) % Y := by
  have h1 := Nat.div_add_mod (A * 4294967296 + u1) Y
  have e : T = Y * ((A * 4294967296 + u1) / Y * 4294967296) + ((A * 4294967296 + u1) % Y * 4294967296 + u0) := by
    rw [← Nat.mul_assoc, hT, hL]
    exact glue_lin _ _ _ _ _ h1
  rw [e, Nat.mul_add_div hY, Nat.mul_add_mod]
  exact ⟨rfl, rfl⟩
theorem div64_any (hi lo y : Nat) (w : World) (hhy : hi < y) (hl : lo < 18446744073709551616) (hy : y < 18446744073709551616) :
    Calls Tryz.prog 137 #[.int .u64 (hi : Int), .int .u64 (lo : Int), .int .u64 (y : Int)] w fun e w' => e = .returned (.tuple #[.int .u64 (((hi * 18446744073709551616 + lo) / y : Nat) : Int), .int .u64 (((hi * 18446744073709551616 + lo) % y : Nat) : Int)]) ∧ ∃ n, w' = w.drewN n := by
  by_cases h0 : hi = 0
  · subst h0
    rw [Nat.zero_mul, Nat.zero_add]
    exact div64_small lo y w hl hy (by omega)
  obtain ⟨n1, n2, n3⟩ := norm_bounds y (by omega) hy
  obtain ⟨s, hs⟩ : ∃ s, s = 64 - bitLen y := ⟨_, rfl⟩
  rw [← hs] at n1 n2 n3
  obtain ⟨Y, hY⟩ : ∃ Y, Y = y * 2 ^ s := ⟨_, rfl⟩
  rw [← hY] at n1 n2
  have hp := Nat.two_pow_pos s
  have hhi : (hi + 1) * 2 ^ s ≤ Y := by rw [hY]; exact Nat.mul_le_mul_right _ hhy
  rw [Nat.add_mul, Nat.one_mul] at hhi
  have hlo : lo / 2 ^ (64 - s) < 2 ^ s := by
    rw [Nat.div_lt_iff_lt_mul (Nat.two_pow_pos _), ← two64 s (by omega)]
    exact hl
  obtain ⟨A, hA⟩ : ∃ A, A = hi * 2 ^ s + lo / 2 ^ (64 - s) := ⟨_, rfl⟩
  obtain ⟨L, hL⟩ : ∃ L, L = lo * 2 ^ s % 18446744073709551616 := ⟨_, rfl⟩
  have hL64 : L < 18446744073709551616 := by rw [hL]; exact Nat.mod_lt _ (by omega)
  have hAY : A < Y := by omega
  have e1 : IntKind.u64.wrap ((y : Int) * 2 ^ s) = (Y : Int) := by
    rw [show (y : Int) * 2 ^ s = ((y * 2 ^ s : Nat) : Int) by rw [Int.natCast_mul, cast_pow2], ← hY]
    exact wrapU_nat _ n1
  have e4 : bits .or .u64 (IntKind.u64.wrap ((hi : Int) * 2 ^ s)) ((lo : Int) / 2 ^ (64 - s)) = (A : Int) := by
    rw [show (hi : Int) * 2 ^ s = ((hi * 2 ^ s : Nat) : Int) by rw [Int.natCast_mul, cast_pow2], wrapU_nat _ (by omega), div_int, bits_or_u64_nat _ _ (by omega) (by omega), or_add _ _ s (Nat.mul_mod_left _ _) hlo, hA]
  have e5 : IntKind.u64.wrap ((lo : Int) * 2 ^ s) = (L : Int) := by
    rw [show (lo : Int) * 2 ^ s = ((lo * 2 ^ s : Nat) : Int) by rw [Int.natCast_mul, cast_pow2], wrapU_mod, hL]
  obtain ⟨y1, hy1⟩ : ∃ y1, y1 = Y / 4294967296 := ⟨_, rfl⟩
  have hy1p : 0 < y1 := by omega
  obtain ⟨A2, hA2⟩ : ∃ A2, A2 = (A * 4294967296 + L / 4294967296) % Y := ⟨_, rfl⟩
  have hA2Y : A2 < Y := by rw [hA2]; exact Nat.mod_lt _ (by omega)
  have hYs : Y = y1 * 4294967296 + Y % 4294967296 := by omega
  have hc := div64_core hi lo y s Y y1 (Y % 4294967296) A L (L / 4294967296) (L % 4294967296) (A / y1) (A % y1) A2 (A2 / y1) (A2 % y1) w (by omega) hhy hl hy hs n3
    e1 (by omega) (and_low Y n1) e4 e5 (by omega) (and_low L hL64) (wrap_quo A y1 (by omega)) (wrap_rem A y1 (by omega))
    ⟨hYs, hAY, n1, hA2, dig_start hYs (by omega) hy1p, dig_start hYs (by omega) hy1p⟩
    (Nat.mod_lt _ (by omega)) hy1p (by omega) (by omega) (Nat.mod_lt _ (by omega)) (by have := Nat.mod_lt A hy1p; omega) (by have := Nat.mod_lt A2 hy1p; omega) (Nat.lt_of_le_of_lt (Nat.div_le_self _ _) (by omega)) (Nat.lt_of_le_of_lt (Nat.div_le_self _ _) (by omega))
    (wrap_quo A2 y1 (by omega)) (wrap_rem A2 y1 (by omega))
  refine hc.mono fun e w' hh => ⟨hh.1.trans ?_, 0, hh.2⟩
  have hT : (hi * 18446744073709551616 + lo) * 2 ^ s = A * 18446744073709551616 + L := by
    have := shl_lo lo s (by omega)
    rw [← hL] at this
    rw [Nat.add_mul, hA, Nat.add_mul, Nat.mul_right_comm]
    omega
  obtain ⟨g1, g2⟩ := div_glue (A := A) (L := L) (u1 := L / 4294967296) (u0 := L % 4294967296) (Y := Y) (by omega) hT (by omega)
  rw [hY, Nat.mul_div_mul_right _ _ hp, ← hY] at g1
  rw [hY, Nat.mul_mod_mul_right, ← hY] at g2
  rw [hA2, ← g1, ← g2, Nat.mul_div_cancel _ hp]
end Go.Proofs.YtfkkomppfghagaaGreatDoor
