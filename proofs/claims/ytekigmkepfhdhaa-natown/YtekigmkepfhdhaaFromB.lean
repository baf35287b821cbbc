/- FromBytes: the number of some bytes, the highest first. -/
import Derived.Test.YtekigmkepfhdhaaBits
namespace Go.Proofs.Ytekigmkepfhdhaa
open Go.RowKit
set_option maxRecDepth 100000
set_option linter.unusedVariables false
/-- A slice of bytes. -/
def BSl (w : World) (a : Option Addr) (n cap : Nat) (D : Nat → Nat) : Prop :=
  n ≤ cap ∧ cap ≤ 9223372036854775807 ∧ (∀ i, i < n → D i < 256) ∧ (n = 0 ∨ ∃ b o, a = some ⟨b, o, none⟩ ∧ ∀ i, i < n → w.cell? ⟨b, o + i, none⟩ = some (.int .u8 (D i : Nat)))
/-- The number of n bytes, the highest first. -/
def BV (D : Nat → Nat) : Nat → Nat
  | 0 => 0
  | n + 1 => BV D n * 256 + D n
theorem BV_zeros {D : Nat → Nat} : ∀ {k : Nat}, (∀ i, i < k → D i = 0) → BV D k = 0
  | 0, _ => rfl
  | k + 1, h => by rw [BV, BV_zeros fun i hi => h i (by omega), h k (by omega)]
theorem BV_drop {D : Nat → Nat} {k : Nat} (h : ∀ i, i < k → D i = 0) : ∀ n, BV D (k + n) = BV (fun i => D (k + i)) n
  | 0 => BV_zeros h
  | n + 1 => by rw [← Nat.add_assoc, BV, BV, BV_drop h n]
theorem BSl.mono {w w' : World} {a : Option Addr} {n cap : Nat} {D : Nat → Nat} (h : BSl w a n cap D) (hb : Below w.heap.size w w') : BSl w' a n cap D := by
  obtain ⟨h1, h2, h3, h4⟩ := h
  refine ⟨h1, h2, h3, h4.imp id ?_⟩
  rintro ⟨b, o, ha, hw⟩
  exact ⟨b, o, ha, fun i hi => cell_later hb (hw i hi)⟩
/-- How far the words of some bytes are made: of n bytes i. -/
def Filled (D : Nat → Nat) (n N i : Nat) (H : Nat → Nat) : Prop :=
  V H N = BV D i * 256 ^ (n - i) ∧ ∀ q, q < N → H q % 256 ^ (min 8 (n - i - 8 * q)) = 0
theorem P_256 (n : Nat) : P n = 256 ^ (8 * n) := by
  unfold P
  rw [show (18446744073709551616 : Nat) = 256 ^ 8 from rfl, ← Nat.pow_mul]
theorem BSl.cut {w : World} {a : Option Addr} {n cap : Nat} {D : Nat → Nat} (h : BSl w a n cap D) (k m c : Nat) (a' : Option Addr) (hk : k + m = n) (hc : k + c = cap) (ha : ∀ b o, 0 < m → a = some ⟨b, o, none⟩ → a' = some ⟨b, o + k, none⟩) : BSl w a' m c (fun i => D (k + i)) := by
  obtain ⟨h1, h2, h3, h4⟩ := h
  refine ⟨by omega, by omega, fun i hi => h3 _ (by omega), ?_⟩
  by_cases h0 : m = 0
  · exact .inl h0
  · rcases h4 with h4 | ⟨b, o, rfl, hw⟩
    · omega
    · refine .inr ⟨b, o + k, ha b o (by omega) rfl, fun i hi => ?_⟩
      rw [Nat.add_assoc]
      exact hw _ (by omega)
theorem V_put_add (H : Nat → Nat) (q N e : Nat) (hq : q < N) : V (put H q (H q + e)) N = V H N + e * P q := by
  obtain ⟨t, rfl⟩ : ∃ t, N = q + 1 + t := ⟨N - (q + 1), by omega⟩
  rw [V_split _ (q + 1), V_split H (q + 1), V_succ, V_succ, put_same, V_congr (F := put H q (H q + e)) (G := H) (n := q) fun i hi => put_other _ _ (by omega),
    V_congr (F := fun i => put H q (H q + e) (q + 1 + i)) (G := fun i => H (q + 1 + i)) fun i hi => put_other _ _ (by omega), Nat.add_mul]
  omega
theorem Filled.mod {D : Nat → Nat} {n N i : Nat} {H : Nat → Nat} (h : Filled D n N i H) (hi : i < n) (hN : N = (n + 7) / 8) : H ((n - 1 - i) / 8) % 256 ^ ((n - 1 - i) % 8 + 1) = 0 := by
  have := h.2 ((n - 1 - i) / 8) (by omega)
  rwa [show min 8 (n - i - 8 * ((n - 1 - i) / 8)) = (n - 1 - i) % 8 + 1 by omega] at this
theorem Filled.step {D : Nat → Nat} {n N i : Nat} {H : Nat → Nat} (h : Filled D n N i H) (hi : i < n) (hN : N = (n + 7) / 8) :
    Filled D n N (i + 1) (put H ((n - 1 - i) / 8) (H ((n - 1 - i) / 8) + D i * 256 ^ ((n - 1 - i) % 8))) := by
  have hm := h.mod hi hN
  obtain ⟨h1, h2⟩ := h
  refine ⟨?_, fun q hq => ?_⟩
  · rw [V_put_add _ _ _ _ (by omega), h1, P_256, Nat.mul_assoc, ← Nat.pow_add, show n - i = (n - 1 - i) + 1 by omega, show n - (i + 1) = n - 1 - i by omega, show (n - 1 - i) % 8 + 8 * ((n - 1 - i) / 8) = n - 1 - i by omega, BV, Nat.add_mul, Nat.pow_succ, Nat.mul_comm (256 ^ (n - 1 - i)) 256, Nat.mul_assoc]
  · by_cases e : q = (n - 1 - i) / 8
    · subst e
      rw [put_same, show min 8 (n - (i + 1) - 8 * ((n - 1 - i) / 8)) = (n - 1 - i) % 8 by omega]
      have d1 : 256 ^ ((n - 1 - i) % 8) ∣ H ((n - 1 - i) / 8) := Nat.dvd_trans (Nat.pow_dvd_pow 256 (Nat.le_succ _)) (Nat.dvd_of_mod_eq_zero hm)
      exact Nat.mod_eq_zero_of_dvd (Nat.dvd_add d1 (Nat.dvd_mul_left _ _))
    · rw [put_other _ _ e]
      rcases Nat.lt_or_ge q ((n - 1 - i) / 8) with hl | hl
      · have := h2 q hq
        rwa [show min 8 (n - i - 8 * q) = min 8 (n - (i + 1) - 8 * q) by omega] at this
      · rw [show min 8 (n - (i + 1) - 8 * q) = 0 by omega, Nat.pow_zero, Nat.mod_one]
theorem filled_start (D : Nat → Nat) (n N : Nat) : Filled D n N 0 (fun _ => 0) := ⟨by rw [V_const0]; simp [BV], fun q _ => Nat.zero_mod _⟩
set_option maxHeartbeats 1000000 in
theorem fromBytes_any (a : Option Addr) (n cap : Nat) (D : Nat → Nat) (w : World) (h : BSl w a n cap D) (hn : n ≤ 1099511627776) :
    Calls Try.prog 16 #[.slice a n cap] w (Makes w (BV D n)) := by
  go_enter Try.func16, Try.ntmps16
  have HD : Hid (BSl w a n cap D) := h
  have hnc := h.1
  have hcm := h.2.1
  clear h
  go_wp2_with fail
  go_loop [0] (fun t => ∃ (k m c : Nat) (a' : Option Addr), k + m = n ∧ k + c = cap ∧ t = .slice a' m c ∧ (∀ b o, 0 < m → a = some ⟨b, o, none⟩ → a' = some ⟨b, o + k, none⟩) ∧ ∀ i, i < k → D i = 0) (fun t => match t with | .slice _ m _ => m | _ => 0)
  case atStart => exact ⟨0, n, cap, a, by omega, by omega, rfl, fun b o _ e => e, fun i hi => absurd hi (by omega)⟩
  case round =>
    obtain ⟨k, m, c, a', hk, hc, rfl, ha', hz⟩ := hrel
    have HA : Hid (∀ b o, 0 < m → a = some ⟨b, o, none⟩ → a' = some ⟨b, o + k, none⟩) := ha'
    have HZ : Hid (∀ i, i < k → D i = 0) := hz
    have HK : Hid (k + m = n ∧ k + c = cap) := ⟨hk, hc⟩
    have hmn : m ≤ n := by omega
    have hmc : m ≤ c := by omega
    have hcc : c ≤ cap := by omega
    have HE : Hid (BSl w a' m c (fun i => D (k + i))) := HD.out.cut k m c a' hk hc ha'
    have HV : Hid (BV D n = BV (fun i => D (k + i)) m) := by
      show BV D n = _
      rw [← hk]
      exact BV_drop hz m
    clear hk hc ha' hz
    by_cases hm0 : m = 0
    · subst hm0
      have mk := make_at (0 : Int) (0 : Int) 0 0 rfl rfl (Nat.le_refl _) (by omega)
      go_wp2_with fail
      refine wp_loop_rounds 1 ?_
      rw [rounds_succ]
      go_wp2_with fail
      refine (trimmed_any _ 0 0 (fun _ => 0) _ (by have := (row_zeros_at (w.alloc (.cells #[.slice none 0 0] 27)) 0 (w.heap.size + 1) (by simp)).sl (o := 0) (n := 0) (cap := 0) (by omega) (Nat.le_refl _) (by omega); rw [fro_zero] at this; exact this) (by omega)).mono ?_
      rintro e w3 ⟨v3, rfl, hv3, hb3⟩
      have hcr3 : w3.cell? ⟨w.heap.size, 0, none⟩ = some (.slice none 0 0) := cell_later hb3 (by simp [go_sem])
      have hfr3 : w3.frozen? ⟨w.heap.size, 0, none⟩ = false := (hb3.frozen (by simp <;> omega)).trans (by simp [go_sem])
      obtain ⟨a3, n3, cap3, rfl⟩ := hv3.isAgg
      have HV3 : Hid (IsNat w3 (.agg #[.slice a3 n3 cap3]) (V (fun _ => 0) 0)) := hv3
      have B3 : Hid (Below w.heap.size w w3) := bel_trans (bel_alloc2 _ _ _) hb3
      clear hv3 hb3
      go_wp2_with fail
      refine bodyPost_ret (v := .agg #[.slice a3 n3 cap3]) (by simp [results, Try.results16, go_sem, hcr3]) rfl ⟨_, rfl, ?_, B3.out.setCell (Nat.le_refl _) _⟩
      rw [HV.out]
      exact HV3.out.setCell (no_int_slice hcr3) _
    · obtain ⟨b', o', rfl, hw⟩ : ∃ b o, a' = some ⟨b, o, none⟩ ∧ ∀ i, i < m → w.cell? ⟨b, o + i, none⟩ = some (.int .u8 (D (k + i) : Nat)) := by
        rcases HE.out.2.2.2 with h0 | h0
        · omega
        · exact h0
      have hc0 : w.cell? ⟨b', o', none⟩ = some (.int .u8 (D k : Nat)) := hw 0 (by omega)
      have hb : b' < w.heap.size := World.block_lt_of_cell? _ _ hc0
      have hpos : (0 : Int) < (m : Int) := by omega
      have HW : Hid (∀ i, i < m → w.cell? ⟨b', o' + i, none⟩ = some (.int .u8 (D (k + i) : Nat))) := hw
      clear hw
      by_cases hd : D k = 0
      · rw [hd] at hc0
        have hHK : (k + 1) + (m - 1) = n ∧ (k + 1) + (c - 1) = cap := by have := HK.out; omega
        go_wp2_with fail
        go_round
        case rel =>
          refine ⟨k + 1, m - 1, c - 1, _, hHK.1, hHK.2, rfl, fun b o h1 h2 => ?_, fun i hi => ?_⟩
          · have := HA.out b o (by omega) h2
            cases this
            rw [if_neg (by omega), Nat.add_assoc]
          · by_cases e : i = k
            · rw [e, hd]
            · exact HZ.out i (by omega)
        case measure => simp; omega
      · have hne : (((D k : Nat) : Int) == 0) = false := by simp <;> omega
        have mk := make_at (((m : Int) + 7) / 8) (((m : Int) + 7) / 8) ((m + 7) / 8) ((m + 7) / 8) (by omega) (by omega) (Nat.le_refl _) (by omega)
        go_wp2_with fail
        go_loopw [25] (fun t wr => ∃ (i : Nat) (H : Nat → Nat), i ≤ m ∧ t = .int .i64 (i : Int) ∧ Row wr (w.heap.size + 1) ((m + 7) / 8) H ∧ Filled (fun i => D (k + i)) m ((m + 7) / 8) i H ∧ ((w.alloc (.cells #[.slice none 0 0] 27)).alloc (.cells (zeros ((m + 7) / 8)) 22)).grownBy wr (some (w.heap.size + 1))) (fun t _ => m - (intOf t).toNat)
        case atStart => exact ⟨0, fun _ => 0, by omega, rfl, row_zeros_at _ _ _ (by simp), filled_start _ _ _, World.grownBy.refl _ _⟩
        case round =>
          obtain ⟨i, H, hi, rfl, hR, hF, hg⟩ := hrel
          by_cases him : i < m
          · have hcb : wr.cell? ⟨b', o' + i, none⟩ = some (.int .u8 (D (k + i) : Nat)) := hg.cell (cell_later (bel_alloc2 _ _ _) (HW.out i him)) (by simp only [ne_eq, Option.some.injEq]; have := hb; omega)
            have hcw : wr.cell? ⟨w.heap.size + 1, (m - 1 - i) / 8, none⟩ = some (.int .u64 (H ((m - 1 - i) / 8) : Nat)) := hR.cell (by omega)
            have hfw : wr.frozen? ⟨w.heap.size + 1, (m - 1 - i) / 8, none⟩ = false := hR.frozen _
            have hdb : ((D (k + i) : Nat) : Int) < 256 := by have : D (k + i) < 256 := HE.out.2.2.1 i him; omega
            have him' : (i : Int) < m := by omega
            have HH : Hid (Row wr (w.heap.size + 1) ((m + 7) / 8) H ∧ Filled (fun i => D (k + i)) m ((m + 7) / 8) i H ∧ ((w.alloc (.cells #[.slice none 0 0] 27)).alloc (.cells (zeros ((m + 7) / 8)) 22)).grownBy wr (some (w.heap.size + 1))) := ⟨hR, hF, hg⟩
            clear hR hF hg
            have hor := or_byte (H ((m - 1 - i) / 8)) (D (k + i)) ((m - 1 - i) % 8) (HH.out.1.2 _ (by omega)) (HH.out.2.1.mod him rfl) (HE.out.2.2.1 i him) (by omega)
            have hlt2 : H ((m - 1 - i) / 8) + D (k + i) * 256 ^ ((m - 1 - i) % 8) < 18446744073709551616 := or_byte_lt (HH.out.1.2 _ (by omega)) (HH.out.2.1.mod him rfl) (HE.out.2.2.1 i him) (by omega)
            have S : Hid _ := HH.out.1.set ((m - 1 - i) / 8) hlt2
            have S2 : Hid _ := HH.out.2.1.step him rfl
            have S3 : Hid _ := grown_set _ HH.out.2.2 ((m - 1 - i) / 8) (.int .u64 ((H ((m - 1 - i) / 8) + D (k + i) * 256 ^ ((m - 1 - i) % 8) : Nat) : Int))
            have OR : Hid _ := hor
            clear hor hlt2
            go_wp2_with fail
            go_region
            go_wp2_with fail
            rw [OR.out]
            go_roundw
            case rel => exact ⟨i + 1, _, by omega, by go_num, S.out, S2.out, grown_drew S3.out 1⟩
            case measure => simp [intOf]; omega
          · obtain rfl : i = m := by omega
            have hcr : wr.cell? ⟨w.heap.size, 0, none⟩ = some (.slice none 0 0) := hg.cell (by simp [go_sem]) (by simp)
            have hfr : wr.frozen? ⟨w.heap.size, 0, none⟩ = false := (World.frozen?_of_block (hg.block _ (by simp <;> omega) (by simp))).trans (by simp [go_sem])
            have B1 : Hid (Below w.heap.size w wr) := (bel_alloc2 _ _ _).grown hg (by simp <;> omega) (fun k hk => by cases hk; omega)
            have HF : Hid (V H ((i + 7) / 8) = BV (fun i => D (k + i)) i) := by
              have := hF.1
              rw [Nat.sub_self, Nat.pow_zero, Nat.mul_one] at this
              exact this
            have HR : Hid (Row wr (w.heap.size + 1) ((i + 7) / 8) H) := hR
            clear hR hF hg
            go_wp2_with fail
            refine (trimmed_any _ ((i + 7) / 8) ((i + 7) / 8) H wr (by have := HR.out.sl (o := 0) (n := (i + 7) / 8) (cap := (i + 7) / 8) (by omega) (Nat.le_refl _) (by omega); rw [fro_zero] at this; exact this) (by omega)).mono ?_
            rintro e w3 ⟨v3, rfl, hv3, hb3⟩
            have hcr3 : w3.cell? ⟨w.heap.size, 0, none⟩ = some (.slice none 0 0) := cell_later hb3 hcr
            have hfr3 : w3.frozen? ⟨w.heap.size, 0, none⟩ = false := (hb3.frozen (World.block_lt_of_cell? _ _ hcr)).trans hfr
            obtain ⟨a3, n3, cap3, rfl⟩ := hv3.isAgg
            have HV3 : Hid (IsNat w3 (.agg #[.slice a3 n3 cap3]) (V H ((i + 7) / 8))) := hv3
            have B3 : Hid (Below w.heap.size w w3) := B1.out.trans (hb3.mono B1.out.size)
            clear hv3 hb3 hcr hfr B1
            go_wp2_with fail
            refine bodyPost_ret (v := .agg #[.slice a3 n3 cap3]) (by simp [results, Try.results16, go_sem, hcr3]) rfl ⟨_, rfl, ?_, B3.out.setCell (Nat.le_refl _) _⟩
            rw [HV.out, ← HF.out]
            exact HV3.out.setCell (no_int_slice hcr3) _
end Go.Proofs.Ytekigmkepfhdhaa
