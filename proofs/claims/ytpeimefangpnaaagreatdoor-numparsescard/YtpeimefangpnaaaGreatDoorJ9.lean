/- Contracts of the program's functions, part 9: own work, joined in build order. -/
import Derived.Test.YtpeimefangpnaaaGreatDoorJ8
namespace Go.Proofs.YtpeimefangpnaaaGreatDoor
open Go.RowKit
set_option maxRecDepth 100000
set_option linter.unusedVariables false
theorem decVal_lt {s : ByteArray} : ∀ {i : Nat}, Digits s i → decVal s i < 10 ^ i
  | 0, _ => by simp [decVal]
  | i + 1, h => by
    have h1 := decVal_lt (i := i) fun j hj => h j (by omega)
    have h2 := h i (by omega)
    rw [decVal, Nat.pow_succ]
    omega
theorem ten_B : 10 ^ 401 ≤ B 42 := by unfold B; decide +kernel
theorem rfits_ten {x i : Nat} (h : x < 10 ^ i) (hi : i ≤ 401) : RFits x :=
  rfits_of (n := 42) (Nat.lt_of_lt_of_le h (Nat.le_trans (Nat.pow_le_pow_right (by decide) hi) ten_B)) (by omega)
/-- Where Parse stands: its two boxes, the number so far. -/
structure PS (w wr : World) (ax : Option Addr) (nx cx X : Nat) : Prop where
  c1 : wr.cell? ⟨w.heap.size, 0, none⟩ = some (.slice none 0 0)
  f1 : wr.frozen? ⟨w.heap.size, 0, none⟩ = false
  c2 : wr.cell? ⟨w.heap.size + 1, 0, none⟩ = some (.slice ax nx cx)
  f2 : wr.frozen? ⟨w.heap.size + 1, 0, none⟩ = false
  num : RNat wr (.agg #[.slice ax nx cx]) X
  bel : Below w.heap.size w wr
theorem PS.mono {w wr w' : World} {ax : Option Addr} {nx cx X : Nat} (h : PS w wr ax nx cx X) (hb : Below wr.heap.size wr w') : PS w w' ax nx cx X :=
  ⟨cell_later hb h.c1, (hb.frozen (World.block_lt_of_cell? _ _ h.c1)).trans h.f1, cell_later hb h.c2, (hb.frozen (World.block_lt_of_cell? _ _ h.c2)).trans h.f2, h.num.mono hb, bel_go h.bel hb⟩
theorem PS.set {w wr : World} {ax a4 : Option Addr} {nx cx X n4 c4 Y : Nat} (h : PS w wr ax nx cx X) (hv : RNat wr (.agg #[.slice a4 n4 c4]) Y) : PS w (wr.setCell ⟨w.heap.size + 1, 0, none⟩ (.slice a4 n4 c4)) a4 n4 c4 Y := by
  have h1 := h.c1
  have h2 := h.c2
  have h3 := h.f1
  have h4 := h.f2
  refine ⟨?_, ?_, ?_, ?_, hv.setCell (no_int_slice h2) _, h.bel.setCell (by show _ ≤ _ + 1; omega) _⟩
  all_goals simp [go_sem, *]
set_option maxHeartbeats 2000000 in
theorem rparse_any (s : ByteArray) (w : World) (h0 : 0 < s.size) (h1 : s.size ≤ 400) :
    Calls Tryz.prog 75 #[.string s] w fun e w' => (Digits s s.size → ∃ v, e = .returned (.tuple #[v, .bool true]) ∧ RNat w' v (decVal s s.size) ∧ Below w.heap.size w w') ∧ (¬ Digits s s.size → e = .returned (.tuple #[.agg #[.slice none 0 0], .bool false]) ∧ Below w.heap.size w w') := by
  have hz : decide ((s.size : Int) < 1) = false := decide_eq_false (by omega)
  have hgt : decide (400 < (s.size : Int)) = false := decide_eq_false (by omega)
  go_enter Tryz.func75, Tryz.ntmps75
  go_wp2_with fail
  obtain ⟨w0, hw0⟩ : ∃ w0, w0 = (w.alloc (.cells #[.slice none 0 0] 33)).alloc (.cells #[.slice none 0 0] 33) := ⟨_, rfl⟩
  have c1 : w0.cell? ⟨w.heap.size, 0, none⟩ = some (.slice none 0 0) := by rw [hw0]; simp [go_sem]
  have c2 : w0.cell? ⟨w.heap.size + 1, 0, none⟩ = some (.slice none 0 0) := by rw [hw0]; simp [go_sem]
  have f1 : w0.frozen? ⟨w.heap.size, 0, none⟩ = false := by rw [hw0]; simp [go_sem]
  have f2 : w0.frozen? ⟨w.heap.size + 1, 0, none⟩ = false := by rw [hw0]; simp [go_sem]
  have HB : Hid (Below w.heap.size w w0) := by rw [hw0]; exact bel_alloc2 _ _ _
  rw [← hw0]
  clear hw0
  go_loopw [5] (fun t wr => ∃ (i : Nat) (ax : Option Addr) (nx cx : Nat), i ≤ s.size ∧ t = .int .i64 (i : Int) ∧ Hid (PS w wr ax nx cx (decVal s i) ∧ Digits s i)) (fun t _ => s.size - (intOf t).toNat)
  case atStart => exact ⟨0, none, 0, 0, by omega, rfl, ⟨⟨c1, f1, c2, f2, rnat_zero _, HB.out⟩, fun i hi => absurd hi (by omega)⟩⟩
  case round =>
    obtain ⟨i, ax, nx, cx, hi, rfl, HH⟩ := hrel
    clear c1 c2 f1 f2 HB
    have hcb := HH.out.1.c1
    have hfb := HH.out.1.f1
    have hcx := HH.out.1.c2
    have hfx := HH.out.1.f2
    by_cases hii : i < s.size
    · have hc := sb_at hii
      have hc2 := sb_lt s i
      by_cases hlo : sb s i < 48
      · have t1 : decide (((sb s i : Nat) : Int) < 48) = true := decide_eq_true (by omega)
        have HN : Hid (¬ Digits s s.size) := fun hh => by have := hh i hii; omega
        clear hlo
        go_wp2_with fail
        refine bodyPost_ret (v := .tuple #[.agg #[.slice none 0 0], .bool false]) (by simp [results, Tryz.results75, go_sem, hcb]) rfl ⟨fun hh => absurd hh HN.out, fun _ => ⟨rfl, ?_⟩⟩
        exact HH.out.1.bel.setCell (Nat.le_refl _) _
      · have t1 : decide (((sb s i : Nat) : Int) < 48) = false := decide_eq_false (by omega)
        by_cases hhi : 57 < sb s i
        · have t2 : decide (57 < ((sb s i : Nat) : Int)) = true := decide_eq_true (by omega)
          have HN : Hid (¬ Digits s s.size) := fun hh => by have := hh i hii; omega
          go_wp2_with fail
          refine bodyPost_ret (v := .tuple #[.agg #[.slice none 0 0], .bool false]) (by simp [results, Tryz.results75, go_sem, hcb]) rfl ⟨fun hh => absurd hh HN.out, fun _ => ⟨rfl, ?_⟩⟩
          exact HH.out.1.bel.setCell (Nat.le_refl _) _
        · have t2 : decide (57 < ((sb s i : Nat) : Int)) = false := decide_eq_false (by omega)
          obtain ⟨d, hd⟩ : ∃ d, sb s i = d + 48 := ⟨sb s i - 48, by omega⟩
          have HD : Hid _ := hd
          have hd9 : d ≤ 9 := by omega
          have hlt := decVal_lt HH.out.2
          obtain ⟨X, hX⟩ : ∃ X, X = decVal s i := ⟨_, rfl⟩
          have hstep : X * 10 + d = decVal s (i + 1) := by rw [hX, decVal, HD.out]; omega
          have hdg : Digits s (i + 1) := fun j hj => by
            rcases Nat.lt_or_ge j i with hh | hh
            · exact HH.out.2 j hh
            · obtain rfl : j = i := by omega
              rw [HD.out]
              omega
          have hlt1 : X * 10 + d < 10 ^ (i + 1) := by rw [hstep]; exact decVal_lt hdg
          rw [← hX] at hlt
          have K0 : Hid (PS w wr ax nx cx X) := by rw [hX]; exact HH.out.1
          have ST : Hid (X * 10 + d = decVal s (i + 1) ∧ Digits s (i + 1) ∧ RFits X ∧ RFits (X * 10) ∧ RFits d ∧ RFits 10) := ⟨hstep, hdg, rfits_ten hlt (by omega), rfits_ten (Nat.lt_of_le_of_lt (Nat.le_add_right _ _) hlt1) (by omega), rfits_of (n := 1) (by rw [B_one]; omega) (by omega), rfits_of (n := 1) (by rw [B_one]; omega) (by omega)⟩
          have WD : Hid (IntKind.u8.wrap (d : Int) = (d : Int) ∧ IntKind.u64.wrap (d : Int) = (d : Int)) := ⟨by rw [IntKind.wrap_u8]; omega, wrapU_nat _ (by omega)⟩
          clear hstep hdg hlt hlt1 hX hcb hfb
          go_wp2_with fail
          go_region_with
            (first
              | (go_at_call 21; have zz := K0; clear zz; refine Calls.mono (rof_any 10 _ (by omega)) ?_; rintro e w1 ⟨v1, rfl, hv1, hb1⟩; have K1 : Hid (PS w w1 ax nx cx X ∧ RNat w1 v1 10) := (by first | exact ⟨K0.out.mono hb1, hv1⟩ | exact ⟨K0.out.mono (bel_undrew hb1), hv1⟩); have q1 := K1.out.1.c2; clear hb1 hv1 K0)
              | (go_at_call 62; refine Calls.mono (rtimes_any _ _ X 10 _ (K1.out.1.num) (K1.out.2) ST.out.2.2.1 ST.out.2.2.2.2.2) ?_; rintro e w2 ⟨v2, rfl, hv2, hb2⟩; have K2 : Hid (PS w w2 ax nx cx X ∧ RNat w2 v2 (X * 10)) := (by first | exact ⟨K1.out.1.mono hb2, hv2⟩ | exact ⟨K1.out.1.mono (bel_undrew hb2), hv2⟩); have q2 := K2.out.1.c2; clear hb2 hv2 K1 q1)
              | (go_at_call 21; have zz := K2; clear zz; rw [WD.out.1, WD.out.2]; refine Calls.mono (rof_any d _ (by omega)) ?_; rintro e w3 ⟨v3, rfl, hv3, hb3⟩; have K3 : Hid (PS w w3 ax nx cx X ∧ RNat w3 v2 (X * 10) ∧ RNat w3 v3 d) := (by first | exact ⟨K2.out.1.mono hb3, K2.out.2.mono hb3, hv3⟩ | exact ⟨K2.out.1.mono (bel_undrew hb3), K2.out.2.mono (bel_undrew hb3), hv3⟩); have q3 := K3.out.1.c2; clear hb3 hv3 K2 q2)
              | (go_at_call 61; refine Calls.mono (rplus_any _ _ (X * 10) d _ (K3.out.2.1) (K3.out.2.2) ST.out.2.2.2.1 ST.out.2.2.2.2.1) ?_; rintro e w4 ⟨v4, rfl, hv4, hb4⟩; obtain ⟨a4, n4, c4, rfl⟩ := hv4.isAgg; have K4 : Hid (PS w w4 ax nx cx X ∧ RNat w4 (.agg #[.slice a4 n4 c4]) (X * 10 + d)) := (by first | exact ⟨K3.out.1.mono hb4, hv4⟩ | exact ⟨K3.out.1.mono (bel_undrew hb4), hv4⟩); have q4 := K4.out.1.c2; have q5 := K4.out.1.f2; clear hb4 hv4 K3 q3))
          all_goals go_wp2_with fail
          all_goals
            go_roundw
            case rel => exact ⟨i + 1, a4, n4, c4, by omega, by go_num, ⟨ST.out.1 ▸ K4.out.1.set K4.out.2, ST.out.2.1⟩⟩
            case measure => simp [intOf]; omega
    · obtain rfl : i = s.size := by omega
      have HH2 : Hid _ := HH.out
      clear HH
      go_wp2_with fail
      refine bodyPost_ret (v := .tuple #[.agg #[.slice ax nx cx], .bool true]) (by simp [results, Tryz.results75, go_sem, hcb]) rfl ⟨fun _ => ⟨_, rfl, HH2.out.1.num.setCell (no_int_slice hcb) _, HH2.out.1.bel.setCell (Nat.le_refl _) _⟩, fun hh => absurd HH2.out.2 hh⟩
end Go.Proofs.YtpeimefangpnaaaGreatDoor

namespace Go.Proofs.YtpeimefangpnaaaGreatDoor
open Go.RowKit
set_option linter.unusedVariables false
/-- Is there a digit? -/
def isD (s : ByteArray) (i : Nat) : Bool := decide (i < s.size) && (decide (48 ≤ sb s i) && decide (sb s i ≤ 57))
def runF (s : ByteArray) : Nat → Nat → Nat
  | 0, i => i
  | k + 1, i => if isD s i then runF s k (i + 1) else i
/-- Where the digits end that begin at i. -/
def runE (s : ByteArray) (i : Nat) : Nat := runF s (s.size - i) i
theorem isD_lt {s : ByteArray} {i : Nat} (h : isD s i = true) : i < s.size := by
  unfold isD at h
  simp at h
  exact h.1
theorem isD_dig {s : ByteArray} {i : Nat} (h : isD s i = true) : 48 ≤ sb s i ∧ sb s i ≤ 57 := by
  unfold isD at h
  simp at h
  exact h.2
theorem runE_yes {s : ByteArray} {i : Nat} (h : isD s i = true) : runE s i = runE s (i + 1) := by
  have := isD_lt h
  unfold runE
  rw [show s.size - i = s.size - (i + 1) + 1 by omega, runF, if_pos h]
theorem runE_no {s : ByteArray} {i : Nat} (h : isD s i = false) : runE s i = i := by
  unfold runE
  cases s.size - i with
  | zero => rfl
  | succ k => rw [runF, if_neg (by simp [h])]
theorem runF_ge (s : ByteArray) : ∀ k i, i ≤ runF s k i
  | 0, i => Nat.le_refl _
  | k + 1, i => by
    rw [runF]
    split
    · have := runF_ge s k (i + 1); omega
    · omega
theorem runE_ge (s : ByteArray) (i : Nat) : i ≤ runE s i := runF_ge s _ i
theorem runF_le (s : ByteArray) : ∀ k i, i ≤ s.size → runF s k i ≤ s.size
  | 0, i, h => h
  | k + 1, i, h => by
    rw [runF]
    split
    · rename_i hd
      have := isD_lt hd
      exact runF_le s k (i + 1) (by omega)
    · exact h
theorem runE_le {s : ByteArray} {i : Nat} (h : i ≤ s.size) : runE s i ≤ s.size := runF_le s _ i h
theorem runF_dig (s : ByteArray) : ∀ k i j, i ≤ j → j < runF s k i → isD s j = true
  | 0, i, j, h1, h2 => by rw [runF] at h2; omega
  | k + 1, i, j, h1, h2 => by
    rw [runF] at h2
    split at h2
    · rename_i hd
      rcases Nat.eq_or_lt_of_le h1 with e | e
      · rw [← e]; exact hd
      · exact runF_dig s k (i + 1) j e h2
    · omega
theorem runE_dig {s : ByteArray} {i j : Nat} (h1 : i ≤ j) (h2 : j < runE s i) : isD s j = true := runF_dig s _ i j h1 h2
theorem runE_end {s : ByteArray} {i : Nat} (h : i ≤ s.size) : isD s (runE s i) = false := by
  obtain ⟨k, hk⟩ : ∃ k, k = s.size - i := ⟨_, rfl⟩
  induction k generalizing i with
  | zero =>
    have e : i = s.size := by omega
    have hn : isD s i = false := by unfold isD; rw [e]; simp
    rw [runE_no hn]
    exact hn
  | succ k ih =>
    cases hd : isD s i with
    | true =>
      rw [runE_yes hd]
      have := isD_lt hd
      exact ih (by omega) (by omega)
    | false => rw [runE_no hd]; exact hd
/-- A piece of a text. -/
theorem sb_extract {s : ByteArray} {a b i : Nat} (hb : b ≤ s.size) (hi : a + i < b) : sb (s.extract a b) i = sb s (a + i) := by
  have h1 : i < (s.extract a b).size := by rw [ByteArray.size_extract]; omega
  have h2 : a + i < s.size := by omega
  unfold sb
  rw [dif_pos h1, dif_pos h2]
  rw [ByteArray.getElem_extract h1]
theorem size_ext {s : ByteArray} {a b : Nat} (hb : b ≤ s.size) : (s.extract a b).size = b - a := by rw [ByteArray.size_extract]; omega
theorem sb_app {s t : ByteArray} {i : Nat} : sb (s ++ t) i = if i < s.size then sb s i else sb t (i - s.size) := by
  have e := ByteArray.size_append (a := s) (b := t)
  unfold sb
  by_cases h1 : i < s.size
  · rw [if_pos h1, dif_pos h1, dif_pos (by omega), ByteArray.getElem_append_left h1]
  · rw [if_neg h1]
    by_cases h2 : i - s.size < t.size
    · rw [dif_pos h2, dif_pos (by omega), ByteArray.getElem_append_right (by omega)]
    · rw [dif_neg h2, dif_neg (by omega)]
theorem dig_ext {s : ByteArray} {i : Nat} (h : i ≤ s.size) : Digits (s.extract i (runE s i)) (s.extract i (runE s i)).size := by
  intro j hj
  have h1 := runE_le h
  rw [size_ext h1] at hj
  rw [sb_extract h1 (by omega)]
  exact isD_dig (runE_dig (i := i) (by omega) (by omega))
theorem dig_app {s t : ByteArray} (h : Digits s s.size) (k : Digits t t.size) : Digits (s ++ t) (s ++ t).size := by
  intro j hj
  rw [ByteArray.size_append] at hj
  rw [sb_app]
  split
  · exact h j (by assumption)
  · exact k _ (by omega)
end Go.Proofs.YtpeimefangpnaaaGreatDoor

