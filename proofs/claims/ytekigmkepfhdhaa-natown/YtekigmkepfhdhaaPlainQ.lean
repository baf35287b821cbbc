/- plainQuotient: long division, digit by digit. -/
import Derived.Test.YtekigmkepfhdhaaTake
import Derived.Deep.RegionHeld3
namespace Go.Proofs.Ytekigmkepfhdhaa
open Go.RowKit
set_option maxRecDepth 100000
set_option linter.unusedVariables false
theorem slice_at (g s n len cap : Nat) (l h : Int) (hl : l = s) (hh : h = ((s + n : Nat) : Int)) (hc : s + n ≤ cap) (hn : 0 < n) (w : World) :
    (Instr.slice 25 (.slice (some ⟨g, 0, none⟩) len cap) (some (.int .i64 l)) (some (.int .i64 h)) none).run Try.prog w = .ok (.slice (some ⟨g, s, none⟩) n (cap - s)) w := by
  subst hl hh
  rw [run_slice_lh (P := Try.prog) (kl := .i64) (kh := .i64) (l := (s : Int)) (h := ((s + n : Nat) : Int)) (ht := by kernel_rfl) (h0 := by omega) (h1 := by omega) (h2 := by omega)]
  have hz : (sizeOf (Try.prog.elem 25)).run Try.prog w = .ok 1 w := by kernel_rfl
  have hne : ¬ cap = s := by omega
  rw [hz]
  simp only [Result.andThen, sliced, Int.toNat_natCast, Nat.add_sub_cancel_left, Nat.mul_one, if_neg hne, Option.map_some]
  congr 3
  unfold Addr.add
  split <;> simp_all
/-- The digits from t on are found. -/
def PQ (wr : World) (g1 g2 k m x t : Nat) (Y R Qf : Nat → Nat) : Prop :=
  Row wr g1 (m + k + 2) R ∧ Row wr g2 m Qf ∧ x = V Y (k + 2) * (P t * V (fro Qf t) (m - t)) + V R (t + k + 2) ∧ V (fro R t) (k + 2) < V Y (k + 2) ∧ ∀ j, t + k + 2 ≤ j → j < m + k + 2 → R j = 0
theorem pq_start {wr : World} {g1 g2 k m : Nat} {Y R Qf : Nat → Nat} (h1 : Row wr g1 (m + k + 2) R) (h2 : Row wr g2 m Qf) (hz : R (m + k + 1) = 0) (hY : 0 < Y (k + 1)) : PQ wr g1 g2 k m (V R (m + k + 2)) m Y R Qf := by
  refine ⟨h1, h2, by rw [Nat.sub_self, V_zero]; simp, ?_, fun j a b => by omega⟩
  rw [V_succ, show fro R m (k + 1) = 0 from hz, Nat.zero_mul, Nat.add_zero]
  have a1 := V_lt (F := fro R m) (n := k + 1) fun i hi => h1.2 _ (by omega)
  have a2 := V_long (F := Y) (n := k + 2) (m := k + 1) (by omega) (by show Y (k + 1) ≠ 0; omega)
  omega
theorem pq_lt {wr : World} {g1 g2 k m x t : Nat} {Y R Qf : Nat → Nat} (h : PQ wr g1 g2 k m x (t + 1) Y R Qf) (ht : t < m) : V (fro R t) (k + 3) < V Y (k + 2) * 18446744073709551616 := by
  obtain ⟨h1, h2, h3, h4, h5⟩ := h
  rw [V_cons]
  have e : V (fun i => fro R t (1 + i)) (k + 2) = V (fro R (t + 1)) (k + 2) := V_congr fun i hi => by show R (t + (1 + i)) = R (t + 1 + i); rw [Nat.add_assoc]
  rw [e]
  have hR : fro R t 0 < 18446744073709551616 := h1.2 _ (by omega)
  have : (V (fro R (t + 1)) (k + 2) + 1) * 18446744073709551616 ≤ V Y (k + 2) * 18446744073709551616 := Nat.mul_le_mul_right _ h4
  omega
theorem pq_lin (x Y p q U r d z : Nat) (h : x = Y * (p * 18446744073709551616 * U) + (z + p * (Y * d + r))) : x = Y * (p * (d + 18446744073709551616 * U)) + (z + p * r) := by
  rw [h, Nat.mul_add p d, Nat.mul_add Y, Nat.mul_add p (Y * d), Nat.mul_left_comm Y p d, Nat.mul_assoc p]
  omega
theorem pq_step {w1 w2 : World} {g1 g2 k m x t d : Nat} {Y R Qf H : Nat → Nat} (h : PQ w1 g1 g2 k m x (t + 1) Y R Qf) (ht : t < m) (hT : Took w1 w2 g1 (m + k + 2) t k R Y d H) (hg : g1 ≠ g2) (hd : d < 18446744073709551616) (hY0 : 0 < V Y (k + 2)) :
    PQ (w2.setCell ⟨g2, t, none⟩ (.int .u64 (d : Int))) g1 g2 k m x t Y H (put Qf t d) := by
  obtain ⟨h1, h2, h3, h4, h5⟩ := h
  obtain ⟨t1, t2, t3, t4, t5, t6⟩ := hT
  refine ⟨⟨t1.1.setOther (by simpa using hg) _, t1.2⟩, (h2.kept t6 (by simpa using Ne.symm hg)).set t hd, ?_, ?_, fun j a b => ?_⟩
  · have e1 : V (fro (put Qf t d) t) (m - t) = d + 18446744073709551616 * V (fro Qf (t + 1)) (m - (t + 1)) := by
      rw [show m - t = (m - (t + 1)) + 1 by omega, V_cons]
      congr 1
      · exact put_same _ _ _
      · congr 1
        refine V_congr fun i hi => ?_
        show put Qf t d (t + (1 + i)) = Qf (t + 1 + i)
        rw [put_other _ _ (by omega), show t + (1 + i) = t + 1 + i by omega]
    have e2 : V R (t + 1 + k + 2) = V R t + P t * V (fro R t) (k + 3) := by rw [show t + 1 + k + 2 = t + (k + 3) by omega, V_split]; rfl
    have e3 : V H (t + k + 2) = V R t + P t * V (fro H t) (k + 2) := by
      rw [Nat.add_assoc, V_split, V_congr (F := H) (G := R) fun i hi => t2 i (.inl hi)]
      rfl
    have e4 := Nat.div_add_mod (V (fro R t) (k + 3)) (V Y (k + 2))
    rw [← t4, ← t5] at e4
    rw [e1, e3]
    refine pq_lin _ _ _ 0 _ _ _ _ ?_
    rw [h3, e2, P_succ, e4]
  · rw [t5]
    exact Nat.mod_lt _ hY0
  · by_cases e : j = t + k + 2
    · rw [e]; exact t3
    · rw [t2 j (.inr (by omega))]
      exact h5 j (by omega) b
theorem take_pq (wr : World) (g1 g2 yb k m x s cap b' o' cap' : Nat) (Y R Qf : Nat → Nat) (yv : Value) (hP : PQ wr g1 g2 k m x (s + 1) Y R Qf) (hY : Sl wr (some ⟨b', o', none⟩) (k + 2) cap' Y) (hs : s < m) (hk : k ≤ 4294967296) (hc : k + 3 ≤ cap) (hne : b' ≠ g1) (hg : g1 ≠ g2) (hyg : yb ≠ g1)
    (htop : 9223372036854775808 ≤ Y (k + 1)) (hyc : wr.cell? ⟨yb, 0, none⟩ = some yv) :
    Calls Try.prog 74 #[.slice (some ⟨g1, s, none⟩) (k + 3) cap, .slice (some ⟨b', o', none⟩) (k + 2) cap'] wr fun e w2 => ∃ d : Nat, e = .returned (.int .u64 (d : Int)) ∧ ∃ H, Hid (PQ (w2.setCell ⟨g2, s, none⟩ (.int .u64 (d : Int))) g1 g2 k m x s Y H (put Qf s d) ∧ wr.grownBy w2 (some g1)) ∧ w2.cell? ⟨yb, 0, none⟩ = some yv ∧ w2.cell? ⟨g2, s, none⟩ = some (.int .u64 (Qf s : Nat)) ∧ w2.frozen? ⟨g2, s, none⟩ = false := by
  refine (take_any g1 (m + k + 2) s k cap b' o' cap' R Y wr hP.1 hY (by omega) hk hc hne htop (pq_lt hP hs)).mono ?_
  rintro e w2 ⟨d, rfl, H, hT⟩
  have hY0 : 0 < V Y (k + 2) := by have := hP.2.2.2.1; omega
  have hd : d < 18446744073709551616 := by
    rw [hT.2.2.2.1, Nat.div_lt_iff_lt_mul hY0, Nat.mul_comm]
    exact pq_lt hP hs
  have hkp := hP.2.1.kept hT.2.2.2.2.2 (by simpa using Ne.symm hg)
  exact ⟨d, rfl, H, ⟨pq_step hP hs hT hg hd hY0, hT.2.2.2.2.2⟩, hT.2.2.2.2.2.cell hyc (by simpa using hyg), hkp.cell hs, hkp.frozen s⟩
/-- What a call leaves that makes two numbers. -/
def MakesQR (w : World) (x y : Nat) (e : Ending) (w' : World) : Prop := ∃ v u, e = .returned (.tuple #[v, u]) ∧ IsNat w' v x ∧ IsNat w' u y ∧ Below w.heap.size w w'
set_option maxHeartbeats 2000000 in
theorem plainQ_any (a : Option Addr) (lx cap : Nat) (b' o' k cap' m : Nat) (X Y : Nat → Nat) (w : World) (hX : Sl w a lx cap X) (hY : Sl w (some ⟨b', o', none⟩) (k + 2) cap' Y) (hlx : lx + 1 = m + k + 2) (hm : 0 < m) (hx : lx ≤ 4294967296) (htop : 9223372036854775808 ≤ Y (k + 1)) :
    Calls Try.prog 69 #[.agg #[.slice a lx cap], .agg #[.slice (some ⟨b', o', none⟩) (k + 2) cap']] w (MakesQR w (V X lx / V Y (k + 2)) (V X lx % V Y (k + 2))) := by
  have HH : Hid (Sl w a lx cap X ∧ Sl w (some ⟨b', o', none⟩) (k + 2) cap' Y) := ⟨hX, hY⟩
  obtain ⟨b2, o2, eb, hw⟩ := hY.at 0 (by omega)
  cases eb
  have hb' : b' < w.heap.size := World.block_lt_of_cell? _ _ (hw 0 (by omega))
  have hd0 : decide ((lx : Int) < (k : Int) + 2) = false := decide_eq_false (by omega)
  have mk1 := make_at ((lx : Int) + 1) ((lx : Int) + 1) (lx + 1) (lx + 1) (by omega) (by omega) (Nat.le_refl _) (by omega)
  have mk2 := make_at ((lx : Int) + 1 - ((k : Int) + 2)) ((lx : Int) + 1 - ((k : Int) + 2)) m m (by omega) (by omega) (Nat.le_refl _) (by omega)
  have HB : Hid (Below w.heap.size w (((((w.alloc (.cells #[.slice a lx cap] 27)).alloc (.cells #[.slice (some ⟨b', o', none⟩) (k + 2) cap'] 27)).alloc (.cells #[.slice none 0 0] 27)).alloc (.cells #[.slice none 0 0] 27)).alloc (.cells (zeros (lx + 1)) 22))) := (((bel_alloc2 _ _ _).alloc (by simp <;> omega) _).alloc (by simp <;> omega) _).alloc (by simp <;> omega) _
  have HLX : Hid (lx + 1 = m + k + 2) := hlx
  have hkl : k + 2 ≤ lx + 1 := by omega
  have hml : m ≤ lx := by omega
  clear hX hY hw hlx
  go_enter Try.func69, Try.ntmps69
  go_wp2_with (refine (id ?_ : wpList Try.prog _ _ (⟨some 28, _, _, _, _, _⟩ :: _) _ _); refine wpList_copy_words rfl (.tmp 25) (.tmp 27) rfl _ _ _ _ _ _ _ rfl rfl (lx + 1) (fun _ => 0) X (row_zeros_at _ (lx + 1) _ (by simp)) (HH.out.1.mono HB.out) (by omega) (by omega) ?_)
  intro w1 hR1 hg1
  have c1 : w1.cell? ⟨w.heap.size + 1, 0, none⟩ = some (.slice (some ⟨b', o', none⟩) (k + 2) cap') := hg1.cell (by simp [go_sem]) (by simp <;> omega)
  have c2 : w1.cell? ⟨w.heap.size + 1 + 1, 0, none⟩ = some (.slice none 0 0) := hg1.cell (by simp [go_sem]) (by simp <;> omega)
  have c3 : w1.cell? ⟨w.heap.size + 1 + 1 + 1, 0, none⟩ = some (.slice none 0 0) := hg1.cell (by simp [go_sem]) (by simp <;> omega)
  have f2 : w1.frozen? ⟨w.heap.size + 1 + 1, 0, none⟩ = false := (World.frozen?_of_block (hg1.block _ (by simp <;> omega) (by simp <;> omega))).trans (by simp [go_sem])
  have f3 : w1.frozen? ⟨w.heap.size + 1 + 1 + 1, 0, none⟩ = false := (World.frozen?_of_block (hg1.block _ (by simp <;> omega) (by simp <;> omega))).trans (by simp [go_sem])
  have hs1 : w.heap.size + 1 + 1 + 1 + 1 < w1.heap.size := hR1.1.lt
  have B1 : Hid (Below w.heap.size w w1) := HB.out.grown hg1 (by simp <;> omega) (fun k hk => by cases hk; omega)
  have R1 : Hid (Row w1 (w.heap.size + 1 + 1 + 1 + 1) (lx + 1) (over (fun _ => 0) 0 X lx)) := hR1
  clear hR1 hg1 HB mk1
  go_wp2_with fail
  go_loopw [9] (fun q wr => ∃ (t : Nat) (R Qf : Nat → Nat), t ≤ m ∧ q = .int .i64 ((t : Int) - 1) ∧ PQ wr (w.heap.size + 1 + 1 + 1 + 1) w1.heap.size k m (V X lx) t Y R Qf ∧ Below (w.heap.size + 1 + 1 + 1 + 1) w1 wr) (fun q _ => (intOf q + 1).toNat)
  case atStart =>
    refine ⟨m, over (fun _ => 0) 0 X lx, fun _ => 0, Nat.le_refl _, rfl, ?_, (Below.refl _ _).alloc (by omega) _⟩
    have r1 := R1.out.below ((Below.refl _ _).alloc (Nat.le_refl _) (.cells (zeros m) 22))
    have hlx : lx + 1 = m + k + 2 := HLX.out
    rw [hlx] at r1
    have := pq_start r1 (row_zeros_at w1 m w1.heap.size rfl) (Y := Y) (by rw [over_out _ _ _ _ (.inr (by omega))]) (by omega)
    have e : V (over (fun _ => 0) 0 X lx) (m + k + 2) = V X lx := by
      rw [V_top (m := lx) (by omega) fun i a b => over_out _ _ _ _ (.inr (by omega)), V_over0]
    rw [e] at this
    exact this
  case round =>
    clear mk2
    obtain ⟨t, R, Qf, ht, rfl, hP, hB⟩ := hrel
    have hc1 : wr.cell? ⟨w.heap.size + 1, 0, none⟩ = some (.slice (some ⟨b', o', none⟩) (k + 2) cap') := (hB.cell (by simp <;> omega)).trans c1
    have HY2 : Hid (Sl wr (some ⟨b', o', none⟩) (k + 2) cap' Y) := by
      obtain ⟨s1, s2, s3, s4⟩ := HH.out.2.mono B1.out
      refine ⟨s1, s2, s3, s4.imp id ?_⟩
      rintro ⟨b2, o2, e2, hw2⟩
      cases e2
      exact ⟨b', o', rfl, fun i hi => (hB.cell (by simp <;> omega)).trans (hw2 i hi)⟩
    by_cases ht0 : t = 0
    · subst ht0
      have HBB : Hid (Below (w.heap.size + 1 + 1 + 1 + 1) w1 wr) := hB
      have hc2 : wr.cell? ⟨w.heap.size + 1 + 1, 0, none⟩ = some (.slice none 0 0) := (hB.cell (by simp <;> omega)).trans c2
      have hc3 : wr.cell? ⟨w.heap.size + 1 + 1 + 1, 0, none⟩ = some (.slice none 0 0) := (hB.cell (by simp <;> omega)).trans c3
      have hf2 : wr.frozen? ⟨w.heap.size + 1 + 1, 0, none⟩ = false := (hB.frozen (by simp <;> omega)).trans f2
      have hf3 : wr.frozen? ⟨w.heap.size + 1 + 1 + 1, 0, none⟩ = false := (hB.frozen (by simp <;> omega)).trans f3
      have HP : Hid (PQ wr (w.heap.size + 1 + 1 + 1 + 1) w1.heap.size k m (V X lx) 0 Y R Qf) := hP
      have B2 : Hid (Below w.heap.size w wr) := B1.out.trans (hB.mono (by omega))
      have HR : Hid (V Qf m = V X lx / V Y (k + 2) ∧ V R (lx + 1) = V X lx % V Y (k + 2)) := by
        obtain ⟨p1, p2, p3, p4, p5⟩ := hP
        rw [P_zero, Nat.one_mul, fro_zero, Nat.sub_zero, Nat.zero_add] at p3
        rw [fro_zero] at p4
        have e1 : V R (lx + 1) = V R (k + 2) := V_top (by omega) fun i a b => p5 i (by omega) (by have := HLX.out; omega)
        show V Qf m = _ ∧ _
        rw [e1, p3, Nat.mul_add_div (by omega), Nat.div_eq_of_lt p4, Nat.add_zero, Nat.mul_add_mod, Nat.mod_eq_of_lt p4]
        exact ⟨rfl, rfl⟩
      clear hP hB
      go_wp2_with fail
      refine (trimmed_any _ m m Qf wr (by have := HP.out.2.1.sl (o := 0) (n := m) (cap := m) (by omega) (Nat.le_refl _) (by omega); rw [fro_zero] at this; exact this) (by omega)).mono ?_
      rintro e w3 ⟨v3, rfl, hv3, hb3⟩
      have HV3 : Hid (IsNat w3 v3 (V Qf m)) := hv3
      have d2 : w3.cell? ⟨w.heap.size + 1 + 1, 0, none⟩ = some (.slice none 0 0) := cell_later hb3 hc2
      have d3 : w3.cell? ⟨w.heap.size + 1 + 1 + 1, 0, none⟩ = some (.slice none 0 0) := cell_later hb3 hc3
      have g2 : w3.frozen? ⟨w.heap.size + 1 + 1, 0, none⟩ = false := (hb3.frozen (World.block_lt_of_cell? _ _ hc2)).trans hf2
      have g3 : w3.frozen? ⟨w.heap.size + 1 + 1 + 1, 0, none⟩ = false := (hb3.frozen (World.block_lt_of_cell? _ _ hc3)).trans hf3
      have R3 : Hid (Row w3 (w.heap.size + 1 + 1 + 1 + 1) (lx + 1) R) := by have := HP.out.1.below hb3; rw [← HLX.out] at this; exact this
      have B3 : Hid (Below w.heap.size w w3) := bel_trans B2.out hb3
      obtain ⟨a3, n3, cap3, rfl⟩ := hv3.isAgg
      clear hv3 hb3 hc2 hc3 hf2 hf3 B2 HP
      go_wp2_with fail
      refine (trimmed_any _ (lx + 1) (lx + 1) R w3 (by have := R3.out.sl (o := 0) (n := lx + 1) (cap := lx + 1) (by omega) (Nat.le_refl _) (by omega); rw [fro_zero] at this; exact this) (by omega)).mono ?_
      rintro e w4 ⟨v4, rfl, hv4, hb4⟩
      have d4 : w4.cell? ⟨w.heap.size + 1 + 1, 0, none⟩ = some (.slice none 0 0) := cell_later hb4 d2
      have d5 : w4.cell? ⟨w.heap.size + 1 + 1 + 1, 0, none⟩ = some (.slice none 0 0) := cell_later hb4 d3
      have g4 : w4.frozen? ⟨w.heap.size + 1 + 1, 0, none⟩ = false := (hb4.frozen (World.block_lt_of_cell? _ _ d2)).trans g2
      have g5 : w4.frozen? ⟨w.heap.size + 1 + 1 + 1, 0, none⟩ = false := (hb4.frozen (World.block_lt_of_cell? _ _ d3)).trans g3
      have HV4 : Hid (IsNat w4 v4 (V R (lx + 1)) ∧ IsNat w4 (.agg #[.slice a3 n3 cap3]) (V Qf m)) := ⟨hv4, HV3.out.mono hb4⟩
      have B4 : Hid (Below w.heap.size w w4) := bel_trans B3.out hb4
      obtain ⟨a4, n4, cap4, rfl⟩ := hv4.isAgg
      clear hv4 hb4 d2 d3 g2 g3 B3 HV3
      go_wp2_with fail
      have n1 : ∀ kk q, (w4.setCell ⟨w.heap.size + 1 + 1, 0, none⟩ (.slice a3 n3 cap3)).cell? ⟨w.heap.size + 1 + 1 + 1, 0, none⟩ ≠ some (.int kk q) := by
        rw [World.cell?_setCell_far _ _ _ _ (by simp)]
        exact no_int_slice d5
      refine bodyPost_ret (v := .tuple #[.agg #[.slice a3 n3 cap3], .agg #[.slice a4 n4 cap4]]) (by simp [results, Try.results69, go_sem, d4, d5]) rfl ⟨_, _, rfl, ?_, ?_, (B4.out.setCell (by simp <;> omega) _).setCell (by simp <;> omega) _⟩
      · rw [← HR.out.1]
        exact (HV4.out.2.setCell (no_int_slice d4) _).setCell n1 _
      · rw [← HR.out.2]
        exact (HV4.out.1.setCell (no_int_slice d4) _).setCell n1 _
    · obtain ⟨s, rfl⟩ : ∃ s, t = s + 1 := ⟨t - 1, by omega⟩
      have HP : Hid (PQ wr (w.heap.size + 1 + 1 + 1 + 1) w1.heap.size k m (V X lx) (s + 1) Y R Qf) := hP
      have HBB : Hid (Below (w.heap.size + 1 + 1 + 1 + 1) w1 wr) := hB
      have hq2 : wr.cell? ⟨w1.heap.size, s, none⟩ = some (.int .u64 (Qf s : Nat)) := hP.2.1.cell (by omega)
      have hY0 : 0 < V Y (k + 2) := by have := hP.2.2.2.1; omega
      have hlt := pq_lt hP (by omega)
      have hsk : s + k + 3 ≤ m + k + 2 := by omega
      have hs' : (s : Int) < m := by omega
      have hne1 : b' ≠ w.heap.size + 1 + 1 + 1 + 1 := by omega
      have hcl : k + 3 ≤ lx + 1 - s := by have := HLX.out; omega
      have HT : Hid _ := hlt
      have hb1 : (s : Int) + ((k : Int) + 2) + 1 ≤ (lx : Int) + 1 := by have := HLX.out; omega
      have hb2 : s + (k + 2) + 1 ≤ lx + 1 := by have := HLX.out; omega
      have hne2 : ¬ lx + 1 = s := by omega
      have hs0 : 0 ≤ (s : Int) := by omega
      have sl := slice_at (w.heap.size + 1 + 1 + 1 + 1) s (k + 3) (lx + 1) (lx + 1) (s : Int) ((s : Int) + ((k : Int) + 2) + 1) rfl (by omega) (by omega) (by omega)
      have wr1 : IntKind.i64.wrap ((s : Int) + ((k : Int) + 2)) = (s : Int) + ((k : Int) + 2) := by rw [IntKind.wrap_i64]; omega
      have wr2 : IntKind.i64.wrap ((s : Int) + ((k : Int) + 2) + 1) = (s : Int) + ((k : Int) + 2) + 1 := by rw [IntKind.wrap_i64]; omega
      rw [show (((s + 1 : Nat) : Int) - 1) = (s : Int) by omega]
      clear hP hB hlt
      go_wp2_with fail
      have hkk : k ≤ 4294967296 := by omega
      have hgg : w.heap.size + 1 + 1 + 1 + 1 ≠ w1.heap.size := by omega
      have hyg : w.heap.size + 1 ≠ w.heap.size + 1 + 1 + 1 + 1 := by omega
      have hsm : s < m := by omega
      go_region_held3 (fun w' => w'.cell? ⟨w.heap.size + 1, 0, none⟩ = some (.slice (some ⟨b', o', none⟩) (k + 2) cap')) (simp [go_sem, *])
        (first
          | (go_at_call 74; refine (take_pq wr.drew (w.heap.size + 1 + 1 + 1 + 1) w1.heap.size (w.heap.size + 1) k m (V X lx) s (lx + 1 - s) b' o' cap' Y R Qf _ HP.out HY2.out hsm hkk hcl hne1 hgg hyg htop hc1).mono ?_; rintro e w2 ⟨d, rfl, H, HTT, hc4, hq4, hf4⟩))
      go_wp2_with fail
      go_roundw
      case rel =>
        refine ⟨s, H, put Qf s d, by omega, by go_num, HTT.out.1, ?_⟩
        exact (HBB.out.trans ((Below.refl _ _).grown (w := wr) (w' := w2) ⟨HTT.out.2.os, HTT.out.2.tape, HTT.out.2.output, HTT.out.2.size, HTT.out.2.block⟩ (by have := HBB.out.size; omega) (fun k hk => by cases hk; omega))).setCell (by simp <;> omega) _
      case measure => simp [intOf]
end Go.Proofs.Ytekigmkepfhdhaa
