/- DivMod: the easy ways: by 0, by a greater number, by one word. -/
import Derived.Test.YtekigmkepfhdhaaDivide
namespace Go.Proofs.Ytekigmkepfhdhaa
open Go.RowKit
set_option maxRecDepth 100000
set_option linter.unusedVariables false
/-- What DivMod leaves. -/
def MakesQRB (w : World) (x y : Nat) (ok : Bool) (e : Ending) (w' : World) : Prop := ∃ v u, e = .returned (.tuple #[v, u, .bool ok]) ∧ IsNat w' v x ∧ IsNat w' u y ∧ Below w.heap.size w w'
set_option maxHeartbeats 1000000 in
theorem divMod_zero (v u : Value) (x : Nat) (w : World) (h : IsNat w v x) (k : IsNat w u 0) :
    Calls Try.prog 24 #[v, u] w (MakesQRB w 0 0 false) := by
  obtain ⟨a, n, cap, rfl⟩ := h.isAgg
  obtain ⟨a', m, cap', rfl⟩ := k.isAgg
  have hm : m = 0 := (isNat_zero_iff k).2 rfl
  subst hm
  clear h k
  go_enter Try.func24, Try.ntmps24
  go_wp2_with fail
  refine bodyPost_ret (v := .tuple #[.agg #[.slice none 0 0], .agg #[.slice none 0 0], .bool false]) (by simp [results, Try.results24, go_sem]) rfl ⟨_, _, rfl, isNat_zero _, isNat_zero _, ?_⟩
  exact ((bel_alloc2 _ _ _).alloc (by simp <;> omega) _).alloc (by simp <;> omega) _
set_option maxHeartbeats 1000000 in
theorem divMod_lt (v u : Value) (x y : Nat) (w : World) (h : IsNat w v x) (k : IsNat w u y) (hx : Fits x) (hy : Fits y) (hlt : x < y) :
    Calls Try.prog 24 #[v, u] w (MakesQRB w (x / y) (x % y) true) := by
  rw [Nat.div_eq_of_lt hlt, Nat.mod_eq_of_lt hlt]
  obtain ⟨a, n, cap, rfl⟩ := h.isAgg
  obtain ⟨a', m, cap', rfl⟩ := k.isAgg
  have hm : m ≠ 0 := fun e => by have := (isNat_zero_iff k).1 e; omega
  have hmb : ((m : Int) == 0) = false := by simp <;> omega
  have HH : Hid _ := And.intro h k
  have HF : Hid _ := And.intro hx hy
  have HB : Hid (Below w.heap.size w ((((w.alloc (.cells #[.slice a n cap] 27)).alloc (.cells #[.slice a' m cap'] 27)).alloc (.cells #[.slice none 0 0] 27)).alloc (.cells #[.slice none 0 0] 27))) := ((bel_alloc2 _ _ _).alloc (by simp <;> omega) _).alloc (by simp <;> omega) _
  clear h k hx hy
  go_enter Try.func24, Try.ntmps24
  go_wp2_with fail
  refine (cmp_any _ _ x y _ (HH.out.1.mono HB.out) (HH.out.2.mono HB.out) HF.out.1 HF.out.2).mono ?_
  rintro e w1 ⟨rfl, hb1⟩
  have c1 : w1.cell? ⟨w.heap.size, 0, none⟩ = some (.slice a n cap) := cell_later hb1 (by simp [go_sem])
  have c2 : w1.cell? ⟨w.heap.size + 1 + 1, 0, none⟩ = some (.slice none 0 0) := cell_later hb1 (by simp [go_sem])
  have c3 : w1.cell? ⟨w.heap.size + 1 + 1 + 1, 0, none⟩ = some (.slice none 0 0) := cell_later hb1 (by simp [go_sem])
  have f2 : w1.frozen? ⟨w.heap.size + 1 + 1, 0, none⟩ = false := (hb1.frozen (by simp <;> omega)).trans (by simp [go_sem])
  have f3 : w1.frozen? ⟨w.heap.size + 1 + 1 + 1, 0, none⟩ = false := (hb1.frozen (by simp <;> omega)).trans (by simp [go_sem])
  have B1 : Hid (Below w.heap.size w w1) := bel_trans HB.out hb1
  have hcn : cmpI x y < 0 := by rw [cmpI_lt hlt]; omega
  clear hb1
  go_wp2_with fail
  go_region
  go_wp2_with fail
  have n1 : ∀ kk q, (w1.setCell ⟨w.heap.size + 1 + 1, 0, none⟩ (.slice none 0 0)).cell? ⟨w.heap.size + 1 + 1 + 1, 0, none⟩ ≠ some (.int kk q) := by
    rw [World.cell?_setCell_far _ _ _ _ (by simp)]
    exact no_int_slice c3
  refine bodyPost_ret (v := .tuple #[.agg #[.slice none 0 0], .agg #[.slice a n cap], .bool true]) (by simp [results, Try.results24, go_sem, c2, c3]) rfl ⟨_, _, rfl, isNat_zero _, ?_, ((B1.out.setCell (by simp <;> omega) _).setCell (by simp <;> omega) _).drew⟩
  exact ((HH.out.1.mono B1.out).setCell (no_int_slice c2) _).setCell n1 _
set_option maxHeartbeats 2000000 in
theorem divMod_word (a : Option Addr) (n cap : Nat) (a' : Option Addr) (cap' : Nat) (x y : Nat) (w : World) (h : IsNat w (.agg #[.slice a n cap]) x) (k : IsNat w (.agg #[.slice a' 1 cap']) y) (hx : Fits x) (hy : Fits y) (hle : y ≤ x) :
    Calls Try.prog 24 #[.agg #[.slice a n cap], .agg #[.slice a' 1 cap']] w (MakesQRB w (x / y) (x % y) true) := by
  obtain ⟨F, hs, h0, h1, hv⟩ := h.fits
  obtain ⟨G, ks, k0, k1, kv⟩ := k.fits
  have hn : n ≤ 4294967296 := fits_len (hv.symm ▸ hx) h1
  obtain ⟨b', o', rfl, kw⟩ := ks.at 0 (by omega)
  have hyG : y = G 0 := by rw [← kv, V_succ, V_zero, P_zero]; omega
  have hG0 : 0 < y := by have := k1 (by omega); simp only [Nat.sub_self] at this; omega
  have hyl : y < 18446744073709551616 := by rw [hyG]; exact ks.2.2.1 0 (by omega)
  have kc : w.cell? ⟨b', o', none⟩ = some (.int .u64 (y : Int)) := by rw [hyG]; exact kw 0 (by omega)
  have HH : Hid _ := And.intro h k
  have HF : Hid (Fits x ∧ Fits y) := And.intro hx hy
  have HS : Hid (Sl w a n cap F ∧ V F n = x) := ⟨hs, hv⟩
  have HB : Hid (Below w.heap.size w ((((w.alloc (.cells #[.slice a n cap] 27)).alloc (.cells #[.slice (some ⟨b', o', none⟩) 1 cap'] 27)).alloc (.cells #[.slice none 0 0] 27)).alloc (.cells #[.slice none 0 0] 27))) := ((bel_alloc2 _ _ _).alloc (by simp <;> omega) _).alloc (by simp <;> omega) _
  have HKC : Hid _ := kc
  have mk := make_at (n : Int) (n : Int) n n rfl rfl (Nat.le_refl _) (by omega)
  clear h k hx hy hs h0 h1 hv ks k0 k1 kv kw kc hyG
  go_enter Try.func24, Try.ntmps24
  go_wp2_with fail
  refine (cmp_any _ _ x y _ (HH.out.1.mono HB.out) (HH.out.2.mono HB.out) HF.out.1 HF.out.2).mono ?_
  rintro e w1 ⟨rfl, hb1⟩
  have c0 : w1.cell? ⟨w.heap.size, 0, none⟩ = some (.slice a n cap) := cell_later hb1 (by simp [go_sem])
  have c1 : w1.cell? ⟨w.heap.size + 1, 0, none⟩ = some (.slice (some ⟨b', o', none⟩) 1 cap') := cell_later hb1 (by simp [go_sem])
  have c2 : w1.cell? ⟨w.heap.size + 1 + 1, 0, none⟩ = some (.slice none 0 0) := cell_later hb1 (by simp [go_sem])
  have c3 : w1.cell? ⟨w.heap.size + 1 + 1 + 1, 0, none⟩ = some (.slice none 0 0) := cell_later hb1 (by simp [go_sem])
  have f2 : w1.frozen? ⟨w.heap.size + 1 + 1, 0, none⟩ = false := (hb1.frozen (by simp <;> omega)).trans (by simp [go_sem])
  have f3 : w1.frozen? ⟨w.heap.size + 1 + 1 + 1, 0, none⟩ = false := (hb1.frozen (by simp <;> omega)).trans (by simp [go_sem])
  have hs1 : w.heap.size + 1 + 1 + 1 < w1.heap.size := World.block_lt_of_cell? _ _ c3
  have hl0 : w.heap.size < w1.heap.size := by omega
  have hl1 : w.heap.size + 1 < w1.heap.size := by omega
  have B1 : Hid (Below w.heap.size w w1) := bel_trans HB.out hb1
  have hcn : decide (cmpI x y < 0) = false := decide_eq_false (by unfold cmpI; split <;> (try split) <;> omega)
  clear hb1
  go_wp2_with (refine (id ?_ : wpList Try.prog _ _ (⟨some 38, _, _, _, _, _⟩ :: _) _ _); refine wpList_copy_words rfl (.tmp 35) (.tmp 37) rfl _ _ _ _ _ _ _ rfl rfl n (fun _ => 0) F (row_zeros_at _ n _ rfl) (HS.out.1.mono (B1.out.alloc B1.out.size _)) (by omega) (by omega) ?_)
  intro w2 hR2 hg2
  have A1 : Hid (Below w1.heap.size w1 w2) := ((Below.refl _ _).alloc (Nat.le_refl _) _).grown hg2 (by simp) (fun k hk => by cases hk; omega)
  have R2 : Hid (Row w2 w1.heap.size n (over (fun _ => 0) 0 F n)) := hR2
  have B2 : Hid (Below w.heap.size w w2) := bel_trans B1.out A1.out
  have c1' := cell_later A1.out c1
  have c2' := cell_later A1.out c2
  have c3' := cell_later A1.out c3
  have f2' := (A1.out.frozen (World.block_lt_of_cell? _ _ c2)).trans f2
  have f3' := (A1.out.frozen (World.block_lt_of_cell? _ _ c3)).trans f3
  have kc2 := cell_later B2.out HKC.out
  clear hR2 hg2 c0 c1 c2 c3 f2 f3 mk
  go_wp2_with fail
  refine (divideByWord_any w1.heap.size n 0 n n y _ w2 R2.out (by omega) (by omega) hG0 hyl).mono ?_
  rintro e w3 ⟨c, rfl, H, hD⟩
  obtain ⟨e1, e2⟩ := hD.fin
  rw [fro_zero, fro_zero, V_over0, HS.out.2] at e1
  rw [fro_zero, V_over0, HS.out.2] at e2
  have hg3 := hD.2.2.2.2
  have A2 : Hid (Below (w.heap.size + 1 + 1 + 1 + 1) w2 w3) := (Below.refl _ _).grown hg3 (by have := A1.out.size; omega) (fun k hk => by cases hk; omega)
  have d2 : w3.cell? ⟨w.heap.size + 1 + 1, 0, none⟩ = some (.slice none 0 0) := (A2.out.cell (by simp <;> omega)).trans c2'
  have d3 : w3.cell? ⟨w.heap.size + 1 + 1 + 1, 0, none⟩ = some (.slice none 0 0) := (A2.out.cell (by simp <;> omega)).trans c3'
  have g2 : w3.frozen? ⟨w.heap.size + 1 + 1, 0, none⟩ = false := (A2.out.frozen (by simp <;> omega)).trans f2'
  have g3 : w3.frozen? ⟨w.heap.size + 1 + 1 + 1, 0, none⟩ = false := (A2.out.frozen (by simp <;> omega)).trans f3'
  have R3 : Hid (Row w3 w1.heap.size n H ∧ V H n = x / y ∧ c = x % y) := ⟨hD.1, e1, e2⟩
  have B3 : Hid (Below w.heap.size w w3) := B2.out.trans (A2.out.mono (by omega))
  clear hD e1 e2 hg3 c1' c2' c3' f2' f3' kc2 A2 A1 B2 R2
  go_wp2_with fail
  refine (trimmed_any _ n n H w3 (by have := R3.out.1.sl (o := 0) (n := n) (cap := n) (by omega) (Nat.le_refl _) (by omega); rw [fro_zero] at this; exact this) (by omega)).mono ?_
  rintro e w4 ⟨v4, rfl, hv4, hb4⟩
  have d2' := cell_later hb4 d2
  have d3' := cell_later hb4 d3
  have g2' := (hb4.frozen (World.block_lt_of_cell? _ _ d2)).trans g2
  have g3' := (hb4.frozen (World.block_lt_of_cell? _ _ d3)).trans g3
  have HV4 : Hid (IsNat w4 v4 (V H n)) := hv4
  have B4 : Hid (Below w.heap.size w w4) := bel_trans B3.out hb4
  obtain ⟨a4, n4, cap4, rfl⟩ := hv4.isAgg
  clear hv4 hb4 d2 d3 g2 g3
  go_wp2_with fail
  refine (of_any c w4 (by rw [R3.out.2.2]; exact Nat.lt_trans (Nat.mod_lt _ hG0) hyl)).mono ?_
  rintro e w5 ⟨v5, rfl, hv5, hb5⟩
  have d4 := cell_later hb5 d2'
  have d5 := cell_later hb5 d3'
  have g4 := (hb5.frozen (World.block_lt_of_cell? _ _ d2')).trans g2'
  have g5 := (hb5.frozen (World.block_lt_of_cell? _ _ d3')).trans g3'
  have HV5 : Hid (IsNat w5 v5 c ∧ IsNat w5 (.agg #[.slice a4 n4 cap4]) (V H n)) := ⟨hv5, HV4.out.mono hb5⟩
  have B5 : Hid (Below w.heap.size w w5) := bel_trans B4.out hb5
  obtain ⟨a5, n5, cap5, rfl⟩ := hv5.isAgg
  clear hv5 hb5 d2' d3' g2' g3' HV4 B4
  go_wp2_with fail
  have n1 : ∀ kk q, (w5.setCell ⟨w.heap.size + 1 + 1, 0, none⟩ (.slice a4 n4 cap4)).cell? ⟨w.heap.size + 1 + 1 + 1, 0, none⟩ ≠ some (.int kk q) := by
    rw [World.cell?_setCell_far _ _ _ _ (by simp)]
    exact no_int_slice d5
  refine bodyPost_ret (v := .tuple #[.agg #[.slice a4 n4 cap4], .agg #[.slice a5 n5 cap5], .bool true]) (by simp [results, Try.results24, go_sem, d4, d5]) rfl ⟨_, _, rfl, ?_, ?_, (B5.out.setCell (by simp <;> omega) _).setCell (by simp <;> omega) _⟩
  · rw [← R3.out.2.1]
    exact (HV5.out.2.setCell (no_int_slice d4) _).setCell n1 _
  · rw [← R3.out.2.2]
    exact (HV5.out.1.setCell (no_int_slice d4) _).setCell n1 _
end Go.Proofs.Ytekigmkepfhdhaa
