/- less and Sub: differences. -/
import Derived.Test.YtekigmkepfhdhaaMem
namespace Go.Proofs.Ytekigmkepfhdhaa
open Go.RowKit
set_option maxRecDepth 100000
theorem fro_zero (F : Nat → Nat) : fro F 0 = F := by funext i; simp [fro]
theorem V_over0 (F G : Nat → Nat) (n : Nat) : V (over F 0 G n) n = V G n := V_congr fun i hi => by have := over_in F 0 G n hi; rw [Nat.zero_add] at this; exact this
theorem less_val {a b c d p : Nat} (h1 : a + b = d + c * p) (h2 : a < p) (h3 : b ≤ d) (h4 : c ≤ 1) : a = d - b := by
  have : c = 0 ∨ c = 1 := by omega
  rcases this with rfl | rfl
  · omega
  · omega
theorem IsNat.isAgg {w : World} {v : Value} {x : Nat} (h : IsNat w v x) : ∃ a n cap, v = .agg #[.slice a n cap] := by
  obtain ⟨a, n, cap, F, rfl, _⟩ := h
  exact ⟨a, n, cap, rfl⟩
theorem IsNat.fits {w : World} {a : Option Addr} {n cap : Nat} {x : Nat} (h : IsNat w (.agg #[.slice a n cap]) x) : ∃ F, Sl w a n cap F ∧ (n = 0 → a = none ∧ cap = 0) ∧ (0 < n → F (n - 1) ≠ 0) ∧ V F n = x := by
  obtain ⟨a', n', cap', F, e, h⟩ := h
  simp only [Value.agg.injEq, Array.mk.injEq, List.cons.injEq, Value.slice.injEq, and_true] at e
  obtain ⟨rfl, rfl, rfl⟩ := e
  exact ⟨F, h⟩
/-- What a call leaves that makes a number: the number, and all that was there as it was. -/
def Makes (w : World) (x : Nat) (e : Ending) (w' : World) : Prop := ∃ v, e = .returned v ∧ IsNat w' v x ∧ Below w.heap.size w w'
theorem Sl.ne_block {w : World} {a : Option Addr} {n cap : Nat} {F : Nat → Nat} (h : Sl w a n cap F) (hn : 0 < n) {g : Nat} (hg : w.heap.size ≤ g) : ∀ b o, a = some ⟨b, o, none⟩ → b ≠ g := by
  intro b o ha
  obtain ⟨b', o', e, hw⟩ := h.at 0 hn
  rw [ha] at e
  cases e
  have := World.block_lt_of_cell? _ _ (hw 0 hn)
  simp only at this
  omega
set_option maxHeartbeats 1000000 in
theorem less_any (v u : Value) (x y : Nat) (w : World) (h : IsNat w v x) (k : IsNat w u y) (hx : Fits x) (hxy : y ≤ x) :
    Calls Try.prog 44 #[v, u] w (Makes w (x - y)) := by
  obtain ⟨a, n, cap, F, rfl, hs, h0, h1, hv⟩ := id h
  obtain ⟨a', m, cap', G, rfl, ks, k0, k1, kv⟩ := id k
  have hn : n ≤ 4294967296 := fits_len (hv.symm ▸ hx) h1
  have hmn : m ≤ n := by
    rcases Nat.lt_or_ge n m with hh | hh
    · have := V_lt_len hs.2.2.1 hh (k1 (by omega))
      omega
    · exact hh
  by_cases e0 : m = 0
  · subst e0
    have hy0 : y = 0 := kv.symm
    have HN : Hid (IsNat w (.agg #[.slice a n cap]) x) := h
    clear hs h0 h1 hv ks k0 k1 kv hx h k
    go_enter Try.func44, Try.ntmps44
    go_wp2_with fail
    have hB : Below w.heap.size w (((w.alloc (.cells #[.slice a n cap] 27)).alloc (.cells #[.slice a' 0 cap'] 27)).alloc (.cells #[.slice a n cap] 27)) := (bel_alloc2 _ _ _).alloc (by simp <;> omega) _
    refine bodyPost_ret (v := .agg #[.slice a n cap]) (by simp [results, Try.results44, go_sem]) rfl ⟨_, rfl, ?_, hB⟩
    rw [hy0, Nat.sub_zero]
    exact HN.out.mono hB
  · have hne0 : ((m : Int) == 0) = false := by simp; omega
    have mk := make_at (n : Int) (n : Int) n n rfl rfl (Nat.le_refl _) (by omega)
    have HS : Hid (Sl w a n cap F ∧ Sl w a' m cap' G ∧ V F n = x ∧ V G m = y) := ⟨hs, ks, hv, kv⟩
    clear hs h0 h1 hv ks k0 k1 kv hx h k
    have hB : Below w.heap.size w ((((w.alloc (.cells #[.slice a n cap] 27)).alloc (.cells #[.slice a' m cap'] 27)).alloc (.cells #[.slice none 0 0] 27)).alloc (.cells (zeros n) 22)) := ((bel_alloc2 _ _ _).alloc (by simp <;> omega) _).alloc (by simp <;> omega) _
    have HB : Hid _ := hB
    clear hB
    go_enter Try.func44, Try.ntmps44
    go_wp2_with (refine (id ?_ : wpList Try.prog _ _ (⟨some 18, _, _, _, _, _⟩ :: _) _ _); refine wpList_copy_words rfl (.tmp 15) (.tmp 17) rfl _ _ _ _ _ _ _ rfl rfl n (fun _ => 0) F (row_zeros_at _ n _ (by simp)) (HS.out.1.mono HB.out) (by omega) (by omega) ?_)
    intro w1 hR1 hg1
    have hcy : w1.cell? ⟨w.heap.size + 1, 0, none⟩ = some (.slice a' m cap') := hg1.cell (by simp [go_sem]) (by simp <;> omega)
    have hcr : w1.cell? ⟨w.heap.size + 1 + 1, 0, none⟩ = some (.slice none 0 0) := hg1.cell (by simp [go_sem]) (by simp <;> omega)
    have hfr : w1.frozen? ⟨w.heap.size + 1 + 1, 0, none⟩ = false := (World.frozen?_of_block (hg1.block _ (by simp <;> omega) (by simp <;> omega))).trans (by simp [go_sem])
    have B1 : Hid (Below w.heap.size w w1) := HB.out.grown hg1 (by simp <;> omega) (fun k hk => by cases hk; omega)
    have R1 : Hid (Row w1 (w.heap.size + 1 + 1 + 1) n (over (fun _ => 0) 0 F n)) := hR1
    clear hR1 hg1 HB mk
    go_wp2_with fail
    refine (subWords_any _ n 0 n n _ a' m cap' G w1 R1.out (HS.out.2.1.mono B1.out) (by omega) (by omega) hmn (HS.out.2.1.ne_block (by omega) (by omega))).mono ?_
    rintro e w2 ⟨rfl, c, H, S⟩
    have hg2 := S.2.2.2.2
    have hcr2 : w2.cell? ⟨w.heap.size + 1 + 1, 0, none⟩ = some (.slice none 0 0) := hg2.cell hcr (by simp <;> omega)
    have hfr2 : w2.frozen? ⟨w.heap.size + 1 + 1, 0, none⟩ = false := (World.frozen?_of_block (hg2.block _ (by have := B1.out.size; have := World.block_lt_of_cell? _ _ hcr; exact this) (by simp <;> omega))).trans hfr
    have B2 : Hid (Below w.heap.size w w2) := B1.out.grown hg2 B1.out.size (fun k hk => by cases hk; omega)
    have S2 : Hid (Row w2 (w.heap.size + 1 + 1 + 1) n H ∧ V H n = x - y) := ⟨S.1, by
      obtain ⟨q1, q2, q3, q4, _⟩ := S
      rw [fro_zero, fro_zero, V_over0] at q4
      obtain ⟨_, _, r1, r2⟩ := HS.out
      rw [r1, r2] at q4
      exact less_val q4 (V_lt q1.2) hxy q3⟩
    clear S hg2 hcr hfr hcy R1 B1
    go_wp2_with fail
    refine (trimmed_any _ n n H w2 (by have := S2.out.1.sl (o := 0) (n := n) (cap := n) (by omega) (Nat.le_refl _) (by omega); rw [fro_zero] at this; exact this) (by omega)).mono ?_
    rintro e w3 ⟨v3, rfl, hv3, hb3⟩
    have hcr3 : w3.cell? ⟨w.heap.size + 1 + 1, 0, none⟩ = some (.slice none 0 0) := cell_later hb3 hcr2
    have hfr3 : w3.frozen? ⟨w.heap.size + 1 + 1, 0, none⟩ = false := (hb3.frozen (World.block_lt_of_cell? _ _ hcr2)).trans hfr2
    obtain ⟨a3, n3, cap3, rfl⟩ := hv3.isAgg
    have HV3 : Hid (IsNat w3 (.agg #[.slice a3 n3 cap3]) (V H n)) := hv3
    have B3 : Hid (Below w.heap.size w w3) := B2.out.trans (hb3.mono B2.out.size)
    clear hv3 hb3 hcr2 hfr2 B2
    go_wp2_with fail
    refine bodyPost_ret (v := .agg #[.slice a3 n3 cap3]) (by simp [results, Try.results44, go_sem, hcr3]) rfl ⟨_, rfl, ?_, B3.out.setCell (by simp <;> omega) _⟩
    rw [← S2.out.2]
    exact HV3.out.setCell (no_int_slice hcr3) _
end Go.Proofs.Ytekigmkepfhdhaa
