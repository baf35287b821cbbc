/- Add: the sum. -/
import Derived.Test.YtekigmkepfhdhaaSub
namespace Go.Proofs.Ytekigmkepfhdhaa
open Go.RowKit
set_option maxRecDepth 100000
set_option linter.unusedVariables false
theorem wpList_append_word {w : World} {ops : Array Oper} {rest : List Oper} {op : Oper} {ac : Act} {Q : Exit → Act → World → Prop} (hgd : op.guard = none) (s x : Operand)
    (ho : op.op = .call { callee := .builtin .append, args := #[s, x], argTypes := #[25, 25] })
    (g n cap : Nat) (b : Nat) (cap' : Nat) (hs : ac.eval s = .slice (some ⟨g, 0, none⟩) n cap) (hx : ac.eval x = .slice (some ⟨b, 0, none⟩) 1 cap')
    (N : Nat) (F : Nat → Nat) (c : Nat) (hF : Row w g N F) (hc : w.cell? ⟨b, 0, none⟩ = some (.int .u64 (c : Int))) (hlt : c < 18446744073709551616) (hcap : n + 1 ≤ cap) (hfit : n < N)
    (h : ∀ w', Row w' g N (put F n c) → w.grownBy w' (some g) → wpList Try.prog ops Q rest (ac.put op.dst (.slice (some ⟨g, 0, none⟩) (n + 1) cap)) w') : wpList Try.prog ops Q (op :: rest) ac w := by
  obtain ⟨i, hi, hz, hsz, hb⟩ := info_parts Try.info22
  obtain ⟨cur, hg, hcs, hcur⟩ := hF.1
  have hr := run_append_room (P := Try.prog) w 25 op.type 22 i Try.underlying25 hi g n cap cur hg ⟨b, 0, none⟩ 1 cap' [.int .u64 (c : Int)] (by rw [hsz]; rfl)
    (by intro j u hj; match j, hj with | 0, hj => simp at hj; subst hj; simpa [Addr.add] using hc) (by intro u hu; simp at hu; subst hu; rfl) hcap (by rw [hsz]; simp; omega)
  refine wpList_plain hgd fun K hK => ?_
  unfold Oper.wp execOp
  simp only [ho, resolve, invoke, builtin, Sem.run_bind, Sem.run_pure, Result.andThen_ok, List.map_toArray, List.map_cons, List.map_nil, hs, hx, hr]
  refine hK _ _ (h _ ⟨⟨_, setRow_heap w g _ _ _ _ hg, ?_, fun j hj => ?_⟩, fun j hj => ?_⟩ ⟨rfl, rfl, rfl, by simp [World.setRow], fun k _ hne => setRow_other w g k _ (fun e => hne (by rw [e]))⟩)
  · simp [hsz]; omega
  · rw [List.getElem?_toArray, hsz, Nat.mul_one, List.append_assoc]
    show _ = some (Value.int .u64 ((put F n c j : Nat) : Int))
    have e1 : (cur.toList.take n).length = n := by simp; omega
    by_cases h1 : j < n
    · rw [put_other _ _ (by omega), List.getElem?_append_left (by omega), List.getElem?_take_of_lt h1]
      simpa using hcur j hj
    · by_cases h2 : j = n
      · subst h2
        rw [put_same, List.getElem?_append_right (by omega), e1]
        simp
      · rw [put_other _ _ h2, List.getElem?_append_right (by omega), e1, List.getElem?_append_right (by simp; omega), List.getElem?_drop]
        simp only [List.length_cons, List.length_nil]
        rw [show n + (0 + 1) + (j - n - (0 + 1)) = j by omega]
        simpa using hcur j hj
  · unfold put
    split
    · exact hlt
    · exact hF.2 j hj
theorem isNat_row {w : World} {g N n cap : Nat} {H : Nat → Nat} (h : Row w g N H) (hn : 0 < n) (hN : n ≤ N) (hc : n ≤ cap) (hm : cap ≤ 9223372036854775807) (hp : P (n - 1) ≤ V H n) : IsNat w (.agg #[.slice (some ⟨g, 0, none⟩) n cap]) (V H n) := by
  have hs := h.sl (o := 0) (n := n) (cap := cap) (by omega) hc hm
  rw [fro_zero] at hs
  refine ⟨_, n, cap, H, rfl, hs, fun e => absurd e (by omega), fun _ h0 => ?_, rfl⟩
  obtain ⟨t, rfl⟩ : ∃ t, n = t + 1 := ⟨n - 1, by omega⟩
  simp only [Nat.add_sub_cancel] at h0 hp
  rw [V_succ, h0, Nat.zero_mul, Nat.add_zero] at hp
  have := V_lt (h.2.mono (show t ≤ N by omega))
  omega
set_option maxHeartbeats 1000000 in
theorem add_ge (a : Option Addr) (n cap : Nat) (a' : Option Addr) (m cap' : Nat) (x y : Nat) (w : World) (h : IsNat w (.agg #[.slice a n cap]) x) (k : IsNat w (.agg #[.slice a' m cap']) y) (hx : Fits x) (hy : Fits y) (hmn : m ≤ n) :
    Calls Try.prog 20 #[.agg #[.slice a n cap], .agg #[.slice a' m cap']] w (Makes w (x + y)) := by
  obtain ⟨F, hs, h0, h1, hv⟩ := h.fits
  obtain ⟨G, ks, k0, k1, kv⟩ := k.fits
  have hn : n ≤ 4294967296 := fits_len (hv.symm ▸ hx) h1
  have hd : decide ((n : Int) < m) = false := decide_eq_false (by omega)
  have HL : Hid (Sl w a n cap F ∧ V F n = x ∧ (0 < n → F (n - 1) ≠ 0)) := ⟨hs, hv, h1⟩
  have HS : Hid (Sl w a' m cap' G ∧ V G m = y) := ⟨ks, kv⟩
  have HN : Hid (IsNat w (.agg #[.slice a n cap]) x) := h
  clear hs h0 h1 hv ks k0 k1 kv hx hy h k
  by_cases e0 : m = 0
  · have hne0 : ((m : Int) == 0) = true := by simp <;> omega
    have hy0 : y = 0 := by rw [← HS.out.2, e0]; rfl
    clear e0
    go_enter Try.func20, Try.ntmps20
    go_wp2_with fail
    go_region
    go_wp2_with fail
    have hB : Below w.heap.size w (((w.alloc (.cells #[.slice a n cap] 27)).alloc (.cells #[.slice a' m cap'] 27)).alloc (.cells #[.slice a n cap] 27)).drew := ((bel_alloc2 _ _ _).alloc (by simp <;> omega) _).drew
    refine bodyPost_ret (v := .agg #[.slice a n cap]) (by simp [results, Try.results20, go_sem]) rfl ⟨_, rfl, ?_, hB⟩
    rw [show x + y = x by omega]
    exact HN.out.mono hB
  · have hne0 : ((m : Int) == 0) = false := by simp <;> omega
    have mk := make_at (n : Int) ((n : Int) + 1) n (n + 1) rfl (by omega) (by omega) (by omega)
    have HB : Hid (Below w.heap.size w ((((w.alloc (.cells #[.slice a n cap] 27)).alloc (.cells #[.slice a' m cap'] 27)).alloc (.cells #[.slice none 0 0] 27)).alloc (.cells (zeros (n + 1)) 22)).drew) := (((bel_alloc2 _ _ _).alloc (by simp <;> omega) _).alloc (by simp <;> omega) _).drew
    clear HN
    go_enter Try.func20, Try.ntmps20
    go_wp2_with fail
    go_region
    go_wp2_with (refine (id ?_ : wpList Try.prog _ _ (⟨some 33, _, _, _, _, _⟩ :: _) _ _); refine wpList_copy_words rfl (.tmp 31) (.tmp 32) rfl _ _ _ _ _ _ _ rfl rfl (n + 1) (fun _ => 0) F (row_zeros_at _ (n + 1) _ (by simp)) (HL.out.1.mono HB.out) (by omega) (by omega) ?_)
    intro w1 hR1 hg1
    have hcr : w1.cell? ⟨w.heap.size + 1 + 1, 0, none⟩ = some (.slice none 0 0) := hg1.cell (by simp [go_sem]) (by simp <;> omega)
    have hfr : w1.frozen? ⟨w.heap.size + 1 + 1, 0, none⟩ = false := (World.frozen?_of_block (hg1.block _ (by simp <;> omega) (by simp <;> omega))).trans (by simp [go_sem])
    have B1 : Hid (Below w.heap.size w w1) := HB.out.grown hg1 (by simp <;> omega) (fun k hk => by cases hk; omega)
    have R1 : Hid (Row w1 (w.heap.size + 1 + 1 + 1) (n + 1) (over (fun _ => 0) 0 F n)) := hR1
    clear hR1 hg1 HB mk
    go_wp2_with fail
    refine (addWords_any _ (n + 1) 0 n (n + 1) _ a' m cap' G w1 R1.out (HS.out.1.mono B1.out) (by omega) (by omega) (by omega) (HS.out.1.ne_block (by omega) (by omega))).mono ?_
    rintro e w2 ⟨c, rfl, H, S⟩
    have hg2 := S.2.2.2.2
    have hcr2 : w2.cell? ⟨w.heap.size + 1 + 1, 0, none⟩ = some (.slice none 0 0) := hg2.cell hcr (by simp <;> omega)
    have hfr2 : w2.frozen? ⟨w.heap.size + 1 + 1, 0, none⟩ = false := (World.frozen?_of_block (hg2.block _ (World.block_lt_of_cell? _ _ hcr) (by simp <;> omega))).trans hfr
    have B2 : Hid (Below w.heap.size w w2) := B1.out.grown hg2 B1.out.size (fun k hk => by cases hk; omega)
    have S2 : Hid (Row w2 (w.heap.size + 1 + 1 + 1) (n + 1) H ∧ V H n + c * P n = x + y) := ⟨S.1, by
      obtain ⟨q1, q2, q3, q4, _⟩ := S
      rw [fro_zero, fro_zero, V_over0, HL.out.2.1, HS.out.2] at q4
      omega⟩
    have hc1 : c ≤ 1 := S.2.2.1
    have hw2 : w.heap.size + 1 + 1 + 1 < w2.heap.size := S.1.1.lt
    have HP : Hid (P (n - 1) ≤ x + y) := by
      obtain ⟨_, q2, q3⟩ := HL.out
      have := V_long (F := F) (n := n) (m := n - 1) (by omega) (q3 (by omega))
      show P (n - 1) ≤ x + y
      omega
    clear S hg2 hcr hfr R1 B1
    by_cases hc : c = 0
    · subst hc
      go_wp2_with fail
      refine bodyPost_ret (v := .agg #[.slice (some ⟨w.heap.size + 1 + 1 + 1, 0, none⟩) n (n + 1)]) (by simp [results, Try.results20, go_sem, hcr2]) rfl ⟨_, rfl, ?_, B2.out.setCell (by simp <;> omega) _⟩
      have e1 : V H n = x + y := by have := S2.out.2; omega
      rw [← e1]
      exact (isNat_row S2.out.1 (by omega) (by omega) (by omega) (by omega) (by rw [e1]; exact HP.out)).setCell (no_int_slice hcr2) _
    · have hcb : (((c : Nat) : Int) != 0) = true := by simp <;> omega
      go_wp2_with (refine (id ?_ : wpList Try.prog _ _ (⟨some 42, _, _, _, _, _⟩ :: _) _ _); refine wpList_append_word rfl (.tmp 39) (.tmp 41) rfl _ _ _ _ _ rfl rfl (n + 1) H c (S2.out.1.below (((Below.refl _ _).alloc (Nat.le_refl _) _))) (by simp) (by omega) (by omega) (by omega) ?_)
      intro w3 hR3 hg3
      have hcr3 : w3.cell? ⟨w.heap.size + 1 + 1, 0, none⟩ = some (.slice none 0 0) := hg3.cell (cell_later ((Below.refl _ _).alloc (Nat.le_refl _) _) hcr2) (by simp <;> omega)
      have hfr3 : w3.frozen? ⟨w.heap.size + 1 + 1, 0, none⟩ = false := (World.frozen?_of_block (hg3.block _ (by simp; have := World.block_lt_of_cell? _ _ hcr2; simp only at this; omega) (by simp <;> omega))).trans ((((Below.refl _ _).alloc (Nat.le_refl _) _).frozen (World.block_lt_of_cell? _ _ hcr2)).trans hfr2)
      have B3 : Hid (Below w.heap.size w w3) := (B2.out.alloc B2.out.size _).grown hg3 (by have := B2.out.size; simp; omega) (fun k hk => by cases hk; omega)
      have R3 : Hid (Row w3 (w.heap.size + 1 + 1 + 1) (n + 1) (put H n c)) := hR3
      clear hR3 hg3 hcr2 hfr2
      go_wp2_with fail
      have e1 : V (put H n c) (n + 1) = x + y := by
        rw [V_succ, put_same, V_congr (G := H) fun i hi => put_other _ _ (by omega)]
        exact S2.out.2
      refine bodyPost_ret (v := .agg #[.slice (some ⟨w.heap.size + 1 + 1 + 1, 0, none⟩) (n + 1) (n + 1)]) (by simp [results, Try.results20, go_sem, hcr3]) rfl ⟨_, rfl, ?_, B3.out.setCell (by simp <;> omega) _⟩
      rw [← e1]
      refine (isNat_row R3.out (by omega) (by omega) (by omega) (by omega) ?_).setCell (no_int_slice hcr3) _
      rw [V_succ, put_same, Nat.add_sub_cancel]
      have : 1 * P n ≤ c * P n := Nat.mul_le_mul_right _ (by omega)
      omega
set_option maxHeartbeats 1000000 in
theorem add_lt (a : Option Addr) (n cap : Nat) (a' : Option Addr) (m cap' : Nat) (x y : Nat) (w : World) (h : IsNat w (.agg #[.slice a n cap]) x) (k : IsNat w (.agg #[.slice a' m cap']) y) (hx : Fits x) (hy : Fits y) (hmn : n < m) :
    Calls Try.prog 20 #[.agg #[.slice a n cap], .agg #[.slice a' m cap']] w (Makes w (x + y)) := by
  obtain ⟨F, hs, h0, h1, hv⟩ := h.fits
  obtain ⟨G, ks, k0, k1, kv⟩ := k.fits
  have hn : m ≤ 4294967296 := fits_len (kv.symm ▸ hy) k1
  have hd : (n : Int) < m := by omega
  have HL : Hid (Sl w a' m cap' G ∧ V G m = y ∧ (0 < m → G (m - 1) ≠ 0)) := ⟨ks, kv, k1⟩
  have HS : Hid (Sl w a n cap F ∧ V F n = x) := ⟨hs, hv⟩
  have HN : Hid (IsNat w (.agg #[.slice a' m cap']) y) := k
  clear hs h0 h1 hv ks k0 k1 kv hx hy h k
  by_cases e0 : n = 0
  · have hne0 : ((n : Int) == 0) = true := by simp <;> omega
    have hy0 : x = 0 := by rw [← HS.out.2, e0]; rfl
    clear e0
    go_enter Try.func20, Try.ntmps20
    go_wp2_with fail
    go_region
    go_wp2_with fail
    have hB : Below w.heap.size w (((w.alloc (.cells #[.slice a n cap] 27)).alloc (.cells #[.slice a' m cap'] 27)).alloc (.cells #[.slice a' m cap'] 27)).drew := ((bel_alloc2 _ _ _).alloc (by simp <;> omega) _).drew
    refine bodyPost_ret (v := .agg #[.slice a' m cap']) (by simp [results, Try.results20, go_sem]) rfl ⟨_, rfl, ?_, hB⟩
    rw [show x + y = y by omega]
    exact HN.out.mono hB
  · have hne0 : ((n : Int) == 0) = false := by simp <;> omega
    have mk := make_at (m : Int) ((m : Int) + 1) m (m + 1) rfl (by omega) (by omega) (by omega)
    have HB : Hid (Below w.heap.size w ((((w.alloc (.cells #[.slice a n cap] 27)).alloc (.cells #[.slice a' m cap'] 27)).alloc (.cells #[.slice none 0 0] 27)).alloc (.cells (zeros (m + 1)) 22)).drew) := (((bel_alloc2 _ _ _).alloc (by simp <;> omega) _).alloc (by simp <;> omega) _).drew
    clear HN
    go_enter Try.func20, Try.ntmps20
    go_wp2_with fail
    go_region
    go_wp2_with (refine (id ?_ : wpList Try.prog _ _ (⟨some 33, _, _, _, _, _⟩ :: _) _ _); refine wpList_copy_words rfl (.tmp 31) (.tmp 32) rfl _ _ _ _ _ _ _ rfl rfl (m + 1) (fun _ => 0) G (row_zeros_at _ (m + 1) _ (by simp)) (HL.out.1.mono HB.out) (by omega) (by omega) ?_)
    intro w1 hR1 hg1
    have hcr : w1.cell? ⟨w.heap.size + 1 + 1, 0, none⟩ = some (.slice none 0 0) := hg1.cell (by simp [go_sem]) (by simp <;> omega)
    have hfr : w1.frozen? ⟨w.heap.size + 1 + 1, 0, none⟩ = false := (World.frozen?_of_block (hg1.block _ (by simp <;> omega) (by simp <;> omega))).trans (by simp [go_sem])
    have B1 : Hid (Below w.heap.size w w1) := HB.out.grown hg1 (by simp <;> omega) (fun k hk => by cases hk; omega)
    have R1 : Hid (Row w1 (w.heap.size + 1 + 1 + 1) (m + 1) (over (fun _ => 0) 0 G m)) := hR1
    clear hR1 hg1 HB mk
    go_wp2_with fail
    refine (addWords_any _ (m + 1) 0 m (m + 1) _ a n cap F w1 R1.out (HS.out.1.mono B1.out) (by omega) (by omega) (by omega) (HS.out.1.ne_block (by omega) (by omega))).mono ?_
    rintro e w2 ⟨c, rfl, H, S⟩
    have hg2 := S.2.2.2.2
    have hcr2 : w2.cell? ⟨w.heap.size + 1 + 1, 0, none⟩ = some (.slice none 0 0) := hg2.cell hcr (by simp <;> omega)
    have hfr2 : w2.frozen? ⟨w.heap.size + 1 + 1, 0, none⟩ = false := (World.frozen?_of_block (hg2.block _ (World.block_lt_of_cell? _ _ hcr) (by simp <;> omega))).trans hfr
    have B2 : Hid (Below w.heap.size w w2) := B1.out.grown hg2 B1.out.size (fun k hk => by cases hk; omega)
    have S2 : Hid (Row w2 (w.heap.size + 1 + 1 + 1) (m + 1) H ∧ V H m + c * P m = x + y) := ⟨S.1, by
      obtain ⟨q1, q2, q3, q4, _⟩ := S
      rw [fro_zero, fro_zero, V_over0, HL.out.2.1, HS.out.2] at q4
      omega⟩
    have hc1 : c ≤ 1 := S.2.2.1
    have hw2 : w.heap.size + 1 + 1 + 1 < w2.heap.size := S.1.1.lt
    have HP : Hid (P (m - 1) ≤ x + y) := by
      obtain ⟨_, q2, q3⟩ := HL.out
      have := V_long (F := G) (n := m) (m := m - 1) (by omega) (q3 (by omega))
      show P (m - 1) ≤ x + y
      omega
    clear S hg2 hcr hfr R1 B1
    by_cases hc : c = 0
    · subst hc
      go_wp2_with fail
      refine bodyPost_ret (v := .agg #[.slice (some ⟨w.heap.size + 1 + 1 + 1, 0, none⟩) m (m + 1)]) (by simp [results, Try.results20, go_sem, hcr2]) rfl ⟨_, rfl, ?_, B2.out.setCell (by simp <;> omega) _⟩
      have e1 : V H m = x + y := by have := S2.out.2; omega
      rw [← e1]
      exact (isNat_row S2.out.1 (by omega) (by omega) (by omega) (by omega) (by rw [e1]; exact HP.out)).setCell (no_int_slice hcr2) _
    · have hcb : (((c : Nat) : Int) != 0) = true := by simp <;> omega
      go_wp2_with (refine (id ?_ : wpList Try.prog _ _ (⟨some 42, _, _, _, _, _⟩ :: _) _ _); refine wpList_append_word rfl (.tmp 39) (.tmp 41) rfl _ _ _ _ _ rfl rfl (m + 1) H c (S2.out.1.below (((Below.refl _ _).alloc (Nat.le_refl _) _))) (by simp) (by omega) (by omega) (by omega) ?_)
      intro w3 hR3 hg3
      have hcr3 : w3.cell? ⟨w.heap.size + 1 + 1, 0, none⟩ = some (.slice none 0 0) := hg3.cell (cell_later ((Below.refl _ _).alloc (Nat.le_refl _) _) hcr2) (by simp <;> omega)
      have hfr3 : w3.frozen? ⟨w.heap.size + 1 + 1, 0, none⟩ = false := (World.frozen?_of_block (hg3.block _ (by simp; have := World.block_lt_of_cell? _ _ hcr2; simp only at this; omega) (by simp <;> omega))).trans ((((Below.refl _ _).alloc (Nat.le_refl _) _).frozen (World.block_lt_of_cell? _ _ hcr2)).trans hfr2)
      have B3 : Hid (Below w.heap.size w w3) := (B2.out.alloc B2.out.size _).grown hg3 (by have := B2.out.size; simp; omega) (fun k hk => by cases hk; omega)
      have R3 : Hid (Row w3 (w.heap.size + 1 + 1 + 1) (m + 1) (put H m c)) := hR3
      clear hR3 hg3 hcr2 hfr2
      go_wp2_with fail
      have e1 : V (put H m c) (m + 1) = x + y := by
        rw [V_succ, put_same, V_congr (G := H) fun i hi => put_other _ _ (by omega)]
        exact S2.out.2
      refine bodyPost_ret (v := .agg #[.slice (some ⟨w.heap.size + 1 + 1 + 1, 0, none⟩) (m + 1) (m + 1)]) (by simp [results, Try.results20, go_sem, hcr3]) rfl ⟨_, rfl, ?_, B3.out.setCell (by simp <;> omega) _⟩
      rw [← e1]
      refine (isNat_row R3.out (by omega) (by omega) (by omega) (by omega) ?_).setCell (no_int_slice hcr3) _
      rw [V_succ, put_same, Nat.add_sub_cancel]
      have : 1 * P m ≤ c * P m := Nat.mul_le_mul_right _ (by omega)
      omega
theorem add_any (v u : Value) (x y : Nat) (w : World) (h : IsNat w v x) (k : IsNat w u y) (hx : Fits x) (hy : Fits y) :
    Calls Try.prog 20 #[v, u] w (Makes w (x + y)) := by
  obtain ⟨a, n, cap, rfl⟩ := h.isAgg
  obtain ⟨a', m, cap', rfl⟩ := k.isAgg
  rcases Nat.lt_or_ge n m with hh | hh
  · exact add_lt a n cap a' m cap' x y w h k hx hy hh
  · exact add_ge a n cap a' m cap' x y w h k hx hy hh
end Go.Proofs.Ytekigmkepfhdhaa
