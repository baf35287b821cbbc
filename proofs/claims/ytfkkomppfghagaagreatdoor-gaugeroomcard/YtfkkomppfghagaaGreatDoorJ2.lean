/- Contracts of the program's functions, part 2: own work, joined in build order. -/
import Derived.Test.YtfkkomppfghagaaGreatDoorJ1
import Derived.Laws.CopyOwn
import Derived.Laws.Bits64b
namespace Go.Proofs.YtfkkomppfghagaaGreatDoor
open Go.RowKit
set_option maxRecDepth 100000
def zeros (m : Nat) : Array Value := madeCells #[.int .u64 0] m
theorem make_at (L C : Int) (n m : Nat) (hL : L = n) (hC : C = m) (hnm : n ≤ m) (hm : m ≤ 1099511627776) (w : World) :
    (Instr.makeSlice 43 (.int .i64 L) (.int .i64 C)).run Tryz.prog w = .ok (.slice (some ⟨w.heap.size, 0, none⟩) n m) (w.alloc (.cells (zeros m) 82)) := by
  obtain ⟨i, hi, hz, hs, hb⟩ := info_parts Tryz.info22
  subst hL hC
  rw [run_make w 43 82 i (.int .u64 0) Tryz.underlying43 hi hz .i64 .i64 n m (by omega) (by omega) (by rw [hb]; omega) (by omega), hs]
  simp [zeros, Value.cells]
theorem row_zeros (w : World) (m : Nat) : Row (w.alloc (.cells (zeros m) 82)) w.heap.size m (fun _ => 0) :=
  ⟨World.rowIs_made w (.int .u64 0) m _, fun _ _ => by show (0 : Nat) < 18446744073709551616; omega⟩
theorem row_zeros_at (w : World) (m g : Nat) (hg : g = w.heap.size) : Row (w.alloc (.cells (zeros m) 82)) g m (fun _ => 0) := by
  subst hg
  exact row_zeros w m
def over (F : Nat → Nat) (o : Nat) (G : Nat → Nat) (n : Nat) : Nat → Nat := fun j => if o ≤ j ∧ j < o + n then G (j - o) else F j
theorem over_in (F : Nat → Nat) (o : Nat) (G : Nat → Nat) (n : Nat) {i : Nat} (hi : i < n) : over F o G n (o + i) = G i := by
  unfold over
  rw [if_pos (by omega), Nat.add_sub_cancel_left]
theorem over_out (F : Nat → Nat) (o : Nat) (G : Nat → Nat) (n : Nat) {j : Nat} (hj : j < o ∨ o + n ≤ j) : over F o G n j = F j := by
  unfold over
  rw [if_neg (by omega)]
theorem size22 : (Tryz.prog.info? 82).map (·.size) = some 1 := by kernel_rfl
theorem words_add {w : World} {b o n : Nat} {G : Nat → Nat} (h : Words w b o n G) : ∀ j v, ((List.range n).map fun i => Value.int .u64 ((G i : Nat) : Int))[j]? = some v → w.cell? ((⟨b, o, none⟩ : Addr).add j) = some v := by
  intro j v hj
  have hjn : j < n := by
    rcases Nat.lt_or_ge j n with h' | h'
    · exact h'
    rw [List.getElem?_eq_none (by simpa using h')] at hj
    cases hj
  have e : (⟨b, o, none⟩ : Addr).add j = ⟨b, o + j, none⟩ := by unfold Addr.add; split <;> simp_all
  rw [e, h j hjn]
  simpa [hjn] using hj
theorem wpList_copy_words {w : World} {ops : Array Oper} {rest : List Oper} {op : Oper} {ac : Act} {Q : Exit → Act → World → Prop} (hgd : op.guard = none) (d s : Operand)
    (ho : op.op = .call { callee := .builtin .copy, args := #[d, s], argTypes := #[43, 43] })
    (g o dLen dCap : Nat) (sp : Option Addr) (sLen sCap : Nat) (hd : ac.eval d = .slice (some ⟨g, o, none⟩) dLen dCap) (hs : ac.eval s = .slice sp sLen sCap)
    (N : Nat) (F G : Nat → Nat) (hF : Row w g N F) (hG : Sl w sp sLen sCap G) (hle : sLen ≤ dLen) (hfit : o + sLen ≤ N)
    (h : ∀ w', Row w' g N (over F o G sLen) → w.grownBy w' (some g) → wpList Tryz.prog ops Q rest (ac.put op.dst (goInt sLen)) w') : wpList Tryz.prog ops Q (op :: rest) ac w := by
  by_cases h0 : sLen = 0
  · subst h0
    refine wpList_copy_nothing hgd d s _ _ ho 82 Tryz.underlying43 size22 _ _ _ _ _ _ hd hs (Nat.zero_min _) ?_
    refine h w ⟨hF.1.congr fun j _ => ?_, fun j hj => ?_⟩ (World.grownBy.refl _ _)
    · rw [over_out _ _ _ _ (by omega)]
    rw [over_out _ _ _ _ (by omega)]; exact hF.2 j hj
  obtain ⟨b, so, rfl, hw⟩ := hG.at 0 (by omega)
  obtain ⟨cur, hg, hsz, hcur⟩ := hF.1
  have hcl : ((List.range sLen).map fun i => Value.int .u64 ((G i : Nat) : Int)).length = sLen := by simp
  refine wpList_copy_own hgd d s _ _ ho 82 Tryz.underlying43 size22 g o dLen dCap ⟨b, so, none⟩ sLen sCap hd hs cur 82 hg ((List.range sLen).map fun i => Value.int .u64 ((G i : Nat) : Int)) (by rw [hcl]; exact (Nat.min_eq_left hle).symm)
    (words_add hw) (by rw [hcl]; omega) (by intro v hv; obtain ⟨i, _, rfl⟩ := List.mem_map.1 hv; rfl) ?_
  rw [hcl]
  refine h _ ⟨⟨_, setRow_heap w g _ _ _ _ hg, ?_, fun j hj => ?_⟩, fun j hj => ?_⟩ ⟨rfl, rfl, rfl, by simp [World.setRow], fun k _ hne => setRow_other w g k _ (fun e => hne (by rw [e]))⟩
  · simp; omega
  · rw [List.getElem?_toArray]
    show _ = some (Value.int .u64 ((over F o G sLen j : Nat) : Int))
    by_cases h1 : j < o
    · rw [over_out _ _ _ _ (.inl h1), List.getElem?_append_left (by simp; omega), List.getElem?_take_of_lt h1]
      simpa using hcur j hj
    obtain ⟨i, rfl⟩ : ∃ i, j = o + i := ⟨j - o, by omega⟩
    have e1 : (cur.toList.take o).length = o := by simp; omega
    rw [List.getElem?_append_right (by omega), e1, Nat.add_sub_cancel_left]
    by_cases h2 : i < sLen
    · rw [over_in _ _ _ _ h2, List.getElem?_append_left (by simpa using h2)]
      simp [h2]
    rw [over_out _ _ _ _ (.inr (by omega)), List.getElem?_append_right (by simp; omega), hcl, List.getElem?_drop, show o + sLen + (i - sLen) = o + i by omega]
    simpa using hcur (o + i) hj
  unfold over
  split
  · exact hG.2.2.1 _ (by omega)
  exact hF.2 j hj
theorem fro_zero (F : Nat → Nat) : fro F 0 = F := by funext i; simp [fro]
theorem V_over0 (F G : Nat → Nat) (n : Nat) : V (over F 0 G n) n = V G n := V_congr fun i hi => by have := over_in F 0 G n hi; rw [Nat.zero_add] at this; exact this
theorem IsNat.isAgg {w : World} {v : Value} {x : Nat} (h : IsNat w v x) : ∃ a n cap, v = .agg #[.slice a n cap] := by
  obtain ⟨a, n, cap, F, rfl, _⟩ := h
  exact ⟨a, n, cap, rfl⟩
theorem IsNat.fits {w : World} {a : Option Addr} {n cap : Nat} {x : Nat} (h : IsNat w (.agg #[.slice a n cap]) x) : ∃ F, Sl w a n cap F ∧ (n = 0 → a = none ∧ cap = 0) ∧ (0 < n → F (n - 1) ≠ 0) ∧ V F n = x := by
  obtain ⟨a', n', cap', F, e, h⟩ := h
  simp only [Value.agg.injEq, Array.mk.injEq, List.cons.injEq, Value.slice.injEq, and_true] at e
  obtain ⟨rfl, rfl, rfl⟩ := e
  exact ⟨F, h⟩
def Makes (w : World) (x : Nat) (e : Ending) (w' : World) : Prop := ∃ v, e = .returned v ∧ IsNat w' v x ∧ Below w.heap.size w w'
theorem Sl.ne_block {w : World} {a : Option Addr} {n cap : Nat} {F : Nat → Nat} (h : Sl w a n cap F) (hn : 0 < n) {g : Nat} (hg : w.heap.size ≤ g) : ∀ b o, a = some ⟨b, o, none⟩ → b ≠ g := by
  intro b o ha
  obtain ⟨b', o', e, hw⟩ := h.at 0 hn
  rw [ha] at e
  cases e
  have := World.block_lt_of_cell? _ _ (hw 0 hn)
  simp only at this
  omega
def Makes2 (w : World) (x : Nat) (ok : Bool) (e : Ending) (w' : World) : Prop := ∃ v, e = .returned (.tuple #[v, .bool ok]) ∧ IsNat w' v x ∧ Below w.heap.size w w'
set_option linter.unusedVariables false
theorem wpList_append_word {w : World} {ops : Array Oper} {rest : List Oper} {op : Oper} {ac : Act} {Q : Exit → Act → World → Prop} (hgd : op.guard = none) (s x : Operand)
    (ho : op.op = .call { callee := .builtin .append, args := #[s, x], argTypes := #[43, 43] })
    (g n cap : Nat) (b : Nat) (cap' : Nat) (hs : ac.eval s = .slice (some ⟨g, 0, none⟩) n cap) (hx : ac.eval x = .slice (some ⟨b, 0, none⟩) 1 cap')
    (N : Nat) (F : Nat → Nat) (c : Nat) (hF : Row w g N F) (hc : w.cell? ⟨b, 0, none⟩ = some (.int .u64 (c : Int))) (hlt : c < 18446744073709551616) (hcap : n + 1 ≤ cap) (hfit : n < N)
    (h : ∀ w', Row w' g N (put F n c) → w.grownBy w' (some g) → wpList Tryz.prog ops Q rest (ac.put op.dst (.slice (some ⟨g, 0, none⟩) (n + 1) cap)) w') : wpList Tryz.prog ops Q (op :: rest) ac w := by
  obtain ⟨i, hi, hz, hsz, hb⟩ := info_parts Tryz.info22
  obtain ⟨cur, hg, hcs, hcur⟩ := hF.1
  have hr := run_append_room (P := Tryz.prog) w 43 op.type 82 i Tryz.underlying43 hi g n cap cur hg ⟨b, 0, none⟩ 1 cap' [.int .u64 (c : Int)] (by rw [hsz]; rfl)
    (by intro j u hj; match j, hj with | 0, hj => simp at hj; subst hj; simpa [Addr.add] using hc) (by intro u hu; simp at hu; subst hu; rfl) hcap (by rw [hsz]; simp; omega)
  refine wpList_plain hgd fun K hK => ?_
  unfold Oper.wp execOp
  simp only [ho, resolve, invoke, builtin, Sem.run_bind, Sem.run_pure, Result.andThen_ok, List.map_toArray, List.map_cons, List.map_nil, hs, hx, hr]
  refine hK _ _ (h _ ⟨⟨_, setRow_heap w g _ _ _ _ hg, ?_, fun j hj => ?_⟩, fun j hj => ?_⟩ ⟨rfl, rfl, rfl, by simp [World.setRow], fun k _ hne => setRow_other w g k _ (fun e => hne (by rw [e]))⟩)
  · simp [hsz]; omega
  · rw [List.getElem?_toArray, hsz, Nat.mul_one, List.append_assoc]
    show _ = some (Value.int .u64 ((put F n c j : Nat) : Int))
    have e1 : (cur.toList.take n).length = n := by simp; omega
    by_cases h1 : j < n
    · rw [put_other _ _ (by omega), List.getElem?_append_left (by omega), List.getElem?_take_of_lt h1]
      simpa using hcur j hj
    by_cases h2 : j = n
    · subst h2
      rw [put_same, List.getElem?_append_right (by omega), e1]
      simp
    rw [put_other _ _ h2, List.getElem?_append_right (by omega), e1, List.getElem?_append_right (by simp; omega), List.getElem?_drop]
    simp only [List.length_cons, List.length_nil]
    rw [show n + (0 + 1) + (j - n - (0 + 1)) = j by omega]
    simpa using hcur j hj
  unfold put
  split
  · exact hlt
  exact hF.2 j hj
theorem isNat_row {w : World} {g N n cap : Nat} {H : Nat → Nat} (h : Row w g N H) (hn : 0 < n) (hN : n ≤ N) (hc : n ≤ cap) (hm : cap ≤ 9223372036854775807) (hp : P (n - 1) ≤ V H n) : IsNat w (.agg #[.slice (some ⟨g, 0, none⟩) n cap]) (V H n) := by
  have hs := h.sl (o := 0) (n := n) (cap := cap) (by omega) hc hm
  rw [fro_zero] at hs
  refine ⟨_, n, cap, H, rfl, hs, fun e => absurd e (by omega), fun _ h0 => ?_, rfl⟩
  obtain ⟨t, rfl⟩ : ∃ t, n = t + 1 := ⟨n - 1, by omega⟩
  simp only [Nat.add_sub_cancel] at h0 hp
  rw [V_succ, h0, Nat.zero_mul, Nat.add_zero] at hp
  have := V_lt (h.2.mono (show t ≤ N by omega))
  omega
set_option maxHeartbeats 1000000 in
theorem add_ge (a : Option Addr) (n cap : Nat) (a' : Option Addr) (m cap' : Nat) (x y : Nat) (w : World) (h : IsNat w (.agg #[.slice a n cap]) x) (k : IsNat w (.agg #[.slice a' m cap']) y) (hx : Fits x) (hy : Fits y) (hmn : m ≤ n) :
    Calls Tryz.prog 26 #[.agg #[.slice a n cap], .agg #[.slice a' m cap']] w (Makes w (x + y)) := by
  obtain ⟨F, hs, h0, h1, hv⟩ := h.fits
  obtain ⟨G, ks, k0, k1, kv⟩ := k.fits
  have hn : n ≤ 4294967296 := fits_len (hv.symm ▸ hx) h1
  have hd : decide ((n : Int) < m) = false := decide_eq_false (by omega)
  have HL : Hid (Sl w a n cap F ∧ V F n = x ∧ (0 < n → F (n - 1) ≠ 0)) := ⟨hs, hv, h1⟩
  have HS : Hid (Sl w a' m cap' G ∧ V G m = y) := ⟨ks, kv⟩
  have HN : Hid (IsNat w (.agg #[.slice a n cap]) x) := h
  clear hs h0 h1 hv ks k0 k1 kv hx hy h k
  by_cases e0 : m = 0
  · have hne0 : ((m : Int) == 0) = true := by simp <;> omega
    have hy0 : y = 0 := by rw [← HS.out.2, e0]; rfl
    clear e0
    go_enter Tryz.func26, Tryz.ntmps26
    go_wp2_with fail
    go_region
    go_wp2_with fail
    have hB : Below w.heap.size w (((w.alloc (.cells #[.slice a n cap] 45)).alloc (.cells #[.slice a' m cap'] 45)).alloc (.cells #[.slice a n cap] 45)).drew := ((bel_alloc2 _ _ _).alloc (by simp <;> omega) _).drew
    refine bodyPost_ret (v := .agg #[.slice a n cap]) (by simp [results, Tryz.results26, go_sem]) rfl ⟨_, rfl, ?_, hB⟩
    rw [show x + y = x by omega]
    exact HN.out.mono hB
  have hne0 : ((m : Int) == 0) = false := by simp <;> omega
  have mk := make_at (n : Int) ((n : Int) + 1) n (n + 1) rfl (by omega) (by omega) (by omega)
  have HB : Hid (Below w.heap.size w ((((w.alloc (.cells #[.slice a n cap] 45)).alloc (.cells #[.slice a' m cap'] 45)).alloc (.cells #[.slice none 0 0] 45)).alloc (.cells (zeros (n + 1)) 82)).drew) := (((bel_alloc2 _ _ _).alloc (by simp <;> omega) _).alloc (by simp <;> omega) _).drew
  clear HN
  go_enter Tryz.func26, Tryz.ntmps26
  go_wp2_with fail
  go_region
  go_wp2_with (refine (id ?_ : wpList Tryz.prog _ _ (⟨some 33, _, _, _, _, _⟩ :: _) _ _); refine wpList_copy_words rfl (.tmp 31) (.tmp 32) rfl _ _ _ _ _ _ _ rfl rfl (n + 1) (fun _ => 0) F (row_zeros_at _ (n + 1) _ (by simp)) (HL.out.1.mono HB.out) (by omega) (by omega) ?_)
  intro w1 hR1 hg1
  have hcr : w1.cell? ⟨w.heap.size + 1 + 1, 0, none⟩ = some (.slice none 0 0) := hg1.cell (by simp [go_sem]) (by simp <;> omega)
  have hfr : w1.frozen? ⟨w.heap.size + 1 + 1, 0, none⟩ = false := (World.frozen?_of_block (hg1.block _ (by simp <;> omega) (by simp <;> omega))).trans (by simp [go_sem])
  have B1 : Hid (Below w.heap.size w w1) := HB.out.grown hg1 (by simp <;> omega) (fun k hk => by cases hk; omega)
  have R1 : Hid (Row w1 (w.heap.size + 1 + 1 + 1) (n + 1) (over (fun _ => 0) 0 F n)) := hR1
  clear hR1 hg1 HB mk
  go_wp2_with fail
  refine (addWords_any _ (n + 1) 0 n (n + 1) _ a' m cap' G w1 R1.out (HS.out.1.mono B1.out) (by omega) (by omega) (by omega) (HS.out.1.ne_block (by omega) (by omega))).mono ?_
  rintro e w2 ⟨c, rfl, H, S⟩
  have hg2 := S.2.2.2.2
  have hcr2 : w2.cell? ⟨w.heap.size + 1 + 1, 0, none⟩ = some (.slice none 0 0) := hg2.cell hcr (by simp <;> omega)
  have hfr2 : w2.frozen? ⟨w.heap.size + 1 + 1, 0, none⟩ = false := (World.frozen?_of_block (hg2.block _ (World.block_lt_of_cell? _ _ hcr) (by simp <;> omega))).trans hfr
  have B2 : Hid (Below w.heap.size w w2) := B1.out.grown hg2 B1.out.size (fun k hk => by cases hk; omega)
  have S2 : Hid (Row w2 (w.heap.size + 1 + 1 + 1) (n + 1) H ∧ V H n + c * P n = x + y) := ⟨S.1, by
    obtain ⟨q1, q2, q3, q4, _⟩ := S
    rw [fro_zero, fro_zero, V_over0, HL.out.2.1, HS.out.2] at q4
    omega⟩
  have hc1 : c ≤ 1 := S.2.2.1
  have hw2 : w.heap.size + 1 + 1 + 1 < w2.heap.size := S.1.1.lt
  have HP : Hid (P (n - 1) ≤ x + y) := by
    obtain ⟨_, q2, q3⟩ := HL.out
    have := V_long (F := F) (n := n) (m := n - 1) (by omega) (q3 (by omega))
    show P (n - 1) ≤ x + y
    omega
  clear S hg2 hcr hfr R1 B1
  by_cases hc : c = 0
  · subst hc
    go_wp2_with fail
    refine bodyPost_ret (v := .agg #[.slice (some ⟨w.heap.size + 1 + 1 + 1, 0, none⟩) n (n + 1)]) (by simp [results, Tryz.results26, go_sem, hcr2]) rfl ⟨_, rfl, ?_, B2.out.setCell (by simp <;> omega) _⟩
    have e1 : V H n = x + y := by have := S2.out.2; omega
    rw [← e1]
    exact (isNat_row S2.out.1 (by omega) (by omega) (by omega) (by omega) (by rw [e1]; exact HP.out)).setCell (no_int_slice hcr2) _
  have hcb : (((c : Nat) : Int) != 0) = true := by simp <;> omega
  go_wp2_with (refine (id ?_ : wpList Tryz.prog _ _ (⟨some 42, _, _, _, _, _⟩ :: _) _ _); refine wpList_append_word rfl (.tmp 39) (.tmp 41) rfl _ _ _ _ _ rfl rfl (n + 1) H c (S2.out.1.below (((Below.refl _ _).alloc (Nat.le_refl _) _))) (by simp) (by omega) (by omega) (by omega) ?_)
  intro w3 hR3 hg3
  have hcr3 : w3.cell? ⟨w.heap.size + 1 + 1, 0, none⟩ = some (.slice none 0 0) := hg3.cell (cell_later ((Below.refl _ _).alloc (Nat.le_refl _) _) hcr2) (by simp <;> omega)
  have hfr3 : w3.frozen? ⟨w.heap.size + 1 + 1, 0, none⟩ = false := (World.frozen?_of_block (hg3.block _ (by simp; have := World.block_lt_of_cell? _ _ hcr2; simp only at this; omega) (by simp <;> omega))).trans ((((Below.refl _ _).alloc (Nat.le_refl _) _).frozen (World.block_lt_of_cell? _ _ hcr2)).trans hfr2)
  have B3 : Hid (Below w.heap.size w w3) := (B2.out.alloc B2.out.size _).grown hg3 (by have := B2.out.size; simp; omega) (fun k hk => by cases hk; omega)
  have R3 : Hid (Row w3 (w.heap.size + 1 + 1 + 1) (n + 1) (put H n c)) := hR3
  clear hR3 hg3 hcr2 hfr2
  go_wp2_with fail
  have e1 : V (put H n c) (n + 1) = x + y := by
    rw [V_succ, put_same, V_congr (G := H) fun i hi => put_other _ _ (by omega)]
    exact S2.out.2
  refine bodyPost_ret (v := .agg #[.slice (some ⟨w.heap.size + 1 + 1 + 1, 0, none⟩) (n + 1) (n + 1)]) (by simp [results, Tryz.results26, go_sem, hcr3]) rfl ⟨_, rfl, ?_, B3.out.setCell (by simp <;> omega) _⟩
  rw [← e1]
  refine (isNat_row R3.out (by omega) (by omega) (by omega) (by omega) ?_).setCell (no_int_slice hcr3) _
  rw [V_succ, put_same, Nat.add_sub_cancel]
  have : 1 * P n ≤ c * P n := Nat.mul_le_mul_right _ (by omega)
  omega
set_option maxHeartbeats 1000000 in
theorem add_lt (a : Option Addr) (n cap : Nat) (a' : Option Addr) (m cap' : Nat) (x y : Nat) (w : World) (h : IsNat w (.agg #[.slice a n cap]) x) (k : IsNat w (.agg #[.slice a' m cap']) y) (hx : Fits x) (hy : Fits y) (hmn : n < m) :
    Calls Tryz.prog 26 #[.agg #[.slice a n cap], .agg #[.slice a' m cap']] w (Makes w (x + y)) := by
  obtain ⟨F, hs, h0, h1, hv⟩ := h.fits
  obtain ⟨G, ks, k0, k1, kv⟩ := k.fits
  have hn : m ≤ 4294967296 := fits_len (kv.symm ▸ hy) k1
  have hd : (n : Int) < m := by omega
  have HL : Hid (Sl w a' m cap' G ∧ V G m = y ∧ (0 < m → G (m - 1) ≠ 0)) := ⟨ks, kv, k1⟩
  have HS : Hid (Sl w a n cap F ∧ V F n = x) := ⟨hs, hv⟩
  have HN : Hid (IsNat w (.agg #[.slice a' m cap']) y) := k
  clear hs h0 h1 hv ks k0 k1 kv hx hy h k
  by_cases e0 : n = 0
  · have hne0 : ((n : Int) == 0) = true := by simp <;> omega
    have hy0 : x = 0 := by rw [← HS.out.2, e0]; rfl
    clear e0
    go_enter Tryz.func26, Tryz.ntmps26
    go_wp2_with fail
    go_region
    go_wp2_with fail
    have hB : Below w.heap.size w (((w.alloc (.cells #[.slice a n cap] 45)).alloc (.cells #[.slice a' m cap'] 45)).alloc (.cells #[.slice a' m cap'] 45)).drew := ((bel_alloc2 _ _ _).alloc (by simp <;> omega) _).drew
    refine bodyPost_ret (v := .agg #[.slice a' m cap']) (by simp [results, Tryz.results26, go_sem]) rfl ⟨_, rfl, ?_, hB⟩
    rw [show x + y = y by omega]
    exact HN.out.mono hB
  have hne0 : ((n : Int) == 0) = false := by simp <;> omega
  have mk := make_at (m : Int) ((m : Int) + 1) m (m + 1) rfl (by omega) (by omega) (by omega)
  have HB : Hid (Below w.heap.size w ((((w.alloc (.cells #[.slice a n cap] 45)).alloc (.cells #[.slice a' m cap'] 45)).alloc (.cells #[.slice none 0 0] 45)).alloc (.cells (zeros (m + 1)) 82)).drew) := (((bel_alloc2 _ _ _).alloc (by simp <;> omega) _).alloc (by simp <;> omega) _).drew
  clear HN
  go_enter Tryz.func26, Tryz.ntmps26
  go_wp2_with fail
  go_region
  go_wp2_with (refine (id ?_ : wpList Tryz.prog _ _ (⟨some 33, _, _, _, _, _⟩ :: _) _ _); refine wpList_copy_words rfl (.tmp 31) (.tmp 32) rfl _ _ _ _ _ _ _ rfl rfl (m + 1) (fun _ => 0) G (row_zeros_at _ (m + 1) _ (by simp)) (HL.out.1.mono HB.out) (by omega) (by omega) ?_)
  intro w1 hR1 hg1
  have hcr : w1.cell? ⟨w.heap.size + 1 + 1, 0, none⟩ = some (.slice none 0 0) := hg1.cell (by simp [go_sem]) (by simp <;> omega)
  have hfr : w1.frozen? ⟨w.heap.size + 1 + 1, 0, none⟩ = false := (World.frozen?_of_block (hg1.block _ (by simp <;> omega) (by simp <;> omega))).trans (by simp [go_sem])
  have B1 : Hid (Below w.heap.size w w1) := HB.out.grown hg1 (by simp <;> omega) (fun k hk => by cases hk; omega)
  have R1 : Hid (Row w1 (w.heap.size + 1 + 1 + 1) (m + 1) (over (fun _ => 0) 0 G m)) := hR1
  clear hR1 hg1 HB mk
  go_wp2_with fail
  refine (addWords_any _ (m + 1) 0 m (m + 1) _ a n cap F w1 R1.out (HS.out.1.mono B1.out) (by omega) (by omega) (by omega) (HS.out.1.ne_block (by omega) (by omega))).mono ?_
  rintro e w2 ⟨c, rfl, H, S⟩
  have hg2 := S.2.2.2.2
  have hcr2 : w2.cell? ⟨w.heap.size + 1 + 1, 0, none⟩ = some (.slice none 0 0) := hg2.cell hcr (by simp <;> omega)
  have hfr2 : w2.frozen? ⟨w.heap.size + 1 + 1, 0, none⟩ = false := (World.frozen?_of_block (hg2.block _ (World.block_lt_of_cell? _ _ hcr) (by simp <;> omega))).trans hfr
  have B2 : Hid (Below w.heap.size w w2) := B1.out.grown hg2 B1.out.size (fun k hk => by cases hk; omega)
  have S2 : Hid (Row w2 (w.heap.size + 1 + 1 + 1) (m + 1) H ∧ V H m + c * P m = x + y) := ⟨S.1, by
    obtain ⟨q1, q2, q3, q4, _⟩ := S
    rw [fro_zero, fro_zero, V_over0, HL.out.2.1, HS.out.2] at q4
    omega⟩
  have hc1 : c ≤ 1 := S.2.2.1
  have hw2 : w.heap.size + 1 + 1 + 1 < w2.heap.size := S.1.1.lt
  have HP : Hid (P (m - 1) ≤ x + y) := by
    obtain ⟨_, q2, q3⟩ := HL.out
    have := V_long (F := G) (n := m) (m := m - 1) (by omega) (q3 (by omega))
    show P (m - 1) ≤ x + y
    omega
  clear S hg2 hcr hfr R1 B1
  by_cases hc : c = 0
  · subst hc
    go_wp2_with fail
    refine bodyPost_ret (v := .agg #[.slice (some ⟨w.heap.size + 1 + 1 + 1, 0, none⟩) m (m + 1)]) (by simp [results, Tryz.results26, go_sem, hcr2]) rfl ⟨_, rfl, ?_, B2.out.setCell (by simp <;> omega) _⟩
    have e1 : V H m = x + y := by have := S2.out.2; omega
    rw [← e1]
    exact (isNat_row S2.out.1 (by omega) (by omega) (by omega) (by omega) (by rw [e1]; exact HP.out)).setCell (no_int_slice hcr2) _
  have hcb : (((c : Nat) : Int) != 0) = true := by simp <;> omega
  go_wp2_with (refine (id ?_ : wpList Tryz.prog _ _ (⟨some 42, _, _, _, _, _⟩ :: _) _ _); refine wpList_append_word rfl (.tmp 39) (.tmp 41) rfl _ _ _ _ _ rfl rfl (m + 1) H c (S2.out.1.below (((Below.refl _ _).alloc (Nat.le_refl _) _))) (by simp) (by omega) (by omega) (by omega) ?_)
  intro w3 hR3 hg3
  have hcr3 : w3.cell? ⟨w.heap.size + 1 + 1, 0, none⟩ = some (.slice none 0 0) := hg3.cell (cell_later ((Below.refl _ _).alloc (Nat.le_refl _) _) hcr2) (by simp <;> omega)
  have hfr3 : w3.frozen? ⟨w.heap.size + 1 + 1, 0, none⟩ = false := (World.frozen?_of_block (hg3.block _ (by simp; have := World.block_lt_of_cell? _ _ hcr2; simp only at this; omega) (by simp <;> omega))).trans ((((Below.refl _ _).alloc (Nat.le_refl _) _).frozen (World.block_lt_of_cell? _ _ hcr2)).trans hfr2)
  have B3 : Hid (Below w.heap.size w w3) := (B2.out.alloc B2.out.size _).grown hg3 (by have := B2.out.size; simp; omega) (fun k hk => by cases hk; omega)
  have R3 : Hid (Row w3 (w.heap.size + 1 + 1 + 1) (m + 1) (put H m c)) := hR3
  clear hR3 hg3 hcr2 hfr2
  go_wp2_with fail
  have e1 : V (put H m c) (m + 1) = x + y := by
    rw [V_succ, put_same, V_congr (G := H) fun i hi => put_other _ _ (by omega)]
    exact S2.out.2
  refine bodyPost_ret (v := .agg #[.slice (some ⟨w.heap.size + 1 + 1 + 1, 0, none⟩) (m + 1) (m + 1)]) (by simp [results, Tryz.results26, go_sem, hcr3]) rfl ⟨_, rfl, ?_, B3.out.setCell (by simp <;> omega) _⟩
  rw [← e1]
  refine (isNat_row R3.out (by omega) (by omega) (by omega) (by omega) ?_).setCell (no_int_slice hcr3) _
  rw [V_succ, put_same, Nat.add_sub_cancel]
  have : 1 * P m ≤ c * P m := Nat.mul_le_mul_right _ (by omega)
  omega
theorem add_any (v u : Value) (x y : Nat) (w : World) (h : IsNat w v x) (k : IsNat w u y) (hx : Fits x) (hy : Fits y) :
    Calls Tryz.prog 26 #[v, u] w (Makes w (x + y)) := by
  obtain ⟨a, n, cap, rfl⟩ := h.isAgg
  obtain ⟨a', m, cap', rfl⟩ := k.isAgg
  rcases Nat.lt_or_ge n m with hh | hh
  · exact add_lt a n cap a' m cap' x y w h k hx hy hh
  exact add_ge a n cap a' m cap' x y w h k hx hy hh
theorem pow256 (r : Nat) : 256 ^ r = 2 ^ (r * 8) := by
  rw [show (256 : Nat) = 2 ^ 8 from rfl, ← Nat.pow_mul, Nat.mul_comm]
theorem or_add (h e s : Nat) (hm : h % 2 ^ s = 0) (he : e < 2 ^ s) : h ||| e = h + e := by
  obtain ⟨A, rfl⟩ : ∃ A, h = A <<< s := ⟨h / 2 ^ s, by rw [Nat.shiftLeft_eq]; exact (Nat.div_mul_cancel (Nat.dvd_of_mod_eq_zero hm)).symm⟩
  exact (Nat.shiftLeft_add_eq_or_of_lt he A).symm
theorem cast_pow2 (s : Nat) : ((2 ^ s : Nat) : Int) = (2 : Int) ^ s := by simp
theorem wrapU_nat (a : Nat) (ha : a < 18446744073709551616) : IntKind.u64.wrap (a : Int) = (a : Int) := by rw [IntKind.wrap_u64]; omega
theorem wrapU_mod (a : Nat) : IntKind.u64.wrap (a : Int) = ((a % 18446744073709551616 : Nat) : Int) := by rw [IntKind.wrap_u64]; omega
theorem P_256 (n : Nat) : P n = 256 ^ (8 * n) := by
  unfold P
  rw [show (18446744073709551616 : Nat) = 256 ^ 8 from rfl, ← Nat.pow_mul]
theorem V_put_add (H : Nat → Nat) (q N e : Nat) (hq : q < N) : V (put H q (H q + e)) N = V H N + e * P q := by
  obtain ⟨t, rfl⟩ : ∃ t, N = q + 1 + t := ⟨N - (q + 1), by omega⟩
  rw [V_split _ (q + 1), V_split H (q + 1), V_succ, V_succ, put_same, V_congr (F := put H q (H q + e)) (G := H) (n := q) fun i hi => put_other _ _ (by omega),
    V_congr (F := fun i => put H q (H q + e) (q + 1 + i)) (G := fun i => H (q + 1 + i)) fun i hi => put_other _ _ (by omega), Nat.add_mul]
  omega
def byteAt (x p : Nat) : Nat := x / 256 ^ p % 256
def byteLen (x : Nat) : Nat := (bitLen x + 7) / 8
theorem byteAt_lt (x p : Nat) : byteAt x p < 256 := Nat.mod_lt _ (by omega)
theorem word_at {F : Nat → Nat} {n q : Nat} (h : Ok F n) (hq : q < n) : V F n / P q % 18446744073709551616 = F q := by
  obtain ⟨t, rfl⟩ : ∃ t, n = q + (1 + t) := ⟨n - (q + 1), by omega⟩
  rw [V_split, Nat.add_mul_div_left _ _ (P_pos q), Nat.div_eq_of_lt (V_lt (h.mono (by omega))), Nat.zero_add, V_split, P_one, V_succ, V_zero, P_zero, Nat.zero_add, Nat.mul_one, Nat.add_zero, Nat.add_mul_mod_self_left]
  exact Nat.mod_eq_of_lt (h q hq)
theorem byte_of_word {F : Nat → Nat} {n q r : Nat} (h : Ok F n) (hq : q < n) (hr : r < 8) : F q / 2 ^ (r * 8) % 256 = byteAt (V F n) (8 * q + r) := by
  rw [← word_at h hq, ← pow256, byteAt, Nat.pow_add, ← P_256, ← Nat.div_div_eq_div_mul]
  generalize V F n / P q = y
  have e : (18446744073709551616 : Nat) = 256 ^ r * 256 ^ (8 - r) := by rw [← Nat.pow_add, show r + (8 - r) = 8 by omega]
  rw [e, Nat.mod_mul_right_div_self]
  exact Nat.mod_mod_of_dvd _ ⟨256 ^ (7 - r), by rw [show 8 - r = (7 - r) + 1 by omega, Nat.pow_succ, Nat.mul_comm]⟩
theorem byte_int {F : Nat → Nat} {n q r : Nat} (h : Ok F n) (hq : q < n) (hr : r < 8) : ((F q : Nat) : Int) / 2 ^ (r * 8) % 256 = ((byteAt (V F n) (8 * q + r) : Nat) : Int) := by
  rw [← byte_of_word h hq hr]
  simp
theorem Tryz.info5 : (Tryz.prog.info? 5).map (fun i => (i.zero, i.size, i.bytes)) = some (some (.int .u8 0), 1, 1) := by kernel_rfl
def zeroB (m : Nat) : Array Value := madeCells #[.int .u8 0] m
theorem makeB_at (L C : Int) (n m : Nat) (hL : L = n) (hC : C = m) (hnm : n ≤ m) (hm : m ≤ 1099511627776) (w : World) :
    (Instr.makeSlice 130 (.int .i64 L) (.int .i64 C)).run Tryz.prog w = .ok (.slice (some ⟨w.heap.size, 0, none⟩) n m) (w.alloc (.cells (zeroB m) 5)) := by
  obtain ⟨i, hi, hz, hs, hb⟩ := info_parts Tryz.info5
  subst hL hC
  rw [run_make w 130 5 i (.int .u8 0) Tryz.underlying130 hi hz .i64 .i64 n m (by omega) (by omega) (by rw [hb]; omega) (by omega), hs]
  simp [zeroB, Value.cells]
def BRow (w : World) (b N : Nat) (D : Nat → Nat) : Prop := w.rowIs b 5 N (fun j => .int .u8 ((D j : Nat) : Int)) ∧ ∀ i, i < N → D i < 256
theorem brow_zeros_at (w : World) (m g : Nat) (hg : g = w.heap.size) : BRow (w.alloc (.cells (zeroB m) 5)) g m (fun _ => 0) := by
  subst hg
  exact ⟨World.rowIs_made w (.int .u8 0) m _, fun _ _ => by show (0 : Nat) < 256; omega⟩
theorem BRow.set {w : World} {b N : Nat} {F : Nat → Nat} (h : BRow w b N F) (i : Nat) {v : Nat} (hv : v < 256) : BRow (w.setCell ⟨b, i, none⟩ (.int .u8 (v : Int))) b N (put F i v) := by
  refine ⟨(h.1.set i _).congr fun j hj => ?_, fun j hj => ?_⟩
  · unfold put
    by_cases e : j = i <;> simp [e]
  unfold put
  split
  · exact hv
  exact h.2 j hj
theorem BRow.cell {w : World} {b N : Nat} {F : Nat → Nat} (h : BRow w b N F) {i : Nat} (hi : i < N) : w.cell? ⟨b, i, none⟩ = some (.int .u8 (F i : Nat)) := h.1.cell hi
theorem BRow.frozen {w : World} {b N : Nat} {F : Nat → Nat} (h : BRow w b N F) (i : Nat) : w.frozen? ⟨b, i, none⟩ = false := h.1.frozen i
theorem BRow.below {w w' : World} {b N : Nat} {F : Nat → Nat} (h : BRow w b N F) (hb : Below w.heap.size w w') : BRow w' b N F := ⟨h.1.of_block (hb.block b h.1.lt), h.2⟩
theorem BRow.congr {w : World} {b N : Nat} {F G : Nat → Nat} (h : BRow w b N F) (e : ∀ i, i < N → F i = G i) : BRow w b N G :=
  ⟨h.1.congr fun i hi => by rw [e i hi], fun i hi => by rw [← e i hi]; exact h.2 i hi⟩
set_option maxHeartbeats 1000000 in
theorem bytes_any (v : Value) (x : Nat) (w : World) (h : IsNat w v x) (hx : Fits x) :
    Calls Tryz.prog 74 #[v] w fun e w' => ∃ g, e = .returned (.slice (some ⟨g, 0, none⟩) (byteLen x) (byteLen x)) ∧ w.heap.size ≤ g ∧ BRow w' g (byteLen x) (fun i => byteAt x (byteLen x - 1 - i)) ∧ Below w.heap.size w w' := by
  obtain ⟨a, n, cap, F, rfl, hs, h0, h1, hv⟩ := id h
  have hn : n ≤ 4294967296 := fits_len (hv.symm ▸ hx) h1
  have hbl : bitLen x ≤ 64 * n := by
    by_cases e0 : n = 0
    · subst e0
      rw [← hv]
      show bitLen 0 ≤ 0
      simp [bitLen]
    obtain ⟨t, rfl⟩ : ∃ t, n = t + 1 := ⟨n - 1, by omega⟩
    have := bitLen_V hs.2.2.1 (h1 (by omega))
    rw [hv] at this
    have := bitLen_le64 (F t) (hs.2.2.1 t (by omega))
    omega
  have HL : Hid (byteLen x = (bitLen x + 7) / 8) := rfl
  obtain ⟨L, hL⟩ : ∃ L, L = byteLen x := ⟨_, rfl⟩
  have hLn : L ≤ 8 * n := by rw [hL, HL.out]; omega
  have HLL : Hid (L = byteLen x) := hL
  have HH : Hid (Sl w a n cap F ∧ V F n = x ∧ IsNat w (.agg #[.slice a n cap]) x) := ⟨hs, hv, h⟩
  clear hs h0 h1 hv h
  have mk := makeB_at ((((bitLen x : Nat) : Int) + 7) / 8) ((((bitLen x : Nat) : Int) + 7) / 8) L L (by rw [HLL.out, HL.out]; omega) (by rw [HLL.out, HL.out]; omega) (Nat.le_refl _) (by omega)
  rw [← hL]
  clear hL
  go_enter Tryz.func74, Tryz.ntmps74
  go_wp2_with fail
  refine (len_any _ x _ (HH.out.2.2.mono ((Below.refl _ _).alloc (Nat.le_refl _) _)) hx).mono ?_
  rintro e w1 ⟨rfl, hb1⟩
  have c1 : w1.cell? ⟨w.heap.size, 0, none⟩ = some (.slice a n cap) := cell_later hb1 (by simp [go_sem])
  have hsz : w.heap.size < w1.heap.size := World.block_lt_of_cell? _ _ c1
  have B1 : Hid (Below w.heap.size w w1) := bel_trans ((Below.refl _ _).alloc (Nat.le_refl _) _) hb1
  clear hb1 hx
  go_wp2_with fail
  go_loopw [13] (fun t wr => ∃ (i : Nat) (E : Nat → Nat), i ≤ L ∧ t = .int .i64 (i : Int) ∧ BRow wr w1.heap.size L E ∧ (∀ j, j < i → E j = byteAt x (L - 1 - j)) ∧ (w1.alloc (.cells (zeroB L) 5)).grownBy wr (some w1.heap.size)) (fun t _ => L - (intOf t).toNat)
  case atStart => exact ⟨0, fun _ => 0, by omega, rfl, brow_zeros_at _ _ _ rfl, fun j hj => absurd hj (by omega), World.grownBy.refl _ _⟩
  case round =>
    obtain ⟨i, E, hi, rfl, hR, hE, hg⟩ := hrel
    by_cases hiL : i < L
    · obtain ⟨b, o, rfl, hw⟩ := HH.out.1.at ((L - 1 - i) / 8) (by omega)
      have hc0 := hw ((L - 1 - i) / 8) (by omega)
      have hb : b < w.heap.size := World.block_lt_of_cell? _ _ hc0
      have hcw : wr.cell? ⟨b, o + (L - 1 - i) / 8, none⟩ = some (.int .u64 (F ((L - 1 - i) / 8) : Nat)) := hg.cell (cell_later ((Below.refl _ _).alloc (Nat.le_refl _) _) (cell_later B1.out hc0)) (by simp only [ne_eq, Option.some.injEq]; omega)
      have hcx : wr.cell? ⟨w.heap.size, 0, none⟩ = some (.slice (some ⟨b, o, none⟩) n cap) := hg.cell (cell_later ((Below.refl _ _).alloc (Nat.le_refl _) _) c1) (by simp only [ne_eq, Option.some.injEq]; omega)
      have hcd : wr.cell? ⟨w1.heap.size, i, none⟩ = some (.int .u8 (E i : Nat)) := hR.cell hiL
      have hfd : wr.frozen? ⟨w1.heap.size, i, none⟩ = false := hR.frozen _
      have hiL' : (i : Int) < L := by omega
      have KK : Hid (BRow wr w1.heap.size L E ∧ (∀ j, j < i → E j = byteAt x (L - 1 - j)) ∧ (w1.alloc (.cells (zeroB L) 5)).grownBy wr (some w1.heap.size)) := ⟨hR, hE, hg⟩
      clear hR hE hg hw hc0
      have BI : Hid (((F ((L - 1 - i) / 8) : Nat) : Int) / 2 ^ ((L - 1 - i) % 8 * 8) % 256 = ((byteAt x (L - 1 - i) : Nat) : Int)) := by
        have := byte_int (r := (L - 1 - i) % 8) HH.out.1.2.2.1 (show (L - 1 - i) / 8 < n by omega) (by omega)
        rw [HH.out.2.1, show 8 * ((L - 1 - i) / 8) + (L - 1 - i) % 8 = L - 1 - i by omega] at this
        exact this
      go_wp2_with fail
      rw [BI.out]
      go_roundw
      case rel =>
        refine ⟨i + 1, _, by omega, by go_num, KK.out.1.set i (byteAt_lt _ _), fun j hj => ?_, grown_set _ KK.out.2.2 _ _⟩
        by_cases e : j = i
        · subst e
          exact put_same _ _ _
        rw [put_other _ _ e]
        exact KK.out.2.1 j (by omega)
      case measure => simp [intOf]; omega
    obtain rfl : i = L := by omega
    have KK : Hid (BRow wr w1.heap.size i E ∧ (∀ j, j < i → E j = byteAt x (i - 1 - j)) ∧ (w1.alloc (.cells (zeroB i) 5)).grownBy wr (some w1.heap.size)) := ⟨hR, hE, hg⟩
    clear hR hE hg
    go_wp2_with fail
    go_ret
    exact ⟨_, rfl, by omega, KK.out.1.congr KK.out.2.1, (B1.out.alloc B1.out.size _).grown KK.out.2.2 (by have := B1.out.size; simp; omega) (fun k hk => by cases hk; omega)⟩
theorem two64 (r : Nat) (hr : r ≤ 64) : (18446744073709551616 : Nat) = 2 ^ r * 2 ^ (64 - r) := by rw [← Nat.pow_add, show r + (64 - r) = 64 by omega]
theorem shl_lo (f r : Nat) (hr : r ≤ 64) : f * 2 ^ r % 18446744073709551616 + f / 2 ^ (64 - r) * 18446744073709551616 = f * 2 ^ r := by
  have e : f * 2 ^ r / 18446744073709551616 = f / 2 ^ (64 - r) := by
    rw [two64 r hr, Nat.mul_comm f, Nat.mul_div_mul_left _ _ (Nat.two_pow_pos r)]
  rw [← e]
  have := Nat.mod_add_div (f * 2 ^ r) 18446744073709551616
  omega
theorem shl_mod (f r : Nat) (hr : r ≤ 64) : f * 2 ^ r % 18446744073709551616 = f % 2 ^ (64 - r) * 2 ^ r := by
  rw [two64 r hr, Nat.mul_comm f, Nat.mul_mod_mul_left, Nat.mul_comm]
theorem or_low (h f r : Nat) (hh : h < 2 ^ r) (hr : r ≤ 63) :
    bits .or .u64 (h : Int) (IntKind.u64.wrap ((f : Int) * 2 ^ r)) = ((h + f * 2 ^ r % 18446744073709551616 : Nat) : Int) ∧ h + f * 2 ^ r % 18446744073709551616 < 18446744073709551616 := by
  have e : (f : Int) * 2 ^ r = ((f * 2 ^ r : Nat) : Int) := by rw [Int.natCast_mul, cast_pow2]
  have hm := shl_mod f r (by omega)
  have hlt : f % 2 ^ (64 - r) + 1 ≤ 2 ^ (64 - r) := Nat.mod_lt _ (Nat.two_pow_pos _)
  have hlt2 : (f % 2 ^ (64 - r) + 1) * 2 ^ r ≤ 2 ^ (64 - r) * 2 ^ r := Nat.mul_le_mul_right _ hlt
  rw [Nat.mul_comm (2 ^ (64 - r)), ← two64 r (by omega), Nat.add_mul, ← hm] at hlt2
  have h64 : h < 18446744073709551616 := by omega
  have hor : f * 2 ^ r % 18446744073709551616 ||| h = f * 2 ^ r % 18446744073709551616 + h := or_add _ _ r (by rw [hm]; exact Nat.mul_mod_left _ _) hh
  refine ⟨?_, by omega⟩
  rw [e, wrapU_mod, bits_or_u64_nat _ _ h64 (Nat.mod_lt _ (by omega)), Nat.or_comm, hor, Nat.add_comm]
theorem or_high (u v r : Nat) (hu : u < 18446744073709551616) (hr : r ≤ 63) :
    bits .or .u64 ((u / 2 ^ r : Nat) : Int) (IntKind.u64.wrap ((v : Int) * 2 ^ (64 - r))) = ((u / 2 ^ r + v * 2 ^ (64 - r) % 18446744073709551616 : Nat) : Int) ∧ u / 2 ^ r + v * 2 ^ (64 - r) % 18446744073709551616 < 18446744073709551616 := by
  have e : (v : Int) * 2 ^ (64 - r) = ((v * 2 ^ (64 - r) : Nat) : Int) := by rw [Int.natCast_mul, cast_pow2]
  have hm := shl_mod v (64 - r) (by omega)
  rw [show 64 - (64 - r) = r by omega] at hm
  have hd : u / 2 ^ r < 2 ^ (64 - r) := by
    rw [Nat.div_lt_iff_lt_mul (Nat.two_pow_pos r), Nat.mul_comm, ← two64 r (by omega)]
    exact hu
  have hlt : v % 2 ^ r + 1 ≤ 2 ^ r := Nat.mod_lt _ (Nat.two_pow_pos _)
  have hlt2 : (v % 2 ^ r + 1) * 2 ^ (64 - r) ≤ 2 ^ r * 2 ^ (64 - r) := Nat.mul_le_mul_right _ hlt
  rw [← two64 r (by omega), Nat.add_mul, ← hm] at hlt2
  have hor : v * 2 ^ (64 - r) % 18446744073709551616 ||| u / 2 ^ r = v * 2 ^ (64 - r) % 18446744073709551616 + u / 2 ^ r := or_add _ _ (64 - r) (by rw [hm]; exact Nat.mul_mod_left _ _) hd
  refine ⟨?_, by omega⟩
  rw [e, wrapU_mod, bits_or_u64_nat _ _ (by omega) (Nat.mod_lt _ (by omega)), Nat.or_comm, hor, Nat.add_comm]
def Upped (F : Nat → Nat) (N f r k : Nat) (H : Nat → Nat) : Prop :=
  V H N = V F k * 2 ^ r * P f ∧ H (f + k) < 2 ^ r ∧ ∀ j, f + k < j → H j = 0
theorem upped_start (F : Nat → Nat) (N f r : Nat) : Upped F N f r 0 (fun _ => 0) := ⟨by rw [V_const0, V_zero]; simp, Nat.two_pow_pos r, fun _ _ => rfl⟩
theorem Upped.step {F : Nat → Nat} {N f r k : Nat} {H : Nat → Nat} (h : Upped F N f r k H) (hk : f + k + 1 < N) (hr : r ≤ 63) (hF : F k < 18446744073709551616) :
    Upped F N f r (k + 1) (put (put H (f + k) (H (f + k) + F k * 2 ^ r % 18446744073709551616)) (f + k + 1) (F k / 2 ^ (64 - r))) := by
  obtain ⟨h1, h2, h3⟩ := h
  have z : put H (f + k) (H (f + k) + F k * 2 ^ r % 18446744073709551616) (f + k + 1) = 0 := by rw [put_other _ _ (by omega)]; exact h3 _ (by omega)
  refine ⟨?_, ?_, fun j hj => ?_⟩
  · have e1 := V_put_add (put H (f + k) (H (f + k) + F k * 2 ^ r % 18446744073709551616)) (f + k + 1) N (F k / 2 ^ (64 - r)) hk
    rw [z, Nat.zero_add] at e1
    rw [e1, V_put_add _ _ _ _ (by omega), h1, V_succ, P_succ, Nat.add_mul, Nat.add_mul, P_add]
    have e2 := congrArg (· * (P f * P k)) (shl_lo (F k) r (by omega))
    simp only [Nat.add_mul] at e2
    have e3 : F k / 2 ^ (64 - r) * (P f * P k * 18446744073709551616) = F k / 2 ^ (64 - r) * 18446744073709551616 * (P f * P k) := by rw [Nat.mul_comm (P f * P k) 18446744073709551616, ← Nat.mul_assoc]
    have e4 : F k * P k * 2 ^ r * P f = F k * 2 ^ r * (P f * P k) := by rw [Nat.mul_right_comm (F k), Nat.mul_assoc, Nat.mul_comm (P k)]
    omega
  · rw [show f + (k + 1) = f + k + 1 by omega, put_same, Nat.div_lt_iff_lt_mul (Nat.two_pow_pos _), ← two64 r (by omega)]
    exact hF
  rw [put_other _ _ (by omega), put_other _ _ (by omega)]
  exact h3 j (by omega)
def downW (U : Nat → Nat) (r i : Nat) : Nat := U i / 2 ^ r + U (i + 1) * 2 ^ (64 - r) % 18446744073709551616
theorem down_eq (U : Nat → Nat) (r : Nat) (hr : r ≤ 63) : ∀ k, V (downW U r) k * 2 ^ r + U 0 % 2 ^ r = V U k + U k % 2 ^ r * P k
  | 0 => by rw [V_zero, V_zero, P_zero, Nat.zero_mul, Nat.mul_one]
  | k + 1 => by
    have ih := down_eq U r hr k
    rw [V_succ, V_succ, P_succ, Nat.add_mul]
    have hm := shl_mod (U (k + 1)) (64 - r) (by omega)
    rw [show 64 - (64 - r) = r by omega] at hm
    have e1 : downW U r k * 2 ^ r + U k % 2 ^ r = U k + U (k + 1) % 2 ^ r * 18446744073709551616 := by
      unfold downW
      rw [hm, Nat.add_mul, Nat.mul_assoc, Nat.mul_comm (2 ^ (64 - r)), ← two64 r (by omega)]
      have := Nat.div_add_mod (U k) (2 ^ r)
      rw [Nat.mul_comm] at this
      omega
    have e2 := congrArg (· * P k) e1
    simp only [Nat.add_mul] at e2
    have e3 : downW U r k * P k * 2 ^ r = downW U r k * 2 ^ r * P k := Nat.mul_right_comm ..
    have e4 : U (k + 1) % 2 ^ r * (P k * 18446744073709551616) = U (k + 1) % 2 ^ r * 18446744073709551616 * P k := by rw [Nat.mul_assoc, Nat.mul_comm (P k)]
    omega
theorem down_val {U : Nat → Nat} {r m : Nat} (hr : r ≤ 63) (h0 : U m = 0) : V (downW U r) m = V U m / 2 ^ r := by
  have h := down_eq U r hr m
  rw [h0, Nat.zero_mod, Nat.zero_mul, Nat.add_zero] at h
  rw [← h, Nat.mul_comm, Nat.mul_add_div (Nat.two_pow_pos r), Nat.div_eq_of_lt (Nat.mod_lt _ (Nat.two_pow_pos r)), Nat.add_zero]
theorem div_int (f k : Nat) : ((f : Nat) : Int) / 2 ^ k = ((f / 2 ^ k : Nat) : Int) := by simp
set_option maxHeartbeats 1000000 in
theorem up_any (v : Value) (x s : Nat) (w : World) (h : IsNat w v x) (hx : Fits x) (hs0 : s ≤ 68719476736) :
    Calls Tryz.prog 98 #[v, .int .i64 (s : Int)] w (Makes w (x * 2 ^ s)) := by
  obtain ⟨a, n, cap, F, rfl, hs, h0, h1, hv⟩ := id h
  have hn : n ≤ 4294967296 := fits_len (hv.symm ▸ hx) h1
  have HN : Hid (IsNat w (.agg #[.slice a n cap]) x) := h
  by_cases hz : s = 0 ∨ n = 0
  · have hxx : x * 2 ^ s = x := by
      rcases hz with e | e
      · rw [e, Nat.pow_zero, Nat.mul_one]
      subst e
      have : x = 0 := hv.symm
      rw [this, Nat.zero_mul]
    have fin : ∀ w' : World, Below w.heap.size w w' → Makes w (x * 2 ^ s) (.returned (.agg #[.slice a n cap])) w' := fun w' hb => ⟨_, rfl, by rw [hxx]; exact HN.out.mono hb, hb⟩
    have FIN : Hid _ := fin
    clear fin hxx hs h0 h1 hv hx h
    by_cases e : s = 0
    · have hsb : ((s : Int) == 0) = true := by simp <;> omega
      clear hz e
      go_enter Tryz.func98, Tryz.ntmps98
      go_wp2_with fail
      refine bodyPost_ret (v := .agg #[.slice a n cap]) (by simp [results, Tryz.results98, go_sem]) rfl (FIN.out _ (bel_alloc2 _ _ _))
    have hsb : ((s : Int) == 0) = false := by simp <;> omega
    have hnb : ((n : Int) == 0) = true := by simp <;> omega
    clear hz e
    go_enter Tryz.func98, Tryz.ntmps98
    go_wp2_with fail
    refine bodyPost_ret (v := .agg #[.slice a n cap]) (by simp [results, Tryz.results98, go_sem]) rfl (FIN.out _ (bel_alloc2 _ _ _))
  have hsb : ((s : Int) == 0) = false := by simp <;> omega
  have hnb : ((n : Int) == 0) = false := by simp <;> omega
  have mk := make_at ((s : Int) / 64 + n + 1) ((s : Int) / 64 + n + 1) (s / 64 + n + 1) (s / 64 + n + 1) (by omega) (by omega) (Nat.le_refl _) (by omega)
  have HH : Hid (Sl w a n cap F ∧ V F n = x) := ⟨hs, hv⟩
  clear hs h0 h1 hv hx h
  go_enter Tryz.func98, Tryz.ntmps98
  go_wp2_with fail
  go_loopw [33] (fun t wr => ∃ (i : Nat) (H : Nat → Nat), i ≤ n ∧ t = .int .i64 (i : Int) ∧ Row wr (w.heap.size + 1 + 1) (s / 64 + n + 1) H ∧ Upped F (s / 64 + n + 1) (s / 64) (s % 64) i H ∧ (((w.alloc (.cells #[.slice a n cap] 45)).alloc (.cells #[.slice none 0 0] 45)).alloc (.cells (zeros (s / 64 + n + 1)) 82)).grownBy wr (some (w.heap.size + 1 + 1))) (fun t _ => n - (intOf t).toNat)
  case atStart => exact ⟨0, fun _ => 0, by omega, rfl, row_zeros_at _ _ _ (by simp), upped_start _ _ _ _, World.grownBy.refl _ _⟩
  case round =>
    clear mk
    obtain ⟨i, H, hi, rfl, hR, hU, hg⟩ := hrel
    have HB : Hid (Below w.heap.size w (((w.alloc (.cells #[.slice a n cap] 45)).alloc (.cells #[.slice none 0 0] 45)).alloc (.cells (zeros (s / 64 + n + 1)) 82))) := (bel_alloc2 _ _ _).alloc (by simp <;> omega) _
    by_cases hin : i < n
    · obtain ⟨b, o, rfl, hw⟩ := HH.out.1.at i hin
      have hc0 := hw i hin
      have hb : b < w.heap.size := World.block_lt_of_cell? _ _ hc0
      have hcw : wr.cell? ⟨b, o + i, none⟩ = some (.int .u64 (F i : Nat)) := hg.cell (cell_later HB.out hc0) (by simp only [ne_eq, Option.some.injEq]; omega)
      have hc1 : wr.cell? ⟨w.heap.size + 1 + 1, s / 64 + i, none⟩ = some (.int .u64 (H (s / 64 + i) : Nat)) := hR.cell (by omega)
      have hf1 : wr.frozen? ⟨w.heap.size + 1 + 1, s / 64 + i, none⟩ = false := hR.frozen _
      have hc2 : wr.cell? ⟨w.heap.size + 1 + 1, s / 64 + i + 1, none⟩ = some (.int .u64 (H (s / 64 + i + 1) : Nat)) := hR.cell (by omega)
      have hf2 : wr.frozen? ⟨w.heap.size + 1 + 1, s / 64 + i + 1, none⟩ = false := hR.frozen _
      have hin' : (i : Int) < n := by omega
      have hFi : F i < 18446744073709551616 := HH.out.1.2.2.1 i hin
      obtain ⟨o1, o2⟩ := or_low (H (s / 64 + i)) (F i) (s % 64) hU.2.1 (by omega)
      have S1 := (hR.set (s / 64 + i) o2).set (s / 64 + i + 1) (v := F i / 2 ^ (64 - s % 64)) (by exact Nat.lt_of_le_of_lt (Nat.div_le_self _ _) hFi)
      have S2 := hU.step (by omega) (by omega) hFi
      have S3 := grown_set _ (grown_set _ hg (s / 64 + i) (.int .u64 ((H (s / 64 + i) + F i * 2 ^ (s % 64) % 18446744073709551616 : Nat) : Int))) (s / 64 + i + 1) (.int .u64 ((F i / 2 ^ (64 - s % 64) : Nat) : Int))
      have T : Hid _ := And.intro o1 (And.intro S1 (And.intro S2 S3))
      clear o1 o2 S1 S2 S3 hR hU hg hw hc0
      go_wp2_with fail
      go_region
      go_wp2_with fail
      rw [T.out.1, div_int]
      go_roundw
      case rel => exact ⟨i + 1, _, by omega, by go_num, T.out.2.1, T.out.2.2.1, grown_drew T.out.2.2.2 1⟩
      case measure => simp [intOf]; omega
    obtain rfl : i = n := by omega
    have hcr : wr.cell? ⟨w.heap.size + 1, 0, none⟩ = some (.slice none 0 0) := hg.cell (by simp [go_sem]) (by simp)
    have hfr : wr.frozen? ⟨w.heap.size + 1, 0, none⟩ = false := (World.frozen?_of_block (hg.block _ (by simp <;> omega) (by simp))).trans (by simp [go_sem])
    have B1 : Hid (Below w.heap.size w wr) := HB.out.grown hg (by simp <;> omega) (fun k hk => by cases hk; omega)
    have HF : Hid (V H (s / 64 + i + 1) = x * 2 ^ s) := by
      have := hU.1
      rw [HH.out.2, P_two, Nat.mul_assoc, ← Nat.pow_add, show s % 64 + 64 * (s / 64) = s by omega] at this
      exact this
    have HR : Hid (Row wr (w.heap.size + 1 + 1) (s / 64 + i + 1) H) := hR
    clear hR hU hg
    go_wp2_with fail
    refine (trimmed_any _ (s / 64 + i + 1) (s / 64 + i + 1) H wr (by have := HR.out.sl (o := 0) (n := s / 64 + i + 1) (cap := s / 64 + i + 1) (by omega) (Nat.le_refl _) (by omega); rw [fro_zero] at this; exact this) (by omega)).mono ?_
    rintro e w3 ⟨v3, rfl, hv3, hb3⟩
    have hcr3 : w3.cell? ⟨w.heap.size + 1, 0, none⟩ = some (.slice none 0 0) := cell_later hb3 hcr
    have hfr3 : w3.frozen? ⟨w.heap.size + 1, 0, none⟩ = false := (hb3.frozen (World.block_lt_of_cell? _ _ hcr)).trans hfr
    obtain ⟨a3, n3, cap3, rfl⟩ := hv3.isAgg
    have HV3 : Hid (IsNat w3 (.agg #[.slice a3 n3 cap3]) (V H (s / 64 + i + 1))) := hv3
    have B3 : Hid (Below w.heap.size w w3) := B1.out.trans (hb3.mono B1.out.size)
    clear hv3 hb3 hcr hfr B1
    go_wp2_with fail
    refine bodyPost_ret (v := .agg #[.slice a3 n3 cap3]) (by simp [results, Tryz.results98, go_sem, hcr3]) rfl ⟨_, rfl, ?_, B3.out.setCell (by simp) _⟩
    rw [← HF.out]
    exact HV3.out.setCell (no_int_slice hcr3) _
def cutU (F : Nat → Nat) (n f i : Nat) : Nat := if f + i < n then F (f + i) else 0
theorem cutU_in {F : Nat → Nat} {n f i : Nat} (h : f + i < n) : cutU F n f i = F (f + i) := by simp [cutU, h]
theorem cutU_out {F : Nat → Nat} {n f i : Nat} (h : ¬ f + i < n) : cutU F n f i = 0 := by simp [cutU, h]
theorem right_val {F : Nat → Nat} {n t : Nat} (hF : Ok F n) (hf : t / 64 ≤ n) : V (downW (cutU F n (t / 64)) (t % 64)) (n - t / 64) = V F n / 2 ^ t := by
  rw [down_val (by omega) (cutU_out (by omega)), V_congr (F := cutU F n (t / 64)) (G := fun i => F (t / 64 + i)) fun i hi => cutU_in (by omega)]
  have e : V F n = V F (t / 64) + P (t / 64) * V (fun i => F (t / 64 + i)) (n - t / 64) := by rw [← V_split, show t / 64 + (n - t / 64) = n by omega]
  rw [e, show 2 ^ t = P (t / 64) * 2 ^ (t % 64) by rw [P_two, ← Nat.pow_add, show 64 * (t / 64) + t % 64 = t by omega], ← Nat.div_div_eq_div_mul, Nat.add_mul_div_left _ _ (P_pos _), Nat.div_eq_of_lt (V_lt (hF.mono hf)), Nat.zero_add]
theorem bitLen_lt (x : Nat) : x < 2 ^ bitLen x := (bitLen_spec x).1
theorem bitLen_words {w : World} {a : Option Addr} {n cap : Nat} {F : Nat → Nat} {x : Nat} (hs : Sl w a n cap F) (h1 : 0 < n → F (n - 1) ≠ 0) (hv : V F n = x) : bitLen x ≤ 64 * n := by
  by_cases e0 : n = 0
  · subst e0
    rw [← hv]
    show bitLen 0 ≤ 0
    simp [bitLen]
  obtain ⟨t, rfl⟩ : ∃ t, n = t + 1 := ⟨n - 1, by omega⟩
  have h2 := bitLen_V hs.2.2.1 (h1 (by omega))
  rw [hv] at h2
  have := bitLen_le64 (F t) (hs.2.2.1 t (by omega))
  omega
set_option maxHeartbeats 1000000 in
theorem right_any (v : Value) (x : Nat) (s : Int) (w : World) (h : IsNat w v x) (hx : Fits x) (hs0 : -9223372036854775808 ≤ s) (hs1 : s ≤ 9223372036854775807) :
    Calls Tryz.prog 97 #[v, .int .i64 s] w (Makes w (x / 2 ^ s.toNat)) := by
  obtain ⟨a, n, cap, F, rfl, hs, h0, h1, hv⟩ := id h
  have hn : n ≤ 4294967296 := fits_len (hv.symm ▸ hx) h1
  have HN : Hid (IsNat w (.agg #[.slice a n cap]) x) := h
  have hbl := bitLen_words hs h1 hv
  have HH : Hid (Sl w a n cap F ∧ V F n = x) := ⟨hs, hv⟩
  have HX : Hid (Fits x) := hx
  clear hs h0 h1 hv h hx
  by_cases hz : s ≤ 0
  · have hxx : x / 2 ^ s.toNat = x := by rw [show s.toNat = 0 by omega, Nat.pow_zero, Nat.div_one]
    have FIN : Hid (∀ w' : World, Below w.heap.size w w' → Makes w (x / 2 ^ s.toNat) (.returned (.agg #[.slice a n cap])) w') := fun w' hb => ⟨_, rfl, by rw [hxx]; exact HN.out.mono hb, hb⟩
    clear hxx hbl
    go_enter Tryz.func97, Tryz.ntmps97
    go_wp2_with fail
    refine bodyPost_ret (v := .agg #[.slice a n cap]) (by simp [results, Tryz.results97, go_sem]) rfl (FIN.out _ (bel_alloc2 _ _ _))
  obtain ⟨t, rfl⟩ := Int.eq_ofNat_of_zero_le (show 0 ≤ s by omega)
  rw [Int.toNat_natCast]
  have htz : decide ((t : Int) ≤ 0) = false := decide_eq_false (by omega)
  go_enter Tryz.func97, Tryz.ntmps97
  go_wp2_with fail
  refine (len_any _ x _ (HN.out.mono (bel_alloc2 _ _ _)) HX.out).mono ?_
  rintro e w1 ⟨rfl, hb1⟩
  have c1 : w1.cell? ⟨w.heap.size, 0, none⟩ = some (.slice a n cap) := cell_later hb1 (by simp [go_sem])
  have c2 : w1.cell? ⟨w.heap.size + 1, 0, none⟩ = some (.slice none 0 0) := cell_later hb1 (by simp [go_sem])
  have f2 : w1.frozen? ⟨w.heap.size + 1, 0, none⟩ = false := (hb1.frozen (by simp <;> omega)).trans (by simp [go_sem])
  have hsz : w.heap.size + 1 < w1.heap.size := World.block_lt_of_cell? _ _ c2
  have B1 : Hid (Below w.heap.size w w1) := bel_trans (bel_alloc2 _ _ _) hb1
  clear hb1
  by_cases hbig : bitLen x ≤ t
  · have hbi : ((bitLen x : Nat) : Int) ≤ (t : Int) := by omega
    go_wp2_with fail
    refine bodyPost_ret (v := .agg #[.slice none 0 0]) (by simp [results, Tryz.results97, go_sem, c2]) rfl ⟨_, rfl, ?_, B1.out.setCell (by simp) _⟩
    rw [Nat.div_eq_of_lt (Nat.lt_of_lt_of_le (bitLen_lt x) (Nat.pow_le_pow_right (by omega) hbig))]
    exact isNat_zero _
  have hbi : decide (bitLen x ≤ t) = false := decide_eq_false (by omega)
  have hft : t / 64 < n := by omega
  have mk := make_at ((n : Int) - (t : Int) / 64) ((n : Int) - (t : Int) / 64) (n - t / 64) (n - t / 64) (by omega) (by omega) (Nat.le_refl _) (by omega)
  have htb : t ≤ 274877906944 := by omega
  clear hbig
  go_wp2_with fail
  go_loopw [31] (fun q wr => ∃ (i : Nat) (H : Nat → Nat), i ≤ n - t / 64 ∧ q = .int .i64 (i : Int) ∧ Row wr w1.heap.size (n - t / 64) H ∧ (∀ j, j < i → H j = downW (cutU F n (t / 64)) (t % 64) j) ∧ (w1.alloc (.cells (zeros (n - t / 64)) 82)).grownBy wr (some w1.heap.size)) (fun q _ => n - t / 64 - (intOf q).toNat)
  case atStart => exact ⟨0, fun _ => 0, by omega, rfl, row_zeros_at _ _ _ rfl, fun j hj => absurd hj (by omega), World.grownBy.refl _ _⟩
  case round =>
    clear mk
    obtain ⟨i, H, hi, rfl, hR, hU, hg⟩ := hrel
    have HB : Hid (Below w.heap.size w (w1.alloc (.cells (zeros (n - t / 64)) 82))) := B1.out.alloc B1.out.size _
    by_cases hin : i < n - t / 64
    · obtain ⟨b, o, rfl, hw⟩ := HH.out.1.at (t / 64 + i) (by omega)
      have hc0 := hw (t / 64 + i) (by omega)
      have hb : b < w.heap.size := World.block_lt_of_cell? _ _ hc0
      have hcw : wr.cell? ⟨b, o + (t / 64 + i), none⟩ = some (.int .u64 (F (t / 64 + i) : Nat)) := hg.cell (cell_later HB.out hc0) (by simp only [ne_eq, Option.some.injEq]; omega)
      have hcx : wr.cell? ⟨w.heap.size, 0, none⟩ = some (.slice (some ⟨b, o, none⟩) n cap) := hg.cell (cell_later ((Below.refl _ _).alloc (Nat.le_refl _) _) c1) (by simp only [ne_eq, Option.some.injEq]; omega)
      have hc1 : wr.cell? ⟨w1.heap.size, i, none⟩ = some (.int .u64 (H i : Nat)) := hR.cell (by omega)
      have hf1 : wr.frozen? ⟨w1.heap.size, i, none⟩ = false := hR.frozen _
      have hin' : (i : Int) < ((n - t / 64 : Nat) : Int) := by omega
      have hFi : F (t / 64 + i) < 18446744073709551616 := HH.out.1.2.2.1 _ (by omega)
      have hdl : F (t / 64 + i) / 2 ^ (t % 64) < 18446744073709551616 := Nat.lt_of_le_of_lt (Nat.div_le_self _ _) hFi
      by_cases hlast : t / 64 + i + 1 < n
      · have hc3 : wr.cell? ⟨b, o + (t / 64 + i + 1), none⟩ = some (.int .u64 (F (t / 64 + i + 1) : Nat)) := hg.cell (cell_later HB.out (hw (t / 64 + i + 1) hlast)) (by simp only [ne_eq, Option.some.injEq]; omega)
        have hl' : ((t : Int) / 64 + i + 1) < n := by omega
        obtain ⟨o1, o2⟩ := or_high (F (t / 64 + i)) (F (t / 64 + i + 1)) (t % 64) hFi (by omega)
        have ed : downW (cutU F n (t / 64)) (t % 64) i = F (t / 64 + i) / 2 ^ (t % 64) + F (t / 64 + i + 1) * 2 ^ (64 - t % 64) % 18446744073709551616 := by
          unfold downW
          rw [cutU_in (by omega), cutU_in (by omega), Nat.add_assoc]
        rw [← ed] at o1 o2
        have T : Hid _ := And.intro o1 (And.intro ((hR.set i hdl).set i o2) (And.intro hU (grown_set _ (grown_set _ hg i (.int .u64 ((F (t / 64 + i) / 2 ^ (t % 64) : Nat) : Int))) i (.int .u64 ((downW (cutU F n (t / 64)) (t % 64) i : Nat) : Int)))))
        clear o1 o2 ed hR hU hg hw hc0
        go_wp2_with fail
        go_region
        go_wp2_with fail
        rw [div_int, T.out.1]
        go_roundw
        case rel =>
          refine ⟨i + 1, _, by omega, by go_num, T.out.2.1, fun j hj => ?_, grown_drew T.out.2.2.2 1⟩
          by_cases e : j = i
          · subst e
            exact put_same _ _ _
          rw [put_other _ _ e, put_other _ _ e]
          exact T.out.2.2.1 j (by omega)
        case measure => simp [intOf]; omega
      have hl' : decide (((t : Int) / 64 + i + 1) < n) = false := decide_eq_false (by omega)
      have ed : downW (cutU F n (t / 64)) (t % 64) i = F (t / 64 + i) / 2 ^ (t % 64) := by
        unfold downW
        rw [cutU_in (by omega), cutU_out (by omega)]
        simp
      have T : Hid _ := And.intro (hR.set i hdl) (And.intro hU (grown_set _ hg i (.int .u64 ((F (t / 64 + i) / 2 ^ (t % 64) : Nat) : Int))))
      have ED : Hid _ := ed
      clear ed hR hU hg hw hc0
      go_wp2_with fail
      rw [div_int]
      go_roundw
      case rel =>
        refine ⟨i + 1, _, by omega, by go_num, T.out.1, fun j hj => ?_, T.out.2.2⟩
        by_cases e : j = i
        · subst e
          rw [put_same, ED.out]
        rw [put_other _ _ e]
        exact T.out.2.1 j (by omega)
      case measure => simp [intOf]; omega
    obtain rfl : i = n - t / 64 := by omega
    have hcr : wr.cell? ⟨w.heap.size + 1, 0, none⟩ = some (.slice none 0 0) := hg.cell (cell_later ((Below.refl _ _).alloc (Nat.le_refl _) _) c2) (by simp only [ne_eq, Option.some.injEq]; omega)
    have hfr : wr.frozen? ⟨w.heap.size + 1, 0, none⟩ = false := (World.frozen?_of_block (hg.block _ (by simp <;> omega) (by simp only [ne_eq, Option.some.injEq]; omega))).trans ((((Below.refl _ _).alloc (Nat.le_refl _) _).frozen hsz).trans f2)
    have B2 : Hid (Below w.heap.size w wr) := HB.out.grown hg (by have := B1.out.size; simp; omega) (fun k hk => by cases hk; exact B1.out.size)
    have HF : Hid (V H (n - t / 64) = x / 2 ^ t) := by
      show V H (n - t / 64) = x / 2 ^ t
      rw [V_congr hU, right_val HH.out.1.2.2.1 (by omega), HH.out.2]
    have HR : Hid (Row wr w1.heap.size (n - t / 64) H) := hR
    clear hR hU hg
    go_wp2_with fail
    refine (trimmed_any _ (n - t / 64) (n - t / 64) H wr (by have := HR.out.sl (o := 0) (n := n - t / 64) (cap := n - t / 64) (by omega) (Nat.le_refl _) (by omega); rw [fro_zero] at this; exact this) (by omega)).mono ?_
    rintro e w3 ⟨v3, rfl, hv3, hb3⟩
    have hcr3 : w3.cell? ⟨w.heap.size + 1, 0, none⟩ = some (.slice none 0 0) := cell_later hb3 hcr
    have hfr3 : w3.frozen? ⟨w.heap.size + 1, 0, none⟩ = false := (hb3.frozen (World.block_lt_of_cell? _ _ hcr)).trans hfr
    obtain ⟨a3, n3, cap3, rfl⟩ := hv3.isAgg
    have HV3 : Hid (IsNat w3 (.agg #[.slice a3 n3 cap3]) (V H (n - t / 64))) := hv3
    have B3 : Hid (Below w.heap.size w w3) := B2.out.trans (hb3.mono B2.out.size)
    clear hv3 hb3 hcr hfr B2
    go_wp2_with fail
    refine bodyPost_ret (v := .agg #[.slice a3 n3 cap3]) (by simp [results, Tryz.results97, go_sem, hcr3]) rfl ⟨_, rfl, ?_, B3.out.setCell (by simp) _⟩
    rw [← HF.out]
    exact HV3.out.setCell (no_int_slice hcr3) _
end Go.Proofs.YtfkkomppfghagaaGreatDoor
