/- Contracts of the program's functions, part 17: own work, joined in build order. -/
import Derived.Test.YtacgpipccpmloaaJ16
namespace Go.Proofs.Ytacgpipccpmloaa
open Go.RowKit
set_option maxRecDepth 100000
set_option linter.unusedVariables false
theorem cut_upto (p : Option Addr) (len cap : Nat) (H : Int) (h : Nat) (hH : H = h) (h2 : h ≤ cap) (h0 : 0 < h) (w : World) : (Instr.slice 27 (.slice p len cap) none (some (.int .i64 H)) none).run Try.prog w = .ok (.slice p h cap) w := by
  subst hH
  rw [run_slice_h (P := Try.prog) (kh := .i64) (h := (h : Int)) (ht := by kernel_rfl) (h0 := by omega) (h2 := by omega)]
  have hz : (sizeOf (Try.prog.elem 27)).run Try.prog w = .ok 1 w := by kernel_rfl
  rw [hz]
  have hne : ¬ cap = 0 := by omega
  have e : (p.map fun x => x.add (0 * 1)) = p := by
    cases p
    · rfl
    · simp [Addr.add]
  simp only [Result.andThen, sliced, Int.toNat_natCast, if_neg hne, Nat.sub_zero, e]
theorem turned_back (xs : List Int) (k : Nat) (hk : k < xs.length) : (xs.take k).reverse ++ (xs.drop k).reverse = ((xs.take k).reverse ++ (xs.drop (k + 1)).reverse) ++ [xs.getD k 0] := by
  rw [List.drop_eq_getElem_cons hk]
  simp [List.getD_eq_getElem?_getD, hk]
theorem turned_front (xs : List Int) (k : Nat) (hk : k < xs.length) : xs.getD k 0 :: ((xs.take k).reverse ++ (xs.drop (k + 1)).reverse) = (xs.take (k + 1)).reverse ++ (xs.drop (k + 1)).reverse := by
  have : xs.take (k + 1) = xs.take k ++ [xs.getD k 0] := by
    rw [List.take_succ_eq_append_getElem hk]
    simp [List.getD_eq_getElem?_getD, hk]
  rw [this]
  simp
theorem take_snoc (xs : List Int) (k : Nat) (hk : k < xs.length) : xs.take (k + 1) = xs.take k ++ [xs.getD k 0] := by
  rw [List.take_succ_eq_append_getElem hk]
  simp [List.getD_eq_getElem?_getD, hk]
theorem wrap64_id {n : Int} (h : -9223372036854775808 ≤ n) (h2 : n ≤ 9223372036854775807) : wrap64 n = n := by unfold wrap64; omega
set_option maxHeartbeats 4000000 in
theorem ringTurns_true (a0 : Option Addr) (n cap : Nat) (zs : List Int) (a b : Int) (w : World) (h : ISl w a0 n cap zs) (ha : -9223372036854775808 ≤ a) (ha2 : a ≤ 9223372036854775807) (hb : -9223372036854775808 ≤ b) (hb2 : b ≤ 9223372036854775807) :
    Calls Try.prog 5 #[.slice a0 n cap, .int .i64 a, .int .i64 b] w fun e w' => e = .returned (.bool true) ∧ Below w.heap.size w w' := by
  have hle := h.le
  have hlim := h.lim
  have both : ∃ (m : Nat), m ≤ 1000 ∧ ((m = n ∧ decide (1000 < n) = false) ∨ (m = 1000 ∧ decide (1000 < n) = true)) := by
    rcases Nat.lt_or_ge 1000 n with e | e
    · exact ⟨1000, Nat.le_refl _, .inr ⟨rfl, decide_eq_true e⟩⟩
    · exact ⟨n, e, .inl ⟨rfl, decide_eq_false (by omega)⟩⟩
  obtain ⟨m, hm, hmn⟩ := both
  have hmle : m ≤ n := by
    rcases hmn with ⟨e, _⟩ | ⟨e, d⟩
    · omega
    · have := of_decide_eq_true d; omega
  obtain ⟨xs, ex⟩ : ∃ xs, xs = zs.take m := ⟨_, rfl⟩
  have hS : ISl w a0 m cap xs := by rw [ex]; exact h.take hmle
  have HS : Hid (ISl w a0 m cap xs) := hS
  have HX : Hid (xs.length = m) := hS.len
  have hmc := hS.le
  have sl : m = 1000 → ∀ w', (Instr.slice 27 (.slice a0 n cap) none (some (.int .i64 1000)) none).run Try.prog w' = .ok (.slice a0 m cap) w' := fun e w' => cut_upto a0 n cap 1000 m (by omega) (by omega) (by omega) w'
  clear h hS ex
  have tail1 := HS
  rcases hmn with ⟨hmn, hd⟩ | ⟨hmn, hd⟩
  · subst hmn
    clear sl
    go_enter Try.func5, Try.ntmps5
    go_wp2_with fail
    refine (own_new w).mono ?_
    rintro e w1 ⟨rfl, h1⟩
    have H1 : Hid (Own1 w.heap.size w1 w.heap.size w.heap.size [] ∧ Below w.heap.size w w1) := h1
    clear h1
    go_wp2_with fail
    refine (own_new w1).mono ?_
    rintro e w2 ⟨rfl, h2⟩
    obtain ⟨s, es⟩ : ∃ s, s = w1.heap.size := ⟨_, rfl⟩
    rw [← es]
    have H2 : Hid (Duo w.heap.size w w2 w.heap.size s [] []) := by
      obtain ⟨p1, p2⟩ := H1.out
      obtain ⟨q1, q2⟩ := h2.out
      have l1 := p1.lt
      refine ⟨w.heap.size, w1.heap.size, p1.mono q2, ⟨by rw [es]; exact q1.ring, by rw [es]; exact p2.size, p2.size⟩, ⟨by omega, by omega, by omega, by omega⟩, p2.trans (q2.mono p2.size), Nat.le_refl _⟩
    clear h2 H1 es
    go_wp2_with fail
    refine (told_any w2).mono ?_
    rintro e w3 ⟨rfl, h3⟩
    have H3 : Hid (Duo w.heap.size w w3 w.heap.size s [] []) := H2.out.mono h3
    clear h3 H2
    go_wp2_with fail
    go_loopw [9] (fun t wr => ∃ (k : Nat), k ≤ m ∧ t = .int .i64 (k : Int) ∧ Hid (Duo w.heap.size w wr w.heap.size s (xs.take k) (xs.take k).reverse)) (fun t _ => m - (intOf t).toNat)
    case atStart => exact ⟨0, by omega, rfl, H3⟩
    case round =>
      clear H3
      obtain ⟨k, hk, rfl, hD⟩ := hrel
      by_cases hkm : k < m
      · obtain ⟨b1, o1, rfl, hc⟩ := (HS.out.mono hD.out.bel).at (by omega)
        have c1 := hc k hkm
        obtain ⟨x, exx⟩ : ∃ x, x = xs.getD k 0 := ⟨_, rfl⟩
        rw [← exx] at c1
        have HK : Hid (xs.take (k + 1) = xs.take k ++ [x] ∧ (xs.take (k + 1)).reverse = x :: (xs.take k).reverse) := by
          have e1 := take_snoc xs k (by have := HX.out; omega)
          rw [← exx] at e1
          exact ⟨e1, by rw [e1]; simp⟩
        have hkl : (xs.take k).length ≤ 4294967296 := by rw [List.length_take]; omega
        have HL : Hid ((xs.take k).length ≤ 4294967296 ∧ (xs.take k).reverse.length ≤ 4294967296) := ⟨hkl, by rw [List.length_reverse]; exact hkl⟩
        clear hc exx hkl
        go_wp2_with fail
        refine (hD.out.pushBack1 HL.out.1 x).mono ?_
        rintro e w4 ⟨rfl, hD4⟩
        have hB4 := HS.out.mono hD4.out.bel
        obtain ⟨b1', o1', e1', hc'⟩ := hB4.at (by omega)
        cases e1'
        have c2 := hc' k hkm
        have c1w : w4.cell? ⟨b1, o1 + k, none⟩ = some (.int .i64 x) := by
          have := HK.out.1
          rw [c2]
          have e9 : xs.getD k 0 = x := by
            have e8 := take_snoc xs k (by have := HX.out; omega)
            rw [e8] at this
            simpa using this
          rw [e9]
        clear hB4 hc' c2
        go_wp2_with fail
        refine (hD4.out.pushFront2 HL.out.2 x).mono ?_
        rintro e w5 ⟨rfl, hD5⟩
        have H5 : Hid (Duo w.heap.size w w5 w.heap.size s (xs.take (k + 1)) (xs.take (k + 1)).reverse) := by
          have := hD5.out
          rw [← HK.out.1, ← HK.out.2] at this
          exact this
        clear hD5 hD4 hD
        go_wp2_with fail
        go_roundw
        case rel => exact ⟨k + 1, by omega, by go_num, H5⟩
        case measure => simp [intOf]; omega
      · obtain rfl : k = m := by omega
        have H6 : Hid (Duo w.heap.size w wr w.heap.size s xs ((xs.take 0).reverse ++ (xs.drop 0).reverse)) := by
          have := hD.out
          rw [List.take_of_length_le (by have := HX.out; omega)] at this
          show Duo _ _ _ _ _ _ _
          simpa using this
        clear hD
        go_wp2_with fail
        go_loopw [10] (fun t wr => ∃ (j : Nat), j ≤ k ∧ t = .int .i64 (j : Int) ∧ Hid (Duo w.heap.size w wr w.heap.size s xs ((xs.take j).reverse ++ (xs.drop j).reverse))) (fun t _ => k - (intOf t).toNat)
        case atStart => exact ⟨0, by omega, rfl, H6⟩
        case round =>
          clear H6
          obtain ⟨j, hj, rfl, hD⟩ := hrel
          by_cases hjm : j < k
          · obtain ⟨x, exx⟩ : ∃ x, x = xs.getD j 0 := ⟨_, rfl⟩
            obtain ⟨Y, eY⟩ : ∃ Y, Y = (xs.take j).reverse ++ (xs.drop (j + 1)).reverse := ⟨_, rfl⟩
            have HK : Hid ((xs.take j).reverse ++ (xs.drop j).reverse = Y ++ [x] ∧ x :: Y = (xs.take (j + 1)).reverse ++ (xs.drop (j + 1)).reverse ∧ Y.length ≤ 4294967296 ∧ xs.getD j 0 = x) := by
              have hl := HX.out
              refine ⟨by rw [eY, exx]; exact turned_back xs j (by omega), by rw [eY, exx]; exact turned_front xs j (by omega), ?_, exx.symm⟩
              rw [eY]
              simp
              omega
            have D1 : Hid (Duo w.heap.size w wr w.heap.size s xs (Y ++ [x])) := by
              have := hD.out
              rw [HK.out.1] at this
              exact this
            clear hD exx eY
            go_wp2_with fail
            refine (D1.out.popBack2 x Y rfl).mono ?_
            rintro e w4 ⟨rfl, D2⟩
            obtain ⟨b1, o1, rfl, hc⟩ := (HS.out.mono D2.out.bel).at (by omega)
            have c1 := hc j hjm
            rw [HK.out.2.2.2] at c1
            clear hc
            go_wp2_with fail
            refine (D2.out.pushBack2 HK.out.2.2.1 x).mono ?_
            rintro e w5 ⟨rfl, D3⟩
            go_wp2_with fail
            refine (D3.out.popBack2 x Y rfl).mono ?_
            rintro e w6 ⟨rfl, D4⟩
            go_wp2_with fail
            refine (D4.out.pushFront2 HK.out.2.2.1 x).mono ?_
            rintro e w7 ⟨rfl, D5⟩
            have H7 : Hid (Duo w.heap.size w w7 w.heap.size s xs ((xs.take (j + 1)).reverse ++ (xs.drop (j + 1)).reverse)) := by
              have := D5.out
              rw [HK.out.2.1] at this
              exact this
            clear D1 D2 D3 D4 D5
            go_wp2_with fail
            go_roundw
            case rel => exact ⟨j + 1, by omega, by go_num, H7⟩
            case measure => simp [intOf]; omega
          · obtain rfl : j = k := by omega
            obtain ⟨Y, eY⟩ : ∃ Y, Y = (xs.take j).reverse ++ (xs.drop j).reverse := ⟨_, rfl⟩
            have HY : Hid (Y.length = j) := by
              have := HX.out
              show Y.length = j
              rw [eY]
              simp
              omega
            have D1 : Hid (Duo w.heap.size w wr w.heap.size s xs Y) := by rw [eY]; exact hD
            have hjl : xs.length ≤ 4294967296 := by have := HX.out; omega
            have HJ : Hid (∀ c : Int, (rt c xs).length ≤ 4294967296) := fun c => by rw [rt_length]; exact hjl
            clear hD eY hjl
            go_wp2_with fail
            refine (D1.out.turn1 (by have := HX.out; omega) a ha ha2).mono ?_
            rintro e w4 ⟨rfl, D2⟩
            go_wp2_with fail
            refine (D2.out.turn1 (HJ.out _) b hb hb2).mono ?_
            rintro e w5 ⟨rfl, D3⟩
            have D3' : Hid (Duo w.heap.size w w5 w.heap.size s (rt (b + a) xs) Y) := by
              have := D3.out
              rw [rt_rt] at this
              exact this
            clear D1 D2 D3
            go_wp2_with fail
            refine (D3'.out.turn1 (HJ.out _) (j : Int) (by omega) (by omega)).mono ?_
            rintro e w6 ⟨rfl, D4⟩
            have D4' : Hid (Duo w.heap.size w w6 w.heap.size s (rt (b + a) xs) Y) := by
              have := D4.out
              rw [rt_rt, show (j : Int) + (b + a) = (b + a) + (xs.length : Int) by have := HX.out; omega, rt_add] at this
              exact this
            clear D3' D4
            have five : (decide (-2305843009213693952 < a) = true ∧ decide (a < 2305843009213693952) = true ∧ decide (-2305843009213693952 < b) = true ∧ decide (b < 2305843009213693952) = true) ∨ decide (-2305843009213693952 < a) = false ∨ (decide (-2305843009213693952 < a) = true ∧ decide (a < 2305843009213693952) = false) ∨ (decide (-2305843009213693952 < a) = true ∧ decide (a < 2305843009213693952) = true ∧ decide (-2305843009213693952 < b) = false) ∨ (decide (-2305843009213693952 < a) = true ∧ decide (a < 2305843009213693952) = true ∧ decide (-2305843009213693952 < b) = true ∧ decide (b < 2305843009213693952) = false) := by
              cases decide (-2305843009213693952 < a) <;> cases decide (a < 2305843009213693952) <;> cases decide (-2305843009213693952 < b) <;> cases decide (b < 2305843009213693952) <;> simp
            have FIN : Hid (∀ (v : Int), v + (b + a) = 0 → rt v (rt (b + a) xs) = xs) := fun v hv => by rw [rt_rt, hv, rt_zero]
            rcases five with ⟨t1, t2, t3, t4⟩ | t1 | ⟨t1, t2⟩ | ⟨t1, t2, t3⟩ | ⟨t1, t2, t3, t4⟩
            · have HT : Hid (-2305843009213693952 < a ∧ a < 2305843009213693952 ∧ -2305843009213693952 < b ∧ b < 2305843009213693952) := ⟨of_decide_eq_true t1, of_decide_eq_true t2, of_decide_eq_true t3, of_decide_eq_true t4⟩
              have wn : wrap64 (-a) = -a := by have := HT.out; unfold wrap64; omega
              have wn2 : wrap64 (-a - b) = -a - b := by have := HT.out; unfold wrap64; omega
              have wn3 : IntKind.i64.wrap (-a) = -a := by have := HT.out; rw [IntKind.wrap_i64]; omega
              have wn4 : IntKind.i64.wrap (-a - b) = -a - b := by have := HT.out; rw [IntKind.wrap_i64]; omega
              go_wp2_with fail
              refine (D4'.out.turn1 (HJ.out _) (-a - b) (by have := HT.out; omega) (by have := HT.out; omega)).mono ?_
              rintro e w7 ⟨rfl, D5⟩
              have D6 : Hid (Duo w.heap.size w w7 w.heap.size s xs Y) := by
                have := D5.out
                rw [FIN.out _ (by omega)] at this
                exact this
              clear D5 D4' t1 t2 t3 t4 wn wn2 wn3 wn4
              go_wp2_with fail
              refine (D6.out.list j HX.out).mono ?_
              rintro e w8 ⟨rfl, H8⟩
              go_wp2_with fail
              refine (same_yes _ a0 j j cap xs w8 (ISl.of_row H8.out.1 (by omega) HX.out) (HS.out.mono H8.out.2.bel)).mono ?_
              rintro e w9 ⟨rfl, nd, rfl⟩
              go_wp2_with fail
              refine (H8.out.2.drew nd).len2.mono ?_
              rintro e w10 ⟨rfl, e10⟩
              rw [e10, HY.out]
              clear e10
              go_wp2_with fail
              go_ret
              exact ⟨rfl, (H8.out.2.drew nd).bel⟩
            all_goals (
              obtain ⟨B1, hB1⟩ : ∃ B1, wrap64 (b + 1) = B1 := ⟨_, rfl⟩
              have hB2 : wrap64 (-B1) = -(b + 1) := by rw [← hB1]; unfold wrap64; omega
              obtain ⟨A1, hA1⟩ : ∃ A1, wrap64 (a + 1) = A1 := ⟨_, rfl⟩
              have hA2 : wrap64 (-A1) = -(a + 1) := by rw [← hA1]; unfold wrap64; omega
              go_wp2_with fail
              refine (D4'.out.turn1 (HJ.out _) (-(b + 1)) (by omega) (by omega)).mono ?_
              rintro e w7 ⟨rfl, D5⟩
              have D6 : Hid (Duo w.heap.size w w7 w.heap.size s (rt (a - 1) xs) Y) := by
                have := D5.out
                rw [rt_rt, show -(b + 1) + (b + a) = a - 1 by omega] at this
                exact this
              clear D5 D4' hB1 hB2
              go_wp2_with fail
              refine (D6.out.turn1 (HJ.out _) 1 (by omega) (by omega)).mono ?_
              rintro e w8 ⟨rfl, D7⟩
              have D8 : Hid (Duo w.heap.size w w8 w.heap.size s (rt a xs) Y) := by
                have := D7.out
                rw [rt_rt, show 1 + (a - 1) = a by omega] at this
                exact this
              clear D6 D7
              go_wp2_with fail
              refine (D8.out.turn1 (HJ.out _) (-(a + 1)) (by omega) (by omega)).mono ?_
              rintro e w9 ⟨rfl, D9⟩
              have D10 : Hid (Duo w.heap.size w w9 w.heap.size s (rt (-1) xs) Y) := by
                have := D9.out
                rw [rt_rt, show -(a + 1) + a = -1 by omega] at this
                exact this
              clear D8 D9 hA1 hA2
              go_wp2_with fail
              refine (D10.out.turn1 (HJ.out _) 1 (by omega) (by omega)).mono ?_
              rintro e w7 ⟨rfl, D11⟩
              have D6 : Hid (Duo w.heap.size w w7 w.heap.size s xs Y) := by
                have := D11.out
                rw [rt_rt, show (1 : Int) + -1 = 0 by omega, rt_zero] at this
                exact this
              clear D10 D11
              go_wp2_with fail
              refine (D6.out.list j HX.out).mono ?_
              rintro e w8 ⟨rfl, H8⟩
              go_wp2_with fail
              refine (same_yes _ a0 j j cap xs w8 (ISl.of_row H8.out.1 (by omega) HX.out) (HS.out.mono H8.out.2.bel)).mono ?_
              rintro e w9 ⟨rfl, nd, rfl⟩
              go_wp2_with fail
              refine (H8.out.2.drew nd).len2.mono ?_
              rintro e w10 ⟨rfl, e10⟩
              rw [e10, HY.out]
              clear e10
              go_wp2_with fail
              go_ret
              exact ⟨rfl, (H8.out.2.drew nd).bel⟩)
  · have sl2 := sl hmn
    have hd2 : decide ((1000 : Int) < (n : Int)) = true := decide_eq_true (by have := of_decide_eq_true hd; omega)
    clear sl hmn
    go_enter Try.func5, Try.ntmps5
    go_wp2_with fail
    refine (own_new w).mono ?_
    rintro e w1 ⟨rfl, h1⟩
    have H1 : Hid (Own1 w.heap.size w1 w.heap.size w.heap.size [] ∧ Below w.heap.size w w1) := h1
    clear h1
    go_wp2_with fail
    refine (own_new w1).mono ?_
    rintro e w2 ⟨rfl, h2⟩
    obtain ⟨s, es⟩ : ∃ s, s = w1.heap.size := ⟨_, rfl⟩
    rw [← es]
    have H2 : Hid (Duo w.heap.size w w2 w.heap.size s [] []) := by
      obtain ⟨p1, p2⟩ := H1.out
      obtain ⟨q1, q2⟩ := h2.out
      have l1 := p1.lt
      refine ⟨w.heap.size, w1.heap.size, p1.mono q2, ⟨by rw [es]; exact q1.ring, by rw [es]; exact p2.size, p2.size⟩, ⟨by omega, by omega, by omega, by omega⟩, p2.trans (q2.mono p2.size), Nat.le_refl _⟩
    clear h2 H1 es
    go_wp2_with fail
    refine (told_any w2).mono ?_
    rintro e w3 ⟨rfl, h3⟩
    have H3 : Hid (Duo w.heap.size w w3 w.heap.size s [] []) := H2.out.mono h3
    clear h3 H2
    go_wp2_with fail
    go_loopw [9] (fun t wr => ∃ (k : Nat), k ≤ m ∧ t = .int .i64 (k : Int) ∧ Hid (Duo w.heap.size w wr w.heap.size s (xs.take k) (xs.take k).reverse)) (fun t _ => m - (intOf t).toNat)
    case atStart => exact ⟨0, by omega, rfl, H3⟩
    case round =>
      clear H3
      obtain ⟨k, hk, rfl, hD⟩ := hrel
      by_cases hkm : k < m
      · obtain ⟨b1, o1, rfl, hc⟩ := (HS.out.mono hD.out.bel).at (by omega)
        have c1 := hc k hkm
        obtain ⟨x, exx⟩ : ∃ x, x = xs.getD k 0 := ⟨_, rfl⟩
        rw [← exx] at c1
        have HK : Hid (xs.take (k + 1) = xs.take k ++ [x] ∧ (xs.take (k + 1)).reverse = x :: (xs.take k).reverse) := by
          have e1 := take_snoc xs k (by have := HX.out; omega)
          rw [← exx] at e1
          exact ⟨e1, by rw [e1]; simp⟩
        have hkl : (xs.take k).length ≤ 4294967296 := by rw [List.length_take]; omega
        have HL : Hid ((xs.take k).length ≤ 4294967296 ∧ (xs.take k).reverse.length ≤ 4294967296) := ⟨hkl, by rw [List.length_reverse]; exact hkl⟩
        clear hc exx hkl
        go_wp2_with fail
        refine (hD.out.pushBack1 HL.out.1 x).mono ?_
        rintro e w4 ⟨rfl, hD4⟩
        have hB4 := HS.out.mono hD4.out.bel
        obtain ⟨b1', o1', e1', hc'⟩ := hB4.at (by omega)
        cases e1'
        have c2 := hc' k hkm
        have c1w : w4.cell? ⟨b1, o1 + k, none⟩ = some (.int .i64 x) := by
          have := HK.out.1
          rw [c2]
          have e9 : xs.getD k 0 = x := by
            have e8 := take_snoc xs k (by have := HX.out; omega)
            rw [e8] at this
            simpa using this
          rw [e9]
        clear hB4 hc' c2
        go_wp2_with fail
        refine (hD4.out.pushFront2 HL.out.2 x).mono ?_
        rintro e w5 ⟨rfl, hD5⟩
        have H5 : Hid (Duo w.heap.size w w5 w.heap.size s (xs.take (k + 1)) (xs.take (k + 1)).reverse) := by
          have := hD5.out
          rw [← HK.out.1, ← HK.out.2] at this
          exact this
        clear hD5 hD4 hD
        go_wp2_with fail
        go_roundw
        case rel => exact ⟨k + 1, by omega, by go_num, H5⟩
        case measure => simp [intOf]; omega
      · obtain rfl : k = m := by omega
        have H6 : Hid (Duo w.heap.size w wr w.heap.size s xs ((xs.take 0).reverse ++ (xs.drop 0).reverse)) := by
          have := hD.out
          rw [List.take_of_length_le (by have := HX.out; omega)] at this
          show Duo _ _ _ _ _ _ _
          simpa using this
        clear hD
        go_wp2_with fail
        go_loopw [10] (fun t wr => ∃ (j : Nat), j ≤ k ∧ t = .int .i64 (j : Int) ∧ Hid (Duo w.heap.size w wr w.heap.size s xs ((xs.take j).reverse ++ (xs.drop j).reverse))) (fun t _ => k - (intOf t).toNat)
        case atStart => exact ⟨0, by omega, rfl, H6⟩
        case round =>
          clear H6
          obtain ⟨j, hj, rfl, hD⟩ := hrel
          by_cases hjm : j < k
          · obtain ⟨x, exx⟩ : ∃ x, x = xs.getD j 0 := ⟨_, rfl⟩
            obtain ⟨Y, eY⟩ : ∃ Y, Y = (xs.take j).reverse ++ (xs.drop (j + 1)).reverse := ⟨_, rfl⟩
            have HK : Hid ((xs.take j).reverse ++ (xs.drop j).reverse = Y ++ [x] ∧ x :: Y = (xs.take (j + 1)).reverse ++ (xs.drop (j + 1)).reverse ∧ Y.length ≤ 4294967296 ∧ xs.getD j 0 = x) := by
              have hl := HX.out
              refine ⟨by rw [eY, exx]; exact turned_back xs j (by omega), by rw [eY, exx]; exact turned_front xs j (by omega), ?_, exx.symm⟩
              rw [eY]
              simp
              omega
            have D1 : Hid (Duo w.heap.size w wr w.heap.size s xs (Y ++ [x])) := by
              have := hD.out
              rw [HK.out.1] at this
              exact this
            clear hD exx eY
            go_wp2_with fail
            refine (D1.out.popBack2 x Y rfl).mono ?_
            rintro e w4 ⟨rfl, D2⟩
            obtain ⟨b1, o1, rfl, hc⟩ := (HS.out.mono D2.out.bel).at (by omega)
            have c1 := hc j hjm
            rw [HK.out.2.2.2] at c1
            clear hc
            go_wp2_with fail
            refine (D2.out.pushBack2 HK.out.2.2.1 x).mono ?_
            rintro e w5 ⟨rfl, D3⟩
            go_wp2_with fail
            refine (D3.out.popBack2 x Y rfl).mono ?_
            rintro e w6 ⟨rfl, D4⟩
            go_wp2_with fail
            refine (D4.out.pushFront2 HK.out.2.2.1 x).mono ?_
            rintro e w7 ⟨rfl, D5⟩
            have H7 : Hid (Duo w.heap.size w w7 w.heap.size s xs ((xs.take (j + 1)).reverse ++ (xs.drop (j + 1)).reverse)) := by
              have := D5.out
              rw [HK.out.2.1] at this
              exact this
            clear D1 D2 D3 D4 D5
            go_wp2_with fail
            go_roundw
            case rel => exact ⟨j + 1, by omega, by go_num, H7⟩
            case measure => simp [intOf]; omega
          · obtain rfl : j = k := by omega
            obtain ⟨Y, eY⟩ : ∃ Y, Y = (xs.take j).reverse ++ (xs.drop j).reverse := ⟨_, rfl⟩
            have HY : Hid (Y.length = j) := by
              have := HX.out
              show Y.length = j
              rw [eY]
              simp
              omega
            have D1 : Hid (Duo w.heap.size w wr w.heap.size s xs Y) := by rw [eY]; exact hD
            have hjl : xs.length ≤ 4294967296 := by have := HX.out; omega
            have HJ : Hid (∀ c : Int, (rt c xs).length ≤ 4294967296) := fun c => by rw [rt_length]; exact hjl
            clear hD eY hjl
            go_wp2_with fail
            refine (D1.out.turn1 (by have := HX.out; omega) a ha ha2).mono ?_
            rintro e w4 ⟨rfl, D2⟩
            go_wp2_with fail
            refine (D2.out.turn1 (HJ.out _) b hb hb2).mono ?_
            rintro e w5 ⟨rfl, D3⟩
            have D3' : Hid (Duo w.heap.size w w5 w.heap.size s (rt (b + a) xs) Y) := by
              have := D3.out
              rw [rt_rt] at this
              exact this
            clear D1 D2 D3
            go_wp2_with fail
            refine (D3'.out.turn1 (HJ.out _) (j : Int) (by omega) (by omega)).mono ?_
            rintro e w6 ⟨rfl, D4⟩
            have D4' : Hid (Duo w.heap.size w w6 w.heap.size s (rt (b + a) xs) Y) := by
              have := D4.out
              rw [rt_rt, show (j : Int) + (b + a) = (b + a) + (xs.length : Int) by have := HX.out; omega, rt_add] at this
              exact this
            clear D3' D4
            have five : (decide (-2305843009213693952 < a) = true ∧ decide (a < 2305843009213693952) = true ∧ decide (-2305843009213693952 < b) = true ∧ decide (b < 2305843009213693952) = true) ∨ decide (-2305843009213693952 < a) = false ∨ (decide (-2305843009213693952 < a) = true ∧ decide (a < 2305843009213693952) = false) ∨ (decide (-2305843009213693952 < a) = true ∧ decide (a < 2305843009213693952) = true ∧ decide (-2305843009213693952 < b) = false) ∨ (decide (-2305843009213693952 < a) = true ∧ decide (a < 2305843009213693952) = true ∧ decide (-2305843009213693952 < b) = true ∧ decide (b < 2305843009213693952) = false) := by
              cases decide (-2305843009213693952 < a) <;> cases decide (a < 2305843009213693952) <;> cases decide (-2305843009213693952 < b) <;> cases decide (b < 2305843009213693952) <;> simp
            have FIN : Hid (∀ (v : Int), v + (b + a) = 0 → rt v (rt (b + a) xs) = xs) := fun v hv => by rw [rt_rt, hv, rt_zero]
            rcases five with ⟨t1, t2, t3, t4⟩ | t1 | ⟨t1, t2⟩ | ⟨t1, t2, t3⟩ | ⟨t1, t2, t3, t4⟩
            · have HT : Hid (-2305843009213693952 < a ∧ a < 2305843009213693952 ∧ -2305843009213693952 < b ∧ b < 2305843009213693952) := ⟨of_decide_eq_true t1, of_decide_eq_true t2, of_decide_eq_true t3, of_decide_eq_true t4⟩
              have wn : wrap64 (-a) = -a := by have := HT.out; unfold wrap64; omega
              have wn2 : wrap64 (-a - b) = -a - b := by have := HT.out; unfold wrap64; omega
              have wn3 : IntKind.i64.wrap (-a) = -a := by have := HT.out; rw [IntKind.wrap_i64]; omega
              have wn4 : IntKind.i64.wrap (-a - b) = -a - b := by have := HT.out; rw [IntKind.wrap_i64]; omega
              go_wp2_with fail
              refine (D4'.out.turn1 (HJ.out _) (-a - b) (by have := HT.out; omega) (by have := HT.out; omega)).mono ?_
              rintro e w7 ⟨rfl, D5⟩
              have D6 : Hid (Duo w.heap.size w w7 w.heap.size s xs Y) := by
                have := D5.out
                rw [FIN.out _ (by omega)] at this
                exact this
              clear D5 D4' t1 t2 t3 t4 wn wn2 wn3 wn4
              go_wp2_with fail
              refine (D6.out.list j HX.out).mono ?_
              rintro e w8 ⟨rfl, H8⟩
              go_wp2_with fail
              refine (same_yes _ a0 j j cap xs w8 (ISl.of_row H8.out.1 (by omega) HX.out) (HS.out.mono H8.out.2.bel)).mono ?_
              rintro e w9 ⟨rfl, nd, rfl⟩
              go_wp2_with fail
              refine (H8.out.2.drew nd).len2.mono ?_
              rintro e w10 ⟨rfl, e10⟩
              rw [e10, HY.out]
              clear e10
              go_wp2_with fail
              go_ret
              exact ⟨rfl, (H8.out.2.drew nd).bel⟩
            all_goals (
              obtain ⟨B1, hB1⟩ : ∃ B1, wrap64 (b + 1) = B1 := ⟨_, rfl⟩
              have hB2 : wrap64 (-B1) = -(b + 1) := by rw [← hB1]; unfold wrap64; omega
              obtain ⟨A1, hA1⟩ : ∃ A1, wrap64 (a + 1) = A1 := ⟨_, rfl⟩
              have hA2 : wrap64 (-A1) = -(a + 1) := by rw [← hA1]; unfold wrap64; omega
              go_wp2_with fail
              refine (D4'.out.turn1 (HJ.out _) (-(b + 1)) (by omega) (by omega)).mono ?_
              rintro e w7 ⟨rfl, D5⟩
              have D6 : Hid (Duo w.heap.size w w7 w.heap.size s (rt (a - 1) xs) Y) := by
                have := D5.out
                rw [rt_rt, show -(b + 1) + (b + a) = a - 1 by omega] at this
                exact this
              clear D5 D4' hB1 hB2
              go_wp2_with fail
              refine (D6.out.turn1 (HJ.out _) 1 (by omega) (by omega)).mono ?_
              rintro e w8 ⟨rfl, D7⟩
              have D8 : Hid (Duo w.heap.size w w8 w.heap.size s (rt a xs) Y) := by
                have := D7.out
                rw [rt_rt, show 1 + (a - 1) = a by omega] at this
                exact this
              clear D6 D7
              go_wp2_with fail
              refine (D8.out.turn1 (HJ.out _) (-(a + 1)) (by omega) (by omega)).mono ?_
              rintro e w9 ⟨rfl, D9⟩
              have D10 : Hid (Duo w.heap.size w w9 w.heap.size s (rt (-1) xs) Y) := by
                have := D9.out
                rw [rt_rt, show -(a + 1) + a = -1 by omega] at this
                exact this
              clear D8 D9 hA1 hA2
              go_wp2_with fail
              refine (D10.out.turn1 (HJ.out _) 1 (by omega) (by omega)).mono ?_
              rintro e w7 ⟨rfl, D11⟩
              have D6 : Hid (Duo w.heap.size w w7 w.heap.size s xs Y) := by
                have := D11.out
                rw [rt_rt, show (1 : Int) + -1 = 0 by omega, rt_zero] at this
                exact this
              clear D10 D11
              go_wp2_with fail
              refine (D6.out.list j HX.out).mono ?_
              rintro e w8 ⟨rfl, H8⟩
              go_wp2_with fail
              refine (same_yes _ a0 j j cap xs w8 (ISl.of_row H8.out.1 (by omega) HX.out) (HS.out.mono H8.out.2.bel)).mono ?_
              rintro e w9 ⟨rfl, nd, rfl⟩
              go_wp2_with fail
              refine (H8.out.2.drew nd).len2.mono ?_
              rintro e w10 ⟨rfl, e10⟩
              rw [e10, HY.out]
              clear e10
              go_wp2_with fail
              go_ret
              exact ⟨rfl, (H8.out.2.drew nd).bel⟩)
end Go.Proofs.Ytacgpipccpmloaa
