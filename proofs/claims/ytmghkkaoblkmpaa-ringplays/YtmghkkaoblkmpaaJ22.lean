/- Contracts of the program's functions, part 22: own work, joined in build order. -/
import Derived.Test.YtmghkkaoblkmpaaJ21
namespace Go.Proofs.Ytmghkkaoblkmpaa
open Go.RowKit
set_option maxRecDepth 100000
set_option linter.unusedVariables false
set_option maxHeartbeats 2000000 in
theorem turned_any (a : Option Addr) (c cap : Nat) (xs : List Int) (n : Int) (w : World) (h : ISx w a c cap xs) (hn : -9223372036854775808 ≤ n) (hn2 : n ≤ 9223372036854775807) (hc : c ≤ 1073741824) :
    Calls Try.prog 42 #[.slice a c cap, .int .i64 n] w fun e w' => ∃ v, e = .returned v ∧ Gl w (.slice a c cap) xs (rt n xs) v w' := by
  have hlen := h.sl.len
  have hle := h.sl.le
  have hlim := h.sl.lim
  by_cases hc0 : c = 0
  · have d0 : ((c : Int) == 0) = true := by simp <;> omega
    have HR : Hid (rt n xs = xs) := by
      have e : xs = [] := List.eq_nil_of_length_eq_zero (by omega)
      show rt n xs = xs
      rw [e]
      exact rt_nil n
    clear h hlen
    go_enter Try.func42, Try.ntmps42
    go_wp2_with fail
    go_ret
    exact ⟨_, rfl, .inl ⟨rfl, HR.out⟩, Below.refl _ _⟩
  · have d0 : ((c : Int) == 0) = false := by simp <;> omega
    obtain ⟨q, hq⟩ : ∃ q, n.tmod (c : Int) = q := ⟨_, rfl⟩
    have hq1 : q < (c : Int) := by
      have := Int.tmod_lt_of_pos n (show (0 : Int) < (c : Int) by omega)
      omega
    have hq2 : -(c : Int) < q := by
      have := Int.lt_tmod_of_pos n (show (0 : Int) < (c : Int) by omega)
      omega
    have hrt : rt q xs = rt n xs := rt_tmod n q xs (by rw [hlen]; exact hq)
    have key : ∃ k : Nat, k < c ∧ rt n xs = xs.drop k ++ xs.take k ∧ ((q < 0 ∧ q + (c : Int) = (k : Int)) ∨ q = (k : Int)) := by
      rcases Int.lt_or_le q 0 with e | e
      · refine ⟨(q + (c : Int)).toNat, by omega, ?_, .inl ⟨e, by omega⟩⟩
        rw [← hrt, ← rt_add, hlen]
        unfold rt rl
        rw [hlen, Int.emod_eq_of_lt (by omega) (by omega)]
      · refine ⟨q.toNat, by omega, ?_, .inr (by omega)⟩
        rw [← hrt]
        unfold rt rl
        rw [hlen, Int.emod_eq_of_lt e hq1]
    obtain ⟨k, hk, ek, hqk⟩ := key
    obtain ⟨q1, c1, x1, s1⟩ := cut_lo h k (by omega)
    obtain ⟨q2, x2, s2⟩ := cut_hi h k (by omega)
    have HX : Hid (ISx w q1 (c - k) c1 (xs.drop k) ∧ ISx w q2 k cap (xs.take k) ∧ (xs.drop k).length ≤ 1073741824 ∧ rt n xs = xs.drop k ++ xs.take k) := ⟨x1, x2, by rw [List.length_drop]; omega, ek⟩
    clear x1 x2 h hlen ek hrt
    rcases hqk with ⟨hneg, hqk⟩ | hqk
    · have d1 : decide (q < 0) = true := decide_eq_true hneg
      go_enter Try.func42, Try.ntmps42
      go_wp2_with (refine (id ?_ : wpList Try.prog _ _ (⟨some 25, _, _, _, _, _⟩ :: _) _ _); refine wp_app rfl (.tmp 21) (.tmp 24) rfl w.heap.size _ [] rfl (Ow.nil _ _) _ _ _ _ rfl HX.out.1 (by simp; omega) (Nat.le_refl _) ?_)
      intro v1 w1 H1
      go_wp2_with (refine (id ?_ : wpList Try.prog _ _ (⟨some 30, _, _, _, _, _⟩ :: _) _ _); refine wp_app rfl (.tmp 26) (.tmp 29) rfl w.heap.size _ _ rfl H1.out.1 _ _ _ _ rfl (HX.out.2.1.mono H1.out.2) (by have := HX.out.2.2.1; first | omega | (simp; omega)) H1.out.2.size ?_)
      intro v3 w3 H3
      go_wp2_with fail
      go_ret
      refine ⟨v3, rfl, .inr ?_, H1.out.2.trans H3.out.2⟩
      rw [HX.out.2.2.2]
      have := H3.out.1
      simpa using this
    · subst hqk
      have d1 : decide ((k : Int) < 0) = false := decide_eq_false (by omega)
      go_enter Try.func42, Try.ntmps42
      go_wp2_with (refine (id ?_ : wpList Try.prog _ _ (⟨some 25, _, _, _, _, _⟩ :: _) _ _); refine wp_app rfl (.tmp 21) (.tmp 24) rfl w.heap.size _ [] rfl (Ow.nil _ _) _ _ _ _ rfl HX.out.1 (by simp; omega) (Nat.le_refl _) ?_)
      intro v1 w1 H1
      go_wp2_with (refine (id ?_ : wpList Try.prog _ _ (⟨some 30, _, _, _, _, _⟩ :: _) _ _); refine wp_app rfl (.tmp 26) (.tmp 29) rfl w.heap.size _ _ rfl H1.out.1 _ _ _ _ rfl (HX.out.2.1.mono H1.out.2) (by have := HX.out.2.2.1; first | omega | (simp; omega)) H1.out.2.size ?_)
      intro v3 w3 H3
      go_wp2_with fail
      go_ret
      refine ⟨v3, rfl, .inr ?_, H1.out.2.trans H3.out.2⟩
      rw [HX.out.2.2.2]
      have := H3.out.1
      simpa using this
set_option maxHeartbeats 4000000 in
theorem ends_any (a : Option Addr) (c cap : Nat) (xs : List Int) (i : Int) (r g N f : Nat) (w : World) (hR : RI w r g N f xs.length xs) (h : ISx w a c cap xs) :
    Calls Try.prog 15 #[.pointer (some ⟨r, 0, none⟩), .slice a c cap, .int .i64 i] w fun e w' => e = .returned (.bool true) ∧ ∃ n, w' = w.drewN n := by
  have hlen := h.sl.len
  have hle := h.sl.le
  have hlim := h.sl.lim
  have HR : Hid (∀ nd, RI (w.drewN nd) r g N f xs.length xs) := fun nd => hR.of_blocks rfl rfl
  by_cases hc0 : c = 0
  · subst hc0
    obtain rfl : xs = [] := List.eq_nil_of_length_eq_zero hlen
    have g1 : getI (0 : Int) ([] : List Int) 0 = 0 := rfl
    have g2 : getI ((([] : List Int).length : Int) - 1) ([] : List Int) 0 = 0 := rfl
    have g3 : getI i ([] : List Int) 0 = 0 := by unfold getI; split <;> rfl
    have o1 : inR 0 ([] : List Int).length = false := rfl
    have o2 : inR ((([] : List Int).length : Int) - 1) ([] : List Int).length = false := rfl
    have o3 : inR i ([] : List Int).length = false := decide_eq_false (by simp <;> omega)
    have G : Hid _ := And.intro g1 (And.intro g2 (And.intro g3 (And.intro o1 (And.intro o2 o3))))
    clear h hlen hR g1 g2 g3 o1 o2 o3
    have ways : (decide (0 ≤ i) = false) ∨ (decide (0 ≤ i) = true ∧ decide (i < 0) = false) := by
      simp only [decide_eq_false_iff_not, decide_eq_true_eq]
      omega
    rcases ways with d1 | ⟨d1, d2⟩
    all_goals (
      go_enter Try.func15, Try.ntmps15
      go_wp2_with fail
      refine (frontI_q r g N f [] w (HR.out 0)).mono ?_
      rintro e w1 ⟨rfl, n1, rfl⟩
      rw [G.out.1, G.out.2.2.2.1]
      go_wp2_with fail
      refine (backI_q r g N f [] (w.drewN n1) (HR.out n1)).mono ?_
      rintro e w1 ⟨rfl, n2, rfl⟩
      rw [G.out.2.1, G.out.2.2.2.2.1]
      go_wp2_with fail
      refine (atI_q r g N f [] i (w.drewN (n1 + n2)) (HR.out _)).mono ?_
      rintro e w1 ⟨rfl, n3, rfl⟩
      rw [G.out.2.2.1, G.out.2.2.2.2.2]
      go_wp2_with fail
      refine (lenI_any r g N f _ [] _ (HR.out (n1 + n2 + n3))).mono ?_
      rintro e w1 ⟨rfl, e1⟩
      rw [e1]
      clear e1
      go_wp2_with fail
      go_ret
      exact ⟨rfl, _, rfl⟩)
  · obtain ⟨d, rfl⟩ : ∃ d, c = d + 1 := ⟨c - 1, by omega⟩
    obtain ⟨b, o, rfl, hcell⟩ := h.sl.at (by omega)
    obtain ⟨x0, ex0⟩ : ∃ x0, xs.getD 0 0 = x0 := ⟨_, rfl⟩
    obtain ⟨xl, exl⟩ : ∃ xl, xs.getD d 0 = xl := ⟨_, rfl⟩
    have c0 := hcell 0 (by omega)
    have cl := hcell d (by omega)
    rw [ex0, Nat.add_zero] at c0
    rw [exl] at cl
    have e9 : (xs.length : Int) - 1 = (d : Int) := by omega
    have o1 : inR 0 xs.length = true := decide_eq_true (by omega)
    have o2 : inR ((xs.length : Int) - 1) xs.length = true := decide_eq_true (by omega)
    have g1 : getI (0 : Int) xs 0 = x0 := by unfold getI; rw [if_pos o1, ← ex0]; rfl
    have g2 : getI ((xs.length : Int) - 1) xs 0 = xl := by unfold getI; rw [if_pos o2, ← exl, e9]; rfl
    have G : Hid (getI (0 : Int) xs 0 = x0 ∧ inR 0 xs.length = true ∧ getI ((xs.length : Int) - 1) xs 0 = xl ∧ inR ((xs.length : Int) - 1) xs.length = true) := ⟨g1, o1, g2, o2⟩
    have HL : Hid (xs.length = d + 1) := hlen
    rcases Int.lt_or_le i 0 with h1 | h1
    · have d1 : decide (0 ≤ i) = false := decide_eq_false (by omega)
      have o3 : inR i xs.length = false := decide_eq_false (by omega)
      have G3 : Hid (getI i xs 0 = 0 ∧ inR i xs.length = false) := ⟨getI_no _ _ _ o3, o3⟩
      clear h hlen hR g1 g2 o1 o2 o3 e9 hcell ex0 exl h1
      go_enter Try.func15, Try.ntmps15
      go_wp2_with fail
      refine (frontI_q r g N f xs w (HR.out 0)).mono ?_
      rintro e w1 ⟨rfl, n1, rfl⟩
      rw [G.out.1, G.out.2.1]
      go_wp2_with fail
      refine (backI_q r g N f xs (w.drewN n1) (HR.out n1)).mono ?_
      rintro e w1 ⟨rfl, n2, rfl⟩
      rw [G.out.2.2.1, G.out.2.2.2]
      go_wp2_with fail
      refine (atI_q r g N f xs i (w.drewN (n1 + n2)) (HR.out _)).mono ?_
      rintro e w1 ⟨rfl, n3, rfl⟩
      rw [G3.out.1, G3.out.2]
      go_wp2_with fail
      refine (lenI_any r g N f _ xs _ (HR.out (n1 + n2 + n3))).mono ?_
      rintro e w1 ⟨rfl, e1⟩
      rw [e1, HL.out]
      clear e1
      go_wp2_with fail
      go_ret
      exact ⟨rfl, _, rfl⟩
    · rcases Int.lt_or_le i ((d : Int) + 1) with h2 | h2
      · obtain ⟨j, rfl⟩ : ∃ j : Nat, i = (j : Int) := ⟨i.toNat, by omega⟩
        obtain ⟨x, ex⟩ : ∃ x, xs.getD j 0 = x := ⟨_, rfl⟩
        have cx := hcell j (by omega)
        rw [ex] at cx
        have hjd : j < d + 1 := by omega
        have o3 : inR (j : Int) xs.length = true := decide_eq_true (by omega)
        have G3 : Hid (getI (j : Int) xs 0 = x ∧ inR (j : Int) xs.length = true) := ⟨by unfold getI; rw [if_pos o3, ← ex]; rfl, o3⟩
        have d1 : decide ((0 : Int) ≤ (j : Int)) = true := decide_eq_true (by omega)
        have d2 : decide ((j : Int) < (d : Int) + 1) = true := decide_eq_true (by omega)
        clear h hlen hR g1 g2 o1 o2 o3 e9 hcell ex0 exl ex h1 h2
        go_enter Try.func15, Try.ntmps15
        go_wp2_with fail
        refine (frontI_q r g N f xs w (HR.out 0)).mono ?_
        rintro e w1 ⟨rfl, n1, rfl⟩
        rw [G.out.1, G.out.2.1]
        go_wp2_with fail
        refine (backI_q r g N f xs (w.drewN n1) (HR.out n1)).mono ?_
        rintro e w1 ⟨rfl, n2, rfl⟩
        rw [G.out.2.2.1, G.out.2.2.2]
        go_wp2_with fail
        refine (atI_q r g N f xs (j : Int) (w.drewN (n1 + n2)) (HR.out _)).mono ?_
        rintro e w1 ⟨rfl, n3, rfl⟩
        rw [G3.out.1, G3.out.2]
        go_wp2_with fail
        refine (lenI_any r g N f _ xs _ (HR.out (n1 + n2 + n3))).mono ?_
        rintro e w1 ⟨rfl, e1⟩
        rw [e1, HL.out]
        clear e1
        go_wp2_with fail
        go_ret
        exact ⟨rfl, _, rfl⟩
      · have d1 : decide (0 ≤ i) = true := decide_eq_true h1
        have d2 : decide (i < (d : Int) + 1) = false := decide_eq_false (by omega)
        have o3 : inR i xs.length = false := decide_eq_false (by omega)
        have G3 : Hid (getI i xs 0 = 0 ∧ inR i xs.length = false) := ⟨getI_no _ _ _ o3, o3⟩
        clear h hlen hR g1 g2 o1 o2 o3 e9 hcell ex0 exl h1 h2
        go_enter Try.func15, Try.ntmps15
        go_wp2_with fail
        refine (frontI_q r g N f xs w (HR.out 0)).mono ?_
        rintro e w1 ⟨rfl, n1, rfl⟩
        rw [G.out.1, G.out.2.1]
        go_wp2_with fail
        refine (backI_q r g N f xs (w.drewN n1) (HR.out n1)).mono ?_
        rintro e w1 ⟨rfl, n2, rfl⟩
        rw [G.out.2.2.1, G.out.2.2.2]
        go_wp2_with fail
        refine (atI_q r g N f xs i (w.drewN (n1 + n2)) (HR.out _)).mono ?_
        rintro e w1 ⟨rfl, n3, rfl⟩
        rw [G3.out.1, G3.out.2]
        go_wp2_with fail
        refine (lenI_any r g N f _ xs _ (HR.out (n1 + n2 + n3))).mono ?_
        rintro e w1 ⟨rfl, e1⟩
        rw [e1, HL.out]
        clear e1
        go_wp2_with fail
        go_ret
        exact ⟨rfl, _, rfl⟩
end Go.Proofs.Ytmghkkaoblkmpaa
