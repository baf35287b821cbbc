/- Contracts of the program's functions, part 11: own work, joined in build order. -/
import Derived.Test.YtmghkkaoblkmpaaJ10
namespace Go.Proofs.Ytmghkkaoblkmpaa
open Go.RowKit
set_option maxRecDepth 100000
set_option linter.unusedVariables false
set_option maxHeartbeats 2000000 in
theorem turnI_any (r g N f : Nat) (xs : List Int) (n : Int) (w : World) (h : RI w r g N f xs.length xs) (hx : xs.length ≤ 4294967296) (hn : -9223372036854775808 ≤ n) (hn2 : n ≤ 9223372036854775807) :
    Calls Try.prog 29 #[.pointer (some ⟨r, 0, none⟩), .int .i64 n] w fun e w' => e = .returned (.tuple #[]) ∧ RingsI w r g (rt n xs) w' := by
  have c2 := h.c2
  have hl := h.lim
  have hc := h.cl
  have HH : Hid (RI w r g N f xs.length xs) := h
  obtain ⟨c, ec⟩ : ∃ c, c = xs.length := ⟨_, rfl⟩
  rw [← ec] at c2 hc hx
  have HE : Hid (c = xs.length) := ec
  by_cases hc0 : c = 0
  · have d0 : ((c : Int) == 0) = true := by simp <;> omega
    have HR : Hid (rt n xs = xs) := by
      have : xs = [] := List.eq_nil_of_length_eq_zero (by omega)
      show rt n xs = xs
      subst this
      exact rt_nil n
    clear h ec hc0
    go_enter Try.func29, Try.ntmps29
    go_wp2_with fail
    refine bodyPost_ret (v := .tuple #[]) (by simp [results, Try.results29, go_sem]) rfl ⟨rfl, ?_⟩
    rw [HR.out]
    exact RingsI.intro HH.out (Chg.refl _ _ _) (.inl rfl)
  · have d0 : ((c : Int) == 0) = false := by simp <;> omega
    obtain ⟨q, hq⟩ : ∃ q, n.tmod (c : Int) = q := ⟨_, rfl⟩
    have HQ : Hid (rt q xs = rt n xs ∧ rt (q + (c : Int)) xs = rt n xs ∧ rt (q - (c : Int)) xs = rt n xs) := by
      have e1 := rt_tmod n q xs (by rw [← ec]; exact hq)
      refine ⟨e1, ?_, ?_⟩
      · rw [ec, rt_add, e1]
      · rw [ec, rt_sub, e1]
    have hq1 : q < (c : Int) := by
      have := Int.tmod_lt_of_pos n (show (0 : Int) < (c : Int) by omega)
      omega
    have hq2 : -(c : Int) < q := by
      have := Int.lt_tmod_of_pos n (show (0 : Int) < (c : Int) by omega)
      omega
    have H0 : Hid (RingsI w r g xs w) := RingsI.intro h (Chg.refl _ _ _) (.inl rfl)
    clear h ec
    have cases3 : (decide ((c : Int) / 2 < q) = true) ∨ (decide ((c : Int) / 2 < q) = false ∧ decide (q < -((c : Int) / 2)) = true) ∨ (decide ((c : Int) / 2 < q) = false ∧ decide (q < -((c : Int) / 2)) = false) := by
      simp only [decide_eq_true_eq, decide_eq_false_iff_not]
      omega
    rcases cases3 with hd1 | ⟨hd1, hd2⟩ | ⟨hd1, hd2⟩
    all_goals (
      have HD1 : Hid _ := hd1
      go_enter Try.func29, Try.ntmps29
      go_wp2_with fail
      clear hd1
      go_loopw [1] (fun p wr => ∃ (m : Int) (ys : List Int), p = .int .i64 m ∧ -(c : Int) ≤ m ∧ m ≤ (c : Int) ∧ ys.length = c ∧ rt m ys = rt n xs ∧ Hid (RingsI w r g ys wr)) (fun p _ => (intOf p).toNat)
      case atStart =>
        have hd1 := HD1.out
        simp only [decide_eq_true_eq, decide_eq_false_iff_not] at *
        first
          | exact ⟨q, xs, by go_num, by omega, by omega, HE.out.symm, HQ.out.1, H0⟩
          | exact ⟨q + (c : Int), xs, by go_num, by omega, by omega, HE.out.symm, HQ.out.2.1, H0⟩
          | exact ⟨q - (c : Int), xs, by go_num, by omega, by omega, HE.out.symm, HQ.out.2.2, H0⟩
      case round =>
        obtain ⟨m, ys, rfl, hm1, hm2, hyl, hrt, hR⟩ := hrel
        clear hq
        by_cases hm : 0 < m
        · have hd : decide (0 < m) = true := decide_eq_true hm
          obtain ⟨g1, N1, f1, h1, hC, hg⟩ := hR.out
          obtain ⟨y, zs, rfl⟩ : ∃ y zs, ys = y :: zs := by
            rcases ys with _ | ⟨y, zs⟩
            · simp at hyl; omega
            · exact ⟨y, zs, rfl⟩
          rw [rt_front] at hrt
          have H1 : Hid (RI wr r g1 N1 f1 (y :: zs).length (y :: zs) ∧ Chg w wr r g ∧ (g1 = g ∨ g1 = r ∨ w.heap.size ≤ g1) ∧ (y :: zs).length = c ∧ rt (m - 1) (zs ++ [y]) = rt n xs) := ⟨h1, hC, hg, hyl, hrt⟩
          clear h1 hC hg hyl hrt hR
          go_wp2_with fail
          refine (popFrontI_yes r g1 N1 f1 y zs wr H1.out.1).mono ?_
          rintro e w1 ⟨rfl, h2⟩
          obtain ⟨g2, N2, f2, h3, h4⟩ := h2
          have H2 : Hid (RI w1 r g2 N2 f2 zs.length zs ∧ Chg wr w1 r g1 ∧ (g2 = g1 ∨ g2 = r ∨ wr.heap.size ≤ g2)) := ⟨h3, h4⟩
          clear h3 h4
          go_wp2_with fail
          refine (pushBackI_any r g2 N2 f2 zs y w1 H2.out.1 (by have := H1.out.2.2.2.1; simp at this; omega)).mono ?_
          rintro e w2 ⟨rfl, h5⟩
          have H3 : Hid (RingsI w r g (zs ++ [y]) w2) := RingsI.trans H1.out.2.1 H1.out.2.2.1 (RingsI.trans H2.out.2.1 H2.out.2.2 h5)
          clear h5
          go_wp2_with fail
          go_roundw
          case rel => exact ⟨m - 1, zs ++ [y], by go_num, by omega, by omega, by have := H1.out.2.2.2.1; simpa using this, H1.out.2.2.2.2, H3⟩
          case measure => simp [intOf]; omega
        · have hd : decide (0 < m) = false := decide_eq_false hm
          have HR : Hid (ys.length = c ∧ rt m ys = rt n xs ∧ Hid (RingsI w r g ys wr)) := ⟨hyl, hrt, hR⟩
          clear hyl hrt hR
          go_wp2_with fail
          go_loopw [1] (fun p wr => ∃ (m : Int) (ys : List Int), p = .int .i64 m ∧ -(c : Int) ≤ m ∧ m ≤ 0 ∧ ys.length = c ∧ rt m ys = rt n xs ∧ Hid (RingsI w r g ys wr)) (fun p _ => (-(intOf p)).toNat)
          case atStart => exact ⟨m, ys, rfl, by omega, by omega, HR.out⟩
          case round =>
            clear HR hd
            obtain ⟨m, ys, rfl, hm1, hm2, hyl, hrt, hR⟩ := hrel
            by_cases hm : m < 0
            · have hd : decide (m < 0) = true := decide_eq_true hm
              obtain ⟨g1, N1, f1, h1, hC, hg⟩ := hR.out
              obtain ⟨y, zs, rfl⟩ : ∃ y zs, ys = zs ++ [y] := by
                rcases List.eq_nil_or_concat ys with e | ⟨zs, y, e⟩
                · subst e
                  simp at hyl
                  omega
                · exact ⟨y, zs, by simpa using e⟩
              rw [rt_back] at hrt
              have H1 : Hid (RI wr r g1 N1 f1 (zs ++ [y]).length (zs ++ [y]) ∧ Chg w wr r g ∧ (g1 = g ∨ g1 = r ∨ w.heap.size ≤ g1) ∧ (zs ++ [y]).length = c ∧ rt (m + 1) (y :: zs) = rt n xs) := ⟨h1, hC, hg, hyl, hrt⟩
              clear h1 hC hg hyl hrt hR
              go_wp2_with fail
              refine (popBackI_yes r g1 N1 f1 y zs wr H1.out.1).mono ?_
              rintro e w1 ⟨rfl, h2⟩
              obtain ⟨g2, N2, f2, h3, h4⟩ := h2
              have H2 : Hid (RI w1 r g2 N2 f2 zs.length zs ∧ Chg wr w1 r g1 ∧ (g2 = g1 ∨ g2 = r ∨ wr.heap.size ≤ g2)) := ⟨h3, h4⟩
              clear h3 h4
              go_wp2_with fail
              refine (pushFrontI_any r g2 N2 f2 zs y w1 H2.out.1 (by have := H1.out.2.2.2.1; simp at this; omega)).mono ?_
              rintro e w2 ⟨rfl, h5⟩
              have H3 : Hid (RingsI w r g (y :: zs) w2) := RingsI.trans H1.out.2.1 H1.out.2.2.1 (RingsI.trans H2.out.2.1 H2.out.2.2 h5)
              clear h5
              go_wp2_with fail
              go_roundw
              case rel => exact ⟨m + 1, y :: zs, by go_num, by omega, by omega, by have := H1.out.2.2.2.1; simpa using this, H1.out.2.2.2.2, H3⟩
              case measure => simp [intOf]; omega
            · have hd : decide (m < 0) = false := decide_eq_false hm
              obtain rfl : m = 0 := by omega
              rw [rt_zero] at hrt
              have HR : Hid (RingsI w r g (rt n xs) wr) := by rw [← hrt]; exact hR
              clear hyl hrt hR
              go_wp2_with fail
              exact bodyPost_end (v := .tuple #[]) (by simp [results, Try.results29, go_sem]) rfl ⟨rfl, HR.out⟩)
end Go.Proofs.Ytmghkkaoblkmpaa
