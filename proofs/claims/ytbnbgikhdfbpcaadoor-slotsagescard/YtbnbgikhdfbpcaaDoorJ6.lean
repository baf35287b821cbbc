/- Contracts of the program's functions, part 6: own work, joined in build order. -/
import Derived.Test.YtbnbgikhdfbpcaaDoorJ5
import Derived.BigQuiet
import Derived.SliceStrings
import Derived.Deep.Slices
import Derived.ChangeSlices
import Derived.ProofKit
import Derived.LaidMore
import Derived.Lib.LaidTab
import Derived.WalkKit
import Derived.OpenShut
import Derived.ShutString
import Derived.ChangeOld
import Derived.Below
namespace Go.Proofs.YtbnbgikhdfbpcaaDoor
open Go.RowKit
set_option maxRecDepth 100000
set_option linter.unusedVariables false
set_option maxHeartbeats 8000000 in
theorem ages_any (w : World) (n0 l0 : Int) (a : Option Addr) (L0 cap0 : Nat) (Z : Nat → Int) (hs : ISl w a L0 cap0 Z) (hT : Tab w) :
    Calls Tryd.prog 4 #[.int .i64 n0, .int .i64 l0, .slice a L0 cap0] w fun e w' => e = .returned (.bool true) ∧ Below w.heap.size w w' := by
  have HS : Hid (ISl w a L0 cap0 Z) := hs
  have hle := hs.le
  have hlim := hs.lim
  have HT : Hid (Tab w) := hT
  obtain ⟨q, hq, hq16⟩ : ∃ q : Nat, bits .and .i64 n0 15 = (q : Int) ∧ q < 16 := by
    have h9 := i64_mask n0 4 (by omega) 15 (by rfl)
    have h10 := Int.emod_nonneg n0 (show ((2 ^ 4 : Nat) : Int) ≠ 0 by decide)
    have h11 := Int.emod_lt_of_pos n0 (show (0 : Int) < ((2 ^ 4 : Nat) : Int) by decide)
    exact ⟨(n0 % ((2 ^ 4 : Nat) : Int)).toNat, by rw [h9]; omega, by omega⟩
  obtain ⟨p, hp, hp8⟩ : ∃ p : Nat, bits .and .i64 l0 7 = (p : Int) ∧ p < 8 := by
    have h9 := i64_mask l0 3 (by omega) 7 (by rfl)
    have h10 := Int.emod_nonneg l0 (show ((2 ^ 3 : Nat) : Int) ≠ 0 by decide)
    have h11 := Int.emod_lt_of_pos l0 (show (0 : Int) < ((2 ^ 3 : Nat) : Int) by decide)
    exact ⟨(l0 % ((2 ^ 3 : Nat) : Int)).toNat, by rw [h9]; omega, by omega⟩
  obtain ⟨n, en⟩ : ∃ n, n = q + 1 := ⟨_, rfl⟩
  obtain ⟨last, el⟩ : ∃ last : Int, last = (p : Int) + 1 := ⟨_, rfl⟩
  have en' : (q : Int) + 1 = (n : Int) := by omega
  have el' : (p : Int) + 1 = last := by omega
  have hn16 : n ≤ 16 := by omega
  have hn1 : 1 ≤ n := by omega
  have hl1 : 1 ≤ last := by omega
  have hl8 : last ≤ 8 := by omega
  have NW : Hid _ := newV_yes n last w (by omega) (by omega) (by omega) (by omega)
  clear hs hT en el
  go_enter Tryd.func4, Tryd.ntmps4
  go_wp2_with fail
  refine Calls.mono NW.out ?_
  rintro e w1 ⟨sb, rfl, q1, q2⟩
  have H1 : Hid (Tv w w1 sb n last []) := ⟨⟨_, q1⟩, q2⟩
  have TD : Hid (Calls Tryd.prog 6 #[] w1 fun e w' => e = .returned (.bool true) ∧ Hid (Tv w w' sb n last [])) := (told_any w1 (HT.out.go q2)).mono fun e w' ⟨h1, h2⟩ => ⟨h1, H1.out.below h2⟩
  clear q1 q2 NW
  go_wp2_with fail
  refine Calls.mono TD.out ?_
  rintro e w2 ⟨rfl, H2⟩
  clear TD H1
  go_upto_region 8 with fail
  obtain ⟨Z16, hZ16⟩ : ∃ Z16, Z16 = Obj.cells #[.int .i64 0, .int .i64 0, .int .i64 0, .int .i64 0, .int .i64 0, .int .i64 0, .int .i64 0, .int .i64 0, .int .i64 0, .int .i64 0, .int .i64 0, .int .i64 0, .int .i64 0, .int .i64 0, .int .i64 0, .int .i64 0] 65 := ⟨_, rfl⟩
  rw [← hZ16]
  obtain ⟨tb, etb⟩ : ∃ tb, tb = w2.heap.size := ⟨_, rfl⟩
  obtain ⟨bb, ebb⟩ : ∃ bb, bb = w2.heap.size + 1 := ⟨_, rfl⟩
  obtain ⟨W3, hW3⟩ : ∃ W3, W3 = (w2.alloc Z16).alloc Z16 := ⟨_, rfl⟩
  rw [← hW3, ← ebb, ← etb]
  have H3 : Hid (Ag w W3 sb tb bb n last [] [] 0 (.slice none 0 0) (.slice none 0 0)) := by
    have B3 : Below w2.heap.size w2 W3 := by rw [hW3]; exact ((Below.refl _ _).alloc (Nat.le_refl _) _).alloc (by simp) _
    have b1 : Below (w2.alloc Z16).heap.size (w2.alloc Z16) W3 := by rw [hW3]; exact (Below.refl _ _).alloc (Nat.le_refl _) _
    have a1 : A16 (w2.alloc Z16) tb (tms []) := by rw [hZ16, etb]; exact a16_new w2
    have a2 : A16 W3 bb (tms []) := by
      have := a16_new (w2.alloc Z16)
      rw [← hZ16, ← hW3] at this
      rw [ebb]
      simpa using this
    have hw := H2.out.bel.size
    refine ⟨⟨H2.out.below B3, a1.go (P := fun _ => False) (Ft.of_below (lb := 0) b1) id, a2, by omega, ⟨by omega, by omega⟩, World.ownsRow_nil _ _ _ _, World.ownsRow_nil _ _ _ _⟩, ⟨(fun g hg => by cases hg), List.nodup_nil⟩, rfl⟩
  clear hZ16 hW3 etb ebb H2
  go_wp2_with fail
  go_loopw [9, 10, 13] (fun g l t wr => ∃ (i K : Nat) (ga : Option Addr) (gc : Nat) (la : Option Addr) (lc : Nat) (xs : List (Option Int × Int)) (gs : List (Nat × Int)), i ≤ L0 ∧ i ≤ 200 ∧ K ≤ i ∧ t = .int .i64 (i : Int) ∧ g = .slice ga K gc ∧ l = .slice la K lc ∧ Hid (Ag w wr sb tb bb n last xs gs K (.slice ga K gc) (.slice la K lc))) (fun _ _ t _ => L0 - (intOf t).toNat)
  case atStart => exact ⟨0, 0, none, 0, none, 0, [], [], by omega, by omega, by omega, rfl, rfl, rfl, H3⟩
  case round =>
    clear H3
    obtain ⟨i, K, ga, gc, la, lc, xs, gs, hi1, hi2, hKi, rfl, rfl, rfl, hI⟩ := hrel
    by_cases hin : i < L0
    · have d1 : decide ((i : Int) < (L0 : Int)) = true := decide_eq_true (by omega)
      by_cases hi200 : i < 200
      · have d2 : decide ((i : Int) < 200) = true := decide_eq_true (by omega)
        obtain ⟨b, o, ea, hc⟩ := HS.out.at hI.out.am.tv.bel (by omega)
        have c0 := hc i hin
        have wfT := HS.out.wf i hin
        subst ea
        obtain ⟨T, eT⟩ : ∃ T, T = Z i := ⟨_, rfl⟩
        rw [← eT] at c0 wfT
        clear hc eT
        by_cases hT0 : 0 < T
        · have dT0 : decide (0 < T) = true := decide_eq_true hT0
          go_wp2_with fail
          go_loopw [14] (fun t wr' => ∃ m : Nat, m ≤ n ∧ t = .int .i64 (m : Int) ∧ wr = wr' ∧ Hid (∀ j, j < m → ¬ VacV n last xs j)) (fun t _ => n - (intOf t).toNat)
          case atStart => exact ⟨0, Nat.zero_le _, rfl, rfl, fun j hj => absurd hj (Nat.not_lt_zero _)⟩
          case round =>
            obtain ⟨m, hm, rfl, rfl, hV⟩ := hrel
            by_cases hmn : m < n
            · have dm : decide ((m : Int) < (n : Int)) = true := decide_eq_true (by omega)
              have hm16 : m < 16 := by omega
              obtain ⟨c1, _, _⟩ := hI.out.am.ba.cell hm16
              obtain ⟨c2, _, _⟩ := hI.out.am.ta.cell hm16
              have VI := vac_iff hI.out.am.tv hl1 hmn
              rcases bsy_or xs m with eb | eb
              · by_cases et : tms xs m = last
                · have NV : Hid (∀ j, j < m + 1 → ¬ VacV n last xs j) := fun j hj hv => by
                    rcases Nat.lt_or_ge j m with h | h
                    · exact hV.out j h hv
                    · obtain rfl : j = m := by omega
                      exact (VI.1 hv).2 et
                  rw [eb] at c1
                  rw [et] at c2
                  clear VI eb et hV
                  go_wp2_with fail
                  go_roundw
                  case rel => exact ⟨m + 1, by omega, by go_num, trivial, NV⟩
                  case measure => simp [intOf]; omega
                · have LS : Hid (Least (VacV n last xs) m) := ⟨VI.2 ⟨eb, et⟩, fun j hj => by
                    rcases Nat.lt_or_ge j m with h | h
                    · exact absurd hj (hV.out j h)
                    · exact h⟩
                  obtain ⟨T2, eT2⟩ : ∃ T2, T2 = tms xs m := ⟨_, rfl⟩
                  have hT2 : 0 ≤ T2 ∧ T2 ≤ 8 := by
                    have h1 := hI.out.am.tv.facts.2 m
                    have h2 : (xs.getD m (none, 0)).2 = T2 := eT2.symm
                    rcases Nat.lt_or_ge m xs.length with h | h
                    · have := h1 h
                      omega
                    · have e1 : xs.getD m (none, 0) = (none, 0) := by simp [List.getD_eq_getElem?_getD, List.getElem?_eq_none h]
                      rw [e1] at h2
                      simp only [] at h2
                      omega
                  have dT : ¬ T2 = last := by rw [eT2]; exact et
                  have dmn : ¬ (m : Int) = (n : Int) := by omega
                  rw [eb] at c1
                  rw [← eT2] at c2
                  have PU : Hid (Calls Tryd.prog 10 #[.pointer (some ⟨sb, 0, none⟩), .int .i64 (i : Int)] wr fun e w' => e = .returned (.tuple #[.agg #[.int .i64 (m : Int), .int .i64 (T2 + 1)], .int .i64 0]) ∧ Hid (Am w w' sb tb bb n last (putXV xs m (i : Int)) (tms xs) (bsy xs) gs K (lcs xs gs) (.slice ga K gc) (.slice la K lc))) := by
                    have h1 := hI.out.am.tv.put HT.out (i : Int) m LS.out
                    rw [show (xs.getD m (none, 0)).2 = T2 from eT2.symm] at h1
                    exact h1.mono fun e w' ⟨q1, q2, q3⟩ => ⟨q1, hI.out.am.slots q2 q3⟩
                  have HP : Hid (Pu xs gs ∧ gs.length = K ∧ T2 = tms xs m) := ⟨hI.out.pu, hI.out.len, eT2⟩
                  clear VI eb et hV hI eT2
                  go_wp2_with fail
                  refine Calls.mono PU.out ?_
                  rintro e w4 ⟨rfl, q1⟩
                  obtain ⟨hb, ehb⟩ : ∃ hb, hb = w4.heap.size := ⟨_, rfl⟩
                  obtain ⟨W5, hW5⟩ : ∃ W5, W5 = w4.alloc (.cells #[.int .i64 (m : Int), .int .i64 (T2 + 1)] 38) := ⟨_, rfl⟩
                  have B5 : Below w4.heap.size w4 W5 := by rw [hW5]; exact (Below.refl _ _).alloc (Nat.le_refl _) _
                  have H5 : Hid (Am w W5 sb tb bb n last (putXV xs m (i : Int)) (tms xs) (bsy xs) gs K (lcs xs gs) (.slice ga K gc) (.slice la K lc) ∧ Hb W5 hb (m : Int) (T2 + 1)) := ⟨q1.out.below B5, by rw [hW5, ehb]; exact Hb.alloc _ _ _⟩
                  clear B5 q1 PU c1 c2
                  obtain ⟨c2, f2, _⟩ := H5.out.1.ta.cell hm16
                  rw [← HP.out.2.2] at c2
                  go_upto_region 19 with fail
                  rw [← hW5, ← ehb]
                  clear hW5 ehb
                  go_upto_region 20 with fail
                  obtain ⟨W6, hW6⟩ : ∃ W6, W6 = W5.setCell ⟨tb, m, none⟩ (.int .i64 (T2 + 1)) := ⟨_, rfl⟩
                  have H6 : Hid (Am w W6 sb tb bb n last (putXV xs m (i : Int)) (fun k => if k = m then T2 + 1 else tms xs k) (bsy xs) gs K (lcs xs gs) (.slice ga K gc) (.slice la K lc) ∧ Hb W6 hb (m : Int) (T2 + 1)) := by
                    rw [hW6]
                    exact ⟨H5.out.1.times hm16 _, ((H5.out.1.ta.ft (lb := 0) (Nat.zero_le _) m _).blk H5.out.2 (by decide)).trans H5.out.2⟩
                  rw [← hW6]
                  clear hW6 H5 c2 f2
                  obtain ⟨c1, f1, _⟩ := H6.out.1.ba.cell hm16
                  go_upto_region 21 with fail
                  obtain ⟨W7, hW7⟩ : ∃ W7, W7 = W6.setCell ⟨bb, m, none⟩ (.int .i64 1) := ⟨_, rfl⟩
                  have H7 : Hid (Am w W7 sb tb bb n last (putXV xs m (i : Int)) (fun k => if k = m then T2 + 1 else tms xs k) (fun k => if k = m then 1 else bsy xs k) gs K (lcs xs gs) (.slice ga K gc) (.slice la K lc) ∧ Hb W7 hb (m : Int) (T2 + 1)) := by
                    rw [hW7]
                    exact ⟨H6.out.1.busy hm16 _, ((H6.out.1.ba.ft (lb := 0) (Nat.zero_le _) m _).blk H6.out.2 (by decide)).trans H6.out.2⟩
                  rw [← hW7]
                  clear hW7 H6 c1 f1
                  obtain ⟨c2, _, _⟩ := H7.out.1.ta.cell hm16
                  simp only [if_true] at c2
                  obtain ⟨a0, a1, al⟩ := H7.out.2.cells
                  go_quiet (fail)
                  obtain ⟨W8, hW8⟩ : ∃ W8, W8 = W7.drewN nq := ⟨_, rfl⟩
                  have H8 : Hid (Am w W8 sb tb bb n last (putXV xs m (i : Int)) (fun k => if k = m then T2 + 1 else tms xs k) (fun k => if k = m then 1 else bsy xs k) gs K (lcs xs gs) (.slice ga K gc) (.slice la K lc) ∧ Hb W8 hb (m : Int) (T2 + 1)) := by
                    rw [hW8]
                    exact ⟨H7.out.1.below ⟨rfl, rfl, rfl, Nat.le_refl _, fun _ _ => rfl⟩, H7.out.2⟩
                  rw [← hW8]
                  clear hW8 H7 c2 a0 a1 al
                  obtain ⟨a0, a1, al⟩ := H8.out.2.cells
                  obtain ⟨W9, hW9⟩ : ∃ W9, W9 = W8.alloc (.cells #[.int .i64 (m : Int), .int .i64 (T2 + 1)] 38) := ⟨_, rfl⟩
                  obtain ⟨h2, eh2⟩ : ∃ h2, h2 = W8.heap.size := ⟨_, rfl⟩
                  have H9 : Hid (Am w W9 sb tb bb n last (putXV xs m (i : Int)) (fun k => if k = m then T2 + 1 else tms xs k) (fun k => if k = m then 1 else bsy xs k) gs K (lcs xs gs) (.slice ga K gc) (.slice la K lc) ∧ Hb W9 h2 (m : Int) (T2 + 1)) := by
                    rw [hW9, eh2]
                    exact ⟨H8.out.1.below ((Below.refl _ _).alloc (Nat.le_refl _) _), Hb.alloc _ _ _⟩
                  have HW9 : Hid (W8.alloc (.cells #[.int .i64 (m : Int), .int .i64 (T2 + 1)] 38) = W9 ∧ W8.heap.size = h2) := ⟨hW9.symm, eh2.symm⟩
                  clear hW9 eh2 H8
                  go_upto_region 24 with (rw [HW9.out.1]; refine (id ?_ : wpList Tryd.prog _ _ (⟨some 114, _, _, _, _, _⟩ :: _) _ _); refine wp_appH rfl _ _ rfl w.heap.size _ _ _ rfl H9.out.1.rg h2 (m : Int) (T2 + 1) (by rw [← HW9.out.2]; simp [Act.eval]) H9.out.2 (by have := HP.out.2.1; omega) H9.out.1.tv.bel.size ?_; intro v10 w10 h10)
                  obtain ⟨ga', gc', ev10⟩ : ∃ ga' gc', v10 = .slice ga' (K + 1) gc' := by
                    rcases h10.out.1.2 with ⟨e, e0⟩ | ⟨g', cap', cur, e, _⟩
                    · omega
                    · exact ⟨_, _, by rw [e, HP.out.2.1]⟩
                  subst ev10
                  have H10 : Hid (Am w w10 sb tb bb n last (putXV xs m (i : Int)) (fun k => if k = m then T2 + 1 else tms xs k) (fun k => if k = m then 1 else bsy xs k) (gs ++ [(m, T2 + 1)]) K (lcs xs gs) (.slice ga' (K + 1) gc') (.slice la K lc)) := H9.out.1.given (m, T2 + 1) h10.out.1 h10.out.2.1
                  clear h10 H9 HW9 a0 a1 al
                  obtain ⟨W11, hW11⟩ : ∃ W11, W11 = w10.alloc (.cells #[.bool true] 4) := ⟨_, rfl⟩
                  obtain ⟨h3, eh3⟩ : ∃ h3, h3 = w10.heap.size := ⟨_, rfl⟩
                  have H11 : Hid (Am w W11 sb tb bb n last (putXV xs m (i : Int)) (fun k => if k = m then T2 + 1 else tms xs k) (fun k => if k = m then 1 else bsy xs k) (gs ++ [(m, T2 + 1)]) K (lcs xs gs) (.slice ga' (K + 1) gc') (.slice la K lc) ∧ W11.heap[h3]? = some (.cells #[.bool true] 4)) := by
                    rw [hW11, eh3]
                    exact ⟨H10.out.below ((Below.refl _ _).alloc (Nat.le_refl _) _), (MapKept.heap_alloc _ _).1⟩
                  have HW11 : Hid (w10.alloc (.cells #[.bool true] 4) = W11 ∧ w10.heap.size = h3) := ⟨hW11.symm, eh3.symm⟩
                  clear hW11 eh3 H10
                  go_upto_region 10 with (rw [HW11.out.1]; refine (id ?_ : wpList Tryd.prog _ _ (⟨some 117, _, _, _, _, _⟩ :: _) _ _); refine wp_appB rfl _ _ rfl w.heap.size _ _ _ rfl H11.out.1.rl h3 true (by rw [← HW11.out.2]; simp [Act.eval]) H11.out.2 (by omega) H11.out.1.tv.bel.size ?_; intro v12 w12 h12)
                  obtain ⟨la', lc', ev12⟩ : ∃ la' lc', v12 = .slice la' (K + 1) lc' := by
                    rcases h12.out.1.2 with ⟨e, e0⟩ | ⟨g', cap', cur, e, _⟩
                    · omega
                    · exact ⟨_, _, e⟩
                  subst ev12
                  have H12 : Hid (Ag w w12 sb tb bb n last (putXV xs m (i : Int)) (gs ++ [(m, T2 + 1)]) (K + 1) (.slice ga' (K + 1) gc') (.slice la' (K + 1) lc')) := by
                    obtain ⟨p1, p2, p3⟩ := HP.out
                    have p4 := p1.put LS.out (i : Int)
                    have p5 := lcs_put p1 LS.out (i : Int)
                    rw [show (xs.getD m (none, 0)).2 = T2 from p3.symm] at p4 p5
                    refine ⟨(H11.out.1.live h12.out.1 h12.out.2.1).congr (fun j => ?_) (fun j => ?_) p5.symm, p4, by rw [List.length_append, p2]; rfl⟩
                    · rw [tms_put LS.out, p3]
                    · rw [bsy_put LS.out]
                  clear h12 H11 HW11 HP LS
                  go_wp2_with fail
                  go_roundw
                  case rel => exact ⟨i + 1, K + 1, ga', gc', la', lc', putXV xs m (i : Int), gs ++ [(m, T2 + 1)], by omega, by omega, by omega, by go_num, rfl, rfl, H12⟩
                  case measure => simp [intOf]; omega
              · have NV : Hid (∀ j, j < m + 1 → ¬ VacV n last xs j) := fun j hj hv => by
                  rcases Nat.lt_or_ge j m with h | h
                  · exact hV.out j h hv
                  · obtain rfl : j = m := by omega
                    have := (VI.1 hv).1
                    omega
                rw [eb] at c1
                clear VI eb hV
                go_wp2_with fail
                go_roundw
                case rel => exact ⟨m + 1, by omega, by go_num, trivial, NV⟩
                case measure => simp [intOf]; omega
            · have em : m = n := by omega
              have PU : Hid (Calls Tryd.prog 10 #[.pointer (some ⟨sb, 0, none⟩), .int .i64 (i : Int)] wr fun e w' => e = .returned (.tuple #[.agg #[.int .i64 0, .int .i64 0], .int .i64 61]) ∧ Hid (Ag w w' sb tb bb n last xs gs K (.slice ga K gc) (.slice la K lc))) := by
                refine (hI.out.am.tv.full (i : Int) fun j hj => ?_).mono fun e w' ⟨q1, q2, q3⟩ => ⟨q1, hI.out.slots q2 q3⟩
                have := hj.1
                exact hV.out j (by omega) hj
              have dm : decide ((m : Int) < (n : Int)) = false := decide_eq_false (by omega)
              have dmn : (m : Int) = (n : Int) := by omega
              clear hV hI hmn hm em
              go_wp2_with fail
              refine Calls.mono PU.out ?_
              rintro e w4 ⟨rfl, q1⟩
              have H5 : Hid (Ag w (w4.alloc (.cells #[.int .i64 0, .int .i64 0] 38)) sb tb bb n last xs gs K (.slice ga K gc) (.slice la K lc)) := q1.out.below ((Below.refl _ _).alloc (Nat.le_refl _) _)
              clear q1 PU
              go_wp2_with fail
              go_roundw
              case rel => exact ⟨i + 1, K, ga, gc, la, lc, xs, gs, by omega, by omega, by omega, by go_num, rfl, rfl, H5⟩
              case measure => simp [intOf]; omega
        · have dT0 : decide (0 < T) = false := decide_eq_false hT0
          rcases Nat.eq_zero_or_pos K with hK | hK
          · subst hK
            go_upto_region 12 with fail
            obtain ⟨K, eK⟩ : ∃ K : Nat, K = 0 := ⟨_, rfl⟩
            rw [show Value.slice ga 0 gc = .slice ga K gc by rw [eK], show Value.slice la 0 lc = .slice la K lc by rw [eK]]
            have hI2 : Hid (Ag w wr sb tb bb n last xs gs K (.slice ga K gc) (.slice la K lc)) := by rw [eK]; exact hI
            clear hI
            have hI := hI2
            have hKi : K ≤ i := by omega
            clear eK hI2
            go_wp2_with fail
            go_loopw [14] (fun t wr' => ∃ m : Nat, m ≤ n ∧ t = .int .i64 (m : Int) ∧ wr = wr' ∧ Hid (∀ j, j < m → ¬ VacV n last xs j)) (fun t _ => n - (intOf t).toNat)
            case atStart => exact ⟨0, Nat.zero_le _, rfl, rfl, fun j hj => absurd hj (Nat.not_lt_zero _)⟩
            case round =>
              obtain ⟨m, hm, rfl, rfl, hV⟩ := hrel
              by_cases hmn : m < n
              · have dm : decide ((m : Int) < (n : Int)) = true := decide_eq_true (by omega)
                have hm16 : m < 16 := by omega
                obtain ⟨c1, _, _⟩ := hI.out.am.ba.cell hm16
                obtain ⟨c2, _, _⟩ := hI.out.am.ta.cell hm16
                have VI := vac_iff hI.out.am.tv hl1 hmn
                rcases bsy_or xs m with eb | eb
                · by_cases et : tms xs m = last
                  · have NV : Hid (∀ j, j < m + 1 → ¬ VacV n last xs j) := fun j hj hv => by
                      rcases Nat.lt_or_ge j m with h | h
                      · exact hV.out j h hv
                      · obtain rfl : j = m := by omega
                        exact (VI.1 hv).2 et
                    rw [eb] at c1
                    rw [et] at c2
                    clear VI eb et hV
                    go_wp2_with fail
                    go_roundw
                    case rel => exact ⟨m + 1, by omega, by go_num, trivial, NV⟩
                    case measure => simp [intOf]; omega
                  · have LS : Hid (Least (VacV n last xs) m) := ⟨VI.2 ⟨eb, et⟩, fun j hj => by
                      rcases Nat.lt_or_ge j m with h | h
                      · exact absurd hj (hV.out j h)
                      · exact h⟩
                    obtain ⟨T2, eT2⟩ : ∃ T2, T2 = tms xs m := ⟨_, rfl⟩
                    have hT2 : 0 ≤ T2 ∧ T2 ≤ 8 := by
                      have h1 := hI.out.am.tv.facts.2 m
                      have h2 : (xs.getD m (none, 0)).2 = T2 := eT2.symm
                      rcases Nat.lt_or_ge m xs.length with h | h
                      · have := h1 h
                        omega
                      · have e1 : xs.getD m (none, 0) = (none, 0) := by simp [List.getD_eq_getElem?_getD, List.getElem?_eq_none h]
                        rw [e1] at h2
                        simp only [] at h2
                        omega
                    have dT : ¬ T2 = last := by rw [eT2]; exact et
                    have dmn : ¬ (m : Int) = (n : Int) := by omega
                    rw [eb] at c1
                    rw [← eT2] at c2
                    have PU : Hid (Calls Tryd.prog 10 #[.pointer (some ⟨sb, 0, none⟩), .int .i64 (i : Int)] wr fun e w' => e = .returned (.tuple #[.agg #[.int .i64 (m : Int), .int .i64 (T2 + 1)], .int .i64 0]) ∧ Hid (Am w w' sb tb bb n last (putXV xs m (i : Int)) (tms xs) (bsy xs) gs K (lcs xs gs) (.slice ga K gc) (.slice la K lc))) := by
                      have h1 := hI.out.am.tv.put HT.out (i : Int) m LS.out
                      rw [show (xs.getD m (none, 0)).2 = T2 from eT2.symm] at h1
                      exact h1.mono fun e w' ⟨q1, q2, q3⟩ => ⟨q1, hI.out.am.slots q2 q3⟩
                    have HP : Hid (Pu xs gs ∧ gs.length = K ∧ T2 = tms xs m) := ⟨hI.out.pu, hI.out.len, eT2⟩
                    clear VI eb et hV hI eT2
                    go_wp2_with fail
                    refine Calls.mono PU.out ?_
                    rintro e w4 ⟨rfl, q1⟩
                    obtain ⟨hb, ehb⟩ : ∃ hb, hb = w4.heap.size := ⟨_, rfl⟩
                    obtain ⟨W5, hW5⟩ : ∃ W5, W5 = w4.alloc (.cells #[.int .i64 (m : Int), .int .i64 (T2 + 1)] 38) := ⟨_, rfl⟩
                    have B5 : Below w4.heap.size w4 W5 := by rw [hW5]; exact (Below.refl _ _).alloc (Nat.le_refl _) _
                    have H5 : Hid (Am w W5 sb tb bb n last (putXV xs m (i : Int)) (tms xs) (bsy xs) gs K (lcs xs gs) (.slice ga K gc) (.slice la K lc) ∧ Hb W5 hb (m : Int) (T2 + 1)) := ⟨q1.out.below B5, by rw [hW5, ehb]; exact Hb.alloc _ _ _⟩
                    clear B5 q1 PU c1 c2
                    obtain ⟨c2, f2, _⟩ := H5.out.1.ta.cell hm16
                    rw [← HP.out.2.2] at c2
                    go_upto_region 19 with fail
                    rw [← hW5, ← ehb]
                    clear hW5 ehb
                    go_upto_region 20 with fail
                    obtain ⟨W6, hW6⟩ : ∃ W6, W6 = W5.setCell ⟨tb, m, none⟩ (.int .i64 (T2 + 1)) := ⟨_, rfl⟩
                    have H6 : Hid (Am w W6 sb tb bb n last (putXV xs m (i : Int)) (fun k => if k = m then T2 + 1 else tms xs k) (bsy xs) gs K (lcs xs gs) (.slice ga K gc) (.slice la K lc) ∧ Hb W6 hb (m : Int) (T2 + 1)) := by
                      rw [hW6]
                      exact ⟨H5.out.1.times hm16 _, ((H5.out.1.ta.ft (lb := 0) (Nat.zero_le _) m _).blk H5.out.2 (by decide)).trans H5.out.2⟩
                    rw [← hW6]
                    clear hW6 H5 c2 f2
                    obtain ⟨c1, f1, _⟩ := H6.out.1.ba.cell hm16
                    go_upto_region 21 with fail
                    obtain ⟨W7, hW7⟩ : ∃ W7, W7 = W6.setCell ⟨bb, m, none⟩ (.int .i64 1) := ⟨_, rfl⟩
                    have H7 : Hid (Am w W7 sb tb bb n last (putXV xs m (i : Int)) (fun k => if k = m then T2 + 1 else tms xs k) (fun k => if k = m then 1 else bsy xs k) gs K (lcs xs gs) (.slice ga K gc) (.slice la K lc) ∧ Hb W7 hb (m : Int) (T2 + 1)) := by
                      rw [hW7]
                      exact ⟨H6.out.1.busy hm16 _, ((H6.out.1.ba.ft (lb := 0) (Nat.zero_le _) m _).blk H6.out.2 (by decide)).trans H6.out.2⟩
                    rw [← hW7]
                    clear hW7 H6 c1 f1
                    obtain ⟨c2, _, _⟩ := H7.out.1.ta.cell hm16
                    simp only [if_true] at c2
                    obtain ⟨a0, a1, al⟩ := H7.out.2.cells
                    go_quiet (fail)
                    obtain ⟨W8, hW8⟩ : ∃ W8, W8 = W7.drewN nq := ⟨_, rfl⟩
                    have H8 : Hid (Am w W8 sb tb bb n last (putXV xs m (i : Int)) (fun k => if k = m then T2 + 1 else tms xs k) (fun k => if k = m then 1 else bsy xs k) gs K (lcs xs gs) (.slice ga K gc) (.slice la K lc) ∧ Hb W8 hb (m : Int) (T2 + 1)) := by
                      rw [hW8]
                      exact ⟨H7.out.1.below ⟨rfl, rfl, rfl, Nat.le_refl _, fun _ _ => rfl⟩, H7.out.2⟩
                    rw [← hW8]
                    clear hW8 H7 c2 a0 a1 al
                    obtain ⟨a0, a1, al⟩ := H8.out.2.cells
                    obtain ⟨W9, hW9⟩ : ∃ W9, W9 = W8.alloc (.cells #[.int .i64 (m : Int), .int .i64 (T2 + 1)] 38) := ⟨_, rfl⟩
                    obtain ⟨h2, eh2⟩ : ∃ h2, h2 = W8.heap.size := ⟨_, rfl⟩
                    have H9 : Hid (Am w W9 sb tb bb n last (putXV xs m (i : Int)) (fun k => if k = m then T2 + 1 else tms xs k) (fun k => if k = m then 1 else bsy xs k) gs K (lcs xs gs) (.slice ga K gc) (.slice la K lc) ∧ Hb W9 h2 (m : Int) (T2 + 1)) := by
                      rw [hW9, eh2]
                      exact ⟨H8.out.1.below ((Below.refl _ _).alloc (Nat.le_refl _) _), Hb.alloc _ _ _⟩
                    have HW9 : Hid (W8.alloc (.cells #[.int .i64 (m : Int), .int .i64 (T2 + 1)] 38) = W9 ∧ W8.heap.size = h2) := ⟨hW9.symm, eh2.symm⟩
                    clear hW9 eh2 H8
                    go_upto_region 24 with (rw [HW9.out.1]; refine (id ?_ : wpList Tryd.prog _ _ (⟨some 114, _, _, _, _, _⟩ :: _) _ _); refine wp_appH rfl _ _ rfl w.heap.size _ _ _ rfl H9.out.1.rg h2 (m : Int) (T2 + 1) (by rw [← HW9.out.2]; simp [Act.eval]) H9.out.2 (by have := HP.out.2.1; omega) H9.out.1.tv.bel.size ?_; intro v10 w10 h10)
                    obtain ⟨ga', gc', ev10⟩ : ∃ ga' gc', v10 = .slice ga' (K + 1) gc' := by
                      rcases h10.out.1.2 with ⟨e, e0⟩ | ⟨g', cap', cur, e, _⟩
                      · omega
                      · exact ⟨_, _, by rw [e, HP.out.2.1]⟩
                    subst ev10
                    have H10 : Hid (Am w w10 sb tb bb n last (putXV xs m (i : Int)) (fun k => if k = m then T2 + 1 else tms xs k) (fun k => if k = m then 1 else bsy xs k) (gs ++ [(m, T2 + 1)]) K (lcs xs gs) (.slice ga' (K + 1) gc') (.slice la K lc)) := H9.out.1.given (m, T2 + 1) h10.out.1 h10.out.2.1
                    clear h10 H9 HW9 a0 a1 al
                    obtain ⟨W11, hW11⟩ : ∃ W11, W11 = w10.alloc (.cells #[.bool true] 4) := ⟨_, rfl⟩
                    obtain ⟨h3, eh3⟩ : ∃ h3, h3 = w10.heap.size := ⟨_, rfl⟩
                    have H11 : Hid (Am w W11 sb tb bb n last (putXV xs m (i : Int)) (fun k => if k = m then T2 + 1 else tms xs k) (fun k => if k = m then 1 else bsy xs k) (gs ++ [(m, T2 + 1)]) K (lcs xs gs) (.slice ga' (K + 1) gc') (.slice la K lc) ∧ W11.heap[h3]? = some (.cells #[.bool true] 4)) := by
                      rw [hW11, eh3]
                      exact ⟨H10.out.below ((Below.refl _ _).alloc (Nat.le_refl _) _), (MapKept.heap_alloc _ _).1⟩
                    have HW11 : Hid (w10.alloc (.cells #[.bool true] 4) = W11 ∧ w10.heap.size = h3) := ⟨hW11.symm, eh3.symm⟩
                    clear hW11 eh3 H10
                    go_upto_region 10 with (rw [HW11.out.1]; refine (id ?_ : wpList Tryd.prog _ _ (⟨some 117, _, _, _, _, _⟩ :: _) _ _); refine wp_appB rfl _ _ rfl w.heap.size _ _ _ rfl H11.out.1.rl h3 true (by rw [← HW11.out.2]; simp [Act.eval]) H11.out.2 (by omega) H11.out.1.tv.bel.size ?_; intro v12 w12 h12)
                    obtain ⟨la', lc', ev12⟩ : ∃ la' lc', v12 = .slice la' (K + 1) lc' := by
                      rcases h12.out.1.2 with ⟨e, e0⟩ | ⟨g', cap', cur, e, _⟩
                      · omega
                      · exact ⟨_, _, e⟩
                    subst ev12
                    have H12 : Hid (Ag w w12 sb tb bb n last (putXV xs m (i : Int)) (gs ++ [(m, T2 + 1)]) (K + 1) (.slice ga' (K + 1) gc') (.slice la' (K + 1) lc')) := by
                      obtain ⟨p1, p2, p3⟩ := HP.out
                      have p4 := p1.put LS.out (i : Int)
                      have p5 := lcs_put p1 LS.out (i : Int)
                      rw [show (xs.getD m (none, 0)).2 = T2 from p3.symm] at p4 p5
                      refine ⟨(H11.out.1.live h12.out.1 h12.out.2.1).congr (fun j => ?_) (fun j => ?_) p5.symm, p4, by rw [List.length_append, p2]; rfl⟩
                      · rw [tms_put LS.out, p3]
                      · rw [bsy_put LS.out]
                    clear h12 H11 HW11 HP LS
                    go_wp2_with fail
                    go_roundw
                    case rel => exact ⟨i + 1, K + 1, ga', gc', la', lc', putXV xs m (i : Int), gs ++ [(m, T2 + 1)], by omega, by omega, by omega, by go_num, rfl, rfl, H12⟩
                    case measure => simp [intOf]; omega
                · have NV : Hid (∀ j, j < m + 1 → ¬ VacV n last xs j) := fun j hj hv => by
                    rcases Nat.lt_or_ge j m with h | h
                    · exact hV.out j h hv
                    · obtain rfl : j = m := by omega
                      have := (VI.1 hv).1
                      omega
                  rw [eb] at c1
                  clear VI eb hV
                  go_wp2_with fail
                  go_roundw
                  case rel => exact ⟨m + 1, by omega, by go_num, trivial, NV⟩
                  case measure => simp [intOf]; omega
              · have em : m = n := by omega
                have PU : Hid (Calls Tryd.prog 10 #[.pointer (some ⟨sb, 0, none⟩), .int .i64 (i : Int)] wr fun e w' => e = .returned (.tuple #[.agg #[.int .i64 0, .int .i64 0], .int .i64 61]) ∧ Hid (Ag w w' sb tb bb n last xs gs K (.slice ga K gc) (.slice la K lc))) := by
                  refine (hI.out.am.tv.full (i : Int) fun j hj => ?_).mono fun e w' ⟨q1, q2, q3⟩ => ⟨q1, hI.out.slots q2 q3⟩
                  have := hj.1
                  exact hV.out j (by omega) hj
                have dm : decide ((m : Int) < (n : Int)) = false := decide_eq_false (by omega)
                have dmn : (m : Int) = (n : Int) := by omega
                clear hV hI hmn hm em
                go_wp2_with fail
                refine Calls.mono PU.out ?_
                rintro e w4 ⟨rfl, q1⟩
                have H5 : Hid (Ag w (w4.alloc (.cells #[.int .i64 0, .int .i64 0] 38)) sb tb bb n last xs gs K (.slice ga K gc) (.slice la K lc)) := q1.out.below ((Below.refl _ _).alloc (Nat.le_refl _) _)
                clear q1 PU
                go_wp2_with fail
                go_roundw
                case rel => exact ⟨i + 1, K, ga, gc, la, lc, xs, gs, by omega, by omega, by omega, by go_num, rfl, rfl, H5⟩
                case measure => simp [intOf]; omega
          · have dK : ¬ (K : Int) = 0 := by omega
            obtain ⟨kq, hkq⟩ : ∃ kq : Nat, bits .and .i64 (-(T + 1)) 1099511627775 = (kq : Int) := by
              have h9 := i64_mask (-(T + 1)) 40 (by omega) 1099511627775 (by rfl)
              have h10 := Int.emod_nonneg (-(T + 1)) (show ((2 ^ 40 : Nat) : Int) ≠ 0 by decide)
              exact ⟨((-(T + 1)) % ((2 ^ 40 : Nat) : Int)).toNat, by rw [h9]; omega⟩
            obtain ⟨k, ek⟩ : ∃ k : Nat, k = kq % K := ⟨_, rfl⟩
            have hk : k < K := by rw [ek]; exact Nat.mod_lt _ hK
            have hqk : (kq : Int) % (K : Int) = (k : Int) := by rw [ek]; simp
            obtain ⟨g, gc2, l, lc2, ev1, g1, g2, ev2, l1, l2⟩ := hI.out.form hK
            injection ev1 with ev1 _ ev3
            injection ev2 with ev2 _ ev4
            subst ev1
            subst ev2
            subst ev3
            subst ev4
            obtain ⟨s, gen, hsk, hsl, hgl⟩ := hI.out.nth hk
            have hs16 : s < 16 := by
              have := hI.out.am.tv.facts.1
              omega
            obtain ⟨b0, b1, b2, _⟩ := hI.out.am.cells hI.out.len hsk
            clear ek hsl
            rcases ef : fndV xs (s : Int) gen with _ | t0
            · have eg : good xs (s, gen) = false := by unfold good; rw [ef]; rfl
              have PD : Hid (Calls Tryd.prog 16 #[.pointer (some ⟨sb, 0, none⟩), .agg #[.int .i64 (s : Int), .int .i64 gen]] wr fun e w' => e = .returned (.tuple #[.int .i64 0, .int .i64 60]) ∧ Hid (Ag w w' sb tb bb n last xs gs K (.slice (some ⟨g, 0, none⟩) K gc) (.slice (some ⟨l, 0, none⟩) K lc))) := (hI.out.am.tv.keep s gen ef).mono fun e w' ⟨q1, q2, q3⟩ => ⟨q1, hI.out.slots q2 q3⟩
              clear ef hI b2
              go_wp2_with fail
              refine Calls.mono PD.out ?_
              rintro e w4 ⟨rfl, H4⟩
              clear b0 b1 PD
              obtain ⟨_, _, b2, _⟩ := H4.out.am.cells H4.out.len hsk
              rw [hgl, eg] at b2
              clear hgl eg hsk hs16
              go_wp2_with fail
              go_loopw [20] (fun t wz => ∃ (j : Nat), j ≤ K ∧ t = .int .i64 (j : Int) ∧ Hid (Ag w wz sb tb bb n last xs gs K (.slice (some ⟨g, 0, none⟩) K gc) (.slice (some ⟨l, 0, none⟩) K lc))) (fun t _ => K - (intOf t).toNat)
              case atStart => exact ⟨0, Nat.zero_le _, rfl, H4⟩
              case round =>
                clear H4
                obtain ⟨j, hj, rfl, hJ⟩ := hrel
                by_cases hjK : j < K
                · have dj : decide ((j : Int) < (K : Int)) = true := decide_eq_true (by omega)
                  obtain ⟨s', gen', hs', _, hgl⟩ := hJ.out.nth hjK
                  obtain ⟨b0, b1, b2, _⟩ := hJ.out.am.cells hJ.out.len hs'
                  have GE := hJ.out.am.tv.get s' gen'
                  rcases ef : fndV xs (s' : Int) gen' with _ | t'
                  · rw [ef] at GE
                    have eg : good xs (s', gen') = false := by unfold good; rw [ef]; rfl
                    have HGE : Hid (Calls Tryd.prog 12 #[.pointer (some ⟨sb, 0, none⟩), .agg #[.int .i64 (s' : Int), .int .i64 gen']] wr fun e w' => e = .returned (.tuple #[.int .i64 0, .int .i64 60]) ∧ Hid (Ag w w' sb tb bb n last xs gs K (.slice (some ⟨g, 0, none⟩) K gc) (.slice (some ⟨l, 0, none⟩) K lc))) := GE.mono fun e w' ⟨q1, q2, q3⟩ => ⟨q1, hJ.out.slots q2 q3⟩
                    clear GE ef hJ b2
                    go_wp2_with fail
                    refine Calls.mono HGE.out ?_
                    rintro e w7 ⟨rfl, H7⟩
                    clear b0 b1 HGE
                    obtain ⟨_, _, b2, _⟩ := H7.out.am.cells H7.out.len hs'
                    rw [hgl, eg] at b2
                    clear hgl eg hs'
                    go_wp2_with fail
                    go_roundw
                    case rel => exact ⟨j + 1, by omega, by go_num, H7⟩
                    case measure => simp [intOf]; omega
                  · rw [ef] at GE
                    have eg : good xs (s', gen') = true := by unfold good; rw [ef]; rfl
                    have HGE : Hid (Calls Tryd.prog 12 #[.pointer (some ⟨sb, 0, none⟩), .agg #[.int .i64 (s' : Int), .int .i64 gen']] wr fun e w' => e = .returned (.tuple #[.int .i64 t', .int .i64 0]) ∧ Hid (Ag w w' sb tb bb n last xs gs K (.slice (some ⟨g, 0, none⟩) K gc) (.slice (some ⟨l, 0, none⟩) K lc))) := GE.mono fun e w' ⟨q1, q2, q3⟩ => ⟨q1, hJ.out.slots q2 q3⟩
                    clear GE ef hJ b2
                    go_wp2_with fail
                    refine Calls.mono HGE.out ?_
                    rintro e w7 ⟨rfl, H7⟩
                    clear b0 b1 HGE
                    obtain ⟨_, _, b2, _⟩ := H7.out.am.cells H7.out.len hs'
                    rw [hgl, eg] at b2
                    clear hgl eg hs'
                    go_wp2_with fail
                    go_roundw
                    case rel => exact ⟨j + 1, by omega, by go_num, H7⟩
                    case measure => simp [intOf]; omega
                · have dj : decide ((j : Int) < (K : Int)) = false := decide_eq_false (by omega)
                  clear hj
                  go_wp2_with fail
                  go_roundw
                  case rel => exact ⟨i + 1, K, some ⟨g, 0, none⟩, gc, some ⟨l, 0, none⟩, lc, xs, gs, by omega, by omega, by omega, by go_num, rfl, rfl, hJ⟩
                  case measure => simp [intOf]; omega
            · have eg : good xs (s, gen) = true := by unfold good; rw [ef]; rfl
              have PD : Hid (Calls Tryd.prog 16 #[.pointer (some ⟨sb, 0, none⟩), .agg #[.int .i64 (s : Int), .int .i64 gen]] wr fun e w' => e = .returned (.tuple #[.int .i64 t0, .int .i64 0]) ∧ Hid (Am w w' sb tb bb n last (xs.set s (none, gen)) (tms xs) (bsy xs) gs K (lcs xs gs) (.slice (some ⟨g, 0, none⟩) K gc) (.slice (some ⟨l, 0, none⟩) K lc))) := (hI.out.am.tv.drop s gen t0 ef).mono fun e w' ⟨q1, q2, q3⟩ => ⟨q1, hI.out.am.slots q2 q3⟩
              have HP : Hid (Pu xs gs ∧ gs.length = K ∧ fndV xs (s : Int) gen = some t0 ∧ gs[k]? = some (s, gen)) := ⟨hI.out.pu, hI.out.len, ef, hsk⟩
              clear ef hI b2
              go_wp2_with fail
              refine Calls.mono PD.out ?_
              rintro e w4 ⟨rfl, H4⟩
              clear b0 b1 PD
              obtain ⟨_, _, b2, f2⟩ := H4.out.cells HP.out.2.1 hsk
              rw [hgl, eg] at b2
              go_upto_region 31 with fail
              obtain ⟨W5, hW5⟩ : ∃ W5, W5 = w4.setCell ⟨l, k, none⟩ (.bool false) := ⟨_, rfl⟩
              have H5 : Hid (Am w W5 sb tb bb n last (xs.set s (none, gen)) (tms xs) (bsy xs) gs K ((lcs xs gs).set k (.bool false)) (.slice (some ⟨g, 0, none⟩) K gc) (.slice (some ⟨l, 0, none⟩) K lc)) := by
                rw [hW5]
                exact H4.out.dead hk _
              rw [← hW5]
              clear hW5 H4 b2 f2 hgl eg
              obtain ⟨b0, _, _, _⟩ := H5.out.cells HP.out.2.1 hsk
              obtain ⟨c1, f1, _⟩ := H5.out.ba.cell hs16
              go_upto_region 32 with fail
              obtain ⟨W6, hW6⟩ : ∃ W6, W6 = W5.setCell ⟨bb, s, none⟩ (.int .i64 0) := ⟨_, rfl⟩
              obtain ⟨xs', exs'⟩ : ∃ xs', xs' = xs.set s (none, gen) := ⟨_, rfl⟩
              have H6 : Hid (Ag w W6 sb tb bb n last xs' gs K (.slice (some ⟨g, 0, none⟩) K gc) (.slice (some ⟨l, 0, none⟩) K lc)) := by
                obtain ⟨p1, p2, p3, p4⟩ := HP.out
                rw [hW6, exs']
                refine ⟨(H5.out.busy hs16 0).congr (fun j => (tms_drop p3 j).symm) (fun j => (bsy_drop p3 j).symm) (lcs_drop p1 p4 p3).symm, p1.drop p3, p2⟩
              rw [← hW6]
              clear hW6 H5 HP b0 c1 f1 exs' hsk hs16
              go_wp2_with fail
              go_loopw [20] (fun t wz => ∃ (j : Nat), j ≤ K ∧ t = .int .i64 (j : Int) ∧ Hid (Ag w wz sb tb bb n last xs' gs K (.slice (some ⟨g, 0, none⟩) K gc) (.slice (some ⟨l, 0, none⟩) K lc))) (fun t _ => K - (intOf t).toNat)
              case atStart => exact ⟨0, Nat.zero_le _, rfl, H6⟩
              case round =>
                clear H6
                obtain ⟨j, hj, rfl, hJ⟩ := hrel
                by_cases hjK : j < K
                · have dj : decide ((j : Int) < (K : Int)) = true := decide_eq_true (by omega)
                  obtain ⟨s', gen', hs', _, hgl⟩ := hJ.out.nth hjK
                  obtain ⟨b0, b1, b2, _⟩ := hJ.out.am.cells hJ.out.len hs'
                  have GE := hJ.out.am.tv.get s' gen'
                  rcases ef : fndV xs' (s' : Int) gen' with _ | t'
                  · rw [ef] at GE
                    have eg : good xs' (s', gen') = false := by unfold good; rw [ef]; rfl
                    have HGE : Hid (Calls Tryd.prog 12 #[.pointer (some ⟨sb, 0, none⟩), .agg #[.int .i64 (s' : Int), .int .i64 gen']] wr fun e w' => e = .returned (.tuple #[.int .i64 0, .int .i64 60]) ∧ Hid (Ag w w' sb tb bb n last xs' gs K (.slice (some ⟨g, 0, none⟩) K gc) (.slice (some ⟨l, 0, none⟩) K lc))) := GE.mono fun e w' ⟨q1, q2, q3⟩ => ⟨q1, hJ.out.slots q2 q3⟩
                    clear GE ef hJ b2
                    go_wp2_with fail
                    refine Calls.mono HGE.out ?_
                    rintro e w7 ⟨rfl, H7⟩
                    clear b0 b1 HGE
                    obtain ⟨_, _, b2, _⟩ := H7.out.am.cells H7.out.len hs'
                    rw [hgl, eg] at b2
                    clear hgl eg hs'
                    go_wp2_with fail
                    go_roundw
                    case rel => exact ⟨j + 1, by omega, by go_num, H7⟩
                    case measure => simp [intOf]; omega
                  · rw [ef] at GE
                    have eg : good xs' (s', gen') = true := by unfold good; rw [ef]; rfl
                    have HGE : Hid (Calls Tryd.prog 12 #[.pointer (some ⟨sb, 0, none⟩), .agg #[.int .i64 (s' : Int), .int .i64 gen']] wr fun e w' => e = .returned (.tuple #[.int .i64 t', .int .i64 0]) ∧ Hid (Ag w w' sb tb bb n last xs' gs K (.slice (some ⟨g, 0, none⟩) K gc) (.slice (some ⟨l, 0, none⟩) K lc))) := GE.mono fun e w' ⟨q1, q2, q3⟩ => ⟨q1, hJ.out.slots q2 q3⟩
                    clear GE ef hJ b2
                    go_wp2_with fail
                    refine Calls.mono HGE.out ?_
                    rintro e w7 ⟨rfl, H7⟩
                    clear b0 b1 HGE
                    obtain ⟨_, _, b2, _⟩ := H7.out.am.cells H7.out.len hs'
                    rw [hgl, eg] at b2
                    clear hgl eg hs'
                    go_wp2_with fail
                    go_roundw
                    case rel => exact ⟨j + 1, by omega, by go_num, H7⟩
                    case measure => simp [intOf]; omega
                · have dj : decide ((j : Int) < (K : Int)) = false := decide_eq_false (by omega)
                  clear hj
                  go_wp2_with fail
                  go_roundw
                  case rel => exact ⟨i + 1, K, some ⟨g, 0, none⟩, gc, some ⟨l, 0, none⟩, lc, xs', gs, by omega, by omega, by omega, by go_num, rfl, rfl, hJ⟩
                  case measure => simp [intOf]; omega
      · have d2 : decide ((i : Int) < 200) = false := decide_eq_false (by omega)
        have BL : Hid (Below w.heap.size w wr) := hI.out.am.tv.bel
        clear hI
        go_wp2_with fail
        go_ret
        exact ⟨rfl, BL.out⟩
    · have d1 : decide ((i : Int) < (L0 : Int)) = false := decide_eq_false (by omega)
      have BL : Hid (Below w.heap.size w wr) := hI.out.am.tv.bel
      clear hI
      go_wp2_with fail
      go_ret
      exact ⟨rfl, BL.out⟩
end Go.Proofs.YtbnbgikhdfbpcaaDoor
namespace Go.Proofs.YtbnbgikhdfbpcaaDoor
open Go.RowKit Go.ChangeShapes Go.WideShapes Go.ChangeAt
set_option linter.unusedVariables false
theorem wf_i64 {n : Int} (h : (Lit.int .i64 n).wf = true) : -9223372036854775808 ≤ n ∧ n ≤ 9223372036854775807 := by
  have hmin : IntKind.i64.min = -9223372036854775808 := rfl
  have hmax : IntKind.i64.max = 9223372036854775807 := rfl
  have h2 : IntKind.i64.min ≤ n ∧ n ≤ IntKind.i64.max := by simpa [Lit.wf] using h
  rw [hmin, hmax] at h2
  exact h2
theorem tsl_none (w : World) : TSl w none 0 0 (fun _ => ByteArray.empty) := ⟨Nat.le_refl _, by omega, .inl rfl⟩
theorem tsl_of {w : World} {a : Addr} {len cap : Nat} {ss : List ByteArray} (hl : len ≤ cap) (hm : cap ≤ maxLen) (hs : len ≤ ss.length) (h : ∀ i, i < ss.length → w.cell? (a.add i) = some (.string (ss.getD i ByteArray.empty))) : TSl w (some a) len cap (fun i => ss.getD i ByteArray.empty) := by
  refine ⟨hl, by simp only [maxLen] at hm; omega, ?_⟩
  rcases Nat.eq_zero_or_pos len with e | e
  · exact .inl e
  · obtain ⟨b, off, spot⟩ := a
    have hc := h 0 (by omega)
    have hspot : spot = none := by simpa [Addr.add] using World.cell?_spot hc
    subst hspot
    refine .inr ⟨b, off, rfl, fun i hi => ?_⟩
    have h1 := h i (by omega)
    rw [addr_add] at h1
    exact h1
theorem texts_of {H : Type} {enc : TypeId × Value → H} {w : World} {base : Nat} {held : Bool} {fuel : Nat} {a : Option Addr} {len cap : Nat} {x : DataW H × List MemPlace} (h : DataW.trod enc Tryd.prog w base (fun _ => true) held fuel 67 (Value.slice a len cap).cells.toList = some x) : ∃ F, TSl w a len cap F := by
  rcases open_strings Tryd.underlying67 Tryd.underlying9 (by kernel_rfl) h with ⟨hcs, _⟩ | ⟨x, l, c, ss, hcs, _, hl, hm, hz, _, hcell, _⟩
  · simp [Value.cells] at hcs
    obtain ⟨rfl, rfl, rfl⟩ := hcs
    exact ⟨_, tsl_none w⟩
  · simp [Value.cells] at hcs
    obtain ⟨rfl, rfl, rfl⟩ := hcs
    exact ⟨_, tsl_of hl hm (by simp at hz; omega) hcell⟩
theorem isl_none (w : World) : ISl w none 0 0 (fun _ => 0) := ⟨Nat.le_refl _, by omega, fun i hi => by omega, .inl rfl⟩
theorem isl_of {w : World} {a : Addr} {len cap : Nat} {zs : List Int} (hl : len ≤ cap) (hm : cap ≤ maxLen) (hz : zs.length = cap) (h : ∀ i, i < zs.length → w.cell? (a.add i) = some (.int .i64 (zs.getD i 0))) (hw : ∀ n ∈ zs, (Lit.int .i64 n).wf = true) : ISl w (some a) len cap (fun i => zs.getD i 0) := by
  refine ⟨hl, by simp only [maxLen] at hm; omega, fun i hi => ?_, ?_⟩
  · have : zs.getD i 0 ∈ zs := by
      rw [List.getD_eq_getElem?_getD, List.getElem?_eq_getElem (by omega)]
      exact List.getElem_mem _
    exact wf_i64 (hw _ this)
  · rcases Nat.eq_zero_or_pos len with e | e
    · exact .inl e
    · obtain ⟨b, off, spot⟩ := a
      have hc := h 0 (by omega)
      have hspot : spot = none := by simpa [Addr.add] using World.cell?_spot hc
      subst hspot
      refine .inr ⟨b, off, rfl, fun i hi => ?_⟩
      have h1 := h i (by omega)
      rw [addr_add] at h1
      exact h1
theorem ints_of {H : Type} {enc : TypeId × Value → H} {w : World} {base : Nat} {held : Bool} {fuel : Nat} {a : Option Addr} {len cap : Nat} {x : DataW H × List MemPlace} (h : DataW.trod enc Tryd.prog w base (fun _ => true) held fuel 63 (Value.slice a len cap).cells.toList = some x) : ∃ F, ISl w a len cap F := by
  rcases open_ints Tryd.underlying63 Tryd.underlying3 (by kernel_rfl) h with ⟨hcs, _⟩ | ⟨x, l, c, zs, hcs, _, hl, hm, hz, hx, hcell, hwz⟩
  · simp [Value.cells] at hcs
    obtain ⟨rfl, rfl, rfl⟩ := hcs
    exact ⟨_, isl_none w⟩
  · simp [Value.cells] at hcs
    obtain ⟨rfl, rfl, rfl⟩ := hcs
    exact ⟨_, isl_of hl hm (by simpa using hz) hcell hwz⟩
theorem ownD : ownKnob Tryd.prog.godebug = none := by kernel_rfl
theorem laidOutD : laidOutB Tryd.prog = true := by kernel_rfl
end Go.Proofs.YtbnbgikhdfbpcaaDoor
