/- Contracts of the program's functions, part 6: own work, joined in build order. -/
import Derived.Test.YtcndbmccediknaaJ5
import Derived.LaidEqlPtr
namespace Go.Proofs.Ytcndbmccediknaa
open Go.RowKit
set_option maxRecDepth 100000
set_option linter.unusedVariables false
def ow (r : Int) (k i : Nat) : Int := if i < k then r + 1 else r
def upd (s : Sd) (r : Int) (k i : Nat) : Fw := { s.Y (s.nth i) with kept := (s.Y (s.nth i)).kept + ow r k i * (s.Y (s.nth i)).quantum }
theorem own_eq {r : Int} {k i n : Nat} (hr : 0 ≤ r) (hk : k < n) (hi : i < n) (ht : (i : Int) < r * (n : Int) + (k : Int)) : (r * (n : Int) + (k : Int) - (i : Int) - 1).tdiv (n : Int) + 1 = ow r k i := by
  have hn : (0 : Int) < n := by omega
  rw [Int.tdiv_eq_ediv_of_nonneg (by omega)]
  unfold ow
  split
  · rw [show r * (n : Int) + (k : Int) - (i : Int) - 1 = ((k : Int) - i - 1) + r * (n : Int) by omega, Int.add_mul_ediv_right _ _ (by omega), Int.ediv_eq_zero_of_lt (by omega) (by omega)]
    omega
  have e : r * (n : Int) = (r - 1) * (n : Int) + n := by rw [Int.sub_mul]; omega
  rw [show r * (n : Int) + (k : Int) - (i : Int) - 1 = ((n : Int) + k - i - 1) + (r - 1) * (n : Int) by omega, Int.add_mul_ediv_right _ _ (by omega), Int.ediv_eq_zero_of_lt (by omega) (by omega)]
  omega
theorem own_zero {r : Int} {k i n : Nat} (hr : 0 ≤ r) (hn : i < n) (ht : r * (n : Int) + (k : Int) ≤ (i : Int)) : ow r k i = 0 := by
  have h1 : r = 0 := by
    rcases Int.lt_or_le r 1 with e | e
    · omega
    have : 1 * (n : Int) ≤ r * (n : Int) := Int.mul_le_mul_of_nonneg_right e (by omega)
    omega
  subst h1
  unfold ow
  rw [if_neg (by omega)]
theorem rt_rk {α : Type} (xs : List α) {r : Int} {k : Nat} (hk : k < xs.length) : rt (r * (xs.length : Int) + (k : Int)) xs = rl k xs := by
  unfold rt
  rw [Int.add_comm, Int.add_mul_emod_self_right, Int.emod_eq_of_lt (by omega) (by omega)]
  simp
theorem nth_inj {s : Sd} (hd : s.R.Nodup) {i j : Nat} (hi : i < s.R.length) (hj : j < s.R.length) (h : s.nth i = s.nth j) : i = j := by
  unfold Sd.nth at h
  rw [List.getD_eq_getElem?_getD, List.getD_eq_getElem?_getD, List.getElem?_eq_getElem hi, List.getElem?_eq_getElem hj] at h
  exact (List.getElem_inj hd).1 h
structure Up (s : Sd) (r : Int) (k i : Nat) (Y' : Nat → Fw) : Prop where
  inn : ∀ j, j < s.R.length → Y' (s.nth j) = if j < i then upd s r k j else s.Y (s.nth j)
  out : ∀ b, b ∉ s.R → Y' b = s.Y b
set_option maxHeartbeats 4000000 in
theorem passD_any (d : Nat) (s : Sd) (r : Int) (k : Nat) (w : World) (h : DS w d s) (hn : s.R.length ≤ 1073741824) (hdu : s.R.Nodup) (hr : 0 ≤ r) (hr2 : r ≤ 2147483648) (hk : k < s.R.length)
    (hb : ∀ i, i < s.R.length → 0 ≤ ow r k i * (s.Y (s.nth i)).quantum ∧ ow r k i * (s.Y (s.nth i)).quantum ≤ 4611686018427387904 ∧ -1073741824 ≤ (s.Y (s.nth i)).kept ∧ (s.Y (s.nth i)).kept ≤ 1073741824) :
    Calls Try.prog 31 #[.pointer (some ⟨d, 0, none⟩), .int .i64 (r * (s.R.length : Int) + (k : Int))] w fun e w' => e = .returned (.tuple #[]) ∧ ∃ Y' g', Up s r k s.R.length Y' ∧ DF d s { s with Y := Y', R := rl k s.R, g := g', x := { s.x with turn := true } } w w' := by
  obtain ⟨n, en⟩ : ∃ n, n = s.R.length := ⟨_, rfl⟩
  have hm : r * (n : Int) ≤ 2147483648 * 1073741824 := Int.mul_le_mul hr2 (by omega) (by omega) (by omega)
  have hm0 : 0 ≤ r * (n : Int) := Int.mul_nonneg hr (by omega)
  obtain ⟨T, eT⟩ : ∃ T, T = r * (n : Int) + (k : Int) := ⟨_, rfl⟩
  have hT0 : 0 ≤ T := by omega
  have hT1 : T ≤ 2305843010287435776 := by omega
  rw [← en, ← eT]
  obtain ⟨mn, emn⟩ : ∃ mn : Nat, (mn : Int) = if (n : Int) < T then (n : Int) else T := ⟨(if (n : Int) < T then (n : Int) else T).toNat, by split <;> omega⟩
  have HH : Hid (n = s.R.length ∧ T = r * (n : Int) + (k : Int) ∧ s.R.Nodup ∧ 0 ≤ r ∧ k < s.R.length ∧ (mn : Int) = if (n : Int) < T then (n : Int) else T) := ⟨en, eT, hdu, hr, hk, emn⟩
  have HB : Hid (∀ i, i < s.R.length → 0 ≤ ow r k i * (s.Y (s.nth i)).quantum ∧ ow r k i * (s.Y (s.nth i)).quantum ≤ 4611686018427387904 ∧ -1073741824 ≤ (s.Y (s.nth i)).kept ∧ (s.Y (s.nth i)).kept ≤ 1073741824) := hb
  have HD : Hid (DF d s s w w) := h.df
  obtain ⟨rg, erg⟩ : ∃ rg, rg = s.x.ring := ⟨_, rfl⟩
  have HG : Hid (rg = s.x.ring ∧ s.R.length ≤ 4294967296) := ⟨erg, by omega⟩
  have CR : Hid (∀ w1 Y', DF d s { s with Y := Y' } w w1 → w1.cell? ⟨d, 1, none⟩ = some (.pointer (some ⟨rg, 0, none⟩)) ∧ (Calls Try.prog 46 #[.pointer (some ⟨rg, 0, none⟩)] w1 fun e w' => e = .returned (.int .i64 (n : Int)) ∧ w' = w1) ∧ ∀ i, i < n → Calls Try.prog 41 #[.pointer (some ⟨rg, 0, none⟩), .int .i64 (i : Int)] w1 fun e w' => e = .returned (.tuple #[.pointer (some ⟨s.nth i, 0, none⟩), .bool true]) ∧ DF d s { s with Y := Y' } w w') := fun w1 Y' h1 => by
    obtain ⟨N, f, hr⟩ := h1.1.rg
    have hr : RF w1 rg s.g N f (adrs s.R).length (adrs s.R) := by rw [erg]; exact hr
    refine ⟨by rw [erg]; exact World.rowIs.cell h1.1.dr (i := 1) (by omega), ?_, fun i hi => ?_⟩
    · have := lenF_any rg s.g N f _ _ w1 hr
      rw [adrs_len, ← en] at this
      exact this
    refine (atF_yes rg s.g N f _ _ i i w1 hr rfl (by rw [adrs_len]; omega)).mono ?_
    rintro e w2 ⟨rfl, m, rfl⟩
    refine ⟨?_, h1.drewN m⟩
    rw [adrs_getD (by omega)]
  obtain ⟨c1, CL, _⟩ := CR.out w s.Y h.df
  have HL : Hid (Calls Try.prog 46 #[.pointer (some ⟨rg, 0, none⟩)] w fun e w' => e = .returned (.int .i64 (n : Int)) ∧ w' = w) := CL
  clear h hn hdu hr hr2 hk hb en eT erg hm hm0 CL emn
  go_enter Try.func31, Try.ntmps31
  go_wp2_with fail
  refine HL.out.mono ?_
  rintro e w9 ⟨rfl, e9⟩
  rw [e9]
  clear e9 w9 HL c1
  go_wp2_with fail
  case inl =>
    have hc : (n : Int) < T := by first | assumption | omega
    have emn : (mn : Int) = (n : Int) := by rw [HH.out.2.2.2.2.2]; first | rw [if_pos hc] | (split <;> omega)
    have hmn : mn ≤ n := by omega
    go_loopw [17] (fun q17 wr => ∃ (i : Nat) (Y' : Nat → Fw), q17 = .int .i64 (i : Int) ∧ i ≤ mn ∧ Up s r k i Y' ∧ DF d s { s with Y := Y' } w wr) (fun q17 _ => mn - (intOf q17).toNat)
    case atStart => exact ⟨0, s.Y, rfl, Nat.zero_le _, ⟨fun j _ => by rw [if_neg (by omega)], fun _ _ => rfl⟩, HD.out⟩
    case round =>
      obtain ⟨i, Y', rfl, hi, hU, hd⟩ := hrel
      obtain ⟨c1, _, CA⟩ := CR.out wr Y' hd
      by_cases hin : i < mn
      · have hlt : (i : Int) < (n : Int) := by omega
        have hiT : (i : Int) < T := by omega
        have hiN : i < n := by omega
        have HA : Hid (Calls Try.prog 41 #[.pointer (some ⟨rg, 0, none⟩), .int .i64 (i : Int)] wr fun e w' => e = .returned (.tuple #[.pointer (some ⟨s.nth i, 0, none⟩), .bool true]) ∧ DF d s { s with Y := Y' } w w') := CA i hiN
        have HU : Hid (Up s r k i Y' ∧ i < s.R.length) := ⟨hU, by have := HH.out.1; omega⟩
        have hYi : Y' (s.nth i) = s.Y (s.nth i) := by rw [hU.inn i HU.out.2, if_neg (by omega)]
        obtain ⟨o, eo⟩ : ∃ o, o = ow r k i := ⟨_, rfl⟩
        obtain ⟨q, eq⟩ : ∃ q, q = (s.Y (s.nth i)).quantum := ⟨_, rfl⟩
        obtain ⟨kp, ekp⟩ : ∃ kp, kp = (s.Y (s.nth i)).kept := ⟨_, rfl⟩
        obtain ⟨b, eb⟩ : ∃ b, b = s.nth i := ⟨_, rfl⟩
        obtain ⟨j, hF⟩ := hd.1.inr _ (nth_mem HU.out.2)
        obtain ⟨b1, b2, b3, b4⟩ := HB.out i HU.out.2
        rw [← eo, ← eq] at b1 b2
        rw [← ekp] at b3 b4
        have x1 : IntKind.i64.wrap (T - (i : Int)) = T - (i : Int) := by rw [IntKind.wrap_i64]; omega
        have x2 : IntKind.i64.wrap (T - (i : Int) - 1) = T - (i : Int) - 1 := by rw [IntKind.wrap_i64]; omega
        have x3 : IntKind.i64.wrap ((T - (i : Int) - 1).tdiv (n : Int)) = (T - (i : Int) - 1).tdiv (n : Int) := wrap_i64_tdiv _ _ (by omega) (by omega) (by omega)
        have x4 : IntKind.i64.wrap ((T - (i : Int) - 1).tdiv (n : Int) + 1) = o := by
          have h0 := HH.out
          have h1 : (T - (i : Int) - 1).tdiv (n : Int) + 1 = o := by
            rw [eo, h0.2.1]
            exact own_eq h0.2.2.2.1 (by omega) hiN (by omega)
          have h2 : (T - (i : Int) - 1).tdiv (n : Int) ≤ T - (i : Int) - 1 := Int.tdiv_le_self _ (by omega)
          have h3 : 0 ≤ (T - (i : Int) - 1).tdiv (n : Int) := Int.tdiv_nonneg (by omega) (by omega)
          rw [← h1, IntKind.wrap_i64]
          omega
        have x5 : IntKind.i64.wrap (o * q) = o * q := by rw [IntKind.wrap_i64]; omega
        have x6 : IntKind.i64.wrap (kp + o * q) = kp + o * q := by rw [IntKind.wrap_i64]; omega
        have x7 : IntKind.i64.wrap ((i : Int) + 1) = (i : Int) + 1 := by rw [IntKind.wrap_i64]; omega
        have n0 : ¬ (n : Int) = 0 := by omega
        have HE : Hid (o = ow r k i ∧ q = (s.Y (s.nth i)).quantum ∧ kp = (s.Y (s.nth i)).kept ∧ b = s.nth i ∧ Y' (s.nth i) = s.Y (s.nth i) ∧ s.F j = some (s.nth i) ∧ i < mn) := ⟨eo, eq, ekp, eb, hYi, hF, hin⟩
        rw [← eb] at HA
        clear CA hd hU hi b1 b2 b3 b4 eo eq ekp eb hYi hF hin hiT hiN
        go_wp2_with fail
        refine HA.out.mono ?_
        rintro e w1 ⟨rfl, D1⟩
        have cl := D1.1.fl _ _ HE.out.2.2.2.2.2.1
        have cl' : Fl w1 b (s.Y (s.nth i)) := by
          rw [HE.out.2.2.2.1, ← HE.out.2.2.2.2.1]
          exact cl
        have k3 : w1.cell? ⟨b, 3, none⟩ = some (.int .i64 q) := by rw [HE.out.2.1]; exact World.rowIs.cell cl' (i := 3) (by omega)
        have k6 : w1.cell? ⟨b, 6, none⟩ = some (.int .i64 kp) := by rw [HE.out.2.2.1]; exact World.rowIs.cell cl' (i := 6) (by omega)
        have z6 : w1.frozen? ⟨b, 6, none⟩ = false := World.rowIs.frozen cl' 6
        have HD1 : Hid (DF d s { s with Y := Y' } w w1) := D1
        clear D1 cl cl' HA c1
        go_wp2_with fail
        go_region
        go_wp2_with fail
        go_roundw
        case rel =>
          obtain ⟨e1, e2, e3, e4, e5, e6, e7⟩ := HE.out
          subst e1
          subst e2
          subst e3
          subst e4
          have X := HD1.out.setF (b := s.nth i) e6 6 (.int .i64 ((s.Y (s.nth i)).kept + ow r k i * (s.Y (s.nth i)).quantum)) (upd s r k i) (by
            intro j hj
            show (if j = 6 then _ else (Y' (s.nth i)).cell j) = _
            rw [e5]
            rcases j with _ | _ | _ | _ | _ | _ | _ | j <;> first | rfl | omega) (by show _ = (Y' (s.nth i)).slot; rw [e5]; rfl) (by show _ = (Y' (s.nth i)).queue; rw [e5]; rfl)
          refine ⟨i + 1, updN Y' (s.nth i) (upd s r k i), by go_num, by omega, ⟨fun j hj => ?_, fun c hc => ?_⟩, by first | exact X.drew | exact X⟩
          · by_cases e : j = i
            · subst e
              rw [updN_eq, if_pos (by omega)]
            rw [updN_ne _ _ (fun h => e (nth_inj HH.out.2.2.1 hj HU.out.2 h)), HU.out.1.inn j hj]
            by_cases e2 : j < i
            · rw [if_pos e2, if_pos (by omega)]
            rw [if_neg e2, if_neg (by omega)]
          rw [updN_ne _ _ (fun h => hc (by rw [h]; exact nth_mem HU.out.2))]
          exact HU.out.1.out c hc
        case measure =>
          have := HE.out.2.2.2.2.2.2
          simp only [intOf]
          omega
      obtain rfl : i = mn := by omega
      have hnot : ¬ ((i : Int) < (n : Int)) := by omega
      have hU2 : Up s r k s.R.length Y' := by
        refine ⟨fun j hj => ?_, hU.out⟩
        rw [hU.inn j hj, if_pos hj]
        split
        · rfl
        rename_i hj2
        have := own_zero (r := r) (k := k) (i := j) (n := n) HH.out.2.2.2.1 (by have := HH.out.1; omega) (by have := HH.out.2.1; have := HH.out.1; omega)
        unfold upd
        rw [this, Int.zero_mul, Int.add_zero]
      have TN : Hid (Calls Try.prog 47 #[.pointer (some ⟨rg, 0, none⟩), .int .i64 T] wr fun e w' => e = .returned (.tuple #[]) ∧ ∃ g', DF d s { s with Y := Y', R := rl k s.R, g := g' } w w') := by
        obtain ⟨N, f, hr⟩ := hd.1.rg
        have hr' : RF wr rg s.g N f (adrs s.R).length (adrs s.R) := by rw [HG.out.1]; exact hr
        refine (turnF_any rg s.g N f _ T wr hr' (by rw [adrs_len]; have := HG.out.2; omega) (by omega) (by omega)).mono ?_
        rintro e w2 ⟨rfl, hR⟩
        have e1 : rt T (adrs s.R) = adrs (rl k s.R) := by
          unfold adrs
          rw [rt_map, HH.out.2.1, HH.out.1, rt_rk _ HH.out.2.2.2.2.1]
        rw [e1] at hR
        obtain ⟨g', X⟩ := hd.putR (R' := rl k s.R) (by rw [← HG.out.1]; exact hR) (fun c hc => hd.1.inr c (by
          unfold rl at hc
          rcases List.mem_append.1 hc with e | e
          · exact List.mem_of_mem_drop e
          exact List.mem_of_mem_take e))
        exact ⟨rfl, g', X⟩
      have HU2 : Hid (Up s r k s.R.length Y') := hU2
      clear CA hd hU hU2 hi
      go_wp2_with fail
      refine TN.out.mono ?_
      rintro e w1 ⟨rfl, g', D1⟩
      have z2 : w1.frozen? ⟨d, 2, none⟩ = false := World.rowIs.frozen D1.1.dr 2
      obtain ⟨t2, c2⟩ : ∃ v, w1.cell? ⟨d, 2, none⟩ = some v := ⟨_, World.rowIs.cell D1.1.dr (i := 2) (by omega)⟩
      have HD1 : Hid (DF d s { s with Y := Y', R := rl k s.R, g := g' } w w1) := D1
      clear D1 TN c1
      go_wp2_with fail
      refine bodyPost_end (v := .tuple #[]) (by simp [results, Try.results31, go_sem]) rfl ⟨rfl, Y', g', by have h9 := HU2.out; rw [← HH.out.1] at h9; exact h9, ?_⟩
      exact HD1.out.setD 2 (.bool true) _ (by
        intro j hj
        rcases j with _ | _ | _ | _ | _ | _ | _ | j <;> first | rfl | omega) rfl rfl
  case inr =>
    have hc : T ≤ (n : Int) := by first | assumption | omega
    have emn : (mn : Int) = T := by rw [HH.out.2.2.2.2.2]; first | rw [if_pos hc] | (split <;> omega)
    have hmn : mn ≤ n := by omega
    go_loopw [17] (fun q17 wr => ∃ (i : Nat) (Y' : Nat → Fw), q17 = .int .i64 (i : Int) ∧ i ≤ mn ∧ Up s r k i Y' ∧ DF d s { s with Y := Y' } w wr) (fun q17 _ => mn - (intOf q17).toNat)
    case atStart => exact ⟨0, s.Y, rfl, Nat.zero_le _, ⟨fun j _ => by rw [if_neg (by omega)], fun _ _ => rfl⟩, HD.out⟩
    case round =>
      obtain ⟨i, Y', rfl, hi, hU, hd⟩ := hrel
      obtain ⟨c1, _, CA⟩ := CR.out wr Y' hd
      by_cases hin : i < mn
      · have hlt : (i : Int) < T := by omega
        have hiT : (i : Int) < T := by omega
        have hiN : i < n := by omega
        have HA : Hid (Calls Try.prog 41 #[.pointer (some ⟨rg, 0, none⟩), .int .i64 (i : Int)] wr fun e w' => e = .returned (.tuple #[.pointer (some ⟨s.nth i, 0, none⟩), .bool true]) ∧ DF d s { s with Y := Y' } w w') := CA i hiN
        have HU : Hid (Up s r k i Y' ∧ i < s.R.length) := ⟨hU, by have := HH.out.1; omega⟩
        have hYi : Y' (s.nth i) = s.Y (s.nth i) := by rw [hU.inn i HU.out.2, if_neg (by omega)]
        obtain ⟨o, eo⟩ : ∃ o, o = ow r k i := ⟨_, rfl⟩
        obtain ⟨q, eq⟩ : ∃ q, q = (s.Y (s.nth i)).quantum := ⟨_, rfl⟩
        obtain ⟨kp, ekp⟩ : ∃ kp, kp = (s.Y (s.nth i)).kept := ⟨_, rfl⟩
        obtain ⟨b, eb⟩ : ∃ b, b = s.nth i := ⟨_, rfl⟩
        obtain ⟨j, hF⟩ := hd.1.inr _ (nth_mem HU.out.2)
        obtain ⟨b1, b2, b3, b4⟩ := HB.out i HU.out.2
        rw [← eo, ← eq] at b1 b2
        rw [← ekp] at b3 b4
        have x1 : IntKind.i64.wrap (T - (i : Int)) = T - (i : Int) := by rw [IntKind.wrap_i64]; omega
        have x2 : IntKind.i64.wrap (T - (i : Int) - 1) = T - (i : Int) - 1 := by rw [IntKind.wrap_i64]; omega
        have x3 : IntKind.i64.wrap ((T - (i : Int) - 1).tdiv (n : Int)) = (T - (i : Int) - 1).tdiv (n : Int) := wrap_i64_tdiv _ _ (by omega) (by omega) (by omega)
        have x4 : IntKind.i64.wrap ((T - (i : Int) - 1).tdiv (n : Int) + 1) = o := by
          have h0 := HH.out
          have h1 : (T - (i : Int) - 1).tdiv (n : Int) + 1 = o := by
            rw [eo, h0.2.1]
            exact own_eq h0.2.2.2.1 (by omega) hiN (by omega)
          have h2 : (T - (i : Int) - 1).tdiv (n : Int) ≤ T - (i : Int) - 1 := Int.tdiv_le_self _ (by omega)
          have h3 : 0 ≤ (T - (i : Int) - 1).tdiv (n : Int) := Int.tdiv_nonneg (by omega) (by omega)
          rw [← h1, IntKind.wrap_i64]
          omega
        have x5 : IntKind.i64.wrap (o * q) = o * q := by rw [IntKind.wrap_i64]; omega
        have x6 : IntKind.i64.wrap (kp + o * q) = kp + o * q := by rw [IntKind.wrap_i64]; omega
        have x7 : IntKind.i64.wrap ((i : Int) + 1) = (i : Int) + 1 := by rw [IntKind.wrap_i64]; omega
        have n0 : ¬ (n : Int) = 0 := by omega
        have HE : Hid (o = ow r k i ∧ q = (s.Y (s.nth i)).quantum ∧ kp = (s.Y (s.nth i)).kept ∧ b = s.nth i ∧ Y' (s.nth i) = s.Y (s.nth i) ∧ s.F j = some (s.nth i) ∧ i < mn) := ⟨eo, eq, ekp, eb, hYi, hF, hin⟩
        rw [← eb] at HA
        clear CA hd hU hi b1 b2 b3 b4 eo eq ekp eb hYi hF hin hiT hiN
        go_wp2_with fail
        refine HA.out.mono ?_
        rintro e w1 ⟨rfl, D1⟩
        have cl := D1.1.fl _ _ HE.out.2.2.2.2.2.1
        have cl' : Fl w1 b (s.Y (s.nth i)) := by
          rw [HE.out.2.2.2.1, ← HE.out.2.2.2.2.1]
          exact cl
        have k3 : w1.cell? ⟨b, 3, none⟩ = some (.int .i64 q) := by rw [HE.out.2.1]; exact World.rowIs.cell cl' (i := 3) (by omega)
        have k6 : w1.cell? ⟨b, 6, none⟩ = some (.int .i64 kp) := by rw [HE.out.2.2.1]; exact World.rowIs.cell cl' (i := 6) (by omega)
        have z6 : w1.frozen? ⟨b, 6, none⟩ = false := World.rowIs.frozen cl' 6
        have HD1 : Hid (DF d s { s with Y := Y' } w w1) := D1
        clear D1 cl cl' HA c1
        go_wp2_with fail
        go_region
        go_wp2_with fail
        go_roundw
        case rel =>
          obtain ⟨e1, e2, e3, e4, e5, e6, e7⟩ := HE.out
          subst e1
          subst e2
          subst e3
          subst e4
          have X := HD1.out.setF (b := s.nth i) e6 6 (.int .i64 ((s.Y (s.nth i)).kept + ow r k i * (s.Y (s.nth i)).quantum)) (upd s r k i) (by
            intro j hj
            show (if j = 6 then _ else (Y' (s.nth i)).cell j) = _
            rw [e5]
            rcases j with _ | _ | _ | _ | _ | _ | _ | j <;> first | rfl | omega) (by show _ = (Y' (s.nth i)).slot; rw [e5]; rfl) (by show _ = (Y' (s.nth i)).queue; rw [e5]; rfl)
          refine ⟨i + 1, updN Y' (s.nth i) (upd s r k i), by go_num, by omega, ⟨fun j hj => ?_, fun c hc => ?_⟩, by first | exact X.drew | exact X⟩
          · by_cases e : j = i
            · subst e
              rw [updN_eq, if_pos (by omega)]
            rw [updN_ne _ _ (fun h => e (nth_inj HH.out.2.2.1 hj HU.out.2 h)), HU.out.1.inn j hj]
            by_cases e2 : j < i
            · rw [if_pos e2, if_pos (by omega)]
            rw [if_neg e2, if_neg (by omega)]
          rw [updN_ne _ _ (fun h => hc (by rw [h]; exact nth_mem HU.out.2))]
          exact HU.out.1.out c hc
        case measure =>
          have := HE.out.2.2.2.2.2.2
          simp only [intOf]
          omega
      obtain rfl : i = mn := by omega
      have hnot : ¬ ((i : Int) < T) := by omega
      have hU2 : Up s r k s.R.length Y' := by
        refine ⟨fun j hj => ?_, hU.out⟩
        rw [hU.inn j hj, if_pos hj]
        split
        · rfl
        rename_i hj2
        have := own_zero (r := r) (k := k) (i := j) (n := n) HH.out.2.2.2.1 (by have := HH.out.1; omega) (by have := HH.out.2.1; have := HH.out.1; omega)
        unfold upd
        rw [this, Int.zero_mul, Int.add_zero]
      have TN : Hid (Calls Try.prog 47 #[.pointer (some ⟨rg, 0, none⟩), .int .i64 T] wr fun e w' => e = .returned (.tuple #[]) ∧ ∃ g', DF d s { s with Y := Y', R := rl k s.R, g := g' } w w') := by
        obtain ⟨N, f, hr⟩ := hd.1.rg
        have hr' : RF wr rg s.g N f (adrs s.R).length (adrs s.R) := by rw [HG.out.1]; exact hr
        refine (turnF_any rg s.g N f _ T wr hr' (by rw [adrs_len]; have := HG.out.2; omega) (by omega) (by omega)).mono ?_
        rintro e w2 ⟨rfl, hR⟩
        have e1 : rt T (adrs s.R) = adrs (rl k s.R) := by
          unfold adrs
          rw [rt_map, HH.out.2.1, HH.out.1, rt_rk _ HH.out.2.2.2.2.1]
        rw [e1] at hR
        obtain ⟨g', X⟩ := hd.putR (R' := rl k s.R) (by rw [← HG.out.1]; exact hR) (fun c hc => hd.1.inr c (by
          unfold rl at hc
          rcases List.mem_append.1 hc with e | e
          · exact List.mem_of_mem_drop e
          exact List.mem_of_mem_take e))
        exact ⟨rfl, g', X⟩
      have HU2 : Hid (Up s r k s.R.length Y') := hU2
      clear CA hd hU hU2 hi
      go_wp2_with fail
      refine TN.out.mono ?_
      rintro e w1 ⟨rfl, g', D1⟩
      have z2 : w1.frozen? ⟨d, 2, none⟩ = false := World.rowIs.frozen D1.1.dr 2
      obtain ⟨t2, c2⟩ : ∃ v, w1.cell? ⟨d, 2, none⟩ = some v := ⟨_, World.rowIs.cell D1.1.dr (i := 2) (by omega)⟩
      have HD1 : Hid (DF d s { s with Y := Y', R := rl k s.R, g := g' } w w1) := D1
      clear D1 TN c1
      go_wp2_with fail
      refine bodyPost_end (v := .tuple #[]) (by simp [results, Try.results31, go_sem]) rfl ⟨rfl, Y', g', by have h9 := HU2.out; rw [← HH.out.1] at h9; exact h9, ?_⟩
      exact HD1.out.setD 2 (.bool true) _ (by
        intro j hj
        rcases j with _ | _ | _ | _ | _ | _ | _ | j <;> first | rfl | omega) rfl rfl
theorem neq_sameF {P : Program} (w : World) {tp te : TypeId} {j : TypeInfo} (a : Addr) (hp : P.underlying tp = some (.pointer te)) (hte : P.info? te = some j) :
    (binOp .neq tp (.pointer (some a)) (.pointer (some a))).run P w = .ok (.bool false) w := by
  have h : ∀ d : Nat, (Op.equalIn (d + 1) tp (.pointer (some a)) (.pointer (some a))).run P w = .ok true w := fun d => by
    simp [Op.equalIn, run_underlying hp, sizeOf, typeInfo, hte, run_sameAddr_same]
  simp only [binOp]
  simp [Op.equal, Op.maxDepth, h 9999]
theorem neq_otherF {P : Program} (w : World) {tp te : TypeId} {j : TypeInfo} {a b : Addr} {ca cb : Array Value} {ta tb : TypeId} (hp : P.underlying tp = some (.pointer te)) (hte : P.info? te = some j) (hsz : j.size ≠ 0)
    (hne : a ≠ b) (ha : w.heap[a.block]? = some (.cells ca ta (0, 0))) (hb : w.heap[b.block]? = some (.cells cb tb (0, 0))) :
    (binOp .neq tp (.pointer (some a)) (.pointer (some b))).run P w = .ok (.bool true) w := by
  have h : ∀ d : Nat, (Op.equalIn (d + 1) tp (.pointer (some a)) (.pointer (some b))).run P w = .ok false w := fun d => by
    simp [Op.equalIn, run_underlying hp, sizeOf, typeInfo, hte, hsz, run_sameAddr_other w hne ha hb]
  simp only [binOp]
  simp [Op.equal, Op.maxDepth, h 9999]
theorem Try.infoFl : (Try.prog.info? 74).map (fun i => i.size) = some 7 := by kernel_rfl
theorem info_fl : ∃ j, Try.prog.info? 74 = some j ∧ j.size ≠ 0 := by
  have h := Try.infoFl
  rcases e : Try.prog.info? 74 with _ | j
  · rw [e] at h
    cases h
  rw [e] at h
  simp at h
  exact ⟨j, rfl, by omega⟩
theorem neq_fl (w : World) (b : Nat) : (binOp .neq 71 (.pointer (some ⟨b, 0, none⟩)) (.pointer (some ⟨b, 0, none⟩))).run Try.prog w = .ok (.bool false) w := by
  obtain ⟨j, h1, h2⟩ := info_fl
  exact neq_sameF w _ Try.underlying71 h1
theorem neq_fl2 (w : World) {b c : Nat} {x y : Fw} (hb : Fl w b x) (hc : Fl w c y) (h : ¬ b = c) : (binOp .neq 71 (.pointer (some ⟨b, 0, none⟩)) (.pointer (some ⟨c, 0, none⟩))).run Try.prog w = .ok (.bool true) w := by
  obtain ⟨j, h1, h2⟩ := info_fl
  obtain ⟨_, e1, _⟩ := hb
  obtain ⟨_, e2, _⟩ := hc
  exact neq_otherF w Try.underlying71 h1 h2 (fun e => h (by injection e)) e1 e2
def Sd.outOf (s : Sd) (b i g' : Nat) : Sd := { s with Y := updN s.Y b { s.Y b with kept := 0 }, R := s.R.eraseIdx i, g := g', x := { s.x with turn := s.x.turn && decide (0 < i) } }
theorem adrs_erase (R : List Nat) (i : Nat) : (adrs R).eraseIdx i = adrs (R.eraseIdx i) := by
  unfold adrs
  induction R generalizing i with
  | nil => rfl
  | cons x R ih =>
    rcases i with _ | i
    · rfl
    simp only [List.map_cons, List.eraseIdx_cons_succ]
    rw [ih]
set_option maxHeartbeats 4000000 in
theorem takeOutD_any {M : Int → Option Nat} (d : Nat) (s : Sd) (b i : Nat) (w : World) (h : DSM M w d s) (hn : s.R.length ≤ 1073741824) (hdu : s.R.Nodup) (hi : i < s.R.length) (hb : s.nth i = b) :
    Calls Try.prog 37 #[.pointer (some ⟨d, 0, none⟩), .pointer (some ⟨b, 0, none⟩)] w fun e w' => e = .returned (.tuple #[]) ∧ ∃ g', DFM M d s (s.outOf b i g') w w' := by
  obtain ⟨n, en⟩ : ∃ n, n = s.R.length := ⟨_, rfl⟩
  obtain ⟨j0, hF⟩ : ∃ j, s.F j = some b := by rw [← hb]; exact h.inr _ (nth_mem hi)
  obtain ⟨Y', eY⟩ : ∃ Y', Y' = updN s.Y b { s.Y b with kept := 0 } := ⟨_, rfl⟩
  have HD : Hid (DFM M d s { s with Y := Y' } w (w.setCell ⟨b, 6, none⟩ (.int .i64 0))) := by
    rw [eY]
    exact h.df.setF hF 6 (.int .i64 0) _ (by
      intro j hj
      rcases j with _ | _ | _ | _ | _ | _ | _ | j <;> first | rfl | omega) rfl rfl
  have z6 : w.frozen? ⟨b, 6, none⟩ = false := World.rowIs.frozen (h.fl _ _ hF) 6
  obtain ⟨k6, c6⟩ : ∃ v, w.cell? ⟨b, 6, none⟩ = some v := ⟨_, World.rowIs.cell (h.fl _ _ hF) (i := 6) (by omega)⟩
  obtain ⟨rg, erg⟩ : ∃ rg, rg = s.x.ring := ⟨_, rfl⟩
  have HH : Hid (n = s.R.length ∧ s.R.Nodup ∧ s.nth i = b ∧ rg = s.x.ring ∧ s.F j0 = some b ∧ Y' = updN s.Y b { s.Y b with kept := 0 }) := ⟨en, hdu, hb, erg, hF, eY⟩
  have CR : Hid (∀ w1, DFM M d s { s with Y := Y' } w w1 → w1.cell? ⟨d, 1, none⟩ = some (.pointer (some ⟨rg, 0, none⟩)) ∧ (Calls Try.prog 46 #[.pointer (some ⟨rg, 0, none⟩)] w1 fun e w' => e = .returned (.int .i64 (n : Int)) ∧ w' = w1) ∧ (∀ i, i < n → Calls Try.prog 41 #[.pointer (some ⟨rg, 0, none⟩), .int .i64 (i : Int)] w1 fun e w' => e = .returned (.tuple #[.pointer (some ⟨s.nth i, 0, none⟩), .bool true]) ∧ DFM M d s { s with Y := Y' } w w') ∧ Calls Try.prog 51 #[.pointer (some ⟨rg, 0, none⟩), .int .i64 (i : Int)] w1 fun e w' => ∃ v, e = .returned (.tuple #[v, .bool true]) ∧ ∃ g', DFM M d s { s with Y := Y', R := s.R.eraseIdx i, g := g' } w w') := fun w1 h1 => by
    obtain ⟨N, f, hr⟩ := h1.1.rg
    have hr : RF w1 rg s.g N f (adrs s.R).length (adrs s.R) := by rw [erg]; exact hr
    refine ⟨by rw [erg]; exact World.rowIs.cell h1.1.dr (i := 1) (by omega), ?_, fun i hi => ?_, ?_⟩
    · have := lenF_any rg s.g N f _ _ w1 hr
      rw [adrs_len, ← en] at this
      exact this
    · refine (atF_yes rg s.g N f _ _ i i w1 hr rfl (by rw [adrs_len]; omega)).mono ?_
      rintro e w2 ⟨rfl, m, rfl⟩
      refine ⟨?_, h1.drewN m⟩
      rw [adrs_getD (by omega)]
    refine (takeF_yes rg s.g N f _ i i w1 hr rfl (by rw [adrs_len]; omega)).mono ?_
    rintro e w2 ⟨rfl, hR⟩
    rw [adrs_erase] at hR
    obtain ⟨g', X⟩ := h1.putR (R' := s.R.eraseIdx i) (by show RingsF w1 s.x.ring s.g _ _; rw [← erg]; exact hR) (fun c hc => h1.1.inr c (List.mem_of_mem_eraseIdx hc))
    exact ⟨_, rfl, g', X⟩
  obtain ⟨tn, etn⟩ : ∃ tn, tn = s.x.turn := ⟨_, rfl⟩
  have HT : Hid (tn = s.x.turn) := etn
  have hin : i < n := by omega
  have hnn : n ≤ 1073741824 := by omega
  have hbd : ¬ b = d := ne_cls (h.cb hF) h.cd (by decide)
  have hdb : ¬ d = b := fun e => hbd e.symm
  have cw : w.cell? ⟨d, 1, none⟩ = some (.pointer (some ⟨rg, 0, none⟩)) := by rw [erg]; exact World.rowIs.cell h.dr (i := 1) (by omega)
  clear h hn hdu hi hb en erg etn hF eY
  go_enter Try.func37, Try.ntmps37
  go_wp2_with fail
  obtain ⟨W, hW⟩ : ∃ W, W = w.setCell ⟨b, 6, none⟩ (.int .i64 0) := ⟨_, rfl⟩
  have HW : Hid (DFM M d s { s with Y := Y' } w W) := by rw [hW]; exact HD.out
  obtain ⟨c1, CL, _⟩ := CR.out W HW.out
  have HL : Hid (Calls Try.prog 46 #[.pointer (some ⟨rg, 0, none⟩)] W fun e w' => e = .returned (.int .i64 (n : Int)) ∧ w' = W) := CL
  rw [← hW]
  clear hW CL HD z6 c6 cw hbd hdb
  refine HL.out.mono ?_
  rintro e w9 ⟨rfl, e9⟩
  rw [e9]
  clear e9 w9 HL c1
  go_wp2_with fail
  go_loopw [15] (fun q15 wr => ∃ (m : Nat), q15 = .int .i64 (m : Int) ∧ m ≤ i ∧ DFM M d s { s with Y := Y' } w wr) (fun q15 _ => i - (intOf q15).toNat)
  case atStart => exact ⟨0, rfl, Nat.zero_le _, HW.out⟩
  case round =>
    obtain ⟨m, rfl, hm, hd⟩ := hrel
    obtain ⟨c1, _, CA, CT⟩ := CR.out wr hd
    have hmn : m < n := by omega
    have hlt : (m : Int) < (n : Int) := by omega
    have HA : Hid (Calls Try.prog 41 #[.pointer (some ⟨rg, 0, none⟩), .int .i64 (m : Int)] wr fun e w' => e = .returned (.tuple #[.pointer (some ⟨s.nth m, 0, none⟩), .bool true]) ∧ DFM M d s { s with Y := Y' } w w') := CA m hmn
    have x7 : IntKind.i64.wrap ((m : Int) + 1) = (m : Int) + 1 := by rw [IntKind.wrap_i64]; omega
    clear CA CT hd
    by_cases hmi : m = i
    · subst hmi
      have eb := HH.out.2.2.1
      rw [eb] at HA
      clear eb
      go_wp2_with fail
      refine HA.out.mono ?_
      rintro e w1 ⟨rfl, D1⟩
      clear HA c1
      have hnq := neq_fl w1 b
      obtain ⟨c1, _, _, CT⟩ := CR.out w1 D1
      have HTk : Hid (Calls Try.prog 51 #[.pointer (some ⟨rg, 0, none⟩), .int .i64 (m : Int)] w1 fun e w' => ∃ v, e = .returned (.tuple #[v, .bool true]) ∧ ∃ g', DFM M d s { s with Y := Y', R := s.R.eraseIdx m, g := g' } w w') := CT
      clear CT D1
      go_wp2_with fail
      refine HTk.out.mono ?_
      rintro e w2 ⟨v, rfl, g', D2⟩
      clear HTk c1 hnq
      have c2 : w2.cell? ⟨d, 2, none⟩ = some (.bool tn) := by rw [HT.out]; exact World.rowIs.cell D2.1.dr (i := 2) (by omega)
      have z2 : w2.frozen? ⟨d, 2, none⟩ = false := World.rowIs.frozen D2.1.dr 2
      have HD2 : Hid (DFM M d s { s with Y := Y', R := s.R.eraseIdx m, g := g' } w w2) := D2
      clear D2
      rcases Nat.eq_zero_or_pos m with hm0 | hm0
      · have FIN : Hid (DFM M d s (s.outOf b m g') w (w2.setCell ⟨d, 2, none⟩ (.bool false))) := by
          have X := HD2.out.setD 2 (.bool false) { s.x with turn := s.x.turn && decide (0 < m) } (by
            intro j hj
            rcases j with _ | _ | _ | _ | _ | _ | _ | j <;> first | rfl | omega | (subst hm0; simp [Dv.cell])) rfl rfl
          rw [HH.out.2.2.2.2.2] at X
          exact X
        subst hm0
        cases tn
        all_goals go_wp2_with fail
        all_goals refine bodyPost_ret (v := .tuple #[]) (by simp [results, Try.results37, go_sem]) rfl ⟨rfl, g', ?_⟩
        all_goals first | exact FIN.out | exact FIN.out.drew
      have FIN : Hid (DFM M d s (s.outOf b m g') w (w2.setCell ⟨d, 2, none⟩ (.bool tn))) := by
        have X := HD2.out.setD 2 (.bool tn) { s.x with turn := s.x.turn && decide (0 < m) } (by
          intro j hj
          rcases j with _ | _ | _ | _ | _ | _ | _ | j <;> first | rfl | omega | (simp [Dv.cell, hm0, HT.out])) rfl rfl
        rw [HH.out.2.2.2.2.2] at X
        exact X
      have hp : (0 : Int) < (m : Int) := by omega
      cases tn
      all_goals go_wp2_with fail
      all_goals refine bodyPost_ret (v := .tuple #[]) (by simp [results, Try.results37, go_sem]) rfl ⟨rfl, g', ?_⟩
      all_goals first | exact FIN.out | exact FIN.out.drew
    have hne : ¬ s.nth m = b := fun e => hmi (nth_inj HH.out.2.1 (by have := HH.out.1; omega) (by have := HH.out.1; omega) (e.trans HH.out.2.2.1.symm))
    go_wp2_with fail
    refine HA.out.mono ?_
    rintro e w1 ⟨rfl, D1⟩
    have HD1 : Hid (DFM M d s { s with Y := Y' } w w1) := D1
    obtain ⟨j1, hj1⟩ := D1.1.inr _ (nth_mem (s := s) (i := m) (by have := HH.out.1; omega))
    have hnq := neq_fl2 w1 (D1.1.fl _ _ hj1) (D1.1.fl _ _ HH.out.2.2.2.2.1) hne
    clear HA c1 D1 hj1 hne
    go_wp2_with fail
    go_roundw
    case rel => exact ⟨m + 1, by go_num, by omega, HD1.out⟩
    case measure =>
      simp only [intOf]
      omega
def Sd.lessOf (s : Sd) (b : Nat) (n : Int) : Sd := { s with x := { s.x with count := s.x.count - 1 }, Y := updN s.Y b { s.Y b with bytes := (s.Y b).bytes - n } }
set_option maxHeartbeats 4000000 in
theorem forgetD_last (d : Nat) (s : Sd) (p : Pk) (b : Nat) (k0 : Int) (w : World) (h : DS w d s) (hF : s.F k0 = some b) (s1 : 0 ≤ p.size) (s2 : p.size ≤ 65536) (hb1 : -4611686018427387904 ≤ (s.Y b).bytes) (hb2 : (s.Y b).bytes ≤ 4611686018427387904) (hc1 : -4611686018427387904 ≤ s.x.count) (hc2 : s.x.count ≤ 4611686018427387904) (he : s.Q b = []) (i : Nat) (hn : s.R.length ≤ 1073741824) (hdu : s.R.Nodup) (hi : i < s.R.length) (hnb : s.nth i = b) :
    Calls Try.prog 34 #[.pointer (some ⟨d, 0, none⟩), .pointer (some ⟨b, 0, none⟩), p.val] w fun e w' => e = .returned (.tuple #[]) ∧ ∃ g', DF d s ((s.lessOf b p.size).outOf b i g') w w' := by
  obtain ⟨a0, a1, a2, a3, a4, a5⟩ := p
  obtain ⟨W, hW⟩ : ∃ W, W = w.alloc (.cells #[.int .i64 a0, .int .i64 a1, .int .i64 a2, .int .i64 a3, .int .i64 a4, .int .i64 a5] 49) := ⟨_, rfl⟩
  obtain ⟨v, ev⟩ : ∃ v, v = w.heap.size := ⟨_, rfl⟩
  have B0 : Below w.heap.size w W := by rw [hW]; exact (Below.refl _ _).alloc (Nat.le_refl _) _
  have hB : W.heap[v]? = some (.cells #[.int .i64 a0, .int .i64 a1, .int .i64 a2, .int .i64 a3, .int .i64 a4, .int .i64 a5] 49) := by rw [hW, ev]; exact (MapKept.heap_alloc _ _).1
  have D0 : DF d s s w W := h.df.below B0
  have hbv : b ≠ v := by have := h.bl hF; omega
  have hdv : d ≠ v := by have := h.dl; omega
  have hbd : b ≠ d := ne_cls (h.cb hF) h.cd (by decide)
  have hbv' := Ne.symm hbv
  have hdv' := Ne.symm hdv
  have hbd' := Ne.symm hbd
  obtain ⟨by0, eby⟩ : ∃ y, y = (s.Y b).bytes := ⟨_, rfl⟩
  obtain ⟨ct, ect⟩ : ∃ y, y = s.x.count := ⟨_, rfl⟩
  obtain ⟨q, eq⟩ : ∃ q, q = (s.Y b).queue := ⟨_, rfl⟩
  have v3 : W.cell? ⟨v, 3, none⟩ = some (.int .i64 a3) := by simp [World.cell?, hB]
  have c4 : W.cell? ⟨d, 4, none⟩ = some (.int .i64 ct) := by rw [ect]; exact World.rowIs.cell D0.1.dr (i := 4) (by omega)
  have z4 : W.frozen? ⟨d, 4, none⟩ = false := World.rowIs.frozen D0.1.dr 4
  have b5 : W.cell? ⟨b, 5, none⟩ = some (.int .i64 by0) := by rw [eby]; exact World.rowIs.cell (D0.1.fl _ _ hF) (i := 5) (by omega)
  have b4 : W.cell? ⟨b, 4, none⟩ = some (.pointer (some ⟨q, 0, none⟩)) := by rw [eq]; exact World.rowIs.cell (D0.1.fl _ _ hF) (i := 4) (by omega)
  have y5 : W.frozen? ⟨b, 5, none⟩ = false := World.rowIs.frozen (D0.1.fl _ _ hF) 5
  have cA : (w.alloc (.cells #[.int .i64 a0, .int .i64 a1, .int .i64 a2, .int .i64 a3, .int .i64 a4, .int .i64 a5] 49)).cell? ⟨d, 4, none⟩ = some (.int .i64 ct) := by rw [← hW]; exact c4
  have zA : (w.alloc (.cells #[.int .i64 a0, .int .i64 a1, .int .i64 a2, .int .i64 a3, .int .i64 a4, .int .i64 a5] 49)).frozen? ⟨d, 4, none⟩ = false := by rw [← hW]; exact z4
  have hw1 : IntKind.i64.wrap (by0 - a3) = by0 - a3 := by rw [IntKind.wrap_i64, eby]; simp only at s1 s2; omega
  have hw2 : IntKind.i64.wrap (ct - 1) = ct - 1 := by rw [IntKind.wrap_i64, ect]; omega
  have FIN : Hid (DF d s (s.lessOf b a3) w ((W.setCell ⟨d, 4, none⟩ (.int .i64 (ct - 1))).setCell ⟨b, 5, none⟩ (.int .i64 (by0 - a3)))) := by
    have X := D0.setD 4 (.int .i64 (ct - 1)) { s.x with count := ct - 1 } (by
      intro j hj
      rcases j with _ | _ | _ | _ | _ | _ | _ | j <;> first | rfl | omega) rfl rfl
    have X2 := X.setF hF 5 (.int .i64 (by0 - a3)) { s.Y b with bytes := by0 - a3 } (by
      intro j hj
      rcases j with _ | _ | _ | _ | _ | _ | _ | j <;> first | rfl | omega) rfl rfl
    subst ect
    subst eby
    exact X2
  have HW : Hid (w.alloc (.cells #[.int .i64 a0, .int .i64 a1, .int .i64 a2, .int .i64 a3, .int .i64 a4, .int .i64 a5] 49) = W ∧ w.heap.size = v) := ⟨hW.symm, ev.symm⟩
  have HQ : Hid (s.F k0 = some b ∧ q = (s.Y b).queue) := ⟨hF, eq⟩
  have HE : Hid (s.Q b = []) := he
  have HL : Hid (s.R.length ≤ 1073741824 ∧ s.R.Nodup ∧ i < s.R.length ∧ s.nth i = b) := ⟨hn, hdu, hi, hnb⟩
  clear hn hdu hi hnb
  show Calls Try.prog 34 #[.pointer (some ⟨d, 0, none⟩), .pointer (some ⟨b, 0, none⟩), .agg #[.int .i64 a0, .int .i64 a1, .int .i64 a2, .int .i64 a3, .int .i64 a4, .int .i64 a5]] w _
  clear h hF s1 s2 hb1 hb2 hc1 hc2 he D0 B0 hB hW ev eq eby ect
  go_enter Try.func34, Try.ntmps34
  go_wp2_with fail
  rw [HW.out.1, HW.out.2]
  clear cA zA
  go_region
  go_wp2_with fail
  obtain ⟨W2, hW2⟩ : ∃ W2, W2 = ((W.setCell ⟨d, 4, none⟩ (.int .i64 (ct - 1))).setCell ⟨b, 5, none⟩ (.int .i64 (by0 - a3))).drew := ⟨_, rfl⟩
  have HD2 : Hid (DF d s (s.lessOf b a3) w W2) := by rw [hW2]; exact FIN.out.drew
  rw [← hW2]
  have LP : Hid (Calls Try.prog 28 #[.pointer (some ⟨q, 0, none⟩)] W2 fun e w' => e = .returned (.int .i64 (0 : Int)) ∧ w' = W2) := by
    obtain ⟨N, f, hq⟩ := HD2.out.1.qu _ _ HQ.out.1
    have hq' : RP W2 q (s.G b) N f (s.Q b).length (s.Q b) := by
      have e : ((s.lessOf b a3).Y b).queue = q := by
        rw [HQ.out.2]
        show (updN s.Y b _ b).queue = _
        rw [updN_eq]
      rw [← e]
      exact hq
    have := lenP_any q (s.G b) N f _ _ W2 hq'
    rw [HE.out] at this
    exact this
  clear hW2 FIN v3 c4 z4 b5 b4 y5
  refine LP.out.mono ?_
  rintro e w9 ⟨rfl, e9⟩
  rw [e9]
  clear LP e9 w9
  go_wp2_with fail
  have TK : Hid (Calls Try.prog 37 #[.pointer (some ⟨d, 0, none⟩), .pointer (some ⟨b, 0, none⟩)] W2 fun e w' => e = .returned (.tuple #[]) ∧ ∃ g', DF d (s.lessOf b a3) ((s.lessOf b a3).outOf b i g') W2 w') := takeOutD_any d (s.lessOf b a3) b i W2 HD2.out.1 HL.out.1 HL.out.2.1 HL.out.2.2.1 HL.out.2.2.2
  refine TK.out.mono ?_
  rintro e w3 ⟨rfl, g', D3⟩
  have HD3 : Hid (DF d s ((s.lessOf b a3).outOf b i g') w w3) := HD2.out.trans D3
  clear D3 TK
  go_wp2_with fail
  exact bodyPost_end (v := .tuple #[]) (by simp [results, Try.results34, go_sem]) rfl ⟨rfl, g', HD3.out⟩
set_option maxHeartbeats 4000000 in
theorem forgetD_more (d : Nat) (s : Sd) (p : Pk) (b : Nat) (k0 : Int) (w : World) (h : DS w d s) (hF : s.F k0 = some b) (s1 : 0 ≤ p.size) (s2 : p.size ≤ 65536) (hb1 : -4611686018427387904 ≤ (s.Y b).bytes) (hb2 : (s.Y b).bytes ≤ 4611686018427387904) (hc1 : -4611686018427387904 ≤ s.x.count) (hc2 : s.x.count ≤ 4611686018427387904) (he : s.Q b ≠ []) :
    Calls Try.prog 34 #[.pointer (some ⟨d, 0, none⟩), .pointer (some ⟨b, 0, none⟩), p.val] w fun e w' => e = .returned (.tuple #[]) ∧ DF d s (s.lessOf b p.size) w w' := by
  obtain ⟨a0, a1, a2, a3, a4, a5⟩ := p
  obtain ⟨W, hW⟩ : ∃ W, W = w.alloc (.cells #[.int .i64 a0, .int .i64 a1, .int .i64 a2, .int .i64 a3, .int .i64 a4, .int .i64 a5] 49) := ⟨_, rfl⟩
  obtain ⟨v, ev⟩ : ∃ v, v = w.heap.size := ⟨_, rfl⟩
  have B0 : Below w.heap.size w W := by rw [hW]; exact (Below.refl _ _).alloc (Nat.le_refl _) _
  have hB : W.heap[v]? = some (.cells #[.int .i64 a0, .int .i64 a1, .int .i64 a2, .int .i64 a3, .int .i64 a4, .int .i64 a5] 49) := by rw [hW, ev]; exact (MapKept.heap_alloc _ _).1
  have D0 : DF d s s w W := h.df.below B0
  have hbv : b ≠ v := by have := h.bl hF; omega
  have hdv : d ≠ v := by have := h.dl; omega
  have hbd : b ≠ d := ne_cls (h.cb hF) h.cd (by decide)
  have hbv' := Ne.symm hbv
  have hdv' := Ne.symm hdv
  have hbd' := Ne.symm hbd
  obtain ⟨by0, eby⟩ : ∃ y, y = (s.Y b).bytes := ⟨_, rfl⟩
  obtain ⟨ct, ect⟩ : ∃ y, y = s.x.count := ⟨_, rfl⟩
  obtain ⟨q, eq⟩ : ∃ q, q = (s.Y b).queue := ⟨_, rfl⟩
  have v3 : W.cell? ⟨v, 3, none⟩ = some (.int .i64 a3) := by simp [World.cell?, hB]
  have c4 : W.cell? ⟨d, 4, none⟩ = some (.int .i64 ct) := by rw [ect]; exact World.rowIs.cell D0.1.dr (i := 4) (by omega)
  have z4 : W.frozen? ⟨d, 4, none⟩ = false := World.rowIs.frozen D0.1.dr 4
  have b5 : W.cell? ⟨b, 5, none⟩ = some (.int .i64 by0) := by rw [eby]; exact World.rowIs.cell (D0.1.fl _ _ hF) (i := 5) (by omega)
  have b4 : W.cell? ⟨b, 4, none⟩ = some (.pointer (some ⟨q, 0, none⟩)) := by rw [eq]; exact World.rowIs.cell (D0.1.fl _ _ hF) (i := 4) (by omega)
  have y5 : W.frozen? ⟨b, 5, none⟩ = false := World.rowIs.frozen (D0.1.fl _ _ hF) 5
  have cA : (w.alloc (.cells #[.int .i64 a0, .int .i64 a1, .int .i64 a2, .int .i64 a3, .int .i64 a4, .int .i64 a5] 49)).cell? ⟨d, 4, none⟩ = some (.int .i64 ct) := by rw [← hW]; exact c4
  have zA : (w.alloc (.cells #[.int .i64 a0, .int .i64 a1, .int .i64 a2, .int .i64 a3, .int .i64 a4, .int .i64 a5] 49)).frozen? ⟨d, 4, none⟩ = false := by rw [← hW]; exact z4
  have hw1 : IntKind.i64.wrap (by0 - a3) = by0 - a3 := by rw [IntKind.wrap_i64, eby]; simp only at s1 s2; omega
  have hw2 : IntKind.i64.wrap (ct - 1) = ct - 1 := by rw [IntKind.wrap_i64, ect]; omega
  have FIN : Hid (DF d s (s.lessOf b a3) w ((W.setCell ⟨d, 4, none⟩ (.int .i64 (ct - 1))).setCell ⟨b, 5, none⟩ (.int .i64 (by0 - a3)))) := by
    have X := D0.setD 4 (.int .i64 (ct - 1)) { s.x with count := ct - 1 } (by
      intro j hj
      rcases j with _ | _ | _ | _ | _ | _ | _ | j <;> first | rfl | omega) rfl rfl
    have X2 := X.setF hF 5 (.int .i64 (by0 - a3)) { s.Y b with bytes := by0 - a3 } (by
      intro j hj
      rcases j with _ | _ | _ | _ | _ | _ | _ | j <;> first | rfl | omega) rfl rfl
    subst ect
    subst eby
    exact X2
  have HW : Hid (w.alloc (.cells #[.int .i64 a0, .int .i64 a1, .int .i64 a2, .int .i64 a3, .int .i64 a4, .int .i64 a5] 49) = W ∧ w.heap.size = v) := ⟨hW.symm, ev.symm⟩
  have HQ : Hid (s.F k0 = some b ∧ q = (s.Y b).queue) := ⟨hF, eq⟩
  have HE : Hid (s.Q b ≠ []) := he
  obtain ⟨n, en⟩ : ∃ n, n = (s.Q b).length := ⟨_, rfl⟩
  have hn0 : ¬ ((n : Int) = 0) := by
    have := List.length_pos_iff.2 he
    omega
  have HN : Hid (n = (s.Q b).length) := en
  clear en
  show Calls Try.prog 34 #[.pointer (some ⟨d, 0, none⟩), .pointer (some ⟨b, 0, none⟩), .agg #[.int .i64 a0, .int .i64 a1, .int .i64 a2, .int .i64 a3, .int .i64 a4, .int .i64 a5]] w _
  clear h hF s1 s2 hb1 hb2 hc1 hc2 he D0 B0 hB hW ev eq eby ect
  go_enter Try.func34, Try.ntmps34
  go_wp2_with fail
  rw [HW.out.1, HW.out.2]
  clear cA zA
  go_region
  go_wp2_with fail
  obtain ⟨W2, hW2⟩ : ∃ W2, W2 = ((W.setCell ⟨d, 4, none⟩ (.int .i64 (ct - 1))).setCell ⟨b, 5, none⟩ (.int .i64 (by0 - a3))).drew := ⟨_, rfl⟩
  have HD2 : Hid (DF d s (s.lessOf b a3) w W2) := by rw [hW2]; exact FIN.out.drew
  rw [← hW2]
  have LP : Hid (Calls Try.prog 28 #[.pointer (some ⟨q, 0, none⟩)] W2 fun e w' => e = .returned (.int .i64 (n : Int)) ∧ w' = W2) := by
    obtain ⟨N, f, hq⟩ := HD2.out.1.qu _ _ HQ.out.1
    have hq' : RP W2 q (s.G b) N f (s.Q b).length (s.Q b) := by
      have e : ((s.lessOf b a3).Y b).queue = q := by
        rw [HQ.out.2]
        show (updN s.Y b _ b).queue = _
        rw [updN_eq]
      rw [← e]
      exact hq
    have := lenP_any q (s.G b) N f _ _ W2 hq'
    rw [← HN.out] at this
    exact this
  clear hW2 FIN v3 c4 z4 b5 b4 y5
  refine LP.out.mono ?_
  rintro e w9 ⟨rfl, e9⟩
  rw [e9]
  clear LP e9 w9
  go_wp2_with fail
  exact bodyPost_end (v := .tuple #[]) (by simp [results, Try.results34, go_sem]) rfl ⟨rfl, HD2.out⟩
end Go.Proofs.Ytcndbmccediknaa
