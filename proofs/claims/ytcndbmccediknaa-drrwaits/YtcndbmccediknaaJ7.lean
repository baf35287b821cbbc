/- Contracts of the program's functions, part 7: own work, joined in build order. -/
import Derived.Test.YtcndbmccediknaaJ6
import Derived.RangeFuncNested
import Derived.RangeFuncWrites
import Derived.RangeFuncLeaves
import Derived.Test.YtcndbmccediknaaRows
import Derived.RangeFuncBound
import Derived.RangeFuncCalls
import Derived.Shelf.Abstract
import Derived.Shelf.RegionOpen
import Derived.OwnWalkIn
import Derived.TacticsInMore
import Derived.LoopNIn
import Derived.LoopIn
import Derived.Stop.RegionWithIn
import Derived.Maps.AppendAt
import Derived.RangeFuncBox
namespace Go.Proofs.Ytcndbmccediknaa
open Go.RowKit
set_option maxRecDepth 100000
set_option linter.unusedVariables false
theorem frontF_d (r g N f c : Nat) (x : Option Addr) (xs : List (Option Addr)) (w : World) (h : RF w r g N f c xs) (h1 : 0 < c) (h2 : xs.getD 0 (none : Option Addr) = x) : Calls Try.prog 23 #[.pointer (some ⟨r, 0, none⟩)] w fun e w' => e = .returned (.tuple #[.pointer x, .bool true]) ∧ ∃ n, w' = w.drewN n := by
  have HA : Hid (Calls Try.prog 41 #[.pointer (some ⟨r, 0, none⟩), .int .i64 0] w fun e w' => e = .returned (.tuple #[.pointer x, .bool true]) ∧ ∃ n, w' = w.drewN n) := by
    have := atF_yes r g N f c xs 0 0 w h rfl h1
    rw [h2] at this
    exact this
  clear h h1 h2
  go_enter Try.func23, Try.ntmps23
  go_wp2_with fail
  refine HA.out.mono ?_
  rintro e w1 ⟨rfl, n, rfl⟩
  go_wp2_with fail
  refine bodyPost_ret (v := .tuple #[.pointer x, .bool true]) (by simp [results, Try.results23, go_sem]) rfl ⟨rfl, n, rfl⟩
theorem rl_nodup {α : Type} {xs : List α} (h : xs.Nodup) (k : Nat) : (rl k xs).Nodup := by
  unfold rl
  have := List.take_append_drop k xs
  rw [← this] at h
  exact (List.perm_append_comm.nodup_iff).1 h
theorem rl_zero {R : List Nat} {k : Nat} (h : k < R.length) : (rl k R).getD 0 0 = R.getD k 0 := by
  unfold rl
  rw [List.getD_eq_getElem?_getD, List.getD_eq_getElem?_getD, List.getElem?_append_left (by simp; omega), List.getElem?_drop, Nat.add_zero]
def Sd.mid (s : Sd) (b k g1 g2 : Nat) (Y1 : Nat → Fw) (xs : List Pk) (sz : Int) : Sd := { s with x := { s.x with turn := true }, R := rl k s.R, g := g1, Y := updN Y1 b { Y1 b with kept := (Y1 b).kept - sz }, Q := updN s.Q b xs, G := updN s.G b g2 }
structure Nxt (d : Nat) (s : Sd) (w w' : World) (r : Int) (k : Nat) (x : Pk) (xs : List Pk) (Y1 : Nat → Fw) (s' : Sd) : Prop where
  pas : Pas s r k
  que : s.Q (s.nth k) = x :: xs
  up : Up s r k s.R.length Y1
  df : DF d s s' w w'
  st : ∃ g1 g2, (xs ≠ [] ∧ s' = (s.mid (s.nth k) k g1 g2 Y1 xs x.size).lessOf (s.nth k) x.size) ∨ (xs = [] ∧ ∃ g3, s' = ((s.mid (s.nth k) k g1 g2 Y1 xs x.size).lessOf (s.nth k) x.size).outOf (s.nth k) 0 g3)
set_option maxHeartbeats 4000000 in
theorem nextD_any (d : Nat) (s : Sd) (tk : Int) (w : World) (h : DS w d s) (hg : s.Good) (hR : s.R ≠ []) (hn : s.R.length ≤ 1073741824) (hdu : s.R.Nodup) (hc1 : 1 ≤ s.x.count) (hc2 : s.x.count ≤ 4611686018427387904) (hby : ∀ b, b ∈ s.R → -4611686018427387904 ≤ (s.Y b).bytes ∧ (s.Y b).bytes ≤ 4611686018427387904) :
    Calls Try.prog 17 #[.pointer (some ⟨d, 0, none⟩), .int .i64 tk] w fun e w' => ∃ r k x xs Y1 s', e = .returned (.tuple #[Pk.val x, .bool true]) ∧ Nxt d s w w' r k x xs Y1 s' := by
  obtain ⟨W, hW⟩ : ∃ W, W = w.alloc (.cells #[.int .i64 0, .int .i64 0, .int .i64 0, .int .i64 0, .int .i64 0, .int .i64 0] 49) := ⟨_, rfl⟩
  obtain ⟨v, ev⟩ : ∃ v, v = w.heap.size := ⟨_, rfl⟩
  have B0 : Below w.heap.size w W := by rw [hW]; exact (Below.refl _ _).alloc (Nat.le_refl _) _
  have hB : W.heap[v]? = some (.cells #[.int .i64 0, .int .i64 0, .int .i64 0, .int .i64 0, .int .i64 0, .int .i64 0] 49) := by rw [hW, ev]; exact (MapKept.heap_alloc _ _).1
  have D0 : DF d s s w W := h.df.below B0
  have hnv : ¬ Mine d s v := h.fresh (by omega)
  obtain ⟨ct, ect⟩ : ∃ y, y = s.x.count := ⟨_, rfl⟩
  have c4 : W.cell? ⟨d, 4, none⟩ = some (.int .i64 ct) := by rw [ect]; exact World.rowIs.cell D0.1.dr (i := 4) (by omega)
  have cA : (w.alloc (.cells #[.int .i64 0, .int .i64 0, .int .i64 0, .int .i64 0, .int .i64 0, .int .i64 0] 49)).cell? ⟨d, 4, none⟩ = some (.int .i64 ct) := by rw [← hW]; exact c4
  have hct : ¬ ct = 0 := by omega
  have HW : Hid (w.alloc (.cells #[.int .i64 0, .int .i64 0, .int .i64 0, .int .i64 0, .int .i64 0, .int .i64 0] 49) = W ∧ w.heap.size = v) := ⟨hW.symm, ev.symm⟩
  have PS : Hid (Calls Try.prog 32 #[.pointer (some ⟨d, 0, none⟩)] W fun e w' => (∃ (r : Int) (k : Nat), e = .returned (.int .i64 (r * (s.R.length : Int) + (k : Int))) ∧ Pas s r k) ∧ DF d s s W w') := passingD_any d s W D0.1 hg hR hn
  have HH : Hid (DF d s s w W ∧ W.heap[v]? = some (.cells #[.int .i64 0, .int .i64 0, .int .i64 0, .int .i64 0, .int .i64 0, .int .i64 0] 49) ∧ ¬ Mine d s v ∧ s.Good ∧ s.R.length ≤ 1073741824 ∧ s.R.Nodup ∧ 1 ≤ s.x.count ∧ s.x.count ≤ 4611686018427387904 ∧ (∀ b, b ∈ s.R → -4611686018427387904 ≤ (s.Y b).bytes ∧ (s.Y b).bytes ≤ 4611686018427387904)) := ⟨D0, hB, hnv, hg, hn, hdu, hc1, hc2, hby⟩
  clear h hg hR hn hdu hc1 hc2 hby B0 hB D0 hnv ect hW ev c4
  go_enter Try.func17, Try.ntmps17
  go_wp2_with fail
  rw [HW.out.1, HW.out.2]
  clear cA
  refine PS.out.mono ?_
  rintro e w1 ⟨⟨r, k, rfl, hp⟩, D1⟩
  clear PS
  have HP : Hid (Pas s r k) := hp
  have hkn := hp.kn
  have hr2 : r ≤ 2147483648 := by
    rcases hp.least with e | e
    · omega
    exact Int.le_trans (e k hkn) (va_le HH.out.2.2.2.1 hkn)
  have PP : Hid (Calls Try.prog 31 #[.pointer (some ⟨d, 0, none⟩), .int .i64 (r * (s.R.length : Int) + (k : Int))] w1 fun e w' => e = .returned (.tuple #[]) ∧ ∃ Y' g', Up s r k s.R.length Y' ∧ DF d s { s with Y := Y', R := rl k s.R, g := g', x := { s.x with turn := true } } w1 w') := by
    refine passD_any d s r k w1 D1.1 HH.out.2.2.2.2.1 HH.out.2.2.2.2.2.1 hp.r0 hr2 hkn fun i hi => ?_
    obtain ⟨_, q1, q2, _, _, k1, k2⟩ := HH.out.2.2.2.1 _ (nth_mem hi)
    have o1 : 0 ≤ ow r k i ∧ ow r k i ≤ 2147483649 := by
      have := hp.r0
      unfold ow
      split <;> omega
    have m1 : ow r k i * (s.Y (s.nth i)).quantum ≤ 2147483649 * 1073741824 := Int.mul_le_mul o1.2 q2 (by omega) (by omega)
    exact ⟨Int.mul_nonneg o1.1 (by omega), by omega, k1, k2⟩
  have HD1 : Hid (DF d s s W w1) := D1
  clear hp D1 hkn hr2
  go_wp2_with fail
  refine PP.out.mono ?_
  rintro e w2 ⟨rfl, Y1, g1, hU, D2⟩
  clear PP
  have HU : Hid (Up s r k s.R.length Y1) := hU
  have HD2 : Hid (DF d s { s with Y := Y1, R := rl k s.R, g := g1, x := { s.x with turn := true } } W w2) := HD1.out.trans D2
  clear hU D2 HD1
  obtain ⟨rg, erg⟩ : ∃ rg, rg = s.x.ring := ⟨_, rfl⟩
  have c1 : w2.cell? ⟨d, 1, none⟩ = some (.pointer (some ⟨rg, 0, none⟩)) := by rw [erg]; exact World.rowIs.cell HD2.out.1.dr (i := 1) (by omega)
  obtain ⟨b, eb⟩ : ∃ b, b = s.nth k := ⟨_, rfl⟩
  have HF : Hid (Calls Try.prog 23 #[.pointer (some ⟨rg, 0, none⟩)] w2 fun e w' => e = .returned (.tuple #[.pointer (some ⟨b, 0, none⟩), .bool true]) ∧ ∃ n, w' = w2.drewN n) := by
    obtain ⟨N, f, hr⟩ := HD2.out.1.rg
    have hr : RF w2 rg g1 N f (adrs (rl k s.R)).length (adrs (rl k s.R)) := by rw [erg]; exact hr
    have hl : 0 < (rl k s.R).length := by rw [rl_length]; have := HP.out.kn; omega
    refine frontF_d rg g1 N f _ _ _ w2 hr (by rw [adrs_len]; exact hl) ?_
    rw [eb]
    unfold adrs Sd.nth
    rw [← rl_zero HP.out.kn]
    simp [List.getD_eq_getElem?_getD, hl]
  clear erg
  go_wp2_with fail
  refine HF.out.mono ?_
  rintro e w3 ⟨rfl, n3, rfl⟩
  clear HF c1
  have D3 := HD2.out.drewN n3
  obtain ⟨j, hF⟩ := HD2.out.1.inr b (by
    show b ∈ rl k s.R
    unfold rl
    have hm := nth_mem (s := s) HP.out.kn
    rw [← eb] at hm
    rw [← List.take_append_drop k s.R] at hm
    exact List.mem_append.2 ((List.mem_append.1 hm).symm))
  have hF : s.F j = some b := hF
  obtain ⟨x, xs, hx⟩ : ∃ x xs, s.Q b = x :: xs := by
    obtain ⟨hq, _⟩ := HH.out.2.2.2.1 _ (nth_mem HP.out.kn)
    rw [← eb] at hq
    rcases e : s.Q b with _ | ⟨x, xs⟩
    · exact absurd e hq
    exact ⟨x, xs, rfl⟩
  obtain ⟨q, eq⟩ : ∃ q, q = (Y1 b).queue := ⟨_, rfl⟩
  obtain ⟨w4, ew4⟩ : ∃ w4, w4 = w2.drewN n3 := ⟨_, rfl⟩
  rw [← ew4] at D3 ⊢
  have b4 : w4.cell? ⟨b, 4, none⟩ = some (.pointer (some ⟨q, 0, none⟩)) := by rw [eq]; exact World.rowIs.cell (D3.1.fl j b hF) (i := 4) (by omega)
  have POP : Hid (Calls Try.prog 33 #[.pointer (some ⟨q, 0, none⟩)] w4 fun e w' => e = .returned (.tuple #[x.val, .bool true]) ∧ ∃ g2, DF d s { s with Y := Y1, R := rl k s.R, g := g1, x := { s.x with turn := true }, Q := updN s.Q b xs, G := updN s.G b g2 } W w') := by
    obtain ⟨N, f, hr⟩ := D3.1.qu j b hF
    have hr : RP w4 q (s.G b) N f (x :: xs).length (x :: xs) := by
      rw [eq, ← hx]
      exact hr
    refine (popFrontP_yes q (s.G b) N f x xs w4 hr).mono ?_
    rintro e w5 ⟨rfl, hR⟩
    obtain ⟨g2, X⟩ := D3.putQ hF (xs := xs) (by show RingsP w4 (Y1 b).queue (s.G b) _ _; rw [← eq]; exact hR)
    exact ⟨rfl, g2, X⟩
  have HE : Hid (s.F j = some b ∧ s.Q b = x :: xs ∧ b = s.nth k) := ⟨hF, hx, eb⟩
  clear D3 HD2 ew4 eq hF hx eb
  obtain ⟨a0, a1, a2, a3, a4, a5⟩ := x
  go_wp2_with fail
  refine POP.out.mono ?_
  rintro e w5 ⟨rfl, g2, D5⟩
  rw [show (⟨a0, a1, a2, a3, a4, a5⟩ : Pk).val = .agg #[.int .i64 a0, .int .i64 a1, .int .i64 a2, .int .i64 a3, .int .i64 a4, .int .i64 a5] from rfl]
  clear POP b4
  have HD5 : Hid (DF d s { s with Y := Y1, R := rl k s.R, g := g1, x := { s.x with turn := true }, Q := updN s.Q b xs, G := updN s.G b g2 } W w5) := D5
  clear D5
  obtain ⟨u, eu⟩ : ∃ u, u = w5.heap.size := ⟨_, rfl⟩
  have HV : Hid (w5.heap.size = u) := eu.symm
  clear eu
  go_wp2_with fail
  obtain ⟨W6, hW6⟩ : ∃ W6, W6 = w5.alloc (.cells #[.int .i64 a0, .int .i64 a1, .int .i64 a2, .int .i64 a3, .int .i64 a4, .int .i64 a5] 49) := ⟨_, rfl⟩
  rw [← hW6, HV.out]
  have D6 : DF d s { s with Y := Y1, R := rl k s.R, g := g1, x := { s.x with turn := true }, Q := updN s.Q b xs, G := updN s.G b g2 } W W6 := by rw [hW6]; exact HD5.out.alloc _
  have hu6 : W6.heap[u]? = some (.cells #[.int .i64 a0, .int .i64 a1, .int .i64 a2, .int .i64 a3, .int .i64 a4, .int .i64 a5] 49) := by rw [hW6, ← HV.out]; exact (MapKept.heap_alloc _ _).1
  have hv5 : ∀ w9 s9, DF d s s9 W w9 → w9.heap[v]? = some (.cells #[.int .i64 0, .int .i64 0, .int .i64 0, .int .i64 0, .int .i64 0, .int .i64 0] 49) ∧ ¬ Mine d s9 v := fun w9 s9 hd => by
    have lv := (Array.getElem?_eq_some_iff.1 HH.out.2.1).1
    refine ⟨(hd.2.block v lv HH.out.2.2.1).trans HH.out.2.1, fun hm => ?_⟩
    rcases hd.2.mine v hm with e | e
    · exact HH.out.2.2.1 e
    omega
  have HVV : Hid (∀ w9 s9, DF d s s9 W w9 → w9.heap[v]? = some (.cells #[.int .i64 0, .int .i64 0, .int .i64 0, .int .i64 0, .int .i64 0, .int .i64 0] 49) ∧ ¬ Mine d s9 v) := hv5
  obtain ⟨kp, ekp⟩ : ∃ kp, kp = (Y1 b).kept := ⟨_, rfl⟩
  have b6 : W6.cell? ⟨b, 6, none⟩ = some (.int .i64 kp) := by rw [ekp]; exact World.rowIs.cell (D6.1.fl j b HE.out.1) (i := 6) (by omega)
  have z6 : W6.frozen? ⟨b, 6, none⟩ = false := World.rowIs.frozen (D6.1.fl j b HE.out.1) 6
  have u0 : W6.cell? ⟨u, 0, none⟩ = some (.int .i64 a0) := by simp [World.cell?, hu6]
  have u1 : W6.cell? ⟨u, 1, none⟩ = some (.int .i64 a1) := by simp [World.cell?, hu6]
  have u2 : W6.cell? ⟨u, 2, none⟩ = some (.int .i64 a2) := by simp [World.cell?, hu6]
  have u3 : W6.cell? ⟨u, 3, none⟩ = some (.int .i64 a3) := by simp [World.cell?, hu6]
  have u4 : W6.cell? ⟨u, 4, none⟩ = some (.int .i64 a4) := by simp [World.cell?, hu6]
  have u5 : W6.cell? ⟨u, 5, none⟩ = some (.int .i64 a5) := by simp [World.cell?, hu6]
  have hub : u ≠ b := by
    have := HD5.out.1.bl (b := b) HE.out.1
    have := HV.out
    omega
  have hbu := Ne.symm hub
  have HY : Hid (Y1 b = upd s r k k) := by
    have := HU.out.inn k HP.out.kn
    rw [if_pos HP.out.kn, ← HE.out.2.2] at this
    exact this
  have hkr : -1073741824 ≤ kp ∧ kp ≤ 2305843010287435776 := by
    have hp := HP.out
    obtain ⟨_, q1, q2, _, _, k1, k2⟩ := HH.out.2.2.2.1 _ (nth_mem hp.kn)
    have hr2 : r ≤ 2147483648 := by
      rcases hp.least with e | e
      · omega
      exact Int.le_trans (e k hp.kn) (va_le HH.out.2.2.2.1 hp.kn)
    rw [ekp, HY.out]
    show -1073741824 ≤ (s.Y (s.nth k)).kept + ow r k k * (s.Y (s.nth k)).quantum ∧ (s.Y (s.nth k)).kept + ow r k k * (s.Y (s.nth k)).quantum ≤ 2305843010287435776
    have eo : ow r k k = r := by unfold ow; rw [if_neg (by omega)]
    rw [eo]
    have m1 : r * (s.Y (s.nth k)).quantum ≤ 2147483648 * 1073741824 := Int.mul_le_mul hr2 q2 (by omega) (by omega)
    have m0 : 0 ≤ r * (s.Y (s.nth k)).quantum := Int.mul_nonneg hp.r0 (by omega)
    omega
  have hsz : 0 ≤ a3 ∧ a3 ≤ 65536 := by
    obtain ⟨_, _, _, z1, z2, _, _⟩ := HH.out.2.2.2.1 _ (nth_mem HP.out.kn)
    unfold hdP at z1 z2
    rw [← HE.out.2.2, HE.out.2.1] at z1 z2
    exact ⟨z1, z2⟩
  have hwk : IntKind.i64.wrap (kp - a3) = kp - a3 := by rw [IntKind.wrap_i64]; omega
  have D7 : DF d s (s.mid b k g1 g2 Y1 xs a3) W ((W6.setCell ⟨b, 6, none⟩ (.int .i64 (kp - a3))).drew) := by
    have X := D6.setF HE.out.1 6 (.int .i64 (kp - a3)) { Y1 b with kept := kp - a3 } (by
      intro j hj
      rcases j with _ | _ | _ | _ | _ | _ | _ | j <;> first | rfl | omega) rfl rfl
    rw [ekp] at X ⊢
    exact X.drew
  have HD7 : Hid (DF d s (s.mid b k g1 g2 Y1 xs a3) W ((W6.setCell ⟨b, 6, none⟩ (.int .i64 (kp - a3))).drew)) := D7
  have HS : Hid (0 ≤ a3 ∧ a3 ≤ 65536 ∧ W6.heap[u]? = some (.cells #[.int .i64 a0, .int .i64 a1, .int .i64 a2, .int .i64 a3, .int .i64 a4, .int .i64 a5] 49) ∧ ¬ Mine d (s.mid b k g1 g2 Y1 xs a3) u) := by
    refine ⟨hsz.1, hsz.2, hu6, fun hm => HD5.out.1.fresh (k := u) (by have := HV.out; omega) ?_⟩
    exact mine_q (s := { s with Y := Y1, R := rl k s.R, g := g1, x := { s.x with turn := true }, Q := updN s.Q b xs, G := updN s.G b g2 }) (s' := { s.mid b k g1 g2 Y1 xs a3 with x := { s.x with turn := true } }) rfl rfl rfl (fun c => by
      show (updN Y1 b _ c).queue = (Y1 c).queue
      unfold updN
      split
      · rename_i e; rw [e]
      rfl) rfl hm
  clear hW6 D6 hu6 hv5 ekp hkr hsz D7
  go_region
  go_wp2_with fail
  obtain ⟨W7, hW7⟩ : ∃ W7, W7 = (W6.setCell ⟨b, 6, none⟩ (.int .i64 (kp - a3))).drew := ⟨_, rfl⟩
  have D7 : DF d s (s.mid b k g1 g2 Y1 xs a3) W W7 := by rw [hW7]; exact HD7.out
  have hu7 : W7.heap[u]? = some (.cells #[.int .i64 a0, .int .i64 a1, .int .i64 a2, .int .i64 a3, .int .i64 a4, .int .i64 a5] 49) := by
    rw [hW7]
    exact (Below.heap_setCell _ _ _ u hub).trans HS.out.2.2.1
  rw [← hW7]
  have HD7' : Hid (DF d s (s.mid b k g1 g2 Y1 xs a3) W W7 ∧ W7.heap[u]? = some (.cells #[.int .i64 a0, .int .i64 a1, .int .i64 a2, .int .i64 a3, .int .i64 a4, .int .i64 a5] 49)) := ⟨D7, hu7⟩
  have FG : Hid (Calls Try.prog 34 #[.pointer (some ⟨d, 0, none⟩), .pointer (some ⟨b, 0, none⟩), .agg #[.int .i64 a0, .int .i64 a1, .int .i64 a2, .int .i64 a3, .int .i64 a4, .int .i64 a5]] W7 fun e w' => e = .returned (.tuple #[]) ∧ ∃ s', DF d (s.mid b k g1 g2 Y1 xs a3) s' W7 w' ∧ ((xs ≠ [] ∧ s' = (s.mid b k g1 g2 Y1 xs a3).lessOf b a3) ∨ (xs = [] ∧ ∃ g3, s' = ((s.mid b k g1 g2 Y1 xs a3).lessOf b a3).outOf b 0 g3))) := by
    have hy : ((s.mid b k g1 g2 Y1 xs a3).Y b).bytes = (s.Y b).bytes := by
      show (updN Y1 b _ b).bytes = _
      rw [updN_eq, HY.out, HE.out.2.2]
      rfl
    have hbm : b ∈ s.R := by rw [HE.out.2.2]; exact nth_mem HP.out.kn
    have hb := HH.out.2.2.2.2.2.2.2.2 b hbm
    have hq : (s.mid b k g1 g2 Y1 xs a3).Q b = xs := updN_eq _ _ _
    have hc : (s.mid b k g1 g2 Y1 xs a3).x.count = s.x.count := rfl
    have hl : (s.mid b k g1 g2 Y1 xs a3).R.length = s.R.length := rl_length _ _
    have h0 := HP.out.kn
    by_cases hxs : xs = []
    · refine (forgetD_last d (s.mid b k g1 g2 Y1 xs a3) ⟨a0, a1, a2, a3, a4, a5⟩ b j W7 D7.1 HE.out.1 HS.out.1 HS.out.2.1 (by rw [hy]; exact hb.1) (by rw [hy]; exact hb.2) (by rw [hc]; have := HH.out.2.2.2.2.2.2.1; omega) (by rw [hc]; exact HH.out.2.2.2.2.2.2.2.1) (by rw [hq]; exact hxs) 0 (by rw [hl]; exact HH.out.2.2.2.2.1) (rl_nodup HH.out.2.2.2.2.2.1 k) (by rw [hl]; omega) ?_).mono ?_
      · rw [HE.out.2.2]
        exact rl_zero h0
      rintro e w8 ⟨rfl, g3, X⟩
      exact ⟨rfl, _, X, .inr ⟨hxs, g3, rfl⟩⟩
    refine (forgetD_more d (s.mid b k g1 g2 Y1 xs a3) ⟨a0, a1, a2, a3, a4, a5⟩ b j W7 D7.1 HE.out.1 HS.out.1 HS.out.2.1 (by rw [hy]; exact hb.1) (by rw [hy]; exact hb.2) (by rw [hc]; have := HH.out.2.2.2.2.2.2.1; omega) (by rw [hc]; exact HH.out.2.2.2.2.2.2.2.1) (by rw [hq]; exact hxs)).mono ?_
    rintro e w8 ⟨rfl, X⟩
    exact ⟨rfl, _, X, .inl ⟨hxs, rfl⟩⟩
  clear hW7 D7 hu7 HD7 b6 z6 u0 u1 u2 u3 u4 u5
  refine FG.out.mono ?_
  rintro e w8 ⟨rfl, s8, D8, hs8⟩
  clear FG
  have hu8 : w8.heap[u]? = some (.cells #[.int .i64 a0, .int .i64 a1, .int .i64 a2, .int .i64 a3, .int .i64 a4, .int .i64 a5] 49) := (D8.2.block u (Array.getElem?_eq_some_iff.1 HD7'.out.2).1 HS.out.2.2.2).trans HD7'.out.2
  have D8' : DF d s s8 W w8 := HD7'.out.1.trans D8
  obtain ⟨hv8, hn8⟩ := HVV.out w8 s8 D8'
  have u0 : w8.cell? ⟨u, 0, none⟩ = some (.int .i64 a0) := by simp [World.cell?, hu8]
  have u1 : w8.cell? ⟨u, 1, none⟩ = some (.int .i64 a1) := by simp [World.cell?, hu8]
  have u2 : w8.cell? ⟨u, 2, none⟩ = some (.int .i64 a2) := by simp [World.cell?, hu8]
  have u3 : w8.cell? ⟨u, 3, none⟩ = some (.int .i64 a3) := by simp [World.cell?, hu8]
  have u4 : w8.cell? ⟨u, 4, none⟩ = some (.int .i64 a4) := by simp [World.cell?, hu8]
  have u5 : w8.cell? ⟨u, 5, none⟩ = some (.int .i64 a5) := by simp [World.cell?, hu8]
  have v0 : w8.cell? ⟨v, 0, none⟩ = some (.int .i64 0) := by simp [World.cell?, hv8]
  have t0 : w8.frozen? ⟨v, 0, none⟩ = false := by simp [World.frozen?, hv8]
  have v1 : w8.cell? ⟨v, 1, none⟩ = some (.int .i64 0) := by simp [World.cell?, hv8]
  have t1 : w8.frozen? ⟨v, 1, none⟩ = false := by simp [World.frozen?, hv8]
  have v2 : w8.cell? ⟨v, 2, none⟩ = some (.int .i64 0) := by simp [World.cell?, hv8]
  have t2 : w8.frozen? ⟨v, 2, none⟩ = false := by simp [World.frozen?, hv8]
  have v3 : w8.cell? ⟨v, 3, none⟩ = some (.int .i64 0) := by simp [World.cell?, hv8]
  have t3 : w8.frozen? ⟨v, 3, none⟩ = false := by simp [World.frozen?, hv8]
  have v4 : w8.cell? ⟨v, 4, none⟩ = some (.int .i64 0) := by simp [World.cell?, hv8]
  have t4 : w8.frozen? ⟨v, 4, none⟩ = false := by simp [World.frozen?, hv8]
  have v5 : w8.cell? ⟨v, 5, none⟩ = some (.int .i64 0) := by simp [World.cell?, hv8]
  have t5 : w8.frozen? ⟨v, 5, none⟩ = false := by simp [World.frozen?, hv8]
  have huv : u ≠ v := by
    rintro rfl
    rw [hu8] at hv8
    have := (HVV.out W7 _ HD7'.out.1).1
    have e1 := HV.out
    have lv := (Array.getElem?_eq_some_iff.1 HH.out.2.1).1
    have := HD5.out.2.size
    omega
  have hvu := Ne.symm huv
  have HFIN : Hid (DF d s s8 w w8 ∧ ¬ Mine d s8 v ∧ ((xs ≠ [] ∧ s8 = (s.mid b k g1 g2 Y1 xs a3).lessOf b a3) ∨ (xs = [] ∧ ∃ g3, s8 = ((s.mid b k g1 g2 Y1 xs a3).lessOf b a3).outOf b 0 g3))) := ⟨HH.out.1.trans D8', hn8, hs8⟩
  clear hs8 D8 D8' hu8 hv8 hn8
  go_wp2_with fail
  refine bodyPost_ret (v := .tuple #[.agg #[.int .i64 a0, .int .i64 a1, .int .i64 a2, .int .i64 a3, .int .i64 a4, .int .i64 a5], .bool true]) (by simp [results, Try.results17, go_sem, *]) rfl ⟨r, k, ⟨a0, a1, a2, a3, a4, a5⟩, xs, Y1, s8, rfl, ⟨HP.out, by rw [← HE.out.2.2]; exact HE.out.2.1, HU.out, ?_, g1, g2, ?_⟩⟩
  · have X : ∀ i z w9, DF d s s8 w w9 → DF d s s8 w (w9.setCell ⟨v, i, none⟩ z) := fun i z w9 hx => hx.cellV (by rw [HW.out.2]; exact Nat.le_refl _) HFIN.out.2.1 i z
    repeat' first
      | exact HFIN.out.1
      | refine X _ _ _ ?_
      | refine DFM.drew ?_
  rw [← HE.out.2.2]
  exact HFIN.out.2.2
def Sd.queued (s : Sd) (b : Nat) (xs : List Pk) (g2 : Nat) : Sd := { s with Q := updN s.Q b xs, G := updN s.G b g2 }
set_option maxHeartbeats 4000000 in
theorem evictD_any (d : Nat) (s : Sd) (p : Pk) (b i : Nat) (xs : List Pk) (w : World) (h : DS w d s) (h1 : -9223372036854775808 ≤ p.slot) (h2 : p.slot ≤ 9223372036854775807) (hF : s.F p.slot = some b) (hg : (s.Y b).gen = p.gen) (hQ : s.Q b = xs ++ [p]) (s1 : 0 ≤ p.size) (s2 : p.size ≤ 65536) (hb1 : -4611686018427387904 ≤ (s.Y b).bytes) (hb2 : (s.Y b).bytes ≤ 4611686018427387904) (hc1 : -4611686018427387904 ≤ s.x.count) (hc2 : s.x.count ≤ 4611686018427387904) (hn : s.R.length ≤ 1073741824) (hdu : s.R.Nodup) (hi : i < s.R.length) (hnb : s.nth i = b) :
    Calls Try.prog 19 #[.pointer (some ⟨d, 0, none⟩), p.val] w fun e w' => e = .returned (.int .i64 0) ∧ ∃ g2 s', DF d s s' w w' ∧ ((xs ≠ [] ∧ s' = (s.queued b xs g2).lessOf b p.size) ∨ (xs = [] ∧ ∃ g3, s' = ((s.queued b xs g2).lessOf b p.size).outOf b i g3)) := by
  obtain ⟨a0, a1, a2, a3, a4, a5⟩ := p
  obtain ⟨W, hW⟩ : ∃ W, W = w.alloc (.cells #[.int .i64 a0, .int .i64 a1, .int .i64 a2, .int .i64 a3, .int .i64 a4, .int .i64 a5] 49) := ⟨_, rfl⟩
  obtain ⟨v, ev⟩ : ∃ v, v = w.heap.size := ⟨_, rfl⟩
  have B0 : Below w.heap.size w W := by rw [hW]; exact (Below.refl _ _).alloc (Nat.le_refl _) _
  have hB : W.heap[v]? = some (.cells #[.int .i64 a0, .int .i64 a1, .int .i64 a2, .int .i64 a3, .int .i64 a4, .int .i64 a5] 49) := by rw [hW, ev]; exact (MapKept.heap_alloc _ _).1
  have D0 : DF d s s w W := h.df.below B0
  have HO : Hid (Calls Try.prog 24 #[.pointer (some ⟨d, 0, none⟩), .agg #[.int .i64 a0, .int .i64 a1]] W fun e w' => e = .returned (.tuple #[.pointer (some ⟨b, 0, none⟩), .int .i64 0]) ∧ Below W.heap.size W w') := openD_yes d s.x s.nn s.F a0 a1 W D0.1.dr D0.1.mp h1 h2 b (s.Y b) hF (D0.1.fl _ _ hF) (D0.1.sl _ _ hF) hg
  have hnv : ¬ Mine d s v := h.fresh (by omega)
  obtain ⟨q, eq⟩ : ∃ q, q = (s.Y b).queue := ⟨_, rfl⟩
  have c0 : (w.alloc (.cells #[.int .i64 a0, .int .i64 a1, .int .i64 a2, .int .i64 a3, .int .i64 a4, .int .i64 a5] 49)).cell? ⟨v, 0, none⟩ = some (.int .i64 a0) := by rw [← hW]; simp [World.cell?, hB]
  have c1 : (w.alloc (.cells #[.int .i64 a0, .int .i64 a1, .int .i64 a2, .int .i64 a3, .int .i64 a4, .int .i64 a5] 49)).cell? ⟨v, 1, none⟩ = some (.int .i64 a1) := by rw [← hW]; simp [World.cell?, hB]
  rw [ev] at c0 c1
  have HW : Hid (w.alloc (.cells #[.int .i64 a0, .int .i64 a1, .int .i64 a2, .int .i64 a3, .int .i64 a4, .int .i64 a5] 49) = W ∧ w.heap.size = v) := ⟨hW.symm, ev.symm⟩
  have HD0 : Hid (DF d s s w W ∧ W.heap[v]? = some (.cells #[.int .i64 a0, .int .i64 a1, .int .i64 a2, .int .i64 a3, .int .i64 a4, .int .i64 a5] 49) ∧ v < W.heap.size ∧ s.F a0 = some b ∧ q = (s.Y b).queue ∧ ¬ Mine d s v) := ⟨D0, hB, (Array.getElem?_eq_some_iff.1 hB).1, hF, eq, hnv⟩
  have HH : Hid (s.Q b = xs ++ [⟨a0, a1, a2, a3, a4, a5⟩] ∧ 0 ≤ a3 ∧ a3 ≤ 65536 ∧ -4611686018427387904 ≤ (s.Y b).bytes ∧ (s.Y b).bytes ≤ 4611686018427387904 ∧ -4611686018427387904 ≤ s.x.count ∧ s.x.count ≤ 4611686018427387904 ∧ s.R.length ≤ 1073741824 ∧ s.R.Nodup ∧ i < s.R.length ∧ s.nth i = b) := ⟨hQ, s1, s2, hb1, hb2, hc1, hc2, hn, hdu, hi, hnb⟩
  show Calls Try.prog 19 #[.pointer (some ⟨d, 0, none⟩), .agg #[.int .i64 a0, .int .i64 a1, .int .i64 a2, .int .i64 a3, .int .i64 a4, .int .i64 a5]] w _
  clear h h1 h2 hF hg hQ s1 s2 hb1 hb2 hc1 hc2 hn hdu hi hnb D0 B0 hB hW ev hnv eq
  go_enter Try.func19, Try.ntmps19
  go_wp2_with fail
  rw [HW.out.1, HW.out.2]
  clear c0 c1
  refine HO.out.mono ?_
  rintro e w1 ⟨rfl, hb⟩
  have D1 := HD0.out.1.below hb
  have hv1 : w1.heap[v]? = some (.cells #[.int .i64 a0, .int .i64 a1, .int .i64 a2, .int .i64 a3, .int .i64 a4, .int .i64 a5] 49) := (hb.block v HD0.out.2.2.1).trans HD0.out.2.1
  have b4 : w1.cell? ⟨b, 4, none⟩ = some (.pointer (some ⟨q, 0, none⟩)) := by rw [HD0.out.2.2.2.2.1]; exact World.rowIs.cell (D1.1.fl _ _ HD0.out.2.2.2.1) (i := 4) (by omega)
  have BK : Hid (Calls Try.prog 35 #[.pointer (some ⟨q, 0, none⟩)] w1 fun e w' => e = .returned (.tuple #[.agg #[.int .i64 a0, .int .i64 a1, .int .i64 a2, .int .i64 a3, .int .i64 a4, .int .i64 a5], .bool true]) ∧ Below w1.heap.size w1 w') := by
    obtain ⟨N, f, hr⟩ := D1.1.qu _ _ HD0.out.2.2.2.1
    rw [← HD0.out.2.2.2.2.1, HH.out.1] at hr
    exact backP_yes q (s.G b) N f ⟨a0, a1, a2, a3, a4, a5⟩ xs w1 hr
  have HD1 : Hid (DF d s s w w1 ∧ w1.heap[v]? = some (.cells #[.int .i64 a0, .int .i64 a1, .int .i64 a2, .int .i64 a3, .int .i64 a4, .int .i64 a5] 49)) := ⟨D1, hv1⟩
  clear hb D1 hv1 HO
  go_wp2_with fail
  refine BK.out.mono ?_
  rintro e w2 ⟨rfl, hb⟩
  obtain ⟨W3, hW3⟩ : ∃ W3, W3 = w2.alloc (.cells #[.int .i64 a0, .int .i64 a1, .int .i64 a2, .int .i64 a3, .int .i64 a4, .int .i64 a5] 49) := ⟨_, rfl⟩
  obtain ⟨u, eu⟩ : ∃ u, u = w2.heap.size := ⟨_, rfl⟩
  have B3 : Below w1.heap.size w1 W3 := by rw [hW3]; exact hb.alloc hb.size _
  have D3 := HD1.out.1.below B3
  have hv3 : W3.heap[v]? = some (.cells #[.int .i64 a0, .int .i64 a1, .int .i64 a2, .int .i64 a3, .int .i64 a4, .int .i64 a5] 49) := (B3.block v (Array.getElem?_eq_some_iff.1 HD1.out.2).1).trans HD1.out.2
  have hu3 : W3.heap[u]? = some (.cells #[.int .i64 a0, .int .i64 a1, .int .i64 a2, .int .i64 a3, .int .i64 a4, .int .i64 a5] 49) := by rw [hW3, eu]; exact (MapKept.heap_alloc _ _).1
  have fu : ¬ Mine d s u := by
    have := HD1.out.1.1.fresh (k := u) (by have := hb.size; omega)
    exact this
  have v4 : W3.cell? ⟨v, 4, none⟩ = some (.int .i64 a4) := by simp [World.cell?, hv3]
  have u0 : W3.cell? ⟨u, 0, none⟩ = some (.int .i64 a0) := by simp [World.cell?, hu3]
  have u1 : W3.cell? ⟨u, 1, none⟩ = some (.int .i64 a1) := by simp [World.cell?, hu3]
  have u2 : W3.cell? ⟨u, 2, none⟩ = some (.int .i64 a2) := by simp [World.cell?, hu3]
  have u3 : W3.cell? ⟨u, 3, none⟩ = some (.int .i64 a3) := by simp [World.cell?, hu3]
  have u4 : W3.cell? ⟨u, 4, none⟩ = some (.int .i64 a4) := by simp [World.cell?, hu3]
  have u5 : W3.cell? ⟨u, 5, none⟩ = some (.int .i64 a5) := by simp [World.cell?, hu3]
  have y0 : (w2.alloc (.cells #[.int .i64 a0, .int .i64 a1, .int .i64 a2, .int .i64 a3, .int .i64 a4, .int .i64 a5] 49)).cell? ⟨w2.heap.size, 0, none⟩ = some (.int .i64 a0) := by rw [← hW3, ← eu]; exact u0
  have y1 : (w2.alloc (.cells #[.int .i64 a0, .int .i64 a1, .int .i64 a2, .int .i64 a3, .int .i64 a4, .int .i64 a5] 49)).cell? ⟨w2.heap.size, 1, none⟩ = some (.int .i64 a1) := by rw [← hW3, ← eu]; exact u1
  have y2 : (w2.alloc (.cells #[.int .i64 a0, .int .i64 a1, .int .i64 a2, .int .i64 a3, .int .i64 a4, .int .i64 a5] 49)).cell? ⟨w2.heap.size, 2, none⟩ = some (.int .i64 a2) := by rw [← hW3, ← eu]; exact u2
  have y3 : (w2.alloc (.cells #[.int .i64 a0, .int .i64 a1, .int .i64 a2, .int .i64 a3, .int .i64 a4, .int .i64 a5] 49)).cell? ⟨w2.heap.size, 3, none⟩ = some (.int .i64 a3) := by rw [← hW3, ← eu]; exact u3
  have y4 : (w2.alloc (.cells #[.int .i64 a0, .int .i64 a1, .int .i64 a2, .int .i64 a3, .int .i64 a4, .int .i64 a5] 49)).cell? ⟨w2.heap.size, 4, none⟩ = some (.int .i64 a4) := by rw [← hW3, ← eu]; exact u4
  have y5 : (w2.alloc (.cells #[.int .i64 a0, .int .i64 a1, .int .i64 a2, .int .i64 a3, .int .i64 a4, .int .i64 a5] 49)).cell? ⟨w2.heap.size, 5, none⟩ = some (.int .i64 a5) := by rw [← hW3, ← eu]; exact u5
  have yv : (w2.alloc (.cells #[.int .i64 a0, .int .i64 a1, .int .i64 a2, .int .i64 a3, .int .i64 a4, .int .i64 a5] 49)).cell? ⟨v, 4, none⟩ = some (.int .i64 a4) := by rw [← hW3]; exact v4
  have b4' : W3.cell? ⟨b, 4, none⟩ = some (.pointer (some ⟨q, 0, none⟩)) := by rw [HD0.out.2.2.2.2.1]; exact World.rowIs.cell (D3.1.fl _ _ HD0.out.2.2.2.1) (i := 4) (by omega)
  have yb : (w2.alloc (.cells #[.int .i64 a0, .int .i64 a1, .int .i64 a2, .int .i64 a3, .int .i64 a4, .int .i64 a5] 49)).cell? ⟨b, 4, none⟩ = some (.pointer (some ⟨q, 0, none⟩)) := by rw [← hW3]; exact b4'
  have PB : Hid (Calls Try.prog 36 #[.pointer (some ⟨q, 0, none⟩)] W3 fun e w' => e = .returned (.tuple #[.agg #[.int .i64 a0, .int .i64 a1, .int .i64 a2, .int .i64 a3, .int .i64 a4, .int .i64 a5], .bool true]) ∧ ∃ g2, DF d s (s.queued b xs g2) W3 w' ∧ w'.heap[u]? = some (.cells #[.int .i64 a0, .int .i64 a1, .int .i64 a2, .int .i64 a3, .int .i64 a4, .int .i64 a5] 49) ∧ ¬ Mine d (s.queued b xs g2) u) := by
    obtain ⟨N, f, hr⟩ := D3.1.qu _ _ HD0.out.2.2.2.1
    have hr : RP W3 q (s.G b) N f (xs ++ [(⟨a0, a1, a2, a3, a4, a5⟩ : Pk)]).length (xs ++ [(⟨a0, a1, a2, a3, a4, a5⟩ : Pk)]) := by
      rw [HD0.out.2.2.2.2.1, ← HH.out.1]
      exact hr
    refine (popBackP_yes q (s.G b) N f ⟨a0, a1, a2, a3, a4, a5⟩ xs W3 hr).mono ?_
    rintro e w4 ⟨rfl, hR⟩
    obtain ⟨g2, X⟩ := D3.1.df.putQ HD0.out.2.2.2.1 (xs := xs) (by rw [← HD0.out.2.2.2.2.1]; exact hR)
    refine ⟨rfl, g2, X, (X.2.block u (Array.getElem?_eq_some_iff.1 hu3).1 fu).trans hu3, fun hm => ?_⟩
    rcases X.2.mine u hm with e | e
    · exact fu e
    have := (Array.getElem?_eq_some_iff.1 hu3).1
    omega
  have HD3 : Hid (DF d s s w W3) := D3
  have HW3 : Hid (w2.alloc (.cells #[.int .i64 a0, .int .i64 a1, .int .i64 a2, .int .i64 a3, .int .i64 a4, .int .i64 a5] 49) = W3 ∧ w2.heap.size = u) := ⟨hW3.symm, eu.symm⟩
  clear hb B3 D3 hv3 hu3 fu hW3 eu b4 b4' v4 u0 u1 u2 u3 u4 u5 BK
  go_wp2_with fail
  rw [HW3.out.1, HW3.out.2]
  clear yv yb y0 y1 y2 y3 y4 y5
  refine PB.out.mono ?_
  rintro e w4 ⟨rfl, g2, D4, hu4, fu4⟩
  clear PB
  have u0 : w4.cell? ⟨u, 0, none⟩ = some (.int .i64 a0) := by simp [World.cell?, hu4]
  have u1 : w4.cell? ⟨u, 1, none⟩ = some (.int .i64 a1) := by simp [World.cell?, hu4]
  have u2 : w4.cell? ⟨u, 2, none⟩ = some (.int .i64 a2) := by simp [World.cell?, hu4]
  have u3 : w4.cell? ⟨u, 3, none⟩ = some (.int .i64 a3) := by simp [World.cell?, hu4]
  have u4 : w4.cell? ⟨u, 4, none⟩ = some (.int .i64 a4) := by simp [World.cell?, hu4]
  have u5 : w4.cell? ⟨u, 5, none⟩ = some (.int .i64 a5) := by simp [World.cell?, hu4]
  have hq : (s.queued b xs g2).Q b = xs := updN_eq _ _ _
  have FG : Hid (Calls Try.prog 34 #[.pointer (some ⟨d, 0, none⟩), .pointer (some ⟨b, 0, none⟩), .agg #[.int .i64 a0, .int .i64 a1, .int .i64 a2, .int .i64 a3, .int .i64 a4, .int .i64 a5]] w4 fun e w' => e = .returned (.tuple #[]) ∧ ∃ s', DF d (s.queued b xs g2) s' w4 w' ∧ ((xs ≠ [] ∧ s' = (s.queued b xs g2).lessOf b a3) ∨ (xs = [] ∧ ∃ g3, s' = ((s.queued b xs g2).lessOf b a3).outOf b i g3))) := by
    obtain ⟨_, s1, s2, hb1, hb2, hc1, hc2, hn, hdu, hi, hnb⟩ := HH.out
    by_cases hxs : xs = []
    · refine (forgetD_last d (s.queued b xs g2) ⟨a0, a1, a2, a3, a4, a5⟩ b a0 w4 D4.1 HD0.out.2.2.2.1 s1 s2 hb1 hb2 hc1 hc2 (by rw [hq]; exact hxs) i hn hdu hi hnb).mono ?_
      rintro e w8 ⟨rfl, g3, X⟩
      exact ⟨rfl, _, X, .inr ⟨hxs, g3, rfl⟩⟩
    refine (forgetD_more d (s.queued b xs g2) ⟨a0, a1, a2, a3, a4, a5⟩ b a0 w4 D4.1 HD0.out.2.2.2.1 s1 s2 hb1 hb2 hc1 hc2 (by rw [hq]; exact hxs)).mono ?_
    rintro e w8 ⟨rfl, X⟩
    exact ⟨rfl, _, X, .inl ⟨hxs, rfl⟩⟩
  have HD4 : Hid (DF d s (s.queued b xs g2) w w4) := HD3.out.trans D4
  clear D4 hu4 fu4 hq HD3
  go_wp2_with fail
  refine FG.out.mono ?_
  rintro e w5 ⟨rfl, s', D5, hs'⟩
  have HD5 : Hid (DF d s s' w w5 ∧ ((xs ≠ [] ∧ s' = (s.queued b xs g2).lessOf b a3) ∨ (xs = [] ∧ ∃ g3, s' = ((s.queued b xs g2).lessOf b a3).outOf b i g3))) := ⟨HD4.out.trans D5, hs'⟩
  clear FG D5 hs' u0 u1 u2 u3 u4 u5
  go_wp2_with fail
  exact bodyPost_ret (v := .int .i64 0) (by simp [results, Try.results19, go_sem]) rfl ⟨rfl, g2, s', HD5.out⟩
end Go.Proofs.Ytcndbmccediknaa
namespace Go.Proofs.Ytcndbmccediknaa
open Go.RowKit
set_option linter.unusedVariables false
def SeqC (F : Fence) (n : Nat) (P : Program) (gf : Nat) (lb : Array Value) (encs : Nat → Array Value) (Kp : World → World → Prop) (N C : Nat) (w : World) : Prop :=
  ∀ (l : Nat) (J : Nat → World → Prop) (Jx : Unit → World → Prop) (W : World), Below w.heap.size w W → C ≤ W.heap.size → (∀ k A B, J k A → Below A.heap.size A B → J k B) →
    (∀ k A l o o', J k A → W.heap.size ≤ l → A.heap[l]? = some o → o.isCells = false → o.isWalk = false → J k (A.putObj l o')) → (∀ A l o o', Jx () A → W.heap.size ≤ l → A.heap[l]? = some o → o.isCells = false → o.isWalk = false → Jx () (A.putObj l o')) →
    (∀ k W1, k < N → J k W1 → YieldAt F (n - 1) P l (encs k) W1 fun e W' => (e = .returned (.bool true) ∧ J (k + 1) W' ∧ Kp W1 W') ∨ (e = .returned (.bool false) ∧ Jx () W' ∧ Kp W1 W')) →
    J 0 W → CallsIn F n P gf (#[.func (.yield l) #[] #[]] ++ lb) W fun e W' => (∃ v, e = .returned v) ∧ (J N W' ∨ Jx () W')
structure KeepsL (B : Nat) (W W' : World) : Prop where
  size : W.heap.size ≤ W'.heap.size
  same : ∀ (k : Nat) (o : Obj), B ≤ k → W.heap[k]? = some o → o.isCells = false → o.isWalk = false → W'.heap[k]? = some o
theorem KeepsL.refl (B : Nat) (W : World) : KeepsL B W W := ⟨Nat.le_refl _, fun _ _ _ h _ _ => h⟩
theorem KeepsL.trans {B : Nat} {X Y Z : World} (h : KeepsL B X Y) (k : KeepsL B Y Z) : KeepsL B X Z := ⟨Nat.le_trans h.size k.size, fun i o hB hi h1 h2 => k.same i o hB (h.same i o hB hi h1 h2) h1 h2⟩
theorem KeepsL.of_from {B : Nat} {W W' : World} (h : KeepsFrom B W W') : KeepsL B W W' := ⟨h.size, fun k o hB hk h1 _ => h.same k o hB hk h1⟩
theorem KeepsL.of_below {B : Nat} {W W' : World} (h : Below W.heap.size W W') : KeepsL B W W' := ⟨h.size, fun k o _ hk _ _ => (h.block k (Array.getElem?_eq_some_iff.1 hk).1).trans hk⟩
def postC (B : Nat) (Kp : World → World → Prop) (I : World → Prop) (Ix : Code → World → Prop) (W : World) : Exit → Act → World → Prop
  | .normal, _, W' => KeepsL B W W' ∧ Kp W W' ∧ I W'
  | .ret, _, W' => KeepsL B W W' ∧ Kp W W' ∧ Ix .ret W'
  | .exit id, _, W' => KeepsL B W W' ∧ Kp W W' ∧ Ix (.exit id) W'
  | .goto t, _, W' => KeepsL B W W' ∧ Kp W W' ∧ Ix (.goto t) W'
  | .panic _, _, _ => False
  | .outgrown, _, _ => False
structure BkS (B : Nat) (r : Loop) (W : World) : Prop where
  loop : W.heap[B + 1]? = some (.loop r)
  mark : W.heap[B]? = some (.deferred (some []))
theorem BkS.lt {B : Nat} {r : Loop} {W : World} (h : BkS B r W) : B + 1 < W.heap.size := (Array.getElem?_eq_some_iff.1 h.loop).1
theorem BkS.put {B : Nat} {r : Loop} {W : World} (h : BkS B r W) (r' : Loop) : BkS B r' (W.putObj (B + 1) (.loop r')) :=
  ⟨World.putObj_heap_same h.lt, (World.putObj_heap_other (by omega)).trans h.mark⟩
theorem BkS.kept {B : Nat} {r : Loop} {W W' : World} (h : BkS B r W) (hk : KeepsL B W W') : BkS B r W' :=
  ⟨hk.same _ _ (by omega) h.loop rfl rfl, hk.same _ _ (Nat.le_refl _) h.mark rfl rfl⟩
theorem BkS.away {B : Nat} {r : Loop} {W : World} (h : BkS B r W) {l : Nat} (hl : B + 1 < l) (o : Obj) : BkS B r (W.putObj l o) := ⟨(World.putObj_heap_other (by omega)).trans h.loop, (World.putObj_heap_other (by omega)).trans h.mark⟩
theorem SeqC.inRound {F : Fence} {n : Nat} {P : Program} {gf : Nat} {lb : Array Value} {encs : Nat → Array Value} {Kp : World → World → Prop} {N C : Nat} {w : World} (l : Nat) (h : SeqC F n P gf lb encs Kp N C w) : SeqC (F.inRound l) n P gf lb encs Kp N C w := h
theorem YieldAt.inRound {F : Fence} {m : Nat} {P : Program} {l : Nat} {args : Array Value} {W : World} {R : Ending → World → Prop} (l' : Nat) (h : YieldAt F m P l args W R) : YieldAt (F.inRound l') m P l args W R := h
theorem YieldAt.wide {m m' : Nat} {P : Program} {l : Nat} {args : Array Value} {W : World} {R : Ending → World → Prop} (h : YieldAt Fence.wide m P l args W R) : YieldAt Fence.wide m' P l args W R := by
  obtain ⟨fn, tmps, assign, body, h1, h2, h3⟩ := h
  exact ⟨fn, tmps, assign, body, h1, h2, fun c cs _ => h3 c cs fun d hd => by cases hd⟩
theorem SeqC.wide {n n' : Nat} {P : Program} {gf : Nat} {lb : Array Value} {encs : Nat → Array Value} {Kp : World → World → Prop} {N C : Nat} {w : World} (h : SeqC Fence.wide n P gf lb encs Kp N C w) : SeqC Fence.wide n' P gf lb encs Kp N C w :=
  fun l J Jx W h1 h1' h2 h5 h6 h3 h4 => callsIn_wide.2 (callsIn_wide.1 (h l J Jx W h1 h1' h2 h5 h6 (fun k W1 hk hj => YieldAt.wide (h3 k W1 hk hj)) h4))
section
variable {F : Fence} {n : Nat} {P : Program}
theorem range_atA {g : Operand} {ps : Array Tmp} {assign body : Code} {Q : Exit → Act → World → Prop} {a : Act} {w : World}
    (hro : F.round = none) (h1 : 1 ≤ n) {gf : Nat} {lb : Array Value} (hg : a.eval g = .func (.func gf) #[] lb) (hFg : F.fn gf) (eg : ∀ args w, (callFunc gf args).run P w = .ok (.enter gf args) w)
    {encs : Nat → Array Value} {Kp : World → World → Prop} {N : Nat} {w0 : World} (hseq : SeqC F (n - 1) P gf lb encs Kp N (w.heap.size + 2) w0)
    (hKt : ∀ {A B C : World}, Kp A B → Kp B C → Kp A C) (hKb : ∀ (W : World) (o o' : Obj), W.heap[w.heap.size + 1]? = some o → o.isCells = false → Kp W (W.putObj (w.heap.size + 1) o')) (hb0 : Below w0.heap.size w0 w) (hps : ∀ k, (encs k).size = ps.size)
    (I : Nat → World → Prop) (Ix : Code → World → Prop) (hIb : ∀ k A B, I k A → Below A.heap.size A B → I k B) (hIp : ∀ k A l o o', I k A → w.heap.size ≤ l → A.heap[l]? = some o → o.isCells = false → o.isWalk = false → I k (A.putObj l o')) (hXp : ∀ c A l o o', Ix c A → w.heap.size ≤ l → A.heap[l]? = some o → o.isCells = false → o.isWalk = false → Ix c (A.putObj l o')) (h0 : I 0 w) (hKa : ∀ A B, Below A.heap.size A B → Kp A B) (Ax : Nat → Act → World → Prop) (hAp : ∀ k a' A l o o', Ax k a' A → w.heap.size ≤ l → A.heap[l]? = some o → o.isCells = false → o.isWalk = false → Ax k a' (A.putObj l o'))
    (hassign : ∀ (l k : Nat) (W : World) (K : Act → World → Prop), k < N → I k W → (∀ a' W', Below W.heap.size W W' → Ax k a' W' → K a' W') →
      assign.wpIn (F.inRound l) (n - 1 - 1) P (Exit.then K (fun _ _ _ => False)) { tmps := (ps.zip (encs k)).foldl (fun t (p, v) => t.setIfInBounds p v) a.tmps, defers := [] } W)
    (hbody : ∀ (l k : Nat) (a' : Act) (W : World), k < N → w.heap.size ≤ l → (∃ rr, W.heap[l]? = some (.loop rr)) → I k W → Ax k a' W → body.wpIn (F.inRound l) (n - 1 - 1) P (postC w.heap.size Kp (I (k + 1)) Ix W) a' W)
    (hdone : ∀ (D : Nat) (W : World), w.heap.size ≤ D → I N W → W.heap[D]? = some (.deferred (some [])) → Q .normal { a with defers := { target := .collected D, args := #[] } :: a.defers } W)
    (hstop : ∀ (D : Nat) (c : Code) (W : World), w.heap.size ≤ D → Ix c W → W.heap[D]? = some (.deferred (some [])) → c.wpIn F n P Q { a with defers := { target := .collected D, args := #[] } :: a.defers } W) :
    (Code.rangeFunc g ps assign body).wpIn F n P Q a w := by
  refine wpIn_rangeFunc fun fn hfn => ?_
  rw [hro]
  obtain ⟨R0, eR0⟩ : ∃ r : Loop, r = { state := .ready, pending := none, fn, tmps := a.tmps, params := ps, assign, body, defers := w.heap.size } := ⟨_, rfl⟩
  obtain ⟨W1, eW1⟩ : ∃ W1, W1 = (w.alloc (.deferred (some []))).alloc (.loop R0) := ⟨_, rfl⟩
  have bW1 : Below w.heap.size w W1 := by rw [eW1]; exact ((Below.refl _ w).alloc (Nat.le_refl _) _).alloc (by simp) _
  have k1 : BkS w.heap.size R0 W1 := by
    refine ⟨?_, ?_⟩
    · have := World.alloc_heap_new (w.alloc (.deferred (some []))) (.loop R0)
      rw [World.size_alloc] at this
      rw [eW1]
      exact this
    rw [eW1]
    exact (Below.heap_alloc _ _ _ (by simp)).trans (World.alloc_heap_new w _)
  have i1 : I 0 W1 := by exact hIb _ _ _ h0 bW1
  refine ⟨w.heap.size + 1, [{ target := .collected w.heap.size, args := #[] }], W1, { target := .fn (.func gf) lb, args := #[.func (.yield (w.heap.size + 1)) #[] #[]] }, W1, gf, #[.func (.yield (w.heap.size + 1)) #[] #[]] ++ lb, W1, ?_, ?_, fun f' hf' => ?_, ?_, fun _ => h1, ?_⟩
  · rw [eW1, eR0]
    exact run_enterLoop_outer _ _ _ _ _
  · simp only [resolve, hg]
    simp [go_sem]
  · simp only [Target.leads, Option.some.injEq] at hf'
    exact hf' ▸ hFg
  · simp [invoke, go_sem, eg]
  have call := hseq (w.heap.size + 1) (fun k W => I k W ∧ BkS w.heap.size R0 W) (fun _ W => ∃ c, Ix c W ∧ BkS w.heap.size { R0 with state := .done, pending := some c } W) W1 (hb0.trans (bW1.mono hb0.size)) (by rw [eW1]; simp)
    (fun k A B hA hB => ⟨hIb k A B hA.1 hB, hA.2.kept (KeepsL.of_below hB)⟩) (fun k A l o o' hA hl ho hc hw => ⟨hIp k A l o o' hA.1 (Nat.le_trans bW1.size hl) ho hc hw, hA.2.away (by have := k1.lt; omega) o'⟩) (fun A l o o' ⟨c, hx, hb⟩ hl ho hc hw => ⟨c, hXp c A l o o' hx (Nat.le_trans bW1.size hl) ho hc hw, hb.away (by have := k1.lt; omega) o'⟩)
    (fun k W hk ⟨hi, hb⟩ => by
      have hy := run_yield (P := P) (args := encs k) hb.loop (by rw [eR0]; exact hps k)
      rw [eR0] at hy
      obtain ⟨Rb, eRb⟩ : ∃ r : Loop, r = { R0 with state := .busy } := ⟨_, rfl⟩
      refine ⟨fn, _, assign, body, hy, roundIn_of_wpIn hfn (hassign _ k W _ hk hi fun a' Wa hBa hax => ?_)⟩
      have kpa := hKa W Wa hBa
      clear hy
      replace hi := hIb k W Wa hi hBa
      replace hb := hb.kept (KeepsL.of_below hBa)
      have hsz := hb.lt
      clear hBa
      revert kpa
      generalize W = Wb
      intro kpa
      obtain ⟨W, rfl⟩ : ∃ W, W = Wa := ⟨_, rfl⟩
      have hb2 := hb.put Rb
      have kp2 := hKt kpa (hKb W (.loop R0) (.loop Rb) hb.loop rfl)
      have i2 := hIp k W _ _ (.loop Rb) hi (show w.heap.size ≤ w.heap.size + 1 by omega) hb.loop rfl rfl
      have ax2 := hAp k a' W _ _ (.loop Rb) hax (show w.heap.size ≤ w.heap.size + 1 by omega) hb.loop rfl rfl
      refine ⟨W.putObj (w.heap.size + 1) (.loop Rb), ?_, ?_⟩
      · rw [eRb]
        exact run_beginRound hb.loop (by rw [eR0])
      refine wpIn_mono (hbody _ k a' _ hk (by omega) ⟨_, hb2.loop⟩ i2 ax2) ?_
      have close : ∀ (jump : Option Code) (W3 : World), KeepsL w.heap.size (W.putObj (w.heap.size + 1) (.loop Rb)) W3 →
          ∃ r' : Loop, r' = { R0 with state := (if jump.isNone then .ready else .done), pending := jump } ∧ (Instr.endRound (w.heap.size + 1) jump).run P W3 = .ok (.bool jump.isNone) (W3.putObj (w.heap.size + 1) (.loop r')) ∧ BkS w.heap.size Rb W3 ∧ BkS w.heap.size r' (W3.putObj (w.heap.size + 1) (.loop r')) := fun jump W3 h3 => by
        have hb3 := hb2.kept h3
        refine ⟨_, rfl, ?_, hb3, hb3.put _⟩
        have := run_endRound (P := P) jump hb3.loop
        rw [eRb, eR0] at this
        rw [eR0]
        exact this
      have away : ∀ (c : Code) (W3 : World), KeepsL w.heap.size (W.putObj (w.heap.size + 1) (.loop Rb)) W3 → Kp (W.putObj (w.heap.size + 1) (.loop Rb)) W3 → Ix c W3 → ∃ v W4, (Instr.endRound (w.heap.size + 1) (some c)).run P W3 = .ok v W4 ∧ (v = .bool true ∧ (I (k + 1) W4 ∧ BkS w.heap.size R0 W4) ∧ Kp Wb W4 ∨ v = .bool false ∧ (∃ c, Ix c W4 ∧ BkS w.heap.size { R0 with state := .done, pending := some c } W4) ∧ Kp Wb W4) := fun c W3 h3 kp3 hx => by
        obtain ⟨r', er, hr, hb3, hb4⟩ := close (some c) W3 h3
        refine ⟨_, _, hr, .inr ⟨rfl, ⟨c, hXp c _ _ _ _ hx (by omega) hb3.loop rfl rfl, ?_⟩, hKt (hKt kp2 kp3) (hKb _ _ _ hb3.loop rfl)⟩⟩
        rw [er] at hb4 ⊢
        exact hb4
      intro e a3 W3 hp
      cases e with
      | normal =>
        obtain ⟨h3, kp3, i3⟩ := hp
        obtain ⟨r', er, hr, hb3, hb4⟩ := close none W3 h3
        have er0 : r' = R0 := by rw [er, eR0]; rfl
        rw [er0] at hr hb4
        exact ⟨_, _, hr, .inl ⟨rfl, ⟨hIp _ _ _ _ _ i3 (by omega) hb3.loop rfl rfl, hb4⟩, hKt (hKt kp2 kp3) (hKb _ _ _ hb3.loop rfl)⟩⟩
      | ret =>
        obtain ⟨v, W4, hr, hv⟩ := away .ret W3 hp.1 hp.2.1 hp.2.2
        refine ⟨v, W4, hr, ?_⟩
        rcases hv with ⟨rfl, hv⟩ | ⟨rfl, hv⟩
        · exact .inl ⟨rfl, hv⟩
        exact .inr ⟨rfl, hv⟩
      | exit id =>
        obtain ⟨v, W4, hr, hv⟩ := away (.exit id) W3 hp.1 hp.2.1 hp.2.2
        refine ⟨v, W4, hr, ?_⟩
        rcases hv with ⟨rfl, hv⟩ | ⟨rfl, hv⟩
        · exact .inl ⟨rfl, hv⟩
        exact .inr ⟨rfl, hv⟩
      | goto t =>
        obtain ⟨v, W4, hr, hv⟩ := away (.goto t) W3 hp.1 hp.2.1 hp.2.2
        refine ⟨v, W4, hr, ?_⟩
        rcases hv with ⟨rfl, hv⟩ | ⟨rfl, hv⟩
        · exact .inl ⟨rfl, hv⟩
        exact .inr ⟨rfl, hv⟩
      | panic ch => exact hp.elim
      | outgrown => exact hp.elim)
    ⟨i1, k1⟩
  refine call.mono fun e W2 he => ?_
  obtain ⟨⟨v, rfl⟩, hv⟩ := he
  rcases hv with ⟨hi, hb⟩ | ⟨c, hx, hb⟩
  · have er := run_endLoop (P := P) hb.loop (by rw [eR0]; simp)
    rw [eR0] at er
    exact ⟨none, _, er, hdone _ _ (Nat.le_refl _) (hIp _ _ _ _ _ hi (by omega) hb.loop rfl rfl) ((World.putObj_heap_other (by omega)).trans hb.mark)⟩
  have er := run_endLoop (P := P) hb.loop (by rw [eR0]; simp)
  rw [eR0] at er
  exact ⟨some c, _, er, hstop _ c _ (Nat.le_refl _) (hXp c _ _ _ _ hx (by omega) hb.loop rfl rfl) ((World.putObj_heap_other (by omega)).trans hb.mark)⟩
end
end Go.Proofs.Ytcndbmccediknaa
namespace Go.Proofs.Ytcndbmccediknaa
open Go.RowKit
structure Kpx (B : Nat) (t : TypeId) (m : Nat) (f : Nat → Value) (W W' : World) : Prop where
  size : W.heap.size ≤ W'.heap.size
  keep : ∀ k, B ≤ k → W.rowIs k t m f → W'.rowIs k t m f
theorem Kpx.trans {B : Nat} {t : TypeId} {m : Nat} {f : Nat → Value} {X Y Z : World} (h : Kpx B t m f X Y) (k : Kpx B t m f Y Z) : Kpx B t m f X Z := ⟨Nat.le_trans h.size k.size, fun i hi hr => k.keep i hi (h.keep i hi hr)⟩
theorem Kpx.refl (B : Nat) (t : TypeId) (m : Nat) (f : Nat → Value) (W : World) : Kpx B t m f W W := ⟨Nat.le_refl _, fun _ _ h => h⟩
theorem Kpx.putObj (B : Nat) (t : TypeId) (m : Nat) (f : Nat → Value) (W : World) (l : Nat) (o o' : Obj) (hl : W.heap[l]? = some o) (ho : o.isCells = false) : Kpx B t m f W (W.putObj l o') := by
  refine ⟨by simp, fun k _ h => h.of_block (World.putObj_heap_other fun e => ?_)⟩
  obtain ⟨c, hc, _⟩ := h
  subst e
  rw [hc] at hl
  cases hl
  cases ho
theorem Kpx.grown {B : Nat} {t : TypeId} {m : Nat} {f : Nat → Value} {W W' : World} {row : Option Nat} (h : W.grownBy W' row) (hr : ∀ k, row = some k → k < B) : Kpx B t m f W W' :=
  ⟨h.size, fun k hk hr' => hr'.of_block (h.block k hr'.lt fun e => by have := hr k e.symm; omega)⟩
end Go.Proofs.Ytcndbmccediknaa
namespace Go.Proofs.Ytcndbmccediknaa
open Go.RowKit Go.Shelf
set_option maxRecDepth 100000
set_option linter.unusedVariables false
attribute [local go_sem] Oper.semAt_some
attribute [local go_sem] Oper.semAt_some
theorem putC {A : World} {l k : Nat} {o : Obj} (o' : Obj) {cs : Array Value} {t : TypeId} (ho : A.heap[l]? = some o) (hc : o.isCells = false) (h : A.heap[k]? = some (.cells cs t)) : (A.putObj l o').heap[k]? = some (.cells cs t) := by
  refine (World.putObj_heap_other fun e => ?_).trans h
  subst e
  rw [h] at ho
  cases ho
  cases hc
theorem Kpx.of_below {B : Nat} {t : TypeId} {m : Nat} {f : Nat → Value} {W W' : World} (h : Below W.heap.size W W') : Kpx B t m f W W' := ⟨h.size, fun k _ hr => hr.of_block (h.block k hr.lt)⟩
theorem allP_any (r : Nat) (w : World) : Calls Try.prog 52 #[.pointer (some ⟨r, 0, none⟩)] w fun e w' => e = .returned (.func (.func 67) #[] #[.pointer (some ⟨w.heap.size, 0, none⟩)]) ∧ w' = w.alloc (.cells #[.pointer (some ⟨r, 0, none⟩)] 72) := by
  have hmf : ∀ (fn : Fn) (first cap : Array Value) (w : World), (Instr.makeFunc fn first cap).run Try.prog w = .ok (.func fn first cap) w := fun _ _ _ _ => rfl
  go_enter Try.func52, Try.ntmps52
  go_wp2_with fail
  go_ret
  exact ⟨rfl, rfl⟩
def encQ (xs : List Pk) (k : Nat) : Array Value := #[.int .i64 (k : Int), (xs.getD k Pk.zero).val]
set_option maxHeartbeats 4000000 in
theorem all1P_at (n : Nat) (hn : 1 ≤ n) (l Bs C r g N f c : Nat) (xs : List Pk) (hx : xs.length = c) (J : Nat → World → Prop) (Jx : Unit → World → Prop) (W : World) (hJ : ∀ k A B, J k A → Below A.heap.size A B → J k B)
    (hY : ∀ k W, k < c → J k W → YieldAt Fence.wide (n - 1) Try.prog l (encQ xs k) W fun e W' =>
      (e = .returned (.bool true) ∧ J (k + 1) W' ∧ Kpx C 49 (c * 6) (fun q => encPk (xs.getD (q / 6) Pk.zero) (q % 6)) W W') ∨ (e = .returned (.bool false) ∧ Jx () W' ∧ Kpx C 49 (c * 6) (fun q => encPk (xs.getD (q / 6) Pk.zero) (q % 6)) W W'))
    (hBs : W.cell? ⟨Bs, 0, none⟩ = some (.pointer (some ⟨r, 0, none⟩))) (h : RP W r g N f c xs) (hC : C ≤ W.heap.size) (h0 : J 0 W) :
    CallsIn Fence.wide n Try.prog 67 #[.func (.yield l) #[] #[], .pointer (some ⟨Bs, 0, none⟩)] W fun e W' => (∃ v, e = .returned v) ∧ (J c W' ∨ Jx () W') := by
  have c2 := h.c2
  have hcl := h.cl
  have hl := h.lim
  have HR : Hid (RP W r g N f c xs ∧ xs.length = c ∧ (∀ k A B, J k A → Below A.heap.size A B → J k B) ∧ J 0 W) := ⟨h, hx, hJ, h0⟩
  clear h hx hJ h0
  refine callsIn_of_wp Try.func67 rfl trivial ?_ rfl
  simp only [Try.ntmps67, List.size_toArray, List.length_cons, List.length_nil, Nat.reduceAdd, Nat.reduceSub, Array.replicate_succ, Array.replicate_zero, List.push_toArray, List.append_toArray, List.nil_append, List.cons_append]
  gi_wp2_with fail
  gi_region_with (first | (refine ⟨trivial, ?_⟩; refine (callsIn_wide.2 (rowP_any r g N f c c xs W.drew (HR.out.1.of_blocks rfl rfl) HR.out.2.1 (Nat.le_refl _) (by omega))).mono ?_; rintro e w1 ⟨rfl, h1, h2⟩))
  all_goals (
    have hJ1 : J 0 w1 := HR.out.2.2.1 0 W w1 HR.out.2.2.2 ⟨h2.os, h2.tape, h2.output, h2.size, h2.block⟩
    have H1 : Hid (w1.rowIs W.heap.size 49 (c * 6) (fun q => encPk (xs.getD (q / 6) Pk.zero) (q % 6)) ∧ J 0 w1) := ⟨h1, hJ1⟩
    clear h1 h2 hJ1
    gi_wp2_with fail
    gi_loopw [12] (fun i wr => ∃ k : Nat, k ≤ c ∧ i = .int .i64 (k : Int) ∧ Hid (J k wr) ∧ Hid (wr.rowIs W.heap.size 49 (c * 6) (fun q => encPk (xs.getD (q / 6) Pk.zero) (q % 6)))) (fun i _ => c - (intOf i).toNat)
    case atStart => exact ⟨0, Nat.zero_le _, rfl, H1.out.2, H1.out.1⟩
    case round =>
      obtain ⟨k, hk, rfl, hJs, hrow⟩ := hrel
      by_cases hlt : k < c
      · obtain ⟨x, ex⟩ : ∃ x, x = xs.getD k Pk.zero := ⟨_, rfl⟩
        obtain ⟨a0, a1, a2, a3, a4, a5⟩ := x
        have k0 : wr.cell? ⟨W.heap.size, k * 6, none⟩ = some (.int .i64 a0) := by have := hrow.out.cell (i := k * 6 + 0) (by omega); rw [show (k * 6 + 0) / 6 = k by omega, show (k * 6 + 0) % 6 = 0 by omega, ← ex] at this; exact this
        have k1 : wr.cell? ⟨W.heap.size, k * 6 + 1, none⟩ = some (.int .i64 a1) := by have := hrow.out.cell (i := k * 6 + 1) (by omega); rw [show (k * 6 + 1) / 6 = k by omega, show (k * 6 + 1) % 6 = 1 by omega, ← ex] at this; exact this
        have k2 : wr.cell? ⟨W.heap.size, k * 6 + 2, none⟩ = some (.int .i64 a2) := by have := hrow.out.cell (i := k * 6 + 2) (by omega); rw [show (k * 6 + 2) / 6 = k by omega, show (k * 6 + 2) % 6 = 2 by omega, ← ex] at this; exact this
        have k3 : wr.cell? ⟨W.heap.size, k * 6 + 3, none⟩ = some (.int .i64 a3) := by have := hrow.out.cell (i := k * 6 + 3) (by omega); rw [show (k * 6 + 3) / 6 = k by omega, show (k * 6 + 3) % 6 = 3 by omega, ← ex] at this; exact this
        have k4 : wr.cell? ⟨W.heap.size, k * 6 + 4, none⟩ = some (.int .i64 a4) := by have := hrow.out.cell (i := k * 6 + 4) (by omega); rw [show (k * 6 + 4) / 6 = k by omega, show (k * 6 + 4) % 6 = 4 by omega, ← ex] at this; exact this
        have k5 : wr.cell? ⟨W.heap.size, k * 6 + 5, none⟩ = some (.int .i64 a5) := by have := hrow.out.cell (i := k * 6 + 5) (by omega); rw [show (k * 6 + 5) / 6 = k by omega, show (k * 6 + 5) % 6 = 5 by omega, ← ex] at this; exact this
        have hBm : Below wr.heap.size wr (wr.alloc (.cells #[.int .i64 a0, .int .i64 a1, .int .i64 a2, .int .i64 a3, .int .i64 a4, .int .i64 a5] 49)) := (Below.refl _ _).alloc (Nat.le_refl _) _
        have hYk := hY k _ hlt (HR.out.2.2.1 k wr _ hJs.out hBm)
        unfold encQ at hYk
        rw [← ex] at hYk
        obtain ⟨fn, tmps, assign, body, hy, hR⟩ := hYk
        rw [show Pk.val ⟨a0, a1, a2, a3, a4, a5⟩ = .agg #[.int .i64 a0, .int .i64 a1, .int .i64 a2, .int .i64 a3, .int .i64 a4, .int .i64 a5] from rfl] at hy
        have EX : Hid ((wr.alloc (.cells #[.int .i64 a0, .int .i64 a1, .int .i64 a2, .int .i64 a3, .int .i64 a4, .int .i64 a5] 49)).rowIs W.heap.size 49 (c * 6) (fun q => encPk (xs.getD (q / 6) Pk.zero) (q % 6))) := hrow.out.of_block (hBm.block _ hrow.out.lt)
        have hk' : (k : Int) < (c : Int) := by omega
        have w5 : IntKind.i64.wrap ((k : Int) + 1) = (k : Int) + 1 := by rw [IntKind.wrap_i64]; omega
        clear ex hBm
        gi_wp2_with fail
        refine hR.mono ?_
        rintro e W3 (⟨rfl, hJ3, hk3⟩ | ⟨rfl, hJx3, _⟩)
        · have H3 : Hid (J (k + 1) W3 ∧ W3.rowIs W.heap.size 49 (c * 6) (fun q => encPk (xs.getD (q / 6) Pk.zero) (q % 6))) := ⟨hJ3, hk3.keep _ hC EX.out⟩
          clear hJ3 hk3
          gi_wp2_with fail
          go_roundw
          case rel => exact ⟨k + 1, by omega, by simp, H3.out.1, H3.out.2⟩
          case measure => simp [intOf]; omega
        have H3 : Hid (Jx () W3) := hJx3
        clear hJx3
        gi_wp2_with fail
        refine bodyPost_ret (results_none rfl _ _ _) rfl ?_
        exact ⟨⟨_, rfl⟩, .inr H3.out⟩
      obtain rfl : k = c := by omega
      gi_wp2_with fail
      go_end0
      exact ⟨⟨_, rfl⟩, .inl hJs.out⟩)
theorem allP_at (n : Nat) (hn : 1 ≤ n) (Bs C r g N f c : Nat) (xs : List Pk) (hx : xs.length = c) (w : World) (hBs : w.cell? ⟨Bs, 0, none⟩ = some (.pointer (some ⟨r, 0, none⟩))) (h : RP w r g N f c xs) :
    SeqC Fence.wide n Try.prog 67 #[.pointer (some ⟨Bs, 0, none⟩)] (encQ xs) (Kpx C 49 (c * 6) (fun q => encPk (xs.getD (q / 6) Pk.zero) (q % 6))) c C w := fun l J Jx W hW hC hJ _ _ hY h0 =>
  all1P_at n hn l Bs C r g N f c xs hx J Jx W hJ (fun k W1 hk h1 => hY k W1 hk h1) (cell_later hW hBs) (h.mono hW) hC h0
end Go.Proofs.Ytcndbmccediknaa
