/- Contracts of the program's functions, part 6: own work, joined in build order. -/
import Derived.Test.YthbgoegfbbpieaaJ5
namespace Go.Proofs.Ythbgoegfbbpieaa
open Go.RowKit
set_option maxRecDepth 100000
set_option linter.unusedVariables false
theorem frontF_d (r g N f c : Nat) (x : Option Addr) (xs : List (Option Addr)) (w : World) (h : RF w r g N f c xs) (h1 : 0 < c) (h2 : xs.getD 0 (none : Option Addr) = x) : Calls Try.prog 23 #[.pointer (some ⟨r, 0, none⟩)] w fun e w' => e = .returned (.tuple #[.pointer x, .bool true]) ∧ ∃ n, w' = w.drewN n := by
  have HA : Hid (Calls Try.prog 41 #[.pointer (some ⟨r, 0, none⟩), .int .i64 0] w fun e w' => e = .returned (.tuple #[.pointer x, .bool true]) ∧ ∃ n, w' = w.drewN n) := by
    have := atF_yes r g N f c xs 0 0 w h rfl h1
    rw [h2] at this
    exact this
  clear h h1 h2
  go_enter Try.func23, Try.ntmps23
  go_wp2_with fail
  refine HA.out.mono ?_
  rintro e w1 ⟨rfl, n, rfl⟩
  go_wp2_with fail
  refine bodyPost_ret (v := .tuple #[.pointer x, .bool true]) (by simp [results, Try.results23, go_sem]) rfl ⟨rfl, n, rfl⟩
theorem rl_nodup {α : Type} {xs : List α} (h : xs.Nodup) (k : Nat) : (rl k xs).Nodup := by
  unfold rl
  have := List.take_append_drop k xs
  rw [← this] at h
  exact (List.perm_append_comm.nodup_iff).1 h
theorem rl_zero {R : List Nat} {k : Nat} (h : k < R.length) : (rl k R).getD 0 0 = R.getD k 0 := by
  unfold rl
  rw [List.getD_eq_getElem?_getD, List.getD_eq_getElem?_getD, List.getElem?_append_left (by simp; omega), List.getElem?_drop, Nat.add_zero]
def Sd.mid (s : Sd) (b k g1 g2 : Nat) (Y1 : Nat → Fw) (xs : List Pk) (sz : Int) : Sd := { s with x := { s.x with turn := true }, R := rl k s.R, g := g1, Y := updN Y1 b { Y1 b with kept := (Y1 b).kept - sz }, Q := updN s.Q b xs, G := updN s.G b g2 }
structure Nxt (d : Nat) (s : Sd) (w w' : World) (r : Int) (k : Nat) (x : Pk) (xs : List Pk) (Y1 : Nat → Fw) (s' : Sd) : Prop where
  pas : Pas s r k
  que : s.Q (s.nth k) = x :: xs
  up : Up s r k s.R.length Y1
  df : DF d s s' w w'
  st : ∃ g1 g2, (xs ≠ [] ∧ s' = (s.mid (s.nth k) k g1 g2 Y1 xs x.size).lessOf (s.nth k) x.size) ∨ (xs = [] ∧ ∃ g3, s' = ((s.mid (s.nth k) k g1 g2 Y1 xs x.size).lessOf (s.nth k) x.size).outOf (s.nth k) 0 g3)
set_option maxHeartbeats 4000000 in
theorem nextD_any (d : Nat) (s : Sd) (tk : Int) (w : World) (h : DS w d s) (hg : s.Good) (hR : s.R ≠ []) (hn : s.R.length ≤ 1073741824) (hdu : s.R.Nodup) (hc1 : 1 ≤ s.x.count) (hc2 : s.x.count ≤ 4611686018427387904) (hby : ∀ b, b ∈ s.R → -4611686018427387904 ≤ (s.Y b).bytes ∧ (s.Y b).bytes ≤ 4611686018427387904) :
    Calls Try.prog 17 #[.pointer (some ⟨d, 0, none⟩), .int .i64 tk] w fun e w' => ∃ r k x xs Y1 s', e = .returned (.tuple #[Pk.val x, .bool true]) ∧ Nxt d s w w' r k x xs Y1 s' := by
  obtain ⟨W, hW⟩ : ∃ W, W = w.alloc (.cells #[.int .i64 0, .int .i64 0, .int .i64 0, .int .i64 0, .int .i64 0, .int .i64 0] 49) := ⟨_, rfl⟩
  obtain ⟨v, ev⟩ : ∃ v, v = w.heap.size := ⟨_, rfl⟩
  have B0 : Below w.heap.size w W := by rw [hW]; exact (Below.refl _ _).alloc (Nat.le_refl _) _
  have hB : W.heap[v]? = some (.cells #[.int .i64 0, .int .i64 0, .int .i64 0, .int .i64 0, .int .i64 0, .int .i64 0] 49) := by rw [hW, ev]; exact (MapKept.heap_alloc _ _).1
  have D0 : DF d s s w W := h.df.below B0
  have hnv : ¬ Mine d s v := h.fresh (by omega)
  obtain ⟨ct, ect⟩ : ∃ y, y = s.x.count := ⟨_, rfl⟩
  have c4 : W.cell? ⟨d, 4, none⟩ = some (.int .i64 ct) := by rw [ect]; exact World.rowIs.cell D0.1.dr (i := 4) (by omega)
  have cA : (w.alloc (.cells #[.int .i64 0, .int .i64 0, .int .i64 0, .int .i64 0, .int .i64 0, .int .i64 0] 49)).cell? ⟨d, 4, none⟩ = some (.int .i64 ct) := by rw [← hW]; exact c4
  have hct : ¬ ct = 0 := by omega
  have HW : Hid (w.alloc (.cells #[.int .i64 0, .int .i64 0, .int .i64 0, .int .i64 0, .int .i64 0, .int .i64 0] 49) = W ∧ w.heap.size = v) := ⟨hW.symm, ev.symm⟩
  have PS : Hid (Calls Try.prog 32 #[.pointer (some ⟨d, 0, none⟩)] W fun e w' => (∃ (r : Int) (k : Nat), e = .returned (.int .i64 (r * (s.R.length : Int) + (k : Int))) ∧ Pas s r k) ∧ DF d s s W w') := passingD_any d s W D0.1 hg hR hn
  have HH : Hid (DF d s s w W ∧ W.heap[v]? = some (.cells #[.int .i64 0, .int .i64 0, .int .i64 0, .int .i64 0, .int .i64 0, .int .i64 0] 49) ∧ ¬ Mine d s v ∧ s.Good ∧ s.R.length ≤ 1073741824 ∧ s.R.Nodup ∧ 1 ≤ s.x.count ∧ s.x.count ≤ 4611686018427387904 ∧ (∀ b, b ∈ s.R → -4611686018427387904 ≤ (s.Y b).bytes ∧ (s.Y b).bytes ≤ 4611686018427387904)) := ⟨D0, hB, hnv, hg, hn, hdu, hc1, hc2, hby⟩
  clear h hg hR hn hdu hc1 hc2 hby B0 hB D0 hnv ect hW ev c4
  go_enter Try.func17, Try.ntmps17
  go_wp2_with fail
  rw [HW.out.1, HW.out.2]
  clear cA
  refine PS.out.mono ?_
  rintro e w1 ⟨⟨r, k, rfl, hp⟩, D1⟩
  clear PS
  have HP : Hid (Pas s r k) := hp
  have hkn := hp.kn
  have hr2 : r ≤ 2147483648 := by
    rcases hp.least with e | e
    · omega
    exact Int.le_trans (e k hkn) (va_le HH.out.2.2.2.1 hkn)
  have PP : Hid (Calls Try.prog 31 #[.pointer (some ⟨d, 0, none⟩), .int .i64 (r * (s.R.length : Int) + (k : Int))] w1 fun e w' => e = .returned (.tuple #[]) ∧ ∃ Y' g', Up s r k s.R.length Y' ∧ DF d s { s with Y := Y', R := rl k s.R, g := g', x := { s.x with turn := true } } w1 w') := by
    refine passD_any d s r k w1 D1.1 HH.out.2.2.2.2.1 HH.out.2.2.2.2.2.1 hp.r0 hr2 hkn fun i hi => ?_
    obtain ⟨_, q1, q2, _, _, k1, k2⟩ := HH.out.2.2.2.1 _ (nth_mem hi)
    have o1 : 0 ≤ ow r k i ∧ ow r k i ≤ 2147483649 := by
      have := hp.r0
      unfold ow
      split <;> omega
    have m1 : ow r k i * (s.Y (s.nth i)).quantum ≤ 2147483649 * 1073741824 := Int.mul_le_mul o1.2 q2 (by omega) (by omega)
    exact ⟨Int.mul_nonneg o1.1 (by omega), by omega, k1, k2⟩
  have HD1 : Hid (DF d s s W w1) := D1
  clear hp D1 hkn hr2
  go_wp2_with fail
  refine PP.out.mono ?_
  rintro e w2 ⟨rfl, Y1, g1, hU, D2⟩
  clear PP
  have HU : Hid (Up s r k s.R.length Y1) := hU
  have HD2 : Hid (DF d s { s with Y := Y1, R := rl k s.R, g := g1, x := { s.x with turn := true } } W w2) := HD1.out.trans D2
  clear hU D2 HD1
  obtain ⟨rg, erg⟩ : ∃ rg, rg = s.x.ring := ⟨_, rfl⟩
  have c1 : w2.cell? ⟨d, 1, none⟩ = some (.pointer (some ⟨rg, 0, none⟩)) := by rw [erg]; exact World.rowIs.cell HD2.out.1.dr (i := 1) (by omega)
  obtain ⟨b, eb⟩ : ∃ b, b = s.nth k := ⟨_, rfl⟩
  have HF : Hid (Calls Try.prog 23 #[.pointer (some ⟨rg, 0, none⟩)] w2 fun e w' => e = .returned (.tuple #[.pointer (some ⟨b, 0, none⟩), .bool true]) ∧ ∃ n, w' = w2.drewN n) := by
    obtain ⟨N, f, hr⟩ := HD2.out.1.rg
    have hr : RF w2 rg g1 N f (adrs (rl k s.R)).length (adrs (rl k s.R)) := by rw [erg]; exact hr
    have hl : 0 < (rl k s.R).length := by rw [rl_length]; have := HP.out.kn; omega
    refine frontF_d rg g1 N f _ _ _ w2 hr (by rw [adrs_len]; exact hl) ?_
    rw [eb]
    unfold adrs Sd.nth
    rw [← rl_zero HP.out.kn]
    simp [List.getD_eq_getElem?_getD, hl]
  clear erg
  go_wp2_with fail
  refine HF.out.mono ?_
  rintro e w3 ⟨rfl, n3, rfl⟩
  clear HF c1
  have D3 := HD2.out.drewN n3
  obtain ⟨j, hF⟩ := HD2.out.1.inr b (by
    show b ∈ rl k s.R
    unfold rl
    have hm := nth_mem (s := s) HP.out.kn
    rw [← eb] at hm
    rw [← List.take_append_drop k s.R] at hm
    exact List.mem_append.2 ((List.mem_append.1 hm).symm))
  have hF : s.F j = some b := hF
  obtain ⟨x, xs, hx⟩ : ∃ x xs, s.Q b = x :: xs := by
    obtain ⟨hq, _⟩ := HH.out.2.2.2.1 _ (nth_mem HP.out.kn)
    rw [← eb] at hq
    rcases e : s.Q b with _ | ⟨x, xs⟩
    · exact absurd e hq
    exact ⟨x, xs, rfl⟩
  obtain ⟨q, eq⟩ : ∃ q, q = (Y1 b).queue := ⟨_, rfl⟩
  obtain ⟨w4, ew4⟩ : ∃ w4, w4 = w2.drewN n3 := ⟨_, rfl⟩
  rw [← ew4] at D3 ⊢
  have b4 : w4.cell? ⟨b, 4, none⟩ = some (.pointer (some ⟨q, 0, none⟩)) := by rw [eq]; exact World.rowIs.cell (D3.1.fl j b hF) (i := 4) (by omega)
  have POP : Hid (Calls Try.prog 33 #[.pointer (some ⟨q, 0, none⟩)] w4 fun e w' => e = .returned (.tuple #[x.val, .bool true]) ∧ ∃ g2, DF d s { s with Y := Y1, R := rl k s.R, g := g1, x := { s.x with turn := true }, Q := updN s.Q b xs, G := updN s.G b g2 } W w') := by
    obtain ⟨N, f, hr⟩ := D3.1.qu j b hF
    have hr : RP w4 q (s.G b) N f (x :: xs).length (x :: xs) := by
      rw [eq, ← hx]
      exact hr
    refine (popFrontP_yes q (s.G b) N f x xs w4 hr).mono ?_
    rintro e w5 ⟨rfl, hR⟩
    obtain ⟨g2, X⟩ := D3.putQ hF (xs := xs) (by show RingsP w4 (Y1 b).queue (s.G b) _ _; rw [← eq]; exact hR)
    exact ⟨rfl, g2, X⟩
  have HE : Hid (s.F j = some b ∧ s.Q b = x :: xs ∧ b = s.nth k) := ⟨hF, hx, eb⟩
  clear D3 HD2 ew4 eq hF hx eb
  obtain ⟨a0, a1, a2, a3, a4, a5⟩ := x
  go_wp2_with fail
  refine POP.out.mono ?_
  rintro e w5 ⟨rfl, g2, D5⟩
  rw [show (⟨a0, a1, a2, a3, a4, a5⟩ : Pk).val = .agg #[.int .i64 a0, .int .i64 a1, .int .i64 a2, .int .i64 a3, .int .i64 a4, .int .i64 a5] from rfl]
  clear POP b4
  have HD5 : Hid (DF d s { s with Y := Y1, R := rl k s.R, g := g1, x := { s.x with turn := true }, Q := updN s.Q b xs, G := updN s.G b g2 } W w5) := D5
  clear D5
  obtain ⟨u, eu⟩ : ∃ u, u = w5.heap.size := ⟨_, rfl⟩
  have HV : Hid (w5.heap.size = u) := eu.symm
  clear eu
  go_wp2_with fail
  obtain ⟨W6, hW6⟩ : ∃ W6, W6 = w5.alloc (.cells #[.int .i64 a0, .int .i64 a1, .int .i64 a2, .int .i64 a3, .int .i64 a4, .int .i64 a5] 49) := ⟨_, rfl⟩
  rw [← hW6, HV.out]
  have D6 : DF d s { s with Y := Y1, R := rl k s.R, g := g1, x := { s.x with turn := true }, Q := updN s.Q b xs, G := updN s.G b g2 } W W6 := by rw [hW6]; exact HD5.out.alloc _
  have hu6 : W6.heap[u]? = some (.cells #[.int .i64 a0, .int .i64 a1, .int .i64 a2, .int .i64 a3, .int .i64 a4, .int .i64 a5] 49) := by rw [hW6, ← HV.out]; exact (MapKept.heap_alloc _ _).1
  have hv5 : ∀ w9 s9, DF d s s9 W w9 → w9.heap[v]? = some (.cells #[.int .i64 0, .int .i64 0, .int .i64 0, .int .i64 0, .int .i64 0, .int .i64 0] 49) ∧ ¬ Mine d s9 v := fun w9 s9 hd => by
    have lv := (Array.getElem?_eq_some_iff.1 HH.out.2.1).1
    refine ⟨(hd.2.block v lv HH.out.2.2.1).trans HH.out.2.1, fun hm => ?_⟩
    rcases hd.2.mine v hm with e | e
    · exact HH.out.2.2.1 e
    omega
  have HVV : Hid (∀ w9 s9, DF d s s9 W w9 → w9.heap[v]? = some (.cells #[.int .i64 0, .int .i64 0, .int .i64 0, .int .i64 0, .int .i64 0, .int .i64 0] 49) ∧ ¬ Mine d s9 v) := hv5
  obtain ⟨kp, ekp⟩ : ∃ kp, kp = (Y1 b).kept := ⟨_, rfl⟩
  have b6 : W6.cell? ⟨b, 6, none⟩ = some (.int .i64 kp) := by rw [ekp]; exact World.rowIs.cell (D6.1.fl j b HE.out.1) (i := 6) (by omega)
  have z6 : W6.frozen? ⟨b, 6, none⟩ = false := World.rowIs.frozen (D6.1.fl j b HE.out.1) 6
  have u0 : W6.cell? ⟨u, 0, none⟩ = some (.int .i64 a0) := by simp [World.cell?, hu6]
  have u1 : W6.cell? ⟨u, 1, none⟩ = some (.int .i64 a1) := by simp [World.cell?, hu6]
  have u2 : W6.cell? ⟨u, 2, none⟩ = some (.int .i64 a2) := by simp [World.cell?, hu6]
  have u3 : W6.cell? ⟨u, 3, none⟩ = some (.int .i64 a3) := by simp [World.cell?, hu6]
  have u4 : W6.cell? ⟨u, 4, none⟩ = some (.int .i64 a4) := by simp [World.cell?, hu6]
  have u5 : W6.cell? ⟨u, 5, none⟩ = some (.int .i64 a5) := by simp [World.cell?, hu6]
  have hub : u ≠ b := by
    have := HD5.out.1.bl (b := b) HE.out.1
    have := HV.out
    omega
  have hbu := Ne.symm hub
  have HY : Hid (Y1 b = upd s r k k) := by
    have := HU.out.inn k HP.out.kn
    rw [if_pos HP.out.kn, ← HE.out.2.2] at this
    exact this
  have hkr : -1073741824 ≤ kp ∧ kp ≤ 2305843010287435776 := by
    have hp := HP.out
    obtain ⟨_, q1, q2, _, _, k1, k2⟩ := HH.out.2.2.2.1 _ (nth_mem hp.kn)
    have hr2 : r ≤ 2147483648 := by
      rcases hp.least with e | e
      · omega
      exact Int.le_trans (e k hp.kn) (va_le HH.out.2.2.2.1 hp.kn)
    rw [ekp, HY.out]
    show -1073741824 ≤ (s.Y (s.nth k)).kept + ow r k k * (s.Y (s.nth k)).quantum ∧ (s.Y (s.nth k)).kept + ow r k k * (s.Y (s.nth k)).quantum ≤ 2305843010287435776
    have eo : ow r k k = r := by unfold ow; rw [if_neg (by omega)]
    rw [eo]
    have m1 : r * (s.Y (s.nth k)).quantum ≤ 2147483648 * 1073741824 := Int.mul_le_mul hr2 q2 (by omega) (by omega)
    have m0 : 0 ≤ r * (s.Y (s.nth k)).quantum := Int.mul_nonneg hp.r0 (by omega)
    omega
  have hsz : 0 ≤ a3 ∧ a3 ≤ 65536 := by
    obtain ⟨_, _, _, z1, z2, _, _⟩ := HH.out.2.2.2.1 _ (nth_mem HP.out.kn)
    unfold hdP at z1 z2
    rw [← HE.out.2.2, HE.out.2.1] at z1 z2
    exact ⟨z1, z2⟩
  have hwk : IntKind.i64.wrap (kp - a3) = kp - a3 := by rw [IntKind.wrap_i64]; omega
  have D7 : DF d s (s.mid b k g1 g2 Y1 xs a3) W ((W6.setCell ⟨b, 6, none⟩ (.int .i64 (kp - a3))).drew) := by
    have X := D6.setF HE.out.1 6 (.int .i64 (kp - a3)) { Y1 b with kept := kp - a3 } (by
      intro j hj
      rcases j with _ | _ | _ | _ | _ | _ | _ | j <;> first | rfl | omega) rfl rfl
    rw [ekp] at X ⊢
    exact X.drew
  have HD7 : Hid (DF d s (s.mid b k g1 g2 Y1 xs a3) W ((W6.setCell ⟨b, 6, none⟩ (.int .i64 (kp - a3))).drew)) := D7
  have HS : Hid (0 ≤ a3 ∧ a3 ≤ 65536 ∧ W6.heap[u]? = some (.cells #[.int .i64 a0, .int .i64 a1, .int .i64 a2, .int .i64 a3, .int .i64 a4, .int .i64 a5] 49) ∧ ¬ Mine d (s.mid b k g1 g2 Y1 xs a3) u) := by
    refine ⟨hsz.1, hsz.2, hu6, fun hm => HD5.out.1.fresh (k := u) (by have := HV.out; omega) ?_⟩
    exact mine_q (s := { s with Y := Y1, R := rl k s.R, g := g1, x := { s.x with turn := true }, Q := updN s.Q b xs, G := updN s.G b g2 }) (s' := { s.mid b k g1 g2 Y1 xs a3 with x := { s.x with turn := true } }) rfl rfl rfl (fun c => by
      show (updN Y1 b _ c).queue = (Y1 c).queue
      unfold updN
      split
      · rename_i e; rw [e]
      rfl) rfl hm
  clear hW6 D6 hu6 hv5 ekp hkr hsz D7
  go_region
  go_wp2_with fail
  obtain ⟨W7, hW7⟩ : ∃ W7, W7 = (W6.setCell ⟨b, 6, none⟩ (.int .i64 (kp - a3))).drew := ⟨_, rfl⟩
  have D7 : DF d s (s.mid b k g1 g2 Y1 xs a3) W W7 := by rw [hW7]; exact HD7.out
  have hu7 : W7.heap[u]? = some (.cells #[.int .i64 a0, .int .i64 a1, .int .i64 a2, .int .i64 a3, .int .i64 a4, .int .i64 a5] 49) := by
    rw [hW7]
    exact (Below.heap_setCell _ _ _ u hub).trans HS.out.2.2.1
  rw [← hW7]
  have HD7' : Hid (DF d s (s.mid b k g1 g2 Y1 xs a3) W W7 ∧ W7.heap[u]? = some (.cells #[.int .i64 a0, .int .i64 a1, .int .i64 a2, .int .i64 a3, .int .i64 a4, .int .i64 a5] 49)) := ⟨D7, hu7⟩
  have FG : Hid (Calls Try.prog 34 #[.pointer (some ⟨d, 0, none⟩), .pointer (some ⟨b, 0, none⟩), .agg #[.int .i64 a0, .int .i64 a1, .int .i64 a2, .int .i64 a3, .int .i64 a4, .int .i64 a5]] W7 fun e w' => e = .returned (.tuple #[]) ∧ ∃ s', DF d (s.mid b k g1 g2 Y1 xs a3) s' W7 w' ∧ ((xs ≠ [] ∧ s' = (s.mid b k g1 g2 Y1 xs a3).lessOf b a3) ∨ (xs = [] ∧ ∃ g3, s' = ((s.mid b k g1 g2 Y1 xs a3).lessOf b a3).outOf b 0 g3))) := by
    have hy : ((s.mid b k g1 g2 Y1 xs a3).Y b).bytes = (s.Y b).bytes := by
      show (updN Y1 b _ b).bytes = _
      rw [updN_eq, HY.out, HE.out.2.2]
      rfl
    have hbm : b ∈ s.R := by rw [HE.out.2.2]; exact nth_mem HP.out.kn
    have hb := HH.out.2.2.2.2.2.2.2.2 b hbm
    have hq : (s.mid b k g1 g2 Y1 xs a3).Q b = xs := updN_eq _ _ _
    have hc : (s.mid b k g1 g2 Y1 xs a3).x.count = s.x.count := rfl
    have hl : (s.mid b k g1 g2 Y1 xs a3).R.length = s.R.length := rl_length _ _
    have h0 := HP.out.kn
    by_cases hxs : xs = []
    · refine (forgetD_last d (s.mid b k g1 g2 Y1 xs a3) ⟨a0, a1, a2, a3, a4, a5⟩ b j W7 D7.1 HE.out.1 HS.out.1 HS.out.2.1 (by rw [hy]; exact hb.1) (by rw [hy]; exact hb.2) (by rw [hc]; have := HH.out.2.2.2.2.2.2.1; omega) (by rw [hc]; exact HH.out.2.2.2.2.2.2.2.1) (by rw [hq]; exact hxs) 0 (by rw [hl]; exact HH.out.2.2.2.2.1) (rl_nodup HH.out.2.2.2.2.2.1 k) (by rw [hl]; omega) ?_).mono ?_
      · rw [HE.out.2.2]
        exact rl_zero h0
      rintro e w8 ⟨rfl, g3, X⟩
      exact ⟨rfl, _, X, .inr ⟨hxs, g3, rfl⟩⟩
    refine (forgetD_more d (s.mid b k g1 g2 Y1 xs a3) ⟨a0, a1, a2, a3, a4, a5⟩ b j W7 D7.1 HE.out.1 HS.out.1 HS.out.2.1 (by rw [hy]; exact hb.1) (by rw [hy]; exact hb.2) (by rw [hc]; have := HH.out.2.2.2.2.2.2.1; omega) (by rw [hc]; exact HH.out.2.2.2.2.2.2.2.1) (by rw [hq]; exact hxs)).mono ?_
    rintro e w8 ⟨rfl, X⟩
    exact ⟨rfl, _, X, .inl ⟨hxs, rfl⟩⟩
  clear hW7 D7 hu7 HD7 b6 z6 u0 u1 u2 u3 u4 u5
  refine FG.out.mono ?_
  rintro e w8 ⟨rfl, s8, D8, hs8⟩
  clear FG
  have hu8 : w8.heap[u]? = some (.cells #[.int .i64 a0, .int .i64 a1, .int .i64 a2, .int .i64 a3, .int .i64 a4, .int .i64 a5] 49) := (D8.2.block u (Array.getElem?_eq_some_iff.1 HD7'.out.2).1 HS.out.2.2.2).trans HD7'.out.2
  have D8' : DF d s s8 W w8 := HD7'.out.1.trans D8
  obtain ⟨hv8, hn8⟩ := HVV.out w8 s8 D8'
  have u0 : w8.cell? ⟨u, 0, none⟩ = some (.int .i64 a0) := by simp [World.cell?, hu8]
  have u1 : w8.cell? ⟨u, 1, none⟩ = some (.int .i64 a1) := by simp [World.cell?, hu8]
  have u2 : w8.cell? ⟨u, 2, none⟩ = some (.int .i64 a2) := by simp [World.cell?, hu8]
  have u3 : w8.cell? ⟨u, 3, none⟩ = some (.int .i64 a3) := by simp [World.cell?, hu8]
  have u4 : w8.cell? ⟨u, 4, none⟩ = some (.int .i64 a4) := by simp [World.cell?, hu8]
  have u5 : w8.cell? ⟨u, 5, none⟩ = some (.int .i64 a5) := by simp [World.cell?, hu8]
  have v0 : w8.cell? ⟨v, 0, none⟩ = some (.int .i64 0) := by simp [World.cell?, hv8]
  have t0 : w8.frozen? ⟨v, 0, none⟩ = false := by simp [World.frozen?, hv8]
  have v1 : w8.cell? ⟨v, 1, none⟩ = some (.int .i64 0) := by simp [World.cell?, hv8]
  have t1 : w8.frozen? ⟨v, 1, none⟩ = false := by simp [World.frozen?, hv8]
  have v2 : w8.cell? ⟨v, 2, none⟩ = some (.int .i64 0) := by simp [World.cell?, hv8]
  have t2 : w8.frozen? ⟨v, 2, none⟩ = false := by simp [World.frozen?, hv8]
  have v3 : w8.cell? ⟨v, 3, none⟩ = some (.int .i64 0) := by simp [World.cell?, hv8]
  have t3 : w8.frozen? ⟨v, 3, none⟩ = false := by simp [World.frozen?, hv8]
  have v4 : w8.cell? ⟨v, 4, none⟩ = some (.int .i64 0) := by simp [World.cell?, hv8]
  have t4 : w8.frozen? ⟨v, 4, none⟩ = false := by simp [World.frozen?, hv8]
  have v5 : w8.cell? ⟨v, 5, none⟩ = some (.int .i64 0) := by simp [World.cell?, hv8]
  have t5 : w8.frozen? ⟨v, 5, none⟩ = false := by simp [World.frozen?, hv8]
  have huv : u ≠ v := by
    rintro rfl
    rw [hu8] at hv8
    have := (HVV.out W7 _ HD7'.out.1).1
    have e1 := HV.out
    have lv := (Array.getElem?_eq_some_iff.1 HH.out.2.1).1
    have := HD5.out.2.size
    omega
  have hvu := Ne.symm huv
  have HFIN : Hid (DF d s s8 w w8 ∧ ¬ Mine d s8 v ∧ ((xs ≠ [] ∧ s8 = (s.mid b k g1 g2 Y1 xs a3).lessOf b a3) ∨ (xs = [] ∧ ∃ g3, s8 = ((s.mid b k g1 g2 Y1 xs a3).lessOf b a3).outOf b 0 g3))) := ⟨HH.out.1.trans D8', hn8, hs8⟩
  clear hs8 D8 D8' hu8 hv8 hn8
  go_wp2_with fail
  refine bodyPost_ret (v := .tuple #[.agg #[.int .i64 a0, .int .i64 a1, .int .i64 a2, .int .i64 a3, .int .i64 a4, .int .i64 a5], .bool true]) (by simp [results, Try.results17, go_sem, *]) rfl ⟨r, k, ⟨a0, a1, a2, a3, a4, a5⟩, xs, Y1, s8, rfl, ⟨HP.out, by rw [← HE.out.2.2]; exact HE.out.2.1, HU.out, ?_, g1, g2, ?_⟩⟩
  · have X : ∀ i z w9, DF d s s8 w w9 → DF d s s8 w (w9.setCell ⟨v, i, none⟩ z) := fun i z w9 hx => hx.cellV (by rw [HW.out.2]; exact Nat.le_refl _) HFIN.out.2.1 i z
    repeat' first
      | exact HFIN.out.1
      | refine X _ _ _ ?_
      | refine DF.drew ?_
  rw [← HE.out.2.2]
  exact HFIN.out.2.2
set_option maxHeartbeats 2000000 in
theorem turnD_no (d : Nat) (x : Dv) (w : World) (h : Dr w d x) (ht : x.turn = false) : Calls Try.prog 11 #[.pointer (some ⟨d, 0, none⟩)] w fun e w' => e = .returned (.tuple #[.agg #[.int .i64 0, .int .i64 0], .bool false]) ∧ Below w.heap.size w w' := by
  obtain ⟨W, hW⟩ : ∃ W, W = w.alloc (.cells #[.int .i64 0, .int .i64 0] 41) := ⟨_, rfl⟩
  obtain ⟨v, ev⟩ : ∃ v, v = w.heap.size := ⟨_, rfl⟩
  have B0 : Below w.heap.size w W := by rw [hW]; exact (Below.refl _ _).alloc (Nat.le_refl _) _
  have hB : W.heap[v]? = some (.cells #[.int .i64 0, .int .i64 0] 41) := by rw [hW, ev]; exact (MapKept.heap_alloc _ _).1
  have c2 : W.cell? ⟨d, 2, none⟩ = some (.bool false) := by rw [← ht]; exact cell_later B0 (World.rowIs.cell h (i := 2) (by omega))
  have cA : (w.alloc (.cells #[.int .i64 0, .int .i64 0] 41)).cell? ⟨d, 2, none⟩ = some (.bool false) := by rw [← hW]; exact c2
  have v0 : (w.alloc (.cells #[.int .i64 0, .int .i64 0] 41)).cell? ⟨w.heap.size, 0, none⟩ = some (.int .i64 0) := by rw [← hW, ← ev]; simp [World.cell?, hB]
  have v1 : (w.alloc (.cells #[.int .i64 0, .int .i64 0] 41)).cell? ⟨w.heap.size, 1, none⟩ = some (.int .i64 0) := by rw [← hW, ← ev]; simp [World.cell?, hB]
  have t0 : (w.alloc (.cells #[.int .i64 0, .int .i64 0] 41)).frozen? ⟨w.heap.size, 0, none⟩ = false := by rw [← hW, ← ev]; simp [World.frozen?, hB]
  have t1 : (w.alloc (.cells #[.int .i64 0, .int .i64 0] 41)).frozen? ⟨w.heap.size, 1, none⟩ = false := by rw [← hW, ← ev]; simp [World.frozen?, hB]
  have HB : Hid (Below w.heap.size w (w.alloc (.cells #[.int .i64 0, .int .i64 0] 41))) := by rw [← hW]; exact B0
  clear h ht B0 hB hW ev c2
  go_enter Try.func11, Try.ntmps11
  go_wp2_with fail
  refine bodyPost_ret (v := .tuple #[.agg #[.int .i64 0, .int .i64 0], .bool false]) (by simp [results, Try.results11, go_sem, *]) rfl ⟨rfl, ?_⟩
  repeat' first
    | exact HB.out
    | with_reducible refine Below.setCell ?_ (Nat.le_refl _) _
    | with_reducible refine bel_drew ?_
set_option maxHeartbeats 2000000 in
theorem turnD_yes (d : Nat) (s : Sd) (w : World) (h : DS w d s) (ht : s.x.turn = true) (hR : 0 < s.R.length) : Calls Try.prog 11 #[.pointer (some ⟨d, 0, none⟩)] w fun e w' => e = .returned (.tuple #[.agg #[.int .i64 (s.Y (s.nth 0)).slot, .int .i64 (s.Y (s.nth 0)).gen], .bool true]) ∧ Below w.heap.size w w' := by
  obtain ⟨W, hW⟩ : ∃ W, W = w.alloc (.cells #[.int .i64 0, .int .i64 0] 41) := ⟨_, rfl⟩
  obtain ⟨v, ev⟩ : ∃ v, v = w.heap.size := ⟨_, rfl⟩
  have B0 : Below w.heap.size w W := by rw [hW]; exact (Below.refl _ _).alloc (Nat.le_refl _) _
  have hB : W.heap[v]? = some (.cells #[.int .i64 0, .int .i64 0] 41) := by rw [hW, ev]; exact (MapKept.heap_alloc _ _).1
  have D0 : DF d s s w W := h.df.below B0
  obtain ⟨rg, erg⟩ : ∃ rg, rg = s.x.ring := ⟨_, rfl⟩
  obtain ⟨b, eb⟩ : ∃ b, b = s.nth 0 := ⟨_, rfl⟩
  obtain ⟨j, hF⟩ := h.inr _ (nth_mem hR)
  rw [← eb] at hF ⊢
  have c1 : W.cell? ⟨d, 1, none⟩ = some (.pointer (some ⟨rg, 0, none⟩)) := by rw [erg]; exact World.rowIs.cell D0.1.dr (i := 1) (by omega)
  have c2 : W.cell? ⟨d, 2, none⟩ = some (.bool true) := by rw [← ht]; exact World.rowIs.cell D0.1.dr (i := 2) (by omega)
  have cA : (w.alloc (.cells #[.int .i64 0, .int .i64 0] 41)).cell? ⟨d, 1, none⟩ = some (.pointer (some ⟨rg, 0, none⟩)) := by rw [← hW]; exact c1
  have cB : (w.alloc (.cells #[.int .i64 0, .int .i64 0] 41)).cell? ⟨d, 2, none⟩ = some (.bool true) := by rw [← hW]; exact c2
  have HF : Hid (Calls Try.prog 23 #[.pointer (some ⟨rg, 0, none⟩)] W fun e w' => e = .returned (.tuple #[.pointer (some ⟨b, 0, none⟩), .bool true]) ∧ ∃ n, w' = W.drewN n) := by
    obtain ⟨N, f, hr⟩ := D0.1.rg
    have hr : RF W rg s.g N f (adrs s.R).length (adrs s.R) := by rw [erg]; exact hr
    exact frontF_d rg s.g N f _ _ _ W hr (by rw [adrs_len]; exact hR) (by rw [eb]; exact adrs_getD hR)
  obtain ⟨sl, esl⟩ : ∃ x, x = (s.Y b).slot := ⟨_, rfl⟩
  obtain ⟨gn, egn⟩ : ∃ x, x = (s.Y b).gen := ⟨_, rfl⟩
  have b0 : W.cell? ⟨b, 0, none⟩ = some (.int .i64 sl) := by rw [esl]; exact World.rowIs.cell (D0.1.fl j b hF) (i := 0) (by omega)
  have b1 : W.cell? ⟨b, 1, none⟩ = some (.int .i64 gn) := by rw [egn]; exact World.rowIs.cell (D0.1.fl j b hF) (i := 1) (by omega)
  have v0 : W.cell? ⟨v, 0, none⟩ = some (.int .i64 0) := by simp [World.cell?, hB]
  have v1 : W.cell? ⟨v, 1, none⟩ = some (.int .i64 0) := by simp [World.cell?, hB]
  have t0 : W.frozen? ⟨v, 0, none⟩ = false := by simp [World.frozen?, hB]
  have t1 : W.frozen? ⟨v, 1, none⟩ = false := by simp [World.frozen?, hB]
  have HW : Hid (w.alloc (.cells #[.int .i64 0, .int .i64 0] 41) = W ∧ w.heap.size = v) := ⟨hW.symm, ev.symm⟩
  have HB : Hid (Below w.heap.size w W) := B0
  have hbv : ¬ b = v := by have := h.bl hF; omega
  have hvb : ¬ v = b := fun e => hbv e.symm
  rw [← esl, ← egn]
  clear h ht hR B0 hB D0 erg eb hF c1 c2 hW ev esl egn
  go_enter Try.func11, Try.ntmps11
  go_wp2_with fail
  rw [HW.out.1, HW.out.2]
  clear cA cB
  refine HF.out.mono ?_
  rintro e w1 ⟨rfl, n, rfl⟩
  go_wp2_with fail
  refine bodyPost_ret (v := .tuple #[.agg #[.int .i64 sl, .int .i64 gn], .bool true]) (by simp [results, Try.results11, go_sem, *]) rfl ⟨rfl, ?_⟩
  repeat' first
    | exact HB.out
    | with_reducible refine Below.setCell ?_ (by show _ ≤ v; have := HW.out.2; omega) _
    | with_reducible refine bel_drewN ?_ _
    | with_reducible refine bel_drew ?_
def Sd.deficit (s : Sd) (b : Nat) : Int := if s.x.turn = true ∧ s.nth 0 = b then (s.Y b).kept + (s.Y b).quantum else (s.Y b).kept
set_option maxHeartbeats 4000000 in
theorem deficitD_off (d : Nat) (s : Sd) (sl gn : Int) (b : Nat) (w : World) (h : DS w d s) (h1 : -9223372036854775808 ≤ sl) (h2 : sl ≤ 9223372036854775807) (hF : s.F sl = some b) (hg : (s.Y b).gen = gn) (ht : s.x.turn = false) (hk1 : -4611686018427387904 ≤ (s.Y b).kept) (hk2 : (s.Y b).kept ≤ 4611686018427387904) (hq1 : 0 ≤ (s.Y b).quantum) (hq2 : (s.Y b).quantum ≤ 1073741824) : Calls Try.prog 13 #[.pointer (some ⟨d, 0, none⟩), .agg #[.int .i64 sl, .int .i64 gn]] w fun e w' => e = .returned (.tuple #[.int .i64 (s.deficit b), .int .i64 0]) ∧ Below w.heap.size w w' := by
  obtain ⟨W, hW⟩ : ∃ W, W = w.alloc (.cells #[.int .i64 sl, .int .i64 gn] 41) := ⟨_, rfl⟩
  obtain ⟨v, ev⟩ : ∃ v, v = w.heap.size := ⟨_, rfl⟩
  have B0 : Below w.heap.size w W := by rw [hW]; exact (Below.refl _ _).alloc (Nat.le_refl _) _
  have hB : W.heap[v]? = some (.cells #[.int .i64 sl, .int .i64 gn] 41) := by rw [hW, ev]; exact (MapKept.heap_alloc _ _).1
  have D0 : DF d s s w W := h.df.below B0
  have hs := h.sl sl b hF
  have HO : Hid (Calls Try.prog 24 #[.pointer (some ⟨d, 0, none⟩), .agg #[.int .i64 sl, .int .i64 gn]] W fun e w' => e = .returned (.tuple #[.pointer (some ⟨b, 0, none⟩), .int .i64 0]) ∧ Below W.heap.size W w') := openD_yes d s.x s.nn s.F sl gn W D0.1.dr D0.1.mp h1 h2 b (s.Y b) hF (D0.1.fl _ _ hF) hs hg
  obtain ⟨kp, ekp⟩ : ∃ x, x = (s.Y b).kept := ⟨_, rfl⟩
  obtain ⟨qm, eqm⟩ : ∃ x, x = (s.Y b).quantum := ⟨_, rfl⟩
  have hval : Hid (s.deficit b = kp) := by
    show s.deficit b = kp
    unfold Sd.deficit
    rw [if_neg (by rw [ht]; simp), ekp]
  have hwk : IntKind.i64.wrap (kp + qm) = kp + qm := by rw [IntKind.wrap_i64, ekp, eqm]; omega
  have HT : Hid (∀ w1, DF d s s w w1 → Calls Try.prog 11 #[.pointer (some ⟨d, 0, none⟩)] w1 fun e w' => e = .returned (.tuple #[.agg #[.int .i64 0, .int .i64 0], .bool false]) ∧ Below w1.heap.size w1 w') := fun w1 h1 => by
    exact turnD_no d s.x w1 h1.1.dr ht
  have HW : Hid (w.alloc (.cells #[.int .i64 sl, .int .i64 gn] 41) = W ∧ w.heap.size = v) := ⟨hW.symm, ev.symm⟩
  have HD0 : Hid (DF d s s w W ∧ W.heap[v]? = some (.cells #[.int .i64 sl, .int .i64 gn] 41) ∧ v < W.heap.size ∧ s.F sl = some b ∧ kp = (s.Y b).kept ∧ qm = (s.Y b).quantum ∧ Below w.heap.size w W) := ⟨D0, hB, (Array.getElem?_eq_some_iff.1 hB).1, hF, ekp, eqm, B0⟩
  have hbv : ¬ b = v := by have := h.bl hF; omega
  have hvb : ¬ v = b := fun e => hbv e.symm
  have v0 : (w.alloc (.cells #[.int .i64 sl, .int .i64 gn] 41)).cell? ⟨v, 0, none⟩ = some (.int .i64 sl) := by rw [← hW]; simp [World.cell?, hB]
  have v1 : (w.alloc (.cells #[.int .i64 sl, .int .i64 gn] 41)).cell? ⟨v, 1, none⟩ = some (.int .i64 gn) := by rw [← hW]; simp [World.cell?, hB]
  rw [ev] at v0 v1
  have hval2 := hval.out
  rw [hval2]
  clear h h1 h2 hF hg ht  hk1 hk2 hq1 hq2 D0 B0 hB hW ev hs ekp eqm  hval2
  go_enter Try.func13, Try.ntmps13
  go_wp2_with fail
  rw [HW.out.1, HW.out.2]
  clear v0 v1
  refine HO.out.mono ?_
  rintro e w1 ⟨rfl, hb⟩
  have D1 := HD0.out.1.below hb
  have HD1 : Hid (DF d s s w w1 ∧ w1.heap[v]? = some (.cells #[.int .i64 sl, .int .i64 gn] 41) ∧ Below w.heap.size w w1) := ⟨D1, (hb.block v HD0.out.2.2.1).trans HD0.out.2.1, HD0.out.2.2.2.2.2.2.trans (hb.mono HD0.out.2.2.2.2.2.2.size)⟩
  clear hb D1
  go_wp2_with fail
  refine (HT.out w1 HD1.out.1).mono ?_
  rintro e w2 ⟨rfl, hb⟩
  have lv : v < w1.heap.size := (Array.getElem?_eq_some_iff.1 HD1.out.2.1).1
  obtain ⟨W3, hW3⟩ : ∃ W3, W3 = w2.alloc (.cells #[.int .i64 0, .int .i64 0] 41) := ⟨_, rfl⟩
  obtain ⟨u, eu⟩ : ∃ u, u = w2.heap.size := ⟨_, rfl⟩
  have B3 : Below w1.heap.size w1 W3 := by rw [hW3]; exact hb.alloc hb.size _
  have D3 := HD1.out.1.below B3
  have hv3 : W3.heap[v]? = some (.cells #[.int .i64 sl, .int .i64 gn] 41) := (B3.block v lv).trans HD1.out.2.1
  have hu3 : W3.heap[u]? = some (.cells #[.int .i64 0, .int .i64 0] 41) := by rw [hW3, eu]; exact (MapKept.heap_alloc _ _).1
  have v0 : W3.cell? ⟨v, 0, none⟩ = some (.int .i64 sl) := by simp [World.cell?, hv3]
  have v1 : W3.cell? ⟨v, 1, none⟩ = some (.int .i64 gn) := by simp [World.cell?, hv3]
  have u0 : W3.cell? ⟨u, 0, none⟩ = some (#[.int .i64 0, .int .i64 0][0]!) := by simp [World.cell?, hu3]
  have u1 : W3.cell? ⟨u, 1, none⟩ = some (#[.int .i64 0, .int .i64 0][1]!) := by simp [World.cell?, hu3]
  simp at u0 u1
  have b3 : W3.cell? ⟨b, 3, none⟩ = some (.int .i64 qm) := by rw [HD0.out.2.2.2.2.2.1]; exact World.rowIs.cell (D3.1.fl _ _ HD0.out.2.2.2.1) (i := 3) (by omega)
  have b6 : W3.cell? ⟨b, 6, none⟩ = some (.int .i64 kp) := by rw [HD0.out.2.2.2.2.1]; exact World.rowIs.cell (D3.1.fl _ _ HD0.out.2.2.2.1) (i := 6) (by omega)
  have HW3 : Hid (w2.alloc (.cells #[.int .i64 0, .int .i64 0] 41) = W3 ∧ w2.heap.size = u ∧ Below w.heap.size w W3) := ⟨hW3.symm, eu.symm, HD1.out.2.2.trans (B3.mono HD1.out.2.2.size)⟩
  have z0 : (w2.alloc (.cells #[.int .i64 0, .int .i64 0] 41)).cell? ⟨w2.heap.size, 0, none⟩ = some (#[.int .i64 0, .int .i64 0][0]!) := by rw [← hW3, ← eu]; simpa using u0
  have z1 : (w2.alloc (.cells #[.int .i64 0, .int .i64 0] 41)).cell? ⟨w2.heap.size, 1, none⟩ = some (#[.int .i64 0, .int .i64 0][1]!) := by rw [← hW3, ← eu]; simpa using u1
  have y0 : (w2.alloc (.cells #[.int .i64 0, .int .i64 0] 41)).cell? ⟨v, 0, none⟩ = some (.int .i64 sl) := by rw [← hW3]; exact v0
  have y1 : (w2.alloc (.cells #[.int .i64 0, .int .i64 0] 41)).cell? ⟨v, 1, none⟩ = some (.int .i64 gn) := by rw [← hW3]; exact v1
  have x3 : (w2.alloc (.cells #[.int .i64 0, .int .i64 0] 41)).cell? ⟨b, 3, none⟩ = some (.int .i64 qm) := by rw [← hW3]; exact b3
  have x6 : (w2.alloc (.cells #[.int .i64 0, .int .i64 0] 41)).cell? ⟨b, 6, none⟩ = some (.int .i64 kp) := by rw [← hW3]; exact b6
  simp at z0 z1
  clear hb B3 D3 hv3 hu3 hW3 eu lv v0 v1 u0 u1 b3 b6
  go_wp2_with fail
  refine bodyPost_ret (v := .tuple #[.int .i64 kp, .int .i64 0]) (by simp [results, Try.results13, go_sem]) rfl ⟨rfl, ?_⟩
  repeat' first
    | (rw [HW3.out.1]; exact HW3.out.2.2)
    | with_reducible refine bel_drewN ?_ _
    | with_reducible refine bel_drew ?_
set_option maxHeartbeats 4000000 in
theorem deficitD_mine (d : Nat) (s : Sd) (sl gn : Int) (b : Nat) (w : World) (h : DS w d s) (h1 : -9223372036854775808 ≤ sl) (h2 : sl ≤ 9223372036854775807) (hF : s.F sl = some b) (hg : (s.Y b).gen = gn) (ht : s.x.turn = true) (hR : 0 < s.R.length) (hb0 : s.nth 0 = b) (hk1 : -4611686018427387904 ≤ (s.Y b).kept) (hk2 : (s.Y b).kept ≤ 4611686018427387904) (hq1 : 0 ≤ (s.Y b).quantum) (hq2 : (s.Y b).quantum ≤ 1073741824) : Calls Try.prog 13 #[.pointer (some ⟨d, 0, none⟩), .agg #[.int .i64 sl, .int .i64 gn]] w fun e w' => e = .returned (.tuple #[.int .i64 (s.deficit b), .int .i64 0]) ∧ Below w.heap.size w w' := by
  obtain ⟨W, hW⟩ : ∃ W, W = w.alloc (.cells #[.int .i64 sl, .int .i64 gn] 41) := ⟨_, rfl⟩
  obtain ⟨v, ev⟩ : ∃ v, v = w.heap.size := ⟨_, rfl⟩
  have B0 : Below w.heap.size w W := by rw [hW]; exact (Below.refl _ _).alloc (Nat.le_refl _) _
  have hB : W.heap[v]? = some (.cells #[.int .i64 sl, .int .i64 gn] 41) := by rw [hW, ev]; exact (MapKept.heap_alloc _ _).1
  have D0 : DF d s s w W := h.df.below B0
  have hs := h.sl sl b hF
  have HO : Hid (Calls Try.prog 24 #[.pointer (some ⟨d, 0, none⟩), .agg #[.int .i64 sl, .int .i64 gn]] W fun e w' => e = .returned (.tuple #[.pointer (some ⟨b, 0, none⟩), .int .i64 0]) ∧ Below W.heap.size W w') := openD_yes d s.x s.nn s.F sl gn W D0.1.dr D0.1.mp h1 h2 b (s.Y b) hF (D0.1.fl _ _ hF) hs hg
  obtain ⟨kp, ekp⟩ : ∃ x, x = (s.Y b).kept := ⟨_, rfl⟩
  obtain ⟨qm, eqm⟩ : ∃ x, x = (s.Y b).quantum := ⟨_, rfl⟩
  have hval : Hid (s.deficit b = (kp + qm)) := by
    show s.deficit b = (kp + qm)
    unfold Sd.deficit
    rw [if_pos ⟨ht, hb0⟩, ekp, eqm]
  have hwk : IntKind.i64.wrap (kp + qm) = kp + qm := by rw [IntKind.wrap_i64, ekp, eqm]; omega
  have HT : Hid (∀ w1, DF d s s w w1 → Calls Try.prog 11 #[.pointer (some ⟨d, 0, none⟩)] w1 fun e w' => e = .returned (.tuple #[.agg #[.int .i64 sl, .int .i64 gn], .bool true]) ∧ Below w1.heap.size w1 w') := fun w1 h1 => by
    have := turnD_yes d s w1 h1.1 ht hR
    rw [hb0, hs, hg] at this
    exact this
  have HW : Hid (w.alloc (.cells #[.int .i64 sl, .int .i64 gn] 41) = W ∧ w.heap.size = v) := ⟨hW.symm, ev.symm⟩
  have HD0 : Hid (DF d s s w W ∧ W.heap[v]? = some (.cells #[.int .i64 sl, .int .i64 gn] 41) ∧ v < W.heap.size ∧ s.F sl = some b ∧ kp = (s.Y b).kept ∧ qm = (s.Y b).quantum ∧ Below w.heap.size w W) := ⟨D0, hB, (Array.getElem?_eq_some_iff.1 hB).1, hF, ekp, eqm, B0⟩
  have hbv : ¬ b = v := by have := h.bl hF; omega
  have hvb : ¬ v = b := fun e => hbv e.symm
  have v0 : (w.alloc (.cells #[.int .i64 sl, .int .i64 gn] 41)).cell? ⟨v, 0, none⟩ = some (.int .i64 sl) := by rw [← hW]; simp [World.cell?, hB]
  have v1 : (w.alloc (.cells #[.int .i64 sl, .int .i64 gn] 41)).cell? ⟨v, 1, none⟩ = some (.int .i64 gn) := by rw [← hW]; simp [World.cell?, hB]
  rw [ev] at v0 v1
  have hval2 := hval.out
  rw [hval2]
  clear h h1 h2 hF hg ht hR hb0 hk1 hk2 hq1 hq2 D0 B0 hB hW ev hs ekp eqm  hval2
  go_enter Try.func13, Try.ntmps13
  go_wp2_with fail
  rw [HW.out.1, HW.out.2]
  clear v0 v1
  refine HO.out.mono ?_
  rintro e w1 ⟨rfl, hb⟩
  have D1 := HD0.out.1.below hb
  have HD1 : Hid (DF d s s w w1 ∧ w1.heap[v]? = some (.cells #[.int .i64 sl, .int .i64 gn] 41) ∧ Below w.heap.size w w1) := ⟨D1, (hb.block v HD0.out.2.2.1).trans HD0.out.2.1, HD0.out.2.2.2.2.2.2.trans (hb.mono HD0.out.2.2.2.2.2.2.size)⟩
  clear hb D1
  go_wp2_with fail
  refine (HT.out w1 HD1.out.1).mono ?_
  rintro e w2 ⟨rfl, hb⟩
  have lv : v < w1.heap.size := (Array.getElem?_eq_some_iff.1 HD1.out.2.1).1
  obtain ⟨W3, hW3⟩ : ∃ W3, W3 = w2.alloc (.cells #[.int .i64 sl, .int .i64 gn] 41) := ⟨_, rfl⟩
  obtain ⟨u, eu⟩ : ∃ u, u = w2.heap.size := ⟨_, rfl⟩
  have B3 : Below w1.heap.size w1 W3 := by rw [hW3]; exact hb.alloc hb.size _
  have D3 := HD1.out.1.below B3
  have hv3 : W3.heap[v]? = some (.cells #[.int .i64 sl, .int .i64 gn] 41) := (B3.block v lv).trans HD1.out.2.1
  have hu3 : W3.heap[u]? = some (.cells #[.int .i64 sl, .int .i64 gn] 41) := by rw [hW3, eu]; exact (MapKept.heap_alloc _ _).1
  have v0 : W3.cell? ⟨v, 0, none⟩ = some (.int .i64 sl) := by simp [World.cell?, hv3]
  have v1 : W3.cell? ⟨v, 1, none⟩ = some (.int .i64 gn) := by simp [World.cell?, hv3]
  have u0 : W3.cell? ⟨u, 0, none⟩ = some (#[.int .i64 sl, .int .i64 gn][0]!) := by simp [World.cell?, hu3]
  have u1 : W3.cell? ⟨u, 1, none⟩ = some (#[.int .i64 sl, .int .i64 gn][1]!) := by simp [World.cell?, hu3]
  simp at u0 u1
  have b3 : W3.cell? ⟨b, 3, none⟩ = some (.int .i64 qm) := by rw [HD0.out.2.2.2.2.2.1]; exact World.rowIs.cell (D3.1.fl _ _ HD0.out.2.2.2.1) (i := 3) (by omega)
  have b6 : W3.cell? ⟨b, 6, none⟩ = some (.int .i64 kp) := by rw [HD0.out.2.2.2.2.1]; exact World.rowIs.cell (D3.1.fl _ _ HD0.out.2.2.2.1) (i := 6) (by omega)
  have HW3 : Hid (w2.alloc (.cells #[.int .i64 sl, .int .i64 gn] 41) = W3 ∧ w2.heap.size = u ∧ Below w.heap.size w W3) := ⟨hW3.symm, eu.symm, HD1.out.2.2.trans (B3.mono HD1.out.2.2.size)⟩
  have z0 : (w2.alloc (.cells #[.int .i64 sl, .int .i64 gn] 41)).cell? ⟨w2.heap.size, 0, none⟩ = some (#[.int .i64 sl, .int .i64 gn][0]!) := by rw [← hW3, ← eu]; simpa using u0
  have z1 : (w2.alloc (.cells #[.int .i64 sl, .int .i64 gn] 41)).cell? ⟨w2.heap.size, 1, none⟩ = some (#[.int .i64 sl, .int .i64 gn][1]!) := by rw [← hW3, ← eu]; simpa using u1
  have y0 : (w2.alloc (.cells #[.int .i64 sl, .int .i64 gn] 41)).cell? ⟨v, 0, none⟩ = some (.int .i64 sl) := by rw [← hW3]; exact v0
  have y1 : (w2.alloc (.cells #[.int .i64 sl, .int .i64 gn] 41)).cell? ⟨v, 1, none⟩ = some (.int .i64 gn) := by rw [← hW3]; exact v1
  have x3 : (w2.alloc (.cells #[.int .i64 sl, .int .i64 gn] 41)).cell? ⟨b, 3, none⟩ = some (.int .i64 qm) := by rw [← hW3]; exact b3
  have x6 : (w2.alloc (.cells #[.int .i64 sl, .int .i64 gn] 41)).cell? ⟨b, 6, none⟩ = some (.int .i64 kp) := by rw [← hW3]; exact b6
  simp at z0 z1
  clear hb B3 D3 hv3 hu3 hW3 eu lv v0 v1 u0 u1 b3 b6
  go_wp2_with fail
  go_quiet (fail)
  go_wp2_with fail
  refine bodyPost_ret (v := .tuple #[.int .i64 (kp + qm), .int .i64 0]) (by simp [results, Try.results13, go_sem]) rfl ⟨rfl, ?_⟩
  repeat' first
    | (rw [HW3.out.1]; exact HW3.out.2.2)
    | with_reducible refine bel_drewN ?_ _
    | with_reducible refine bel_drew ?_
set_option maxHeartbeats 4000000 in
theorem deficitD_other (d : Nat) (s : Sd) (sl gn : Int) (b : Nat) (w : World) (h : DS w d s) (h1 : -9223372036854775808 ≤ sl) (h2 : sl ≤ 9223372036854775807) (hF : s.F sl = some b) (hg : (s.Y b).gen = gn) (ht : s.x.turn = true) (hR : 0 < s.R.length) (hb0 : ¬ s.nth 0 = b) (hk1 : -4611686018427387904 ≤ (s.Y b).kept) (hk2 : (s.Y b).kept ≤ 4611686018427387904) (hq1 : 0 ≤ (s.Y b).quantum) (hq2 : (s.Y b).quantum ≤ 1073741824) : Calls Try.prog 13 #[.pointer (some ⟨d, 0, none⟩), .agg #[.int .i64 sl, .int .i64 gn]] w fun e w' => e = .returned (.tuple #[.int .i64 (s.deficit b), .int .i64 0]) ∧ Below w.heap.size w w' := by
  obtain ⟨W, hW⟩ : ∃ W, W = w.alloc (.cells #[.int .i64 sl, .int .i64 gn] 41) := ⟨_, rfl⟩
  obtain ⟨v, ev⟩ : ∃ v, v = w.heap.size := ⟨_, rfl⟩
  have B0 : Below w.heap.size w W := by rw [hW]; exact (Below.refl _ _).alloc (Nat.le_refl _) _
  have hB : W.heap[v]? = some (.cells #[.int .i64 sl, .int .i64 gn] 41) := by rw [hW, ev]; exact (MapKept.heap_alloc _ _).1
  have D0 : DF d s s w W := h.df.below B0
  have hs := h.sl sl b hF
  have HO : Hid (Calls Try.prog 24 #[.pointer (some ⟨d, 0, none⟩), .agg #[.int .i64 sl, .int .i64 gn]] W fun e w' => e = .returned (.tuple #[.pointer (some ⟨b, 0, none⟩), .int .i64 0]) ∧ Below W.heap.size W w') := openD_yes d s.x s.nn s.F sl gn W D0.1.dr D0.1.mp h1 h2 b (s.Y b) hF (D0.1.fl _ _ hF) hs hg
  obtain ⟨kp, ekp⟩ : ∃ x, x = (s.Y b).kept := ⟨_, rfl⟩
  obtain ⟨qm, eqm⟩ : ∃ x, x = (s.Y b).quantum := ⟨_, rfl⟩
  have hval : Hid (s.deficit b = kp) := by
    show s.deficit b = kp
    unfold Sd.deficit
    rw [if_neg (fun e => hb0 e.2), ekp]
  have hwk : IntKind.i64.wrap (kp + qm) = kp + qm := by rw [IntKind.wrap_i64, ekp, eqm]; omega
  obtain ⟨j, hj⟩ := h.inr _ (nth_mem hR)
  obtain ⟨s2, es2⟩ : ∃ x, x = (s.Y (s.nth 0)).slot := ⟨_, rfl⟩
  obtain ⟨g2, eg2⟩ : ∃ x, x = (s.Y (s.nth 0)).gen := ⟨_, rfl⟩
  have hne : ¬ s2 = sl := by
    rw [es2, h.sl j _ hj]
    rintro rfl
    rw [hF] at hj
    injection hj with hj
    exact hb0 hj.symm
  have HT : Hid (∀ w1, DF d s s w w1 → Calls Try.prog 11 #[.pointer (some ⟨d, 0, none⟩)] w1 fun e w' => e = .returned (.tuple #[.agg #[.int .i64 s2, .int .i64 g2], .bool true]) ∧ Below w1.heap.size w1 w') := fun w1 h1 => by
    have := turnD_yes d s w1 h1.1 ht hR
    rw [← es2, ← eg2] at this
    exact this
  have HW : Hid (w.alloc (.cells #[.int .i64 sl, .int .i64 gn] 41) = W ∧ w.heap.size = v) := ⟨hW.symm, ev.symm⟩
  have HD0 : Hid (DF d s s w W ∧ W.heap[v]? = some (.cells #[.int .i64 sl, .int .i64 gn] 41) ∧ v < W.heap.size ∧ s.F sl = some b ∧ kp = (s.Y b).kept ∧ qm = (s.Y b).quantum ∧ Below w.heap.size w W) := ⟨D0, hB, (Array.getElem?_eq_some_iff.1 hB).1, hF, ekp, eqm, B0⟩
  have hbv : ¬ b = v := by have := h.bl hF; omega
  have hvb : ¬ v = b := fun e => hbv e.symm
  have v0 : (w.alloc (.cells #[.int .i64 sl, .int .i64 gn] 41)).cell? ⟨v, 0, none⟩ = some (.int .i64 sl) := by rw [← hW]; simp [World.cell?, hB]
  have v1 : (w.alloc (.cells #[.int .i64 sl, .int .i64 gn] 41)).cell? ⟨v, 1, none⟩ = some (.int .i64 gn) := by rw [← hW]; simp [World.cell?, hB]
  rw [ev] at v0 v1
  have hval2 := hval.out
  rw [hval2]
  clear h h1 h2 hF hg ht hR hb0 hk1 hk2 hq1 hq2 D0 B0 hB hW ev hs ekp eqm hj es2 eg2 hval2
  go_enter Try.func13, Try.ntmps13
  go_wp2_with fail
  rw [HW.out.1, HW.out.2]
  clear v0 v1
  refine HO.out.mono ?_
  rintro e w1 ⟨rfl, hb⟩
  have D1 := HD0.out.1.below hb
  have HD1 : Hid (DF d s s w w1 ∧ w1.heap[v]? = some (.cells #[.int .i64 sl, .int .i64 gn] 41) ∧ Below w.heap.size w w1) := ⟨D1, (hb.block v HD0.out.2.2.1).trans HD0.out.2.1, HD0.out.2.2.2.2.2.2.trans (hb.mono HD0.out.2.2.2.2.2.2.size)⟩
  clear hb D1
  go_wp2_with fail
  refine (HT.out w1 HD1.out.1).mono ?_
  rintro e w2 ⟨rfl, hb⟩
  have lv : v < w1.heap.size := (Array.getElem?_eq_some_iff.1 HD1.out.2.1).1
  obtain ⟨W3, hW3⟩ : ∃ W3, W3 = w2.alloc (.cells #[.int .i64 s2, .int .i64 g2] 41) := ⟨_, rfl⟩
  obtain ⟨u, eu⟩ : ∃ u, u = w2.heap.size := ⟨_, rfl⟩
  have B3 : Below w1.heap.size w1 W3 := by rw [hW3]; exact hb.alloc hb.size _
  have D3 := HD1.out.1.below B3
  have hv3 : W3.heap[v]? = some (.cells #[.int .i64 sl, .int .i64 gn] 41) := (B3.block v lv).trans HD1.out.2.1
  have hu3 : W3.heap[u]? = some (.cells #[.int .i64 s2, .int .i64 g2] 41) := by rw [hW3, eu]; exact (MapKept.heap_alloc _ _).1
  have v0 : W3.cell? ⟨v, 0, none⟩ = some (.int .i64 sl) := by simp [World.cell?, hv3]
  have v1 : W3.cell? ⟨v, 1, none⟩ = some (.int .i64 gn) := by simp [World.cell?, hv3]
  have u0 : W3.cell? ⟨u, 0, none⟩ = some (#[.int .i64 s2, .int .i64 g2][0]!) := by simp [World.cell?, hu3]
  have u1 : W3.cell? ⟨u, 1, none⟩ = some (#[.int .i64 s2, .int .i64 g2][1]!) := by simp [World.cell?, hu3]
  simp at u0 u1
  have b3 : W3.cell? ⟨b, 3, none⟩ = some (.int .i64 qm) := by rw [HD0.out.2.2.2.2.2.1]; exact World.rowIs.cell (D3.1.fl _ _ HD0.out.2.2.2.1) (i := 3) (by omega)
  have b6 : W3.cell? ⟨b, 6, none⟩ = some (.int .i64 kp) := by rw [HD0.out.2.2.2.2.1]; exact World.rowIs.cell (D3.1.fl _ _ HD0.out.2.2.2.1) (i := 6) (by omega)
  have HW3 : Hid (w2.alloc (.cells #[.int .i64 s2, .int .i64 g2] 41) = W3 ∧ w2.heap.size = u ∧ Below w.heap.size w W3) := ⟨hW3.symm, eu.symm, HD1.out.2.2.trans (B3.mono HD1.out.2.2.size)⟩
  have z0 : (w2.alloc (.cells #[.int .i64 s2, .int .i64 g2] 41)).cell? ⟨w2.heap.size, 0, none⟩ = some (#[.int .i64 s2, .int .i64 g2][0]!) := by rw [← hW3, ← eu]; simpa using u0
  have z1 : (w2.alloc (.cells #[.int .i64 s2, .int .i64 g2] 41)).cell? ⟨w2.heap.size, 1, none⟩ = some (#[.int .i64 s2, .int .i64 g2][1]!) := by rw [← hW3, ← eu]; simpa using u1
  have y0 : (w2.alloc (.cells #[.int .i64 s2, .int .i64 g2] 41)).cell? ⟨v, 0, none⟩ = some (.int .i64 sl) := by rw [← hW3]; exact v0
  have y1 : (w2.alloc (.cells #[.int .i64 s2, .int .i64 g2] 41)).cell? ⟨v, 1, none⟩ = some (.int .i64 gn) := by rw [← hW3]; exact v1
  have x3 : (w2.alloc (.cells #[.int .i64 s2, .int .i64 g2] 41)).cell? ⟨b, 3, none⟩ = some (.int .i64 qm) := by rw [← hW3]; exact b3
  have x6 : (w2.alloc (.cells #[.int .i64 s2, .int .i64 g2] 41)).cell? ⟨b, 6, none⟩ = some (.int .i64 kp) := by rw [← hW3]; exact b6
  simp at z0 z1
  clear hb B3 D3 hv3 hu3 hW3 eu lv v0 v1 u0 u1 b3 b6
  go_wp2_with fail
  refine bodyPost_ret (v := .tuple #[.int .i64 kp, .int .i64 0]) (by simp [results, Try.results13, go_sem]) rfl ⟨rfl, ?_⟩
  repeat' first
    | (rw [HW3.out.1]; exact HW3.out.2.2)
    | with_reducible refine bel_drewN ?_ _
    | with_reducible refine bel_drew ?_
theorem deficitD_any (d : Nat) (s : Sd) (sl gn : Int) (b : Nat) (w : World) (h : DS w d s) (h1 : -9223372036854775808 ≤ sl) (h2 : sl ≤ 9223372036854775807) (hF : s.F sl = some b) (hg : (s.Y b).gen = gn) (hR : s.x.turn = true → 0 < s.R.length) (hk1 : -4611686018427387904 ≤ (s.Y b).kept) (hk2 : (s.Y b).kept ≤ 4611686018427387904) (hq1 : 0 ≤ (s.Y b).quantum) (hq2 : (s.Y b).quantum ≤ 1073741824) : Calls Try.prog 13 #[.pointer (some ⟨d, 0, none⟩), .agg #[.int .i64 sl, .int .i64 gn]] w fun e w' => e = .returned (.tuple #[.int .i64 (s.deficit b), .int .i64 0]) ∧ Below w.heap.size w w' := by
  rcases e : s.x.turn with _ | _
  · exact deficitD_off d s sl gn b w h h1 h2 hF hg e hk1 hk2 hq1 hq2
  by_cases e2 : s.nth 0 = b
  · exact deficitD_mine d s sl gn b w h h1 h2 hF hg e (hR e) e2 hk1 hk2 hq1 hq2
  exact deficitD_other d s sl gn b w h h1 h2 hF hg e (hR e) e2 hk1 hk2 hq1 hq2
end Go.Proofs.Ythbgoegfbbpieaa
