/- Contracts of the program's functions, part 25: own work, joined in build order. -/
import Derived.Test.YtpeimefangpnaaaGreatDoorJ24
import Derived.WalkKit
import Derived.ProofKit
import Derived.OpenShut
import Derived.ShutString
import Derived.ChangeOld
import Derived.Below
import Derived.LaidMore
import Derived.Lib.LaidTab
namespace Go.Proofs.YtpeimefangpnaaaGreatDoor
open Go.RowKit
set_option maxRecDepth 100000
set_option linter.unusedVariables false
theorem cut_pla {s : ByteArray} {i0 i1 : Nat} (hi : i0 = runE s 0) (h0 : ¬ i0 = 0) (h1 : i0 < s.size) (h2 : sb s i0 = 46) (hi1 : i1 = runE s (i0 + 1)) :
    (i1 = i0 + 1 → cutP s = none) ∧ (¬ i1 = i0 + 1 → (i1 = s.size → cutP s = some ⟨s.extract 0 i0, em, s.extract (i0 + 1) i1, em, false⟩) ∧ (i1 < s.size → ¬ sb s i1 = 101 → cutP s = none) ∧ (i1 < s.size → sb s i1 = 101 → cutP s = sgnC s (i1 + 1) ⟨s.extract 0 i0, em, s.extract (i0 + 1) i1, em, false⟩)) := by
  have hge := runE_ge s (i0 + 1)
  have hle := runE_le (s := s) (i := i0 + 1) (by omega)
  unfold cutP whoC
  rw [← hi, if_neg (by omega), if_neg (by omega), if_pos h2]
  unfold plaC
  rw [← hi1]
  rw [← hi1] at hge hle
  refine ⟨fun h => ?_, fun hn => ⟨fun h => ?_, fun h h2 => ?_, fun h h2 => ?_⟩⟩
  · rw [if_pos (.inl h)]
    unfold endC
    rw [if_neg (by omega)]
  · rw [if_pos (.inr (.inl h))]
    unfold endC
    rw [if_pos ⟨by omega, h⟩]
    rfl
  · rw [if_pos (.inr (.inr h2))]
    unfold endC
    rw [if_neg (by omega)]
  · rw [if_neg (by omega)]
    rfl
set_option maxHeartbeats 1000000 in
theorem rparse3_pla (s : ByteArray) (w : World) (hs : s.size ≤ 400) (h0 : ¬ runE s 0 = 0) (h1 : runE s 0 < s.size) (h2 : sb s (runE s 0) = 46) : Calls Tryz.prog 29 #[.string s] w (MakesPR w s) := by
  have HS0 : Hid (s.size ≤ 9223372036854775807) := by show _ ≤ _; omega
  have HS : Hid (s.size ≤ 400) := hs
  have n4 : ¬ 400 < s.size := by omega
  have t4 : decide (400 < (s.size : Int)) = false := decide_eq_false (by omega)
  have l0 := runE_le (s := s) (i := 0) (Nat.zero_le _)
  obtain ⟨i0, hi0⟩ : ∃ i0, i0 = runE s 0 := ⟨_, rfl⟩
  rw [← hi0] at l0
  have HI : Hid (i0 = runE s 0 ∧ i0 ≤ s.size) := ⟨hi0, l0⟩
  rw [← hi0] at h0 h1 h2
  obtain ⟨o1, o2⟩ := ne_sb (x := i0) (y := 0) (by omega)
  obtain ⟨i1, hi1⟩ : ∃ i1, i1 = runE s (i0 + 1) := ⟨_, rfl⟩
  have hge := runE_ge s (i0 + 1)
  have hle := runE_le (s := s) (i := i0 + 1) (by omega)
  rw [← hi1] at hge hle
  have HC9 : Hid _ := cut_pla hi0 h0 h1 h2 hi1
  have hc := sb_at h1
  rw [h2] at hc
  have sl := str_to s i0 l0
  have sl2 := str_cut s (i0 + 1) i1 hge hle
  rw [show ((i0 + 1 : Nat) : Int) = (i0 : Int) + 1 by omega] at sl2
  have HR : Hid (∀ w : World, Calls Tryz.prog 74 #[.string s, .int .i64 ((i0 : Int) + 1)] w fun e w' => e = .returned (.int .i64 (i1 : Int)) ∧ w' = w) := fun w => by
    have := rrun_any s (i0 + 1) w (by omega) HS0.out
    rw [← hi1, show ((i0 + 1 : Nat) : Int) = (i0 : Int) + 1 by omega] at this
    exact this
  have zA : (s.extract 0 i0).size = i0 := by rw [size_ext l0]; omega
  have zB : (s.extract (i0 + 1) i1).size = i1 - (i0 + 1) := size_ext hle
  obtain ⟨A0, hA0⟩ : ∃ A0, A0 = s.extract 0 i0 := ⟨_, rfl⟩
  obtain ⟨B0, hB0⟩ : ∃ B0, B0 = s.extract (i0 + 1) i1 := ⟨_, rfl⟩
  rw [← hA0] at sl HC9 zA
  rw [← hB0] at sl2 HC9 zB
  obtain ⟨X, hX⟩ : ∃ X, X = A0 ++ B0 := ⟨_, rfl⟩
  have q1 : A0.size + B0.size ≤ 9223372036854775807 := by omega
  have c1 := cat_run A0 B0 q1
  have p1 : ∀ w : World, (Op.stringOp .add A0 B0).run Tryz.prog w = .ok (.string (A0 ++ B0)) w := fun w => run_string_add_sum w _ _ q1
  rw [← hX] at c1 p1
  obtain ⟨k, hk⟩ : ∃ k : Nat, k = i1 - (i0 + 1) := ⟨_, rfl⟩
  obtain ⟨A, hA⟩ : ∃ A, A = decVal X X.size := ⟨_, rfl⟩
  have HQ : Hid (PQs ⟨A0, em, B0, em, false⟩ X A k) := ⟨hX, hA.symm, by rw [hk]; exact zB, rfl, rfl, rfl⟩
  have HIS : Hid (i1 ≤ s.size) := hle
  have i400 : i0 ≤ 400 := by omega
  have j400 : i1 ≤ 400 := by omega
  obtain ⟨y, hy⟩ : ∃ y : Int, y = (i1 : Int) - (i0 : Int) := ⟨_, rfl⟩
  obtain ⟨kk, hkk⟩ : ∃ kk : Int, kk = (i1 : Int) - (i0 : Int) - 1 := ⟨_, rfl⟩
  have HKK : Hid ((i1 : Int) - (i0 : Int) - 1 = (k : Int)) := by show _ = _; omega
  clear hX hA hi0 hi1 zA zB h2 q1 hA0 hB0 hy hkk
  by_cases hn : i1 = i0 + 1
  · have HW : Hid (npOk s = false) := np_cut (HC9.out.1 hn)
    have u0 : (i1 : Int) - (i0 : Int) - 1 = 0 := by omega
    have u1 : decide ((i1 : Int) - (i0 : Int) - 1 = 0) = true := decide_eq_true u0
    have u2 : ((i1 : Int) - (i0 : Int) - 1 == 0) = true := by rw [u0]; rfl
    clear hn hk
    have S0 : Hid _ := (sy_start w).box (.slice none 0 0) (.slice none 0 0) 35 _ rfl
    go_enter Tryz.func29, Tryz.ntmps29
    go_wp2_with fail
    refine (rzero2_any _).mono ?_
    rintro e w1 ⟨v1, rfl, hv1, hb1⟩
    have hv1' := hv1
    obtain ⟨a1, n1, c1, d1, m1, g1, ev1, _, _⟩ := hv1'
    subst ev1
    have HLT : Hid (w.heap.size < w1.heap.size) := (S0.out.go hb1).lt w.heap.size
    have S1 : Hid _ := ((S0.out.go hb1).addG hv1).box (.slice a1 n1 c1) (.slice d1 m1 g1) 35 _ rfl
    clear hv1 hb1 S0
    go_wp2_with fail
    obtain ⟨b, hb⟩ : ∃ b, b = w.heap.size := ⟨_, rfl⟩
    obtain ⟨c, hc⟩ : ∃ c, c = w1.heap.size := ⟨_, rfl⟩
    obtain ⟨w2, hw2⟩ : ∃ w2, w2 = w1.alloc (.cells #[.slice a1 n1 c1, .slice d1 m1 g1] 35) := ⟨_, rfl⟩
    rw [← hw2, ← hc, ← hb] at S1
    rw [← hw2, ← hc, ← hb]
    have nbc : ¬ b = c := by rw [hb, hc]; have := HLT.out; omega
    have ncb : ¬ c = b := fun e => nbc e.symm
    have HBC : Hid (b < c) := by show b < c; rw [hb, hc]; exact HLT.out
    clear hw2 hb hc
    refine (rrun_any s 0 _ (Nat.zero_le _) HS0.out).mono ?_
    rintro e wx ⟨rfl, hwx⟩
    rw [hwx]
    clear hwx wx
    rw [← HI.out.1]
    go_wp2_with fail
    refine (HR.out _).mono ?_
    rintro e wx ⟨rfl, hwx⟩
    rw [hwx]
    clear hwx wx
    have HV : Hid (npP s = 0 ∧ npQ s = 1 ∧ npE s = 30) := np_no (HW.out)
    have x0 := S1.out.cel b 0 (.slice none 0 0)
    have x1 := S1.out.cel b 1 (.slice none 0 0)
    have f0 := S1.out.fz b 0
    have f1 := S1.out.fz b 1
    have y0 := S1.out.cel c 0 (.slice a1 n1 c1)
    have y1 := S1.out.cel c 1 (.slice d1 m1 g1)
    have Z : Hid _ := rrat_put (w0 := w) (v := .slice a1 n1 c1) (u := .slice d1 m1 g1) x0 x1 (S1.out.rfr (.agg #[.slice a1 n1 c1, .slice d1 m1 g1]) 0 1) S1.out.bel (S1.out.lo b)
    go_wp2_with fail
    refine bodyPost_ret (v := .tuple #[.agg #[.slice a1 n1 c1, .slice d1 m1 g1], .int .i64 30]) (by simp [results, Tryz.results29, go_sem, x0, x1]) rfl ?_
    unfold MakesPR
    rw [HV.out.1, HV.out.2.1, HV.out.2.2]
    exact ⟨_, rfl, Z.out.1, Z.out.2⟩
  · have HD3 : Hid _ := HC9.out.2 hn
    have v0 : ¬ k = 0 := by omega
    have v1 : ¬ (k : Int) = 0 := by omega
    obtain ⟨x1, x2⟩ := ne_sb (x := k) (y := 0) v1
    have u0 := HKK.out
    clear hn hk HC9
    have S0 : Hid _ := (sy_start w).box (.slice none 0 0) (.slice none 0 0) 35 _ rfl
    go_enter Tryz.func29, Tryz.ntmps29
    go_wp2_with fail
    refine (rzero2_any _).mono ?_
    rintro e w1 ⟨v1, rfl, hv1, hb1⟩
    have hv1' := hv1
    obtain ⟨a1, n1, c1, d1, m1, g1, ev1, _, _⟩ := hv1'
    subst ev1
    have HLT : Hid (w.heap.size < w1.heap.size) := (S0.out.go hb1).lt w.heap.size
    have S1 : Hid _ := ((S0.out.go hb1).addG hv1).box (.slice a1 n1 c1) (.slice d1 m1 g1) 35 _ rfl
    clear hv1 hb1 S0
    go_wp2_with fail
    obtain ⟨b, hb⟩ : ∃ b, b = w.heap.size := ⟨_, rfl⟩
    obtain ⟨c, hc⟩ : ∃ c, c = w1.heap.size := ⟨_, rfl⟩
    obtain ⟨w2, hw2⟩ : ∃ w2, w2 = w1.alloc (.cells #[.slice a1 n1 c1, .slice d1 m1 g1] 35) := ⟨_, rfl⟩
    rw [← hw2, ← hc, ← hb] at S1
    rw [← hw2, ← hc, ← hb]
    have nbc : ¬ b = c := by rw [hb, hc]; have := HLT.out; omega
    have ncb : ¬ c = b := fun e => nbc e.symm
    have HBC : Hid (b < c) := by show b < c; rw [hb, hc]; exact HLT.out
    clear hw2 hb hc
    refine (rrun_any s 0 _ (Nat.zero_le _) HS0.out).mono ?_
    rintro e wx ⟨rfl, hwx⟩
    rw [hwx]
    clear hwx wx
    rw [← HI.out.1]
    go_wp2_with fail
    refine (HR.out _).mono ?_
    rintro e wx ⟨rfl, hwx⟩
    rw [hwx]
    clear hwx wx
    go_wp2_with fail
    clear hc x1 x2 v0 v1 u0 sl sl2 p1 HR
    by_cases ce : i1 = s.size
    · obtain ⟨z, hz⟩ : ∃ z : Int, z = 0 := ⟨_, rfl⟩
      have T : Hid (Tl s X A k z) := tl_of HS.out (HD3.out.1 ce) (⟨rfl, rfl, rfl⟩) HQ.out.x HQ.out.a HQ.out.k HQ.out.b (by rw [hz]; exact HQ.out.z)
      refine (rpower_end' s i1 z _ HS.out ce hz).mono ?_
      clear ce
      rintro e wx ⟨rfl, hwx⟩
      rw [hwx]
      clear hwx wx hz
      go_wp2_with fail
      refine (rparse_so X A _ T.out.x0 T.out.x1 T.out.xd T.out.xa).mono ?_
      rintro e w3 ⟨v3, rfl, hv3, hb3⟩
      obtain ⟨a3, n3, c3, rfl⟩ := hv3.isAgg
      have HL3 : Hid (b < w3.heap.size ∧ c < w3.heap.size) := ⟨(S1.out.go hb3).lt b, (S1.out.go hb3).lt c⟩
      have S3 : Hid _ := ((S1.out.go hb3).addM hv3).box1 (.slice a3 n3 c3) 33 _ rfl
      clear hv3 hb3 S1
      go_wp2_with fail
      obtain ⟨g, hg⟩ : ∃ g, g = w3.heap.size := ⟨_, rfl⟩
      obtain ⟨w4, hw4⟩ : ∃ w4, w4 = w3.alloc (.cells #[.slice a3 n3 c3] 33) := ⟨_, rfl⟩
      rw [← hw4, ← hg] at S3
      rw [← hw4, ← hg]
      have HG3 : Hid (b < g ∧ c < g) := by rw [hg]; exact HL3
      clear hw4 hg HL3
      refine (rten_z _ k _ rfl (by have := T.out.k4; omega)).mono ?_
      rintro e w5 ⟨v5, rfl, hv5, hb5⟩
      obtain ⟨a5, n5, c5, rfl⟩ := hv5.isAgg
      have HL5 : Hid (g < w5.heap.size) := (S3.out.go hb5).lt g
      have S5 : Hid _ := ((S3.out.go hb5).addM hv5).box1 (.slice a5 n5 c5) 33 _ rfl
      clear hv5 hb5 S3
      by_cases hz0 : 0 < z
      · obtain ⟨t, ht⟩ : ∃ t : Nat, t = (z).toNat := ⟨_, rfl⟩
        have HT : Hid (t ≤ 999 ∧ z = (t : Int)) := ⟨by have := T.out.z1; have := T.out.z2; omega, by omega⟩
        have HE : Hid (npP s = A * 10 ^ t / Nat.gcd (A * 10 ^ t) (10 ^ k) ∧ npQ s = 10 ^ k / Nat.gcd (A * 10 ^ t) (10 ^ k) ∧ npE s = 0) := by rw [ht]; exact ⟨(T.out.up hz0).1, (T.out.up hz0).2, T.out.ne⟩
        have FX : Hid (RFits (A) ∧ RFits (10 ^ t)) := ⟨rfits_P T.out.al (by omega), rfits_P (ten_P90 (by have := HT.out; omega)) (by omega)⟩
        clear ht
        go_wp2_with fail
        obtain ⟨h, hh⟩ : ∃ h, h = w5.heap.size := ⟨_, rfl⟩
        obtain ⟨w6, hw6⟩ : ∃ w6, w6 = w5.alloc (.cells #[.slice a5 n5 c5] 33) := ⟨_, rfl⟩
        rw [← hw6, ← hh] at S5
        rw [← hw6, ← hh]
        have HH3 : Hid (g < h) := by rw [hh]; exact HL5
        clear hw6 hh HL5
        refine wp_region_inv (JD w6 [sR (A), sEq (.int .i64 z), sR (10 ^ t), sR (A * 10 ^ t), sAny] [[], [], [1], [0, 2], [3]] 4 3 [0, 1, 2, 3] (Sto1 (g))) 138 (by kernel_rfl) rfl (by kernel_rfl) (JD.start _ _ _ _ _ _ _) (fun HG HN => ⟨?_, ?_, ?_, ?_, ?_, trivial⟩) ?_
        · intro L vs a w' hJ hF hP hL
          have hK := hJ
          have hJ := hK.open hL (by decide)
          have q17 : (a.tmps[17]?).getD undef = .pointer (some ⟨g, 0, none⟩) := hF.old 17 rfl
          have cb := cell_later hJ.bel (S5.out.cell (g) (.slice a3 n3 c3))
          exact run_val (v := .agg #[.slice a3 n3 c3]) rfl (by simp [execOp, go_sem, q17, cb]) ⟨_, rfl, hK.step hL (by decide) (by decide) rfl (nd_nil) <| hJ.step hL rfl (Below.refl _ _) (by exact ((S5.out.rat (.agg #[.slice a3 n3 c3]) (A)).mono hJ.bel))⟩
        · intro L vs a w' hJ hF hP hL
          have hK := hJ
          have hJ := hK.open hL (by decide)
          have q15 : (a.tmps[15]?).getD undef = .int .i64 z := hF.old 15 rfl
          exact run_val (v := .int .i64 z) rfl (by simp [execOp, go_sem, q15]) ⟨_, rfl, hK.step hL (by decide) (by decide) rfl (nd_nil) <| hJ.step hL rfl (Below.refl _ _) (by exact rfl)⟩
        · intro L vs a w' hJ hF hP hL
          have hK := hJ
          have hJ := hK.open hL (by decide)
          have p1 : L 1 = true := hP ⟨1, .data⟩ (by simp) rfl
          have s1 : vs 1 = .int .i64 z := hJ.sp 1 p1
          have q123 := hF.slot 1 123 rfl p1
          refine run_call (f := 77) (args := #[.int .i64 z]) rfl (by simp [go_sem, q123, s1]) (rten_z _ t _ HT.out.2 (by have := HT.out; omega)) ?_
          rintro e w2 ⟨v, rfl, hv, hb⟩
          exact ⟨_, rfl, _, rfl, hK.step hL (by decide) (by decide) rfl (nd_cons p1 (nd_nil)) <| hJ.step hL rfl hb (by exact hv)⟩
        · intro L vs a w' hJ hF hP hL
          have hK := hJ
          have hJ := hK.open hL (by decide)
          have p0 : L 0 = true := hP ⟨0, .data⟩ (by simp) rfl
          have s0 : RNat w' (vs 0) (A) := hJ.sp 0 p0
          have q122 := hF.slot 0 122 rfl p0
          have p2 : L 2 = true := hP ⟨2, .data⟩ (by simp) rfl
          have s2 : RNat w' (vs 2) (10 ^ t) := hJ.sp 2 p2
          have q124 := hF.slot 2 124 rfl p2
          refine run_call (f := 62) (args := #[vs 0, vs 2]) rfl (by simp [go_sem, q122, q124]) (rtimes_any _ _ (A) (10 ^ t) _ s0 s2 FX.out.1 FX.out.2) ?_
          rintro e w2 ⟨v, rfl, hv, hb⟩
          exact ⟨_, rfl, _, rfl, hK.step hL (by decide) (by decide) rfl (nd_cons p0 (nd_cons p2 (nd_nil))) <| hJ.step hL rfl hb (by exact hv)⟩
        · intro L vs a w' hJ hF hP hL
          have hK := hJ
          have hJ := hK.core hL
          have q17 : (a.tmps[17]?).getD undef = .pointer (some ⟨g, 0, none⟩) := hF.old 17 rfl
          have p3 : L 3 = true := hP ⟨3, .data⟩ (by simp) rfl
          have s3 : RNat w' (vs 3) (A * 10 ^ t) := hJ.sp 3 p3
          have q125 := hF.slot 3 125 rfl p3
          have p0 : L 0 = true := hK.cl 3 p3 0 (by simp)
          have p2 : L 2 = true := hK.cl 3 p3 2 (by simp)
          have p1 : L 1 = true := hK.cl 2 p2 1 (by simp)
          have x0 := cell_later hJ.bel (S5.out.cel g 0 (.slice a3 n3 c3))
          have y0 := (hJ.bel.frozen (World.block_lt_of_cell? _ _ (S5.out.cel g 0 (.slice a3 n3 c3)))).trans (S5.out.fz g 0)
          obtain ⟨aa, nn, cc, e8⟩ := s3.isAgg
          exact run_unit (w' := (w'.setCell ⟨g, 0, none⟩ (.slice aa nn cc))) rfl (by simp [execOp, go_sem, q17, q125, e8, x0, y0]) ⟨undef, rfl, hK.put hL (by decide) rfl (nd_cons p3 (nd_nil)) (nd_cons p0 (nd_cons p1 (nd_cons p2 (nd_cons p3 (nd_nil))))) p3 ⟨_, e8, rfl⟩⟩
        intro L vs w' hA hK
        obtain ⟨_, w1, hb1, sv, u1, ev, ew⟩ := hK.fin (hA 4 (by simp))
        replace sv : RNat w1 (vs 3) (A * 10 ^ t) := sv
        simp only [putL, Act.put, List.setIfInBounds_toArray, List.set_cons_zero, List.set_cons_succ, Nat.reduceAdd]
        obtain ⟨aa, nn, cc, e9⟩ := sv.isAgg
        have S9 : Hid _ := (S5.out.go hb1).addM sv
        have j1 := S9.out.cel g 0 (.slice a3 n3 c3)
        obtain rfl : u1 = .slice aa nn cc := by rw [e9] at ev; simpa using ev.symm
        rw [e9] at S9
        have S8 : Hid _ := (S9.out.set (b := g) (i := 0) j1 (S9.out.lo g) [(h, 0, .slice a5 n5 c5), (b, 0, .slice none 0 0), (b, 1, .slice none 0 0)] (by have := HG3.out; have := HH3.out; simp; omega) (.slice aa nn cc)).addC (b := g) (i := 0) (v := .slice aa nn cc) (by simp [go_sem, j1])
        rw [← ew] at S8
        have k1 := S8.out.cel g 0 (.slice aa nn cc)
        have k2 := S8.out.cel h 0 (.slice a5 n5 c5)
        have HSS : Hid (RSome (A * 10 ^ t) ∧ RSome (10 ^ k) ∧ 0 < 10 ^ k) := ⟨RS.rsome ⟨P_up (mulP_lt T.out.al (Nat.lt_of_le_of_lt (Nat.pow_le_pow_right (by omega) HT.out.1) ten999)) (by omega)⟩, RS.rsome ⟨ten_P90 (by have := T.out.k4; omega)⟩, Nat.pow_pos (by omega)⟩
        clear S9 S5 sv e9 ev ew hb1 j1 hK hA
        go_wp2_with fail
        refine (rfrom2_yes _ _ (A * 10 ^ t) (10 ^ k) _ (S8.out.rat (.agg #[.slice aa nn cc]) (A * 10 ^ t)) (S8.out.rat (.agg #[.slice a5 n5 c5]) (10 ^ k)) HSS.out.1 HSS.out.2.1 HSS.out.2.2).mono ?_
        clear k1 k2
        rintro e w8 ⟨v8, rfl, hv8, hb8⟩
        have hv8' := hv8
        obtain ⟨a6, n6, c6, a7, n7, c7, ev, _, _⟩ := hv8'
        subst ev
        have S6 : Hid _ := ((S8.out.go hb8).addG hv8).go (w' := w8.alloc (.cells #[.slice a6 n6 c6, .slice a7 n7 c7] 35)) (bel_al (bel_refl _))
        have q0 : (w8.alloc (.cells #[.slice a6 n6 c6, .slice a7 n7 c7] 35)).cell? ⟨w8.heap.size, 0, none⟩ = some (.slice a6 n6 c6) := by simp [go_sem]
        have q1 : (w8.alloc (.cells #[.slice a6 n6 c6, .slice a7 n7 c7] 35)).cell? ⟨w8.heap.size, 1, none⟩ = some (.slice a7 n7 c7) := by simp [go_sem]
        clear hv8 hb8 S8
        have x0 := S6.out.cel b 0 (.slice none 0 0)
        have x1 := S6.out.cel b 1 (.slice none 0 0)
        have f0 := S6.out.fz b 0
        have f1 := S6.out.fz b 1
        have Z : Hid _ := rrat_put (w0 := w) (v := .slice a6 n6 c6) (u := .slice a7 n7 c7) x0 x1 (S6.out.rfr (.agg #[.slice a6 n6 c6, .slice a7 n7 c7]) ((A * 10 ^ t) / Nat.gcd (A * 10 ^ t) (10 ^ k)) ((10 ^ k) / Nat.gcd (A * 10 ^ t) (10 ^ k))) S6.out.bel (S6.out.lo b)
        go_wp2_with fail
        refine bodyPost_ret (v := .tuple #[.agg #[.slice a6 n6 c6, .slice a7 n7 c7], .int .i64 0]) (by simp [results, Tryz.results29, go_sem, x0, x1]) rfl ?_
        unfold MakesPR
        rw [HE.out.1, HE.out.2.1, HE.out.2.2]
        exact ⟨_, rfl, Z.out.1, Z.out.2⟩
      · obtain ⟨t, ht⟩ : ∃ t : Nat, t = (-z).toNat := ⟨_, rfl⟩
        have HT : Hid (t ≤ 999 ∧ -z = (t : Int)) := ⟨by have := T.out.z1; have := T.out.z2; omega, by omega⟩
        have HE : Hid (npP s = A / Nat.gcd A (10 ^ k * 10 ^ t) ∧ npQ s = 10 ^ k * 10 ^ t / Nat.gcd A (10 ^ k * 10 ^ t) ∧ npE s = 0) := by rw [ht]; exact ⟨(T.out.dn hz0).1, (T.out.dn hz0).2, T.out.ne⟩
        have wn : IntKind.i64.wrap (-z) = (t : Int) := by rw [IntKind.wrap_i64]; have := T.out.z1; have := T.out.z2; omega
        have FX : Hid (RFits (10 ^ k) ∧ RFits (10 ^ t)) := ⟨rfits_P (ten_P90 (by have := T.out.k4; omega)) (by omega), rfits_P (ten_P90 (by have := HT.out; omega)) (by omega)⟩
        clear ht
        go_wp2_with fail
        obtain ⟨h, hh⟩ : ∃ h, h = w5.heap.size := ⟨_, rfl⟩
        obtain ⟨w6, hw6⟩ : ∃ w6, w6 = w5.alloc (.cells #[.slice a5 n5 c5] 33) := ⟨_, rfl⟩
        rw [← hw6, ← hh] at S5
        rw [← hw6, ← hh]
        have HH3 : Hid (g < h) := by rw [hh]; exact HL5
        clear hw6 hh HL5
        refine wp_region_inv (JD w6 [sR (10 ^ k), sEq (.int .i64 z), sEq (.int .i64 (t : Int)), sR (10 ^ t), sR (10 ^ k * 10 ^ t), sAny] [[], [], [1], [2], [0, 3], [4]] 5 4 [0, 1, 2, 3, 4] (Sto1 (h))) 138 (by kernel_rfl) rfl (by kernel_rfl) (JD.start _ _ _ _ _ _ _) (fun HG HN => ⟨?_, ?_, ?_, ?_, ?_, ?_, trivial⟩) ?_
        · intro L vs a w' hJ hF hP hL
          have hK := hJ
          have hJ := hK.open hL (by decide)
          have q19 : (a.tmps[19]?).getD undef = .pointer (some ⟨h, 0, none⟩) := hF.old 19 rfl
          have cb := cell_later hJ.bel (S5.out.cell (h) (.slice a5 n5 c5))
          exact run_val (v := .agg #[.slice a5 n5 c5]) rfl (by simp [execOp, go_sem, q19, cb]) ⟨_, rfl, hK.step hL (by decide) (by decide) rfl (nd_nil) <| hJ.step hL rfl (Below.refl _ _) (by exact ((S5.out.rat (.agg #[.slice a5 n5 c5]) (10 ^ k)).mono hJ.bel))⟩
        · intro L vs a w' hJ hF hP hL
          have hK := hJ
          have hJ := hK.open hL (by decide)
          have q15 : (a.tmps[15]?).getD undef = .int .i64 z := hF.old 15 rfl
          exact run_val (v := .int .i64 z) rfl (by simp [execOp, go_sem, q15]) ⟨_, rfl, hK.step hL (by decide) (by decide) rfl (nd_nil) <| hJ.step hL rfl (Below.refl _ _) (by exact rfl)⟩
        · intro L vs a w' hJ hF hP hL
          have hK := hJ
          have hJ := hK.open hL (by decide)
          have p1 : L 1 = true := hP ⟨1, .data⟩ (by simp) rfl
          have s1 : vs 1 = .int .i64 z := hJ.sp 1 p1
          have q127 := hF.slot 1 127 rfl p1
          exact run_val (v := .int .i64 (t : Int)) rfl (by simp [execOp, go_sem, q127, s1, wn]) ⟨_, rfl, hK.step hL (by decide) (by decide) rfl (nd_cons p1 (nd_nil)) <| hJ.step hL rfl (Below.refl _ _) (by exact rfl)⟩
        · intro L vs a w' hJ hF hP hL
          have hK := hJ
          have hJ := hK.open hL (by decide)
          have p2 : L 2 = true := hP ⟨2, .data⟩ (by simp) rfl
          have s2 : vs 2 = .int .i64 (t : Int) := hJ.sp 2 p2
          have q128 := hF.slot 2 128 rfl p2
          refine run_call (f := 77) (args := #[.int .i64 (t : Int)]) rfl (by simp [go_sem, q128, s2]) (rten_z _ t _ rfl (by have := HT.out; omega)) ?_
          rintro e w2 ⟨v, rfl, hv, hb⟩
          exact ⟨_, rfl, _, rfl, hK.step hL (by decide) (by decide) rfl (nd_cons p2 (nd_nil)) <| hJ.step hL rfl hb (by exact hv)⟩
        · intro L vs a w' hJ hF hP hL
          have hK := hJ
          have hJ := hK.open hL (by decide)
          have p0 : L 0 = true := hP ⟨0, .data⟩ (by simp) rfl
          have s0 : RNat w' (vs 0) (10 ^ k) := hJ.sp 0 p0
          have q126 := hF.slot 0 126 rfl p0
          have p3 : L 3 = true := hP ⟨3, .data⟩ (by simp) rfl
          have s3 : RNat w' (vs 3) (10 ^ t) := hJ.sp 3 p3
          have q129 := hF.slot 3 129 rfl p3
          refine run_call (f := 62) (args := #[vs 0, vs 3]) rfl (by simp [go_sem, q126, q129]) (rtimes_any _ _ (10 ^ k) (10 ^ t) _ s0 s3 FX.out.1 FX.out.2) ?_
          rintro e w2 ⟨v, rfl, hv, hb⟩
          exact ⟨_, rfl, _, rfl, hK.step hL (by decide) (by decide) rfl (nd_cons p0 (nd_cons p3 (nd_nil))) <| hJ.step hL rfl hb (by exact hv)⟩
        · intro L vs a w' hJ hF hP hL
          have hK := hJ
          have hJ := hK.core hL
          have q19 : (a.tmps[19]?).getD undef = .pointer (some ⟨h, 0, none⟩) := hF.old 19 rfl
          have p4 : L 4 = true := hP ⟨4, .data⟩ (by simp) rfl
          have s4 : RNat w' (vs 4) (10 ^ k * 10 ^ t) := hJ.sp 4 p4
          have q130 := hF.slot 4 130 rfl p4
          have p0 : L 0 = true := hK.cl 4 p4 0 (by simp)
          have p3 : L 3 = true := hK.cl 4 p4 3 (by simp)
          have p2 : L 2 = true := hK.cl 3 p3 2 (by simp)
          have p1 : L 1 = true := hK.cl 2 p2 1 (by simp)
          have x0 := cell_later hJ.bel (S5.out.cel h 0 (.slice a5 n5 c5))
          have y0 := (hJ.bel.frozen (World.block_lt_of_cell? _ _ (S5.out.cel h 0 (.slice a5 n5 c5)))).trans (S5.out.fz h 0)
          obtain ⟨aa, nn, cc, e8⟩ := s4.isAgg
          exact run_unit (w' := (w'.setCell ⟨h, 0, none⟩ (.slice aa nn cc))) rfl (by simp [execOp, go_sem, q19, q130, e8, x0, y0]) ⟨undef, rfl, hK.put hL (by decide) rfl (nd_cons p4 (nd_nil)) (nd_cons p0 (nd_cons p1 (nd_cons p2 (nd_cons p3 (nd_cons p4 (nd_nil)))))) p4 ⟨_, e8, rfl⟩⟩
        intro L vs w' hA hK
        obtain ⟨_, w1, hb1, sv, u1, ev, ew⟩ := hK.fin (hA 5 (by simp))
        replace sv : RNat w1 (vs 4) (10 ^ k * 10 ^ t) := sv
        simp only [putL, Act.put, List.setIfInBounds_toArray, List.set_cons_zero, List.set_cons_succ, Nat.reduceAdd]
        obtain ⟨aa, nn, cc, e9⟩ := sv.isAgg
        have S9 : Hid _ := (S5.out.go hb1).addM sv
        have j1 := S9.out.cel h 0 (.slice a5 n5 c5)
        obtain rfl : u1 = .slice aa nn cc := by rw [e9] at ev; simpa using ev.symm
        rw [e9] at S9
        have S8 : Hid _ := (S9.out.set (b := h) (i := 0) j1 (S9.out.lo h) [(g, 0, .slice a3 n3 c3), (b, 0, .slice none 0 0), (b, 1, .slice none 0 0)] (by have := HG3.out; have := HH3.out; simp; omega) (.slice aa nn cc)).addC (b := h) (i := 0) (v := .slice aa nn cc) (by simp [go_sem, j1])
        rw [← ew] at S8
        have k1 := S8.out.cel h 0 (.slice aa nn cc)
        have k2 := S8.out.cel g 0 (.slice a3 n3 c3)
        have HSS : Hid (RSome (A) ∧ RSome (10 ^ k * 10 ^ t) ∧ 0 < 10 ^ k * 10 ^ t) := ⟨RS.rsome ⟨P_up T.out.al (by omega)⟩, RS.rsome ⟨by rw [← Nat.pow_add]; exact ten_P90 (by have := T.out.k4; have := HT.out; omega)⟩, Nat.mul_pos (Nat.pow_pos (by omega)) (Nat.pow_pos (by omega))⟩
        clear S9 S5 sv e9 ev ew hb1 j1 hK hA
        go_wp2_with fail
        refine (rfrom2_yes _ _ (A) (10 ^ k * 10 ^ t) _ (S8.out.rat (.agg #[.slice a3 n3 c3]) (A)) (S8.out.rat (.agg #[.slice aa nn cc]) (10 ^ k * 10 ^ t)) HSS.out.1 HSS.out.2.1 HSS.out.2.2).mono ?_
        clear k1 k2
        rintro e w8 ⟨v8, rfl, hv8, hb8⟩
        have hv8' := hv8
        obtain ⟨a6, n6, c6, a7, n7, c7, ev, _, _⟩ := hv8'
        subst ev
        have S6 : Hid _ := ((S8.out.go hb8).addG hv8).go (w' := w8.alloc (.cells #[.slice a6 n6 c6, .slice a7 n7 c7] 35)) (bel_al (bel_refl _))
        have q0 : (w8.alloc (.cells #[.slice a6 n6 c6, .slice a7 n7 c7] 35)).cell? ⟨w8.heap.size, 0, none⟩ = some (.slice a6 n6 c6) := by simp [go_sem]
        have q1 : (w8.alloc (.cells #[.slice a6 n6 c6, .slice a7 n7 c7] 35)).cell? ⟨w8.heap.size, 1, none⟩ = some (.slice a7 n7 c7) := by simp [go_sem]
        clear hv8 hb8 S8
        have x0 := S6.out.cel b 0 (.slice none 0 0)
        have x1 := S6.out.cel b 1 (.slice none 0 0)
        have f0 := S6.out.fz b 0
        have f1 := S6.out.fz b 1
        have Z : Hid _ := rrat_put (w0 := w) (v := .slice a6 n6 c6) (u := .slice a7 n7 c7) x0 x1 (S6.out.rfr (.agg #[.slice a6 n6 c6, .slice a7 n7 c7]) ((A) / Nat.gcd (A) (10 ^ k * 10 ^ t)) ((10 ^ k * 10 ^ t) / Nat.gcd (A) (10 ^ k * 10 ^ t))) S6.out.bel (S6.out.lo b)
        go_wp2_with fail
        refine bodyPost_ret (v := .tuple #[.agg #[.slice a6 n6 c6, .slice a7 n7 c7], .int .i64 0]) (by simp [results, Tryz.results29, go_sem, x0, x1]) rfl ?_
        unfold MakesPR
        rw [HE.out.1, HE.out.2.1, HE.out.2.2]
        exact ⟨_, rfl, Z.out.1, Z.out.2⟩
    · have ci : i1 < s.size := by have := HIS.out; omega
      by_cases cf : sb s i1 = 101
      · refine (rpower_e s i1 (⟨A0, em, B0, em, false⟩) _ HS.out ci cf HQ.out.m).mono ?_
        rintro e wx ⟨hwx, hn, hr⟩
        rw [hwx]
        clear hwx wx
        cases hsg : sgnC s (i1 + 1) (⟨A0, em, B0, em, false⟩) with
        | none =>
          rw [hn hsg]
          have HW : Hid (npOk s = false) := np_cut (by rw [HD3.out.2.2 ci cf]; exact hsg)
          clear hn hr hsg ci cf ce
          have HV : Hid (npP s = 0 ∧ npQ s = 1 ∧ npE s = 30) := np_no (HW.out)
          have x0 := S1.out.cel b 0 (.slice none 0 0)
          have x1 := S1.out.cel b 1 (.slice none 0 0)
          have f0 := S1.out.fz b 0
          have f1 := S1.out.fz b 1
          have y0 := S1.out.cel c 0 (.slice a1 n1 c1)
          have y1 := S1.out.cel c 1 (.slice d1 m1 g1)
          have Z : Hid _ := rrat_put (w0 := w) (v := .slice a1 n1 c1) (u := .slice d1 m1 g1) x0 x1 (S1.out.rfr (.agg #[.slice a1 n1 c1, .slice d1 m1 g1]) 0 1) S1.out.bel (S1.out.lo b)
          go_wp2_with fail
          refine bodyPost_ret (v := .tuple #[.agg #[.slice a1 n1 c1, .slice d1 m1 g1], .int .i64 30]) (by simp [results, Tryz.results29, go_sem, x0, x1]) rfl ?_
          unfold MakesPR
          rw [HV.out.1, HV.out.2.1, HV.out.2.2]
          exact ⟨_, rfl, Z.out.1, Z.out.2⟩
        | some r =>
          rw [hr r hsg]
          obtain ⟨z, hz⟩ : ∃ z : Int, z = pzI r := ⟨_, rfl⟩
          have T : Hid (Tl s X A k z) := tl_of HS.out (by rw [HD3.out.2.2 ci cf]; exact hsg) (sgnC_keep hsg) HQ.out.x HQ.out.a HQ.out.k HQ.out.b (hz.symm)
          rw [← hz]
          clear hn hr hsg ci cf ce hz
          go_wp2_with fail
          refine (rparse_so X A _ T.out.x0 T.out.x1 T.out.xd T.out.xa).mono ?_
          rintro e w3 ⟨v3, rfl, hv3, hb3⟩
          obtain ⟨a3, n3, c3, rfl⟩ := hv3.isAgg
          have HL3 : Hid (b < w3.heap.size ∧ c < w3.heap.size) := ⟨(S1.out.go hb3).lt b, (S1.out.go hb3).lt c⟩
          have S3 : Hid _ := ((S1.out.go hb3).addM hv3).box1 (.slice a3 n3 c3) 33 _ rfl
          clear hv3 hb3 S1
          go_wp2_with fail
          obtain ⟨g, hg⟩ : ∃ g, g = w3.heap.size := ⟨_, rfl⟩
          obtain ⟨w4, hw4⟩ : ∃ w4, w4 = w3.alloc (.cells #[.slice a3 n3 c3] 33) := ⟨_, rfl⟩
          rw [← hw4, ← hg] at S3
          rw [← hw4, ← hg]
          have HG3 : Hid (b < g ∧ c < g) := by rw [hg]; exact HL3
          clear hw4 hg HL3
          refine (rten_z _ k _ rfl (by have := T.out.k4; omega)).mono ?_
          rintro e w5 ⟨v5, rfl, hv5, hb5⟩
          obtain ⟨a5, n5, c5, rfl⟩ := hv5.isAgg
          have HL5 : Hid (g < w5.heap.size) := (S3.out.go hb5).lt g
          have S5 : Hid _ := ((S3.out.go hb5).addM hv5).box1 (.slice a5 n5 c5) 33 _ rfl
          clear hv5 hb5 S3
          by_cases hz0 : 0 < z
          · obtain ⟨t, ht⟩ : ∃ t : Nat, t = (z).toNat := ⟨_, rfl⟩
            have HT : Hid (t ≤ 999 ∧ z = (t : Int)) := ⟨by have := T.out.z1; have := T.out.z2; omega, by omega⟩
            have HE : Hid (npP s = A * 10 ^ t / Nat.gcd (A * 10 ^ t) (10 ^ k) ∧ npQ s = 10 ^ k / Nat.gcd (A * 10 ^ t) (10 ^ k) ∧ npE s = 0) := by rw [ht]; exact ⟨(T.out.up hz0).1, (T.out.up hz0).2, T.out.ne⟩
            have FX : Hid (RFits (A) ∧ RFits (10 ^ t)) := ⟨rfits_P T.out.al (by omega), rfits_P (ten_P90 (by have := HT.out; omega)) (by omega)⟩
            clear ht
            go_wp2_with fail
            obtain ⟨h, hh⟩ : ∃ h, h = w5.heap.size := ⟨_, rfl⟩
            obtain ⟨w6, hw6⟩ : ∃ w6, w6 = w5.alloc (.cells #[.slice a5 n5 c5] 33) := ⟨_, rfl⟩
            rw [← hw6, ← hh] at S5
            rw [← hw6, ← hh]
            have HH3 : Hid (g < h) := by rw [hh]; exact HL5
            clear hw6 hh HL5
            refine wp_region_inv (JD w6 [sR (A), sEq (.int .i64 z), sR (10 ^ t), sR (A * 10 ^ t), sAny] [[], [], [1], [0, 2], [3]] 4 3 [0, 1, 2, 3] (Sto1 (g))) 138 (by kernel_rfl) rfl (by kernel_rfl) (JD.start _ _ _ _ _ _ _) (fun HG HN => ⟨?_, ?_, ?_, ?_, ?_, trivial⟩) ?_
            · intro L vs a w' hJ hF hP hL
              have hK := hJ
              have hJ := hK.open hL (by decide)
              have q17 : (a.tmps[17]?).getD undef = .pointer (some ⟨g, 0, none⟩) := hF.old 17 rfl
              have cb := cell_later hJ.bel (S5.out.cell (g) (.slice a3 n3 c3))
              exact run_val (v := .agg #[.slice a3 n3 c3]) rfl (by simp [execOp, go_sem, q17, cb]) ⟨_, rfl, hK.step hL (by decide) (by decide) rfl (nd_nil) <| hJ.step hL rfl (Below.refl _ _) (by exact ((S5.out.rat (.agg #[.slice a3 n3 c3]) (A)).mono hJ.bel))⟩
            · intro L vs a w' hJ hF hP hL
              have hK := hJ
              have hJ := hK.open hL (by decide)
              have q15 : (a.tmps[15]?).getD undef = .int .i64 z := hF.old 15 rfl
              exact run_val (v := .int .i64 z) rfl (by simp [execOp, go_sem, q15]) ⟨_, rfl, hK.step hL (by decide) (by decide) rfl (nd_nil) <| hJ.step hL rfl (Below.refl _ _) (by exact rfl)⟩
            · intro L vs a w' hJ hF hP hL
              have hK := hJ
              have hJ := hK.open hL (by decide)
              have p1 : L 1 = true := hP ⟨1, .data⟩ (by simp) rfl
              have s1 : vs 1 = .int .i64 z := hJ.sp 1 p1
              have q123 := hF.slot 1 123 rfl p1
              refine run_call (f := 77) (args := #[.int .i64 z]) rfl (by simp [go_sem, q123, s1]) (rten_z _ t _ HT.out.2 (by have := HT.out; omega)) ?_
              rintro e w2 ⟨v, rfl, hv, hb⟩
              exact ⟨_, rfl, _, rfl, hK.step hL (by decide) (by decide) rfl (nd_cons p1 (nd_nil)) <| hJ.step hL rfl hb (by exact hv)⟩
            · intro L vs a w' hJ hF hP hL
              have hK := hJ
              have hJ := hK.open hL (by decide)
              have p0 : L 0 = true := hP ⟨0, .data⟩ (by simp) rfl
              have s0 : RNat w' (vs 0) (A) := hJ.sp 0 p0
              have q122 := hF.slot 0 122 rfl p0
              have p2 : L 2 = true := hP ⟨2, .data⟩ (by simp) rfl
              have s2 : RNat w' (vs 2) (10 ^ t) := hJ.sp 2 p2
              have q124 := hF.slot 2 124 rfl p2
              refine run_call (f := 62) (args := #[vs 0, vs 2]) rfl (by simp [go_sem, q122, q124]) (rtimes_any _ _ (A) (10 ^ t) _ s0 s2 FX.out.1 FX.out.2) ?_
              rintro e w2 ⟨v, rfl, hv, hb⟩
              exact ⟨_, rfl, _, rfl, hK.step hL (by decide) (by decide) rfl (nd_cons p0 (nd_cons p2 (nd_nil))) <| hJ.step hL rfl hb (by exact hv)⟩
            · intro L vs a w' hJ hF hP hL
              have hK := hJ
              have hJ := hK.core hL
              have q17 : (a.tmps[17]?).getD undef = .pointer (some ⟨g, 0, none⟩) := hF.old 17 rfl
              have p3 : L 3 = true := hP ⟨3, .data⟩ (by simp) rfl
              have s3 : RNat w' (vs 3) (A * 10 ^ t) := hJ.sp 3 p3
              have q125 := hF.slot 3 125 rfl p3
              have p0 : L 0 = true := hK.cl 3 p3 0 (by simp)
              have p2 : L 2 = true := hK.cl 3 p3 2 (by simp)
              have p1 : L 1 = true := hK.cl 2 p2 1 (by simp)
              have x0 := cell_later hJ.bel (S5.out.cel g 0 (.slice a3 n3 c3))
              have y0 := (hJ.bel.frozen (World.block_lt_of_cell? _ _ (S5.out.cel g 0 (.slice a3 n3 c3)))).trans (S5.out.fz g 0)
              obtain ⟨aa, nn, cc, e8⟩ := s3.isAgg
              exact run_unit (w' := (w'.setCell ⟨g, 0, none⟩ (.slice aa nn cc))) rfl (by simp [execOp, go_sem, q17, q125, e8, x0, y0]) ⟨undef, rfl, hK.put hL (by decide) rfl (nd_cons p3 (nd_nil)) (nd_cons p0 (nd_cons p1 (nd_cons p2 (nd_cons p3 (nd_nil))))) p3 ⟨_, e8, rfl⟩⟩
            intro L vs w' hA hK
            obtain ⟨_, w1, hb1, sv, u1, ev, ew⟩ := hK.fin (hA 4 (by simp))
            replace sv : RNat w1 (vs 3) (A * 10 ^ t) := sv
            simp only [putL, Act.put, List.setIfInBounds_toArray, List.set_cons_zero, List.set_cons_succ, Nat.reduceAdd]
            obtain ⟨aa, nn, cc, e9⟩ := sv.isAgg
            have S9 : Hid _ := (S5.out.go hb1).addM sv
            have j1 := S9.out.cel g 0 (.slice a3 n3 c3)
            obtain rfl : u1 = .slice aa nn cc := by rw [e9] at ev; simpa using ev.symm
            rw [e9] at S9
            have S8 : Hid _ := (S9.out.set (b := g) (i := 0) j1 (S9.out.lo g) [(h, 0, .slice a5 n5 c5), (b, 0, .slice none 0 0), (b, 1, .slice none 0 0)] (by have := HG3.out; have := HH3.out; simp; omega) (.slice aa nn cc)).addC (b := g) (i := 0) (v := .slice aa nn cc) (by simp [go_sem, j1])
            rw [← ew] at S8
            have k1 := S8.out.cel g 0 (.slice aa nn cc)
            have k2 := S8.out.cel h 0 (.slice a5 n5 c5)
            have HSS : Hid (RSome (A * 10 ^ t) ∧ RSome (10 ^ k) ∧ 0 < 10 ^ k) := ⟨RS.rsome ⟨P_up (mulP_lt T.out.al (Nat.lt_of_le_of_lt (Nat.pow_le_pow_right (by omega) HT.out.1) ten999)) (by omega)⟩, RS.rsome ⟨ten_P90 (by have := T.out.k4; omega)⟩, Nat.pow_pos (by omega)⟩
            clear S9 S5 sv e9 ev ew hb1 j1 hK hA
            go_wp2_with fail
            refine (rfrom2_yes _ _ (A * 10 ^ t) (10 ^ k) _ (S8.out.rat (.agg #[.slice aa nn cc]) (A * 10 ^ t)) (S8.out.rat (.agg #[.slice a5 n5 c5]) (10 ^ k)) HSS.out.1 HSS.out.2.1 HSS.out.2.2).mono ?_
            clear k1 k2
            rintro e w8 ⟨v8, rfl, hv8, hb8⟩
            have hv8' := hv8
            obtain ⟨a6, n6, c6, a7, n7, c7, ev, _, _⟩ := hv8'
            subst ev
            have S6 : Hid _ := ((S8.out.go hb8).addG hv8).go (w' := w8.alloc (.cells #[.slice a6 n6 c6, .slice a7 n7 c7] 35)) (bel_al (bel_refl _))
            have q0 : (w8.alloc (.cells #[.slice a6 n6 c6, .slice a7 n7 c7] 35)).cell? ⟨w8.heap.size, 0, none⟩ = some (.slice a6 n6 c6) := by simp [go_sem]
            have q1 : (w8.alloc (.cells #[.slice a6 n6 c6, .slice a7 n7 c7] 35)).cell? ⟨w8.heap.size, 1, none⟩ = some (.slice a7 n7 c7) := by simp [go_sem]
            clear hv8 hb8 S8
            have x0 := S6.out.cel b 0 (.slice none 0 0)
            have x1 := S6.out.cel b 1 (.slice none 0 0)
            have f0 := S6.out.fz b 0
            have f1 := S6.out.fz b 1
            have Z : Hid _ := rrat_put (w0 := w) (v := .slice a6 n6 c6) (u := .slice a7 n7 c7) x0 x1 (S6.out.rfr (.agg #[.slice a6 n6 c6, .slice a7 n7 c7]) ((A * 10 ^ t) / Nat.gcd (A * 10 ^ t) (10 ^ k)) ((10 ^ k) / Nat.gcd (A * 10 ^ t) (10 ^ k))) S6.out.bel (S6.out.lo b)
            go_wp2_with fail
            refine bodyPost_ret (v := .tuple #[.agg #[.slice a6 n6 c6, .slice a7 n7 c7], .int .i64 0]) (by simp [results, Tryz.results29, go_sem, x0, x1]) rfl ?_
            unfold MakesPR
            rw [HE.out.1, HE.out.2.1, HE.out.2.2]
            exact ⟨_, rfl, Z.out.1, Z.out.2⟩
          · obtain ⟨t, ht⟩ : ∃ t : Nat, t = (-z).toNat := ⟨_, rfl⟩
            have HT : Hid (t ≤ 999 ∧ -z = (t : Int)) := ⟨by have := T.out.z1; have := T.out.z2; omega, by omega⟩
            have HE : Hid (npP s = A / Nat.gcd A (10 ^ k * 10 ^ t) ∧ npQ s = 10 ^ k * 10 ^ t / Nat.gcd A (10 ^ k * 10 ^ t) ∧ npE s = 0) := by rw [ht]; exact ⟨(T.out.dn hz0).1, (T.out.dn hz0).2, T.out.ne⟩
            have wn : IntKind.i64.wrap (-z) = (t : Int) := by rw [IntKind.wrap_i64]; have := T.out.z1; have := T.out.z2; omega
            have FX : Hid (RFits (10 ^ k) ∧ RFits (10 ^ t)) := ⟨rfits_P (ten_P90 (by have := T.out.k4; omega)) (by omega), rfits_P (ten_P90 (by have := HT.out; omega)) (by omega)⟩
            clear ht
            go_wp2_with fail
            obtain ⟨h, hh⟩ : ∃ h, h = w5.heap.size := ⟨_, rfl⟩
            obtain ⟨w6, hw6⟩ : ∃ w6, w6 = w5.alloc (.cells #[.slice a5 n5 c5] 33) := ⟨_, rfl⟩
            rw [← hw6, ← hh] at S5
            rw [← hw6, ← hh]
            have HH3 : Hid (g < h) := by rw [hh]; exact HL5
            clear hw6 hh HL5
            refine wp_region_inv (JD w6 [sR (10 ^ k), sEq (.int .i64 z), sEq (.int .i64 (t : Int)), sR (10 ^ t), sR (10 ^ k * 10 ^ t), sAny] [[], [], [1], [2], [0, 3], [4]] 5 4 [0, 1, 2, 3, 4] (Sto1 (h))) 138 (by kernel_rfl) rfl (by kernel_rfl) (JD.start _ _ _ _ _ _ _) (fun HG HN => ⟨?_, ?_, ?_, ?_, ?_, ?_, trivial⟩) ?_
            · intro L vs a w' hJ hF hP hL
              have hK := hJ
              have hJ := hK.open hL (by decide)
              have q19 : (a.tmps[19]?).getD undef = .pointer (some ⟨h, 0, none⟩) := hF.old 19 rfl
              have cb := cell_later hJ.bel (S5.out.cell (h) (.slice a5 n5 c5))
              exact run_val (v := .agg #[.slice a5 n5 c5]) rfl (by simp [execOp, go_sem, q19, cb]) ⟨_, rfl, hK.step hL (by decide) (by decide) rfl (nd_nil) <| hJ.step hL rfl (Below.refl _ _) (by exact ((S5.out.rat (.agg #[.slice a5 n5 c5]) (10 ^ k)).mono hJ.bel))⟩
            · intro L vs a w' hJ hF hP hL
              have hK := hJ
              have hJ := hK.open hL (by decide)
              have q15 : (a.tmps[15]?).getD undef = .int .i64 z := hF.old 15 rfl
              exact run_val (v := .int .i64 z) rfl (by simp [execOp, go_sem, q15]) ⟨_, rfl, hK.step hL (by decide) (by decide) rfl (nd_nil) <| hJ.step hL rfl (Below.refl _ _) (by exact rfl)⟩
            · intro L vs a w' hJ hF hP hL
              have hK := hJ
              have hJ := hK.open hL (by decide)
              have p1 : L 1 = true := hP ⟨1, .data⟩ (by simp) rfl
              have s1 : vs 1 = .int .i64 z := hJ.sp 1 p1
              have q127 := hF.slot 1 127 rfl p1
              exact run_val (v := .int .i64 (t : Int)) rfl (by simp [execOp, go_sem, q127, s1, wn]) ⟨_, rfl, hK.step hL (by decide) (by decide) rfl (nd_cons p1 (nd_nil)) <| hJ.step hL rfl (Below.refl _ _) (by exact rfl)⟩
            · intro L vs a w' hJ hF hP hL
              have hK := hJ
              have hJ := hK.open hL (by decide)
              have p2 : L 2 = true := hP ⟨2, .data⟩ (by simp) rfl
              have s2 : vs 2 = .int .i64 (t : Int) := hJ.sp 2 p2
              have q128 := hF.slot 2 128 rfl p2
              refine run_call (f := 77) (args := #[.int .i64 (t : Int)]) rfl (by simp [go_sem, q128, s2]) (rten_z _ t _ rfl (by have := HT.out; omega)) ?_
              rintro e w2 ⟨v, rfl, hv, hb⟩
              exact ⟨_, rfl, _, rfl, hK.step hL (by decide) (by decide) rfl (nd_cons p2 (nd_nil)) <| hJ.step hL rfl hb (by exact hv)⟩
            · intro L vs a w' hJ hF hP hL
              have hK := hJ
              have hJ := hK.open hL (by decide)
              have p0 : L 0 = true := hP ⟨0, .data⟩ (by simp) rfl
              have s0 : RNat w' (vs 0) (10 ^ k) := hJ.sp 0 p0
              have q126 := hF.slot 0 126 rfl p0
              have p3 : L 3 = true := hP ⟨3, .data⟩ (by simp) rfl
              have s3 : RNat w' (vs 3) (10 ^ t) := hJ.sp 3 p3
              have q129 := hF.slot 3 129 rfl p3
              refine run_call (f := 62) (args := #[vs 0, vs 3]) rfl (by simp [go_sem, q126, q129]) (rtimes_any _ _ (10 ^ k) (10 ^ t) _ s0 s3 FX.out.1 FX.out.2) ?_
              rintro e w2 ⟨v, rfl, hv, hb⟩
              exact ⟨_, rfl, _, rfl, hK.step hL (by decide) (by decide) rfl (nd_cons p0 (nd_cons p3 (nd_nil))) <| hJ.step hL rfl hb (by exact hv)⟩
            · intro L vs a w' hJ hF hP hL
              have hK := hJ
              have hJ := hK.core hL
              have q19 : (a.tmps[19]?).getD undef = .pointer (some ⟨h, 0, none⟩) := hF.old 19 rfl
              have p4 : L 4 = true := hP ⟨4, .data⟩ (by simp) rfl
              have s4 : RNat w' (vs 4) (10 ^ k * 10 ^ t) := hJ.sp 4 p4
              have q130 := hF.slot 4 130 rfl p4
              have p0 : L 0 = true := hK.cl 4 p4 0 (by simp)
              have p3 : L 3 = true := hK.cl 4 p4 3 (by simp)
              have p2 : L 2 = true := hK.cl 3 p3 2 (by simp)
              have p1 : L 1 = true := hK.cl 2 p2 1 (by simp)
              have x0 := cell_later hJ.bel (S5.out.cel h 0 (.slice a5 n5 c5))
              have y0 := (hJ.bel.frozen (World.block_lt_of_cell? _ _ (S5.out.cel h 0 (.slice a5 n5 c5)))).trans (S5.out.fz h 0)
              obtain ⟨aa, nn, cc, e8⟩ := s4.isAgg
              exact run_unit (w' := (w'.setCell ⟨h, 0, none⟩ (.slice aa nn cc))) rfl (by simp [execOp, go_sem, q19, q130, e8, x0, y0]) ⟨undef, rfl, hK.put hL (by decide) rfl (nd_cons p4 (nd_nil)) (nd_cons p0 (nd_cons p1 (nd_cons p2 (nd_cons p3 (nd_cons p4 (nd_nil)))))) p4 ⟨_, e8, rfl⟩⟩
            intro L vs w' hA hK
            obtain ⟨_, w1, hb1, sv, u1, ev, ew⟩ := hK.fin (hA 5 (by simp))
            replace sv : RNat w1 (vs 4) (10 ^ k * 10 ^ t) := sv
            simp only [putL, Act.put, List.setIfInBounds_toArray, List.set_cons_zero, List.set_cons_succ, Nat.reduceAdd]
            obtain ⟨aa, nn, cc, e9⟩ := sv.isAgg
            have S9 : Hid _ := (S5.out.go hb1).addM sv
            have j1 := S9.out.cel h 0 (.slice a5 n5 c5)
            obtain rfl : u1 = .slice aa nn cc := by rw [e9] at ev; simpa using ev.symm
            rw [e9] at S9
            have S8 : Hid _ := (S9.out.set (b := h) (i := 0) j1 (S9.out.lo h) [(g, 0, .slice a3 n3 c3), (b, 0, .slice none 0 0), (b, 1, .slice none 0 0)] (by have := HG3.out; have := HH3.out; simp; omega) (.slice aa nn cc)).addC (b := h) (i := 0) (v := .slice aa nn cc) (by simp [go_sem, j1])
            rw [← ew] at S8
            have k1 := S8.out.cel h 0 (.slice aa nn cc)
            have k2 := S8.out.cel g 0 (.slice a3 n3 c3)
            have HSS : Hid (RSome (A) ∧ RSome (10 ^ k * 10 ^ t) ∧ 0 < 10 ^ k * 10 ^ t) := ⟨RS.rsome ⟨P_up T.out.al (by omega)⟩, RS.rsome ⟨by rw [← Nat.pow_add]; exact ten_P90 (by have := T.out.k4; have := HT.out; omega)⟩, Nat.mul_pos (Nat.pow_pos (by omega)) (Nat.pow_pos (by omega))⟩
            clear S9 S5 sv e9 ev ew hb1 j1 hK hA
            go_wp2_with fail
            refine (rfrom2_yes _ _ (A) (10 ^ k * 10 ^ t) _ (S8.out.rat (.agg #[.slice a3 n3 c3]) (A)) (S8.out.rat (.agg #[.slice aa nn cc]) (10 ^ k * 10 ^ t)) HSS.out.1 HSS.out.2.1 HSS.out.2.2).mono ?_
            clear k1 k2
            rintro e w8 ⟨v8, rfl, hv8, hb8⟩
            have hv8' := hv8
            obtain ⟨a6, n6, c6, a7, n7, c7, ev, _, _⟩ := hv8'
            subst ev
            have S6 : Hid _ := ((S8.out.go hb8).addG hv8).go (w' := w8.alloc (.cells #[.slice a6 n6 c6, .slice a7 n7 c7] 35)) (bel_al (bel_refl _))
            have q0 : (w8.alloc (.cells #[.slice a6 n6 c6, .slice a7 n7 c7] 35)).cell? ⟨w8.heap.size, 0, none⟩ = some (.slice a6 n6 c6) := by simp [go_sem]
            have q1 : (w8.alloc (.cells #[.slice a6 n6 c6, .slice a7 n7 c7] 35)).cell? ⟨w8.heap.size, 1, none⟩ = some (.slice a7 n7 c7) := by simp [go_sem]
            clear hv8 hb8 S8
            have x0 := S6.out.cel b 0 (.slice none 0 0)
            have x1 := S6.out.cel b 1 (.slice none 0 0)
            have f0 := S6.out.fz b 0
            have f1 := S6.out.fz b 1
            have Z : Hid _ := rrat_put (w0 := w) (v := .slice a6 n6 c6) (u := .slice a7 n7 c7) x0 x1 (S6.out.rfr (.agg #[.slice a6 n6 c6, .slice a7 n7 c7]) ((A) / Nat.gcd (A) (10 ^ k * 10 ^ t)) ((10 ^ k * 10 ^ t) / Nat.gcd (A) (10 ^ k * 10 ^ t))) S6.out.bel (S6.out.lo b)
            go_wp2_with fail
            refine bodyPost_ret (v := .tuple #[.agg #[.slice a6 n6 c6, .slice a7 n7 c7], .int .i64 0]) (by simp [results, Tryz.results29, go_sem, x0, x1]) rfl ?_
            unfold MakesPR
            rw [HE.out.1, HE.out.2.1, HE.out.2.2]
            exact ⟨_, rfl, Z.out.1, Z.out.2⟩
      · have HW : Hid (npOk s = false) := np_cut (HD3.out.2.1 ci cf)
        refine (rpower_none s i1 _ HS.out ci cf).mono ?_
        rintro e wx ⟨rfl, hwx⟩
        rw [hwx]
        clear hwx wx ci cf ce
        have HV : Hid (npP s = 0 ∧ npQ s = 1 ∧ npE s = 30) := np_no (HW.out)
        have x0 := S1.out.cel b 0 (.slice none 0 0)
        have x1 := S1.out.cel b 1 (.slice none 0 0)
        have f0 := S1.out.fz b 0
        have f1 := S1.out.fz b 1
        have y0 := S1.out.cel c 0 (.slice a1 n1 c1)
        have y1 := S1.out.cel c 1 (.slice d1 m1 g1)
        have Z : Hid _ := rrat_put (w0 := w) (v := .slice a1 n1 c1) (u := .slice d1 m1 g1) x0 x1 (S1.out.rfr (.agg #[.slice a1 n1 c1, .slice d1 m1 g1]) 0 1) S1.out.bel (S1.out.lo b)
        go_wp2_with fail
        refine bodyPost_ret (v := .tuple #[.agg #[.slice a1 n1 c1, .slice d1 m1 g1], .int .i64 30]) (by simp [results, Tryz.results29, go_sem, x0, x1]) rfl ?_
        unfold MakesPR
        rw [HV.out.1, HV.out.2.1, HV.out.2.2]
        exact ⟨_, rfl, Z.out.1, Z.out.2⟩
end Go.Proofs.YtpeimefangpnaaaGreatDoor

namespace Go.Proofs.YtpeimefangpnaaaGreatDoor
open Go.RowKit
set_option maxRecDepth 100000
set_option linter.unusedVariables false
theorem rparse3_all (s : ByteArray) (w : World) (hs : s.size ≤ 9223372036854775807) : Calls Tryz.prog 29 #[.string s] w (MakesPR w s) := by
  by_cases h4 : 400 < s.size
  · exact rparse3_long s w hs h4
  · by_cases h0 : runE s 0 = 0
    · exact rparse3_zero s w (by omega) h0
    · by_cases h1 : runE s 0 < s.size ∧ sb s (runE s 0) = 47
      · exact rparse3_bel s w (by omega) h0 h1.1 h1.2
      · by_cases h2 : runE s 0 < s.size ∧ sb s (runE s 0) = 46
        · exact rparse3_pla s w (by omega) h0 h2.1 h2.2
        · exact rparse3_nop s w (by omega) h0 (fun hl => ⟨fun e => h1 ⟨hl, e⟩, fun e => h2 ⟨hl, e⟩⟩)
end Go.Proofs.YtpeimefangpnaaaGreatDoor

namespace Go.Proofs.YtpeimefangpnaaaGreatDoor
open Go.RowKit
set_option maxRecDepth 100000
set_option linter.unusedVariables false
theorem zrs_one : zrs 1 = ⟨#[48]⟩ := by rfl
set_option maxHeartbeats 400000 in
theorem rep_one : RepIs 1 := fun w => by
  rw [zrs_one]
  show Calls Tryz.prog 82 #[.string ⟨#[48]⟩, .int .i64 1] w _
  go_enter Tryz.func82, Tryz.ntmps82
  go_wp2_with fail
  go_ret
  exact ⟨rfl, bel_refl w⟩
theorem st_x (w : World) (hT : Tab w) : Calls Tryz.prog 9 #[.float .f64 4604930618986332160] w (MakesRB w 3 4 true) := by
  have h := fromFloat_all 4604930618986332160 w (by omega) hT
  rw [show ffP 4604930618986332160 = 3 by decide +kernel, show ffQ 4604930618986332160 = 4 by decide +kernel, show isFb 4604930618986332160 = true by decide +kernel] at h
  exact h
def s75 : ByteArray := ⟨#[55, 53, 101, 45, 50]⟩
def s10 : ByteArray := ⟨#[49, 47, 48]⟩
theorem np_75 : npP s75 = 3 ∧ npQ s75 = 4 ∧ npE s75 = 0 := by decide +kernel
theorem np_10 : npP s10 = 0 ∧ npQ s10 = 1 ∧ npE s10 = 30 := by decide +kernel
theorem st_y (w : World) (hT : Tab w) : Calls Tryz.prog 28 #[.string ⟨#[55, 53, 101, 45, 50]⟩] w fun e w' => ∃ v, e = .returned (.tuple #[v, .int .i64 0]) ∧ Rt w' v 3 4 ∧ Below w.heap.size w w' := by
  have h := nparse_any s75 w (by decide +kernel) hT
  unfold MakesP at h
  rw [np_75.1, np_75.2.1, np_75.2.2] at h
  exact h
theorem st_f (w : World) (hT : Tab w) : Calls Tryz.prog 28 #[.string ⟨#[49, 47, 48]⟩] w fun e w' => ∃ v, e = .returned (.tuple #[v, .int .i64 30]) ∧ Rt w' v 0 1 ∧ Below w.heap.size w w' := by
  have h := nparse_any s10 w (by decide +kernel) hT
  unfold MakesP at h
  rw [np_10.1, np_10.2.1, np_10.2.2] at h
  exact h
theorem st_a (v : Value) (w : World) (h : Rt w v 1 3) : Calls Tryz.prog 15 #[v] w fun e w' => e = .returned (.tuple #[.float .f64 4599676419421066581, .bool true]) ∧ Below w.heap.size w w' := by
  have k := toFloat_any v 1 3 w h (rs_few (by omega)) (rs_few (by omega)) (by omega)
  rw [show tfV 1 3 = 4599676419421066581 by decide +kernel, show tfOk 1 3 = true by decide +kernel] at k
  exact k
theorem few_P {x : Nat} (h : x < 100) : x < P 80 := Nat.lt_of_lt_of_le (by rw [P_one]; omega) (P_le (show 1 ≤ 80 by omega))
theorem st_s (v : Value) (w : World) (h : Rt w v 3 4) : Calls Tryz.prog 33 #[v, .int .i64 1] w fun e w' => e = .returned (.tuple #[.string ⟨#[48, 46, 56]⟩, .bool true]) ∧ Below w.heap.size w w' := by
  have k := decimal_any v 3 4 1 1 w h (few_P (by omega)) (few_P (by omega)) (by omega) (by omega) ⟨by omega, by decide +kernel, .inl rfl⟩ rep_one
  rw [show decimalT 3 4 1 1 = ⟨#[48, 46, 56]⟩ by decide +kernel] at k
  exact k
theorem st_t (v : Value) (w : World) (h : Rt w v 3 4) : Calls Tryz.prog 31 #[v] w fun e w' => e = .returned (.string ⟨#[51, 47, 52]⟩) ∧ Below w.heap.size w w' := by
  have k := format_any v 3 4 1 1 w h (rs_few (by omega)) (rs_few (by omega)) ⟨by omega, by omega, .inl rfl⟩ ⟨by omega, by omega, .inl rfl⟩
  rw [show fmtT 3 4 1 1 = ⟨#[51, 47, 52]⟩ by decide +kernel] at k
  exact k
theorem st_c (v u : Value) (w : World) (h : Rt w v 3 4) (k : Rt w u 3 4) : Calls Tryz.prog 37 #[v, u] w fun e w' => e = .returned (.int .i64 0) ∧ Below w.heap.size w w' := by
  have c := ratCmp_any v u 3 4 3 4 w h k (rs_few (by omega)) (rs_few (by omega)) (rs_few (by omega)) (rs_few (by omega))
  rw [show cmpI (3 * 4) (3 * 4) = 0 by decide] at c
  exact c
set_option maxHeartbeats 400000 in
theorem errno3_any (z : Int) (w : World) : Calls Tryz.prog 30 #[.int .i64 z] w fun e w' => e = .returned (.int .i64 z) ∧ w' = w := by
  go_enter Tryz.func30, Tryz.ntmps30
  go_wp2_with fail
  go_ret
  exact ⟨rfl, rfl⟩
set_option maxHeartbeats 1000000 in
theorem started3 (w : World) (hT : Tab w) : Calls Tryz.prog 13 #[] w fun e w' => e = .returned (.bool true) ∧ Below w.heap.size w w' := by
  have HT : Hid (Tab w) := hT
  clear hT
  go_enter Tryz.func13, Tryz.ntmps13
  go_wp2_with fail
  refine (st_x _ HT.out).mono ?_
  rintro e w1 ⟨v1, rfl, hv1, hb1⟩
  have hv1' := hv1
  obtain ⟨a1, n1, c1, d1, m1, g1, ev1, _, _⟩ := hv1'.raw
  subst ev1
  have S1 : Hid _ := (((sy_start w).go hb1).addF hv1).box (.slice a1 n1 c1) (.slice d1 m1 g1) 27 _ rfl
  clear hv1 hv1' hb1
  go_wp2_with fail
  obtain ⟨b1, hb1⟩ : ∃ b1, b1 = w1.heap.size := ⟨_, rfl⟩
  obtain ⟨W1, hW1⟩ : ∃ W1, W1 = w1.alloc (.cells #[.slice a1 n1 c1, .slice d1 m1 g1] 27) := ⟨_, rfl⟩
  rw [← hW1, ← hb1] at S1
  rw [← hW1, ← hb1]
  clear hW1 hb1
  refine (st_y _ (HT.out.go S1.out.bel)).mono ?_
  rintro e w2 ⟨v2, rfl, hv2, hb2⟩
  have hv2' := hv2
  obtain ⟨a2, n2, c2, d2, m2, g2, ev2, _, _⟩ := hv2'.raw
  subst ev2
  have S2 : Hid _ := ((S1.out.go hb2).addF hv2).box (.slice a2 n2 c2) (.slice d2 m2 g2) 27 _ rfl
  clear hv2 hv2' hb2 S1
  go_wp2_with fail
  obtain ⟨b2, hb2⟩ : ∃ b2, b2 = w2.heap.size := ⟨_, rfl⟩
  obtain ⟨W2, hW2⟩ : ∃ W2, W2 = w2.alloc (.cells #[.slice a2 n2 c2, .slice d2 m2 g2] 27) := ⟨_, rfl⟩
  rw [← hW2, ← hb2] at S2
  rw [← hW2, ← hb2]
  clear hW2 hb2
  refine (told_b _ (HT.out.go S2.out.bel)).mono ?_
  rintro e w3 ⟨v3, rfl, hv3, hb3⟩
  have hv3' := hv3
  obtain ⟨a3, n3, c3, d3, m3, g3, ev3, _, _⟩ := hv3'.raw
  subst ev3
  have S3 : Hid _ := ((S2.out.go hb3).addF hv3).box (.slice a3 n3 c3) (.slice d3 m3 g3) 27 _ rfl
  clear hv3 hv3' hb3 S2
  go_wp2_with fail
  obtain ⟨b3, hb3⟩ : ∃ b3, b3 = w3.heap.size := ⟨_, rfl⟩
  obtain ⟨W3, hW3⟩ : ∃ W3, W3 = w3.alloc (.cells #[.slice a3 n3 c3, .slice d3 m3 g3] 27) := ⟨_, rfl⟩
  rw [← hW3, ← hb3] at S3
  rw [← hW3, ← hb3]
  clear hW3 hb3
  refine (st_a _ _ (S3.out.fr (.agg #[.slice a3 n3 c3, .slice d3 m3 g3]) 1 3)).mono ?_
  rintro e w4 ⟨rfl, hb4⟩
  have S4 : Hid _ := S3.out.go hb4
  clear hb4 S3
  have k0 := S4.out.cel b1 0 (.slice a1 n1 c1)
  have k1 := S4.out.cel b1 1 (.slice d1 m1 g1)
  go_wp2_with fail
  refine (st_s _ _ (S4.out.fr (.agg #[.slice a1 n1 c1, .slice d1 m1 g1]) 3 4)).mono ?_
  rintro e w5 ⟨rfl, hb5⟩
  have S5 : Hid _ := S4.out.go hb5
  clear hb5 S4 k0 k1
  go_wp2_with fail
  refine (st_f _ (HT.out.go S5.out.bel)).mono ?_
  rintro e w6 ⟨v6, rfl, hv6, hb6⟩
  have hv6' := hv6
  obtain ⟨a6, n6, c6, d6, m6, g6, ev6, _, _⟩ := hv6'.raw
  subst ev6
  have S6 : Hid _ := (S5.out.go hb6).box (.slice a6 n6 c6) (.slice d6 m6 g6) 27 _ rfl
  clear hv6 hv6' hb6 S5
  go_wp2_with fail
  obtain ⟨W6, hW6⟩ : ∃ W6, W6 = w6.alloc (.cells #[.slice a6 n6 c6, .slice d6 m6 g6] 27) := ⟨_, rfl⟩
  rw [← hW6] at S6
  rw [← hW6]
  clear hW6
  refine (errno3_any 0 _).mono ?_
  rintro e wx ⟨rfl, hwx⟩
  rw [hwx]
  clear hwx wx
  have k0 := S6.out.cel b1 0 (.slice a1 n1 c1)
  have k1 := S6.out.cel b1 1 (.slice d1 m1 g1)
  have k2 := S6.out.cel b2 0 (.slice a2 n2 c2)
  have k3 := S6.out.cel b2 1 (.slice d2 m2 g2)
  go_wp2_with fail
  refine (st_c _ _ _ (S6.out.fr (.agg #[.slice a1 n1 c1, .slice d1 m1 g1]) 3 4) (S6.out.fr (.agg #[.slice a2 n2 c2, .slice d2 m2 g2]) 3 4)).mono ?_
  rintro e w7 ⟨rfl, hb7⟩
  have S7 : Hid _ := S6.out.go hb7
  clear hb7 S6 k0 k1 k2 k3
  go_wp2_with fail
  refine (bits_any 4599676419421066581 _).mono ?_
  rintro e wx ⟨rfl, hwx⟩
  rw [hwx]
  clear hwx wx
  have k0 := S7.out.cel b1 0 (.slice a1 n1 c1)
  have k1 := S7.out.cel b1 1 (.slice d1 m1 g1)
  go_wp2_with fail
  refine (st_t _ _ (S7.out.fr (.agg #[.slice a1 n1 c1, .slice d1 m1 g1]) 3 4)).mono ?_
  rintro e w8 ⟨rfl, hb8⟩
  have S8 : Hid _ := S7.out.go hb8
  clear hb8 S7 k0 k1
  go_wp2_with fail
  refine (errno3_any 30 _).mono ?_
  rintro e wx ⟨rfl, hwx⟩
  rw [hwx]
  clear hwx wx
  go_wp2_with fail
  go_ret
  exact ⟨rfl, S8.out.bel⟩
end Go.Proofs.YtpeimefangpnaaaGreatDoor

namespace Go.Proofs.YtpeimefangpnaaaGreatDoor
open Go.RowKit
set_option maxRecDepth 100000
set_option linter.unusedVariables false
theorem np_RS (s : ByteArray) : RS (npP s) ∧ RS (npQ s) := by
  cases h : npOk s with
  | false =>
    rw [(np_no h).1, (np_no h).2.1]
    exact ⟨rs_word (by omega), rs_word (by omega)⟩
  | true =>
    unfold npOk at h
    rw [Bool.and_eq_true] at h
    have h1 : s.size ≤ 400 := of_decide_eq_true h.1
    cases hc : cutP s with
    | none =>
      rw [hc] at h
      exact absurd h.2 (by simp)
    | some p =>
      rw [hc] at h
      have h3 : ¬ vD p = 0 := by have := h.2; simpa using this
      obtain ⟨e1, e2, _⟩ := np_yes h1 hc h3
      have g := cutP_good h1 hc
      have a := g.a
      have pw := g.pw
      rw [e1, e2]
      refine ⟨⟨Nat.lt_of_le_of_lt (Nat.div_le_self _ _) ?_⟩, ⟨Nat.lt_of_le_of_lt (Nat.div_le_self _ _) ?_⟩⟩
      · unfold vN
        split
        · exact P_up (mulP_lt a (Nat.lt_of_le_of_lt (Nat.pow_le_pow_right (by omega) (show (pwI p).toNat ≤ 999 by omega)) ten999)) (by omega)
        · exact P_up a (by omega)
      · unfold vD
        split
        · exact ten_P90 (by omega)
        · exact P_up g.b (by omega)
set_option maxHeartbeats 1000000 in
theorem parses_any (s : ByteArray) (w : World) (hs : s.size ≤ 9223372036854775807) (hT : Tab w) : Calls Tryz.prog 5 #[.string s] w fun e w' => e = .returned (.bool true) ∧ Below w.heap.size w w' := by
  have HT : Hid (Tab w ∧ s.size ≤ 9223372036854775807 ∧ RS (npP s) ∧ RS (npQ s)) := ⟨hT, hs, (np_RS s).1, (np_RS s).2⟩
  clear hT hs
  obtain ⟨E, hE⟩ : ∃ E, npE s = E := ⟨_, rfl⟩
  have HE : Hid (npE s = E) := hE
  clear hE
  go_enter Tryz.func5, Tryz.ntmps5
  go_wp2_with fail
  refine (nparse_any s _ HT.out.2.1 HT.out.1).mono ?_
  rintro e w1 ⟨v1, rfl, hv1, hb1⟩
  rw [HE.out]
  have hv1' := hv1
  obtain ⟨a1, n1, c1, d1, m1, g1, ev1, _, _⟩ := hv1'.raw
  subst ev1
  have S1 : Hid _ := (((sy_start w).go hb1).addF hv1).box (.slice a1 n1 c1) (.slice d1 m1 g1) 27 _ rfl
  clear hv1 hv1' hb1
  go_wp2_with fail
  obtain ⟨b1, hb1⟩ : ∃ b1, b1 = w1.heap.size := ⟨_, rfl⟩
  obtain ⟨W1, hW1⟩ : ∃ W1, W1 = w1.alloc (.cells #[.slice a1 n1 c1, .slice d1 m1 g1] 27) := ⟨_, rfl⟩
  rw [← hW1, ← hb1] at S1
  rw [← hW1, ← hb1]
  clear hW1 hb1
  refine (rparse3_all s _ HT.out.2.1).mono ?_
  rintro e w2 ⟨v2, rfl, hv2, hb2⟩
  rw [HE.out]
  have hv2' := hv2
  obtain ⟨a2, n2, c2, d2, m2, g2, ev2, _, _⟩ := hv2'
  subst ev2
  have S2 : Hid _ := ((S1.out.go hb2).addG hv2).box (.slice a2 n2 c2) (.slice d2 m2 g2) 35 _ rfl
  clear hv2 hb2 S1
  go_wp2_with fail
  obtain ⟨b2, hb2⟩ : ∃ b2, b2 = w2.heap.size := ⟨_, rfl⟩
  obtain ⟨W2, hW2⟩ : ∃ W2, W2 = w2.alloc (.cells #[.slice a2 n2 c2, .slice d2 m2 g2] 35) := ⟨_, rfl⟩
  rw [← hW2, ← hb2] at S2
  rw [← hW2, ← hb2]
  clear hW2 hb2
  refine (errno3_any E _).mono ?_
  rintro e wx ⟨rfl, hwx⟩
  rw [hwx]
  clear hwx wx
  have k0 := S2.out.cel b1 0 (.slice a1 n1 c1)
  have k1 := S2.out.cel b1 1 (.slice d1 m1 g1)
  have k2 := S2.out.cel b2 0 (.slice a2 n2 c2)
  have k3 := S2.out.cel b2 1 (.slice d2 m2 g2)
  go_wp2_with fail
  refine (same3_true _ _ (npP s) (npQ s) _ (S2.out.fr (.agg #[.slice a1 n1 c1, .slice d1 m1 g1]) (npP s) (npQ s)) (S2.out.rfr (.agg #[.slice a2 n2 c2, .slice d2 m2 g2]) (npP s) (npQ s)) HT.out.2.2.1 HT.out.2.2.2).mono ?_
  rintro e w3 ⟨rfl, hb3⟩
  have HB3 : Hid (Below w.heap.size w w3) := (S2.out.go hb3).bel
  clear hb3 S2 k0 k1 k2 k3
  go_wp2_with fail
  refine (started3 _ (HT.out.1.go HB3.out)).mono ?_
  rintro e w4 ⟨rfl, hb4⟩
  have HB4 : Hid (Below w.heap.size w w4) := bel_go HB3.out hb4
  clear hb4 HB3
  go_wp2_with fail
  go_ret
  exact ⟨rfl, HB4.out⟩
end Go.Proofs.YtpeimefangpnaaaGreatDoor

namespace Go.Proofs.YtpeimefangpnaaaGreatDoor
open Go.ChangeShapes Go.WideShapes Go.ChangeAt Go.RowKit
set_option linter.unusedVariables false
theorem ownD : ownKnob Tryz.prog.godebug = none := by kernel_rfl
end Go.Proofs.YtpeimefangpnaaaGreatDoor

