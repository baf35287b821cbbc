/- Contracts of the program's functions, part 22: own work, joined in build order. -/
import Derived.Test.YtpeimefangpnaaaGreatDoorJ21
namespace Go.Proofs.YtpeimefangpnaaaGreatDoor
open Go.RowKit
set_option maxRecDepth 100000
set_option linter.unusedVariables false
theorem endC_some {s : ByteArray} {i f : Nat} {p r : PtS} (h : endC s i f p = some r) : r = p ∧ f < i ∧ i = s.size := by
  unfold endC at h
  split at h
  · rename_i hh
    exact ⟨(Option.some.inj h).symm, hh⟩
  · cases h
theorem em_dig : Digits em em.size := fun i hi => by
  have : em.size = 0 := rfl
  omega
/-- So far the parts are runs of digits within the first i bytes. -/
structure Sofar (s : ByteArray) (p : PtS) (i : Nat) : Prop where
  w0 : 0 < p.whole.size
  dw : Digits p.whole p.whole.size
  dp : Digits p.places p.places.size
  db : Digits p.below p.below.size
  dx : Digits p.power p.power.size
  sz : p.whole.size + p.places.size ≤ i
  sb : p.below.size ≤ s.size
  sx : p.power.size ≤ 3
theorem powC_good {s : ByteArray} {i : Nat} {p r : PtS} (hs : s.size ≤ 400) (hi : i ≤ s.size) (g : Sofar s p i) (h : powC s i i p = some r) : GoodP r := by
  unfold powC at h
  split at h
  · cases h
  · rename_i h3
    obtain ⟨rfl, h1, h2⟩ := endC_some h
    have hz := size_ext (s := s) (a := i) (b := runE s i) (runE_le hi)
    exact ⟨g.w0, g.dw, g.dp, g.db, dig_ext hi, by have := g.sz; simp only; omega, by have := g.sb; simp only; omega, by simp only; rw [hz]; omega⟩
theorem sgnC_good {s : ByteArray} {i : Nat} {p r : PtS} (hs : s.size ≤ 400) (hi : i ≤ s.size) (g : Sofar s p i) (h : sgnC s i p = some r) : GoodP r := by
  unfold sgnC at h
  split at h
  · rename_i hc
    have : i < s.size := by unfold isSgn at hc; simp at hc; exact hc.1
    exact powC_good (p := { p with minus := sb s i == 45 }) hs this ⟨g.w0, g.dw, g.dp, g.db, g.dx, Nat.le_succ_of_le g.sz, g.sb, g.sx⟩ h
  · exact powC_good hs hi g h
theorem em_le (n : Nat) : em.size ≤ n := by rw [show em.size = 0 from rfl]; omega
theorem sofar_mk {s A B : ByteArray} {i : Nat} (hA : 0 < A.size) (dA : Digits A A.size) (dB : Digits B B.size) (hz : A.size + B.size ≤ i) : Sofar s ⟨A, em, B, em, false⟩ i :=
  ⟨hA, dA, dB, em_dig, em_dig, hz, em_le _, em_le _⟩
theorem good_mk {A B C : ByteArray} (hA : 0 < A.size) (dA : Digits A A.size) (dB : Digits B B.size) (dC : Digits C C.size) (hz : A.size + B.size ≤ 400) (hc : C.size ≤ 400) : GoodP ⟨A, C, B, em, false⟩ :=
  ⟨hA, dA, dB, dC, em_dig, hz, hc, em_le _⟩
theorem cutP_good {s : ByteArray} {r : PtS} (hs : s.size ≤ 400) (h : cutP s = some r) : GoodP r := by
  unfold cutP whoC at h
  have l0 := runE_le (s := s) (i := 0) (Nat.zero_le _)
  have z0 := size_ext (s := s) (a := 0) (b := runE s 0) l0
  have d0 := dig_ext (s := s) (i := 0) (Nat.zero_le _)
  have E : em.size = 0 := rfl
  generalize runE s 0 = i0 at *
  generalize s.extract 0 i0 = A at *
  split at h
  · obtain ⟨rfl, h1, h2⟩ := endC_some h
    exact good_mk (A := A) (B := em) (C := em) (by omega) d0 em_dig em_dig (by omega) (em_le _)
  · rename_i hc
    have n0 : ¬ i0 = 0 := fun e => hc (.inl e)
    have n1 : ¬ i0 = s.size := fun e => hc (.inr e)
    have l1 : i0 + 1 ≤ s.size := by omega
    have l2 := runE_le l1
    have z1 := size_ext (s := s) (a := i0 + 1) (b := runE s (i0 + 1)) l2
    have d1 := dig_ext l1
    have ge1 := runE_ge s (i0 + 1)
    unfold belC plaC at h
    generalize runE s (i0 + 1) = i1 at *
    generalize s.extract (i0 + 1) i1 = B at *
    have W0 : 0 < A.size := by omega
    split at h
    · obtain ⟨rfl, h1, h2⟩ := endC_some h
      exact good_mk (A := A) (B := em) (C := B) W0 d0 em_dig d1 (by omega) (by omega)
    · split at h
      · split at h
        · obtain ⟨rfl, h1, h2⟩ := endC_some h
          exact good_mk (A := A) (B := B) (C := em) W0 d0 d1 em_dig (by omega) (em_le _)
        · rename_i hc2
          have n2 : ¬ i1 = s.size := fun e => hc2 (.inr (.inl e))
          exact sgnC_good hs (by omega) (sofar_mk (A := A) (B := B) W0 d0 d1 (by omega)) h
      · split at h
        · exact sgnC_good hs l1 (sofar_mk (A := A) (B := em) W0 d0 em_dig (by omega)) h
        · cases h
theorem value_all (p : PtS) (w : World) (hg : GoodP p) (hT : Tab w) : Calls Tryz.prog 73 #[PAgg p] w (MakesV w p) := by
  by_cases h : p.below.size = 0
  · exact value_pow p w hg h hT
  · exact value_below p w hg h hT
/-- What Parse tells of a text. -/
def npOk (s : ByteArray) : Bool := decide (s.size ≤ 400) && (match cutP s with | some p => !decide (vD p = 0) | none => false)
def npP (s : ByteArray) : Nat := if npOk s then (match cutP s with | some p => vN p / Nat.gcd (vN p) (vD p) | none => 0) else 0
def npQ (s : ByteArray) : Nat := if npOk s then (match cutP s with | some p => vD p / Nat.gcd (vN p) (vD p) | none => 1) else 1
def npE (s : ByteArray) : Int := if npOk s then 0 else 30
def MakesP (w : World) (s : ByteArray) (e : Ending) (w' : World) : Prop := ∃ v, e = .returned (.tuple #[v, .int .i64 (npE s)]) ∧ Rt w' v (npP s) (npQ s) ∧ Below w.heap.size w w'
theorem np_no {s : ByteArray} (h : npOk s = false) : npP s = 0 ∧ npQ s = 1 ∧ npE s = 30 := by
  unfold npP npQ npE
  rw [h]
  exact ⟨rfl, rfl, rfl⟩
theorem np_yes {s : ByteArray} {p : PtS} (h1 : s.size ≤ 400) (h2 : cutP s = some p) (h3 : ¬ vD p = 0) : npP s = vN p / Nat.gcd (vN p) (vD p) ∧ npQ s = vD p / Nat.gcd (vN p) (vD p) ∧ npE s = 0 := by
  have h : npOk s = true := by unfold npOk; rw [h2]; simp [h1, h3]
  unfold npP npQ npE
  rw [h, h2]
  exact ⟨rfl, rfl, rfl⟩
set_option maxHeartbeats 1000000 in
theorem nparse_any (s : ByteArray) (w : World) (hs : s.size ≤ 9223372036854775807) (hT : Tab w) : Calls Tryz.prog 28 #[.string s] w (MakesP w s) := by
  have HT : Hid (Tab w) := hT
  have S0 : Hid _ := (sy_start w).box (.slice none 0 0) (.slice none 0 0) 27 _ rfl
  obtain ⟨b, hb⟩ : ∃ b, b = w.heap.size := ⟨_, rfl⟩
  obtain ⟨w0, hw0⟩ : ∃ w0, w0 = w.alloc (.cells #[.slice none 0 0, .slice none 0 0] 27) := ⟨_, rfl⟩
  rw [← hw0, ← hb] at S0
  clear hT
  by_cases h4 : 400 < s.size
  · have HV : Hid (npP s = 0 ∧ npQ s = 1 ∧ npE s = 30) := np_no (by unfold npOk; simp; omega)
    have t1 : decide (400 < (s.size : Int)) = true := decide_eq_true (by omega)
    go_enter Tryz.func28, Tryz.ntmps28
    go_wp2_with fail
    refine bodyPost_ret (v := .tuple #[.agg #[.slice none 0 0, .slice none 0 0], .int .i64 30]) (by simp [results, Tryz.results28, go_sem]) rfl ?_
    unfold MakesP
    rw [HV.out.1, HV.out.2.1, HV.out.2.2]
    exact ⟨_, rfl, rt_zero _, bel_al (bel_refl w)⟩
  · have HS : Hid (s.size ≤ 400) := by show _ ≤ _; omega
    have t1 : decide (400 < (s.size : Int)) = false := decide_eq_false (by omega)
    have n1 : ¬ 400 < s.size := h4
    clear h4
    go_enter Tryz.func28, Tryz.ntmps28
    go_wp2_with fail
    rw [← hw0, ← hb]
    clear hw0 hb
    refine (ncut_any s _ HS.out).mono ?_
    rintro e w1 ⟨p, ok, rfl, hc, hb1⟩
    have S1 : Hid _ := S0.out.go hb1
    clear hb1 S0
    cases ok with
    | false =>
      have HV : Hid (npP s = 0 ∧ npQ s = 1 ∧ npE s = 30) := np_no (by unfold npOk; rw [hc]; simp)
      clear hc
      have S2 : Hid _ := S1.out.go (w' := w1.alloc (.cells #[.string p.whole, .string p.below, .string p.places, .string p.power, .bool p.minus] 111)) (bel_al (bel_refl _))
      clear S1
      have S9 := S2.out
      have x0 := S9.cel b 0 (.slice none 0 0)
      have x1 := S9.cel b 1 (.slice none 0 0)
      have f0 := S9.fz b 0
      have f1 := S9.fz b 1
      have Z : Hid _ := rat_put (w0 := w) (v := .slice none 0 0) (u := .slice none 0 0) x0 x1 (rt_zero _) S9.bel (S9.lo b)
      clear S9
      go_wp2_with fail
      refine bodyPost_ret (v := .tuple #[.agg #[.slice none 0 0, .slice none 0 0], .int .i64 30]) (by simp [results, Tryz.results28, go_sem, x0, x1]) rfl ?_
      unfold MakesP
      rw [HV.out.1, HV.out.2.1, HV.out.2.2]
      exact ⟨_, rfl, Z.out.1, Z.out.2⟩
    | true =>
      have HC : Hid (cutP s = some p) := hc
      have HG : Hid (GoodP p) := cutP_good HS.out HC.out
      clear hc
      have S2 : Hid _ := S1.out.go (w' := w1.alloc (.cells #[.string p.whole, .string p.below, .string p.places, .string p.power, .bool p.minus] 111)) (bel_al (bel_refl _))
      have k0 : (w1.alloc (.cells #[.string p.whole, .string p.below, .string p.places, .string p.power, .bool p.minus] 111)).cell? ⟨w1.heap.size, 0, none⟩ = some (.string p.whole) := by simp [go_sem]
      clear S1
      go_wp2_with fail
      refine (value_all p _ HG.out (HT.out.go S2.out.bel)).mono ?_
      intro e w3 hV
      unfold MakesV at hV
      by_cases hz : vD p = 0
      · rw [if_pos hz] at hV
        obtain ⟨v3, rfl, hv3, hb3⟩ := hV
        obtain ⟨a5, n5, c5, a6, n6, c6, ev, _, _⟩ := hv3.raw
        subst ev
        have HV : Hid (npP s = 0 ∧ npQ s = 1 ∧ npE s = 30) := np_no (by unfold npOk; rw [HC.out]; simp [hz])
        have S3 : Hid _ := (S2.out.go hb3).go (w' := w3.alloc (.cells #[.slice a5 n5 c5, .slice a6 n6 c6] 27)) (bel_al (bel_refl _))
        clear hv3 hb3 S2 k0 hz
        have S9 := S3.out
        have x0 := S9.cel b 0 (.slice none 0 0)
        have x1 := S9.cel b 1 (.slice none 0 0)
        have f0 := S9.fz b 0
        have f1 := S9.fz b 1
        have Z : Hid _ := rat_put (w0 := w) (v := .slice none 0 0) (u := .slice none 0 0) x0 x1 (rt_zero _) S9.bel (S9.lo b)
        clear S9
        go_wp2_with fail
        refine bodyPost_ret (v := .tuple #[.agg #[.slice none 0 0, .slice none 0 0], .int .i64 30]) (by simp [results, Tryz.results28, go_sem, x0, x1]) rfl ?_
        unfold MakesP
        rw [HV.out.1, HV.out.2.1, HV.out.2.2]
        exact ⟨_, rfl, Z.out.1, Z.out.2⟩
      · rw [if_neg hz] at hV
        obtain ⟨v3, rfl, hv3, hb3⟩ := hV
        obtain ⟨a5, n5, c5, a6, n6, c6, ev, _, _⟩ := hv3.raw
        subst ev
        have HV : Hid (npP s = vN p / Nat.gcd (vN p) (vD p) ∧ npQ s = vD p / Nat.gcd (vN p) (vD p) ∧ npE s = 0) := np_yes HS.out HC.out hz
        have S3 : Hid _ := ((S2.out.go hb3).addF hv3).go (w' := w3.alloc (.cells #[.slice a5 n5 c5, .slice a6 n6 c6] 27)) (bel_al (bel_refl _))
        have y0 : (w3.alloc (.cells #[.slice a5 n5 c5, .slice a6 n6 c6] 27)).cell? ⟨w3.heap.size, 0, none⟩ = some (.slice a5 n5 c5) := by simp [go_sem]
        have y1 : (w3.alloc (.cells #[.slice a5 n5 c5, .slice a6 n6 c6] 27)).cell? ⟨w3.heap.size, 1, none⟩ = some (.slice a6 n6 c6) := by simp [go_sem]
        clear hv3 hb3 S2 k0 hz
        have S9 := S3.out
        have x0 := S9.cel b 0 (.slice none 0 0)
        have x1 := S9.cel b 1 (.slice none 0 0)
        have f0 := S9.fz b 0
        have f1 := S9.fz b 1
        have Z : Hid _ := rat_put (w0 := w) (v := .slice a5 n5 c5) (u := .slice a6 n6 c6) x0 x1 (S9.fr (.agg #[.slice a5 n5 c5, .slice a6 n6 c6]) (vN p / Nat.gcd (vN p) (vD p)) (vD p / Nat.gcd (vN p) (vD p))) S9.bel (S9.lo b)
        clear S9
        go_wp2_with fail
        refine bodyPost_ret (v := .tuple #[.agg #[.slice a5 n5 c5, .slice a6 n6 c6], .int .i64 0]) (by simp [results, Tryz.results28, go_sem, x0, x1]) rfl ?_
        unfold MakesP
        rw [HV.out.1, HV.out.2.1, HV.out.2.2]
        exact ⟨_, rfl, Z.out.1, Z.out.2⟩
end Go.Proofs.YtpeimefangpnaaaGreatDoor

namespace Go.Proofs.YtpeimefangpnaaaGreatDoor
open Go.RowKit
set_option maxRecDepth 100000
set_option linter.unusedVariables false
set_option maxHeartbeats 1000000 in
theorem rrun_any (s : ByteArray) (i : Nat) (w : World) (hi : i ≤ s.size) (hs : s.size ≤ 9223372036854775807) :
    Calls Tryz.prog 74 #[.string s, .int .i64 (i : Int)] w fun e w' => e = .returned (.int .i64 ((runE s i : Nat) : Int)) ∧ w' = w := by
  go_enter Tryz.func74, Tryz.ntmps74
  go_wp2_with fail
  go_loop [1] (fun t => ∃ j : Nat, j ≤ s.size ∧ t = .int .i64 (j : Int) ∧ Hid (runE s j = runE s i)) (fun t => s.size - (intOf t).toNat)
  case atStart => exact ⟨i, hi, rfl, (rfl : runE s i = runE s i)⟩
  case round =>
    obtain ⟨j, hj, rfl, HR⟩ := hrel
    by_cases h : j < s.size
    · have hc := sb_at h
      have hc2 := sb_lt s j
      by_cases h1 : 48 ≤ sb s j
      · have t1 : decide (48 ≤ ((sb s j : Nat) : Int)) = true := decide_eq_true (by omega)
        by_cases h2 : sb s j ≤ 57
        · have t2 : decide (((sb s j : Nat) : Int) ≤ 57) = true := decide_eq_true (by omega)
          have HD : Hid (isD s j = true) := by show _ = _; unfold isD; simp; omega
          have HN : Hid (runE s (j + 1) = runE s i) := by show _ = _; rw [← runE_yes HD.out]; exact HR.out
          go_wp2_with fail
          go_round
          case rel => exact ⟨j + 1, by omega, by go_num, HN⟩
          case measure => simp [intOf]; omega
        · have t2 : decide (((sb s j : Nat) : Int) ≤ 57) = false := decide_eq_false (by omega)
          have HD : Hid (runE s i = j) := by show _ = _; rw [← HR.out]; exact runE_no (by unfold isD; simp; omega)
          go_wp2_with fail
          go_ret
          rw [HD.out]
          exact ⟨rfl, rfl⟩
      · have t1 : decide (48 ≤ ((sb s j : Nat) : Int)) = false := decide_eq_false (by omega)
        have HD : Hid (runE s i = j) := by show _ = _; rw [← HR.out]; exact runE_no (by unfold isD; simp; omega)
        go_wp2_with fail
        go_ret
        rw [HD.out]
        exact ⟨rfl, rfl⟩
    · have HD : Hid (runE s i = j) := by show _ = _; rw [← HR.out]; exact runE_no (by unfold isD; simp; omega)
      go_wp2_with fail
      go_ret
      rw [HD.out]
      exact ⟨rfl, rfl⟩
def Rt10 (w : World) (b g : Nat) (wr : World) (x : Nat) (a1 : Option Addr) (n1 c1 : Nat) : Prop :=
  SY w wr [] [(.agg #[.slice a1 n1 c1], x)] [] [] [(g, 0, .slice a1 n1 c1), (b, 0, .slice none 0 0)] [g, b] ∧ b < g
theorem SY.rret1 {w0 w : World} {N M : List (Value × Nat)} {F G : List (Value × Nat × Nat)} {C : List (Nat × Nat × Value)} {Z : List Nat} (h : SY w0 w N M F G C Z) {r : Nat} {v : Value} {x : Nat} (hc : w.cell? ⟨r, 0, none⟩ = some (.slice none 0 0)) (hz : r ∈ Z) (hv : RNat w v x) (u : Value) : RNat (w.setCell ⟨r, 0, none⟩ u) v x ∧ Below w0.heap.size w0 (w.setCell ⟨r, 0, none⟩ u) :=
  ⟨hv.setCell (no_int_slice hc) u, h.bel.setCell (p := ⟨r, 0, none⟩) (h.lo r hz) u⟩
set_option maxHeartbeats 2000000 in
theorem rten_any (n : Nat) (w : World) (hn : n ≤ 1500) :
    Calls Tryz.prog 77 #[.int .i64 (n : Int)] w (RMakes w (10 ^ n)) := by
  have S0 : Hid _ := (sy_start w).box1 (.slice none 0 0) 33 _ rfl
  go_enter Tryz.func77, Tryz.ntmps77
  go_wp2_with fail
  refine (rof_any 1 _ (by omega)).mono ?_
  rintro e w1 ⟨v1, rfl, hv1, hb1⟩
  obtain ⟨a1, n1, c1, rfl⟩ := hv1.isAgg
  have HB : Hid (w.heap.size < w1.heap.size) := (S0.out.go hb1).lt w.heap.size
  have S1 : Hid _ := ((S0.out.go hb1).addM hv1).box1 (.slice a1 n1 c1) 33 _ rfl
  clear hv1 hb1 S0
  go_wp2_with fail
  obtain ⟨w3, hw3⟩ : ∃ w3, w3 = w1.alloc (.cells #[.slice a1 n1 c1] 33) := ⟨_, rfl⟩
  obtain ⟨g, hg⟩ : ∃ g, g = w1.heap.size := ⟨_, rfl⟩
  obtain ⟨b, hb⟩ : ∃ b, b = w.heap.size := ⟨_, rfl⟩
  rw [← hw3, ← hg, ← hb] at S1
  rw [← hw3, ← hg, ← hb]
  have hbg : b < g := by rw [hg, hb]; exact HB.out
  clear hw3 hg hb
  have A0 : Hid (Rt10 w b g w3 1 a1 n1 c1) := ⟨S1.out.sub _ _ _ _ _ _ (by simp) (by simp) (by simp) (by simp) (by simp) (by simp), hbg⟩
  clear S1 hbg HB
  go_loopw [4] (fun t wr => ∃ (m : Nat) (a1 : Option Addr) (n1 c1 : Nat), t = .int .i64 (m : Int) ∧ m ≤ n ∧ Rt10 w b g wr (10 ^ m) a1 n1 c1) (fun t _ => n - (intOf t).toNat)
  case atStart => exact ⟨0, _, _, _, rfl, by omega, A0.out⟩
  case round =>
    clear A0
    obtain ⟨m, a1, n1, c1, rfl, hm, hT⟩ := hrel
    have I : Hid _ := hT
    clear hT
    have k1 := I.out.1.cel g 0 (.slice a1 n1 c1)
    have k3 := I.out.1.cel b 0 (.slice none 0 0)
    have f1 := I.out.1.fz g 0
    have f3 := I.out.1.fz b 0
    by_cases h0 : m < n
    · have SI : Hid _ := I.out.1
      have SF : Hid (RFits (10 ^ m)) := rfits_P (ten_P90 (show m ≤ 1500 by omega)) (by omega)
      go_wp2_with fail
      refine wp_region_inv (JD wr [sR (10 ^ m), sR (10), sR (10 ^ m * 10), sAny] [[], [], [0, 1], [2]] 3 2 [0, 1, 2] (Sto1 (g))) 15 (by kernel_rfl) rfl (by kernel_rfl) (JD.start _ _ _ _ _ _ _) (fun HG HN => ⟨?_, ?_, ?_, ?_, trivial⟩) ?_
      · intro L vs a w' hJ hF hP hL
        have hK := hJ
        have hJ := hK.open hL (by decide)
        have q3 : (a.tmps[3]?).getD undef = .pointer (some ⟨g, 0, none⟩) := hF.old 3 rfl
        have cb := cell_later hJ.bel (SI.out.cell (g) (.slice a1 n1 c1))
        exact run_val (v := .agg #[.slice a1 n1 c1]) rfl (by simp [execOp, go_sem, q3, cb]) ⟨_, rfl, hK.step hL (by decide) (by decide) rfl (nd_nil) <| hJ.step hL rfl (Below.refl _ _) (by exact ((SI.out.rat (.agg #[.slice a1 n1 c1]) (10 ^ m)).mono hJ.bel))⟩
      · intro L vs a w' hJ hF hP hL
        have hK := hJ
        have hJ := hK.open hL (by decide)
        refine run_call (f := 21) (args := #[.int .u64 10]) rfl (by simp [go_sem]) (rof_any 10 _ (by omega)) ?_
        rintro e w2 ⟨v, rfl, hv, hb⟩
        exact ⟨_, rfl, _, rfl, hK.step hL (by decide) (by decide) rfl (nd_nil) <| hJ.step hL rfl hb (by exact hv)⟩
      · intro L vs a w' hJ hF hP hL
        have hK := hJ
        have hJ := hK.open hL (by decide)
        have p0 : L 0 = true := hP ⟨0, .data⟩ (by simp) rfl
        have s0 : RNat w' (vs 0) (10 ^ m) := hJ.sp 0 p0
        have q11 := hF.slot 0 11 rfl p0
        have p1 : L 1 = true := hP ⟨1, .data⟩ (by simp) rfl
        have s1 : RNat w' (vs 1) (10) := hJ.sp 1 p1
        have q12 := hF.slot 1 12 rfl p1
        refine run_call (f := 62) (args := #[vs 0, vs 1]) rfl (by simp [go_sem, q11, q12]) (rtimes_any _ _ (10 ^ m) 10 _ s0 s1 SF.out (rs_word (by omega)).rfits) ?_
        rintro e w2 ⟨v, rfl, hv, hb⟩
        exact ⟨_, rfl, _, rfl, hK.step hL (by decide) (by decide) rfl (nd_cons p0 (nd_cons p1 (nd_nil))) <| hJ.step hL rfl hb (by exact hv)⟩
      · intro L vs a w' hJ hF hP hL
        have hK := hJ
        have hJ := hK.core hL
        have q3 : (a.tmps[3]?).getD undef = .pointer (some ⟨g, 0, none⟩) := hF.old 3 rfl
        have p2 : L 2 = true := hP ⟨2, .data⟩ (by simp) rfl
        have s2 : RNat w' (vs 2) (10 ^ m * 10) := hJ.sp 2 p2
        have q13 := hF.slot 2 13 rfl p2
        have p0 : L 0 = true := hK.cl 2 p2 0 (by simp)
        have p1 : L 1 = true := hK.cl 2 p2 1 (by simp)
        have x0 := cell_later hJ.bel (SI.out.cel g 0 (.slice a1 n1 c1))
        have y0 := (hJ.bel.frozen (World.block_lt_of_cell? _ _ (SI.out.cel g 0 (.slice a1 n1 c1)))).trans (SI.out.fz g 0)
        obtain ⟨aa, nn, cc, e8⟩ := s2.isAgg
        exact run_unit (w' := (w'.setCell ⟨g, 0, none⟩ (.slice aa nn cc))) rfl (by simp [execOp, go_sem, q3, q13, e8, x0, y0]) ⟨undef, rfl, hK.put hL (by decide) rfl (nd_cons p2 (nd_nil)) (nd_cons p0 (nd_cons p1 (nd_cons p2 (nd_nil)))) p2 ⟨_, e8, rfl⟩⟩
      intro L vs w' hA hK
      obtain ⟨_, w1, hb1, sv, u1, ev, ew⟩ := hK.fin (hA 3 (by simp))
      replace sv : RNat w1 (vs 2) (10 ^ m * 10) := sv
      simp only [putL, Act.put, List.setIfInBounds_toArray, List.set_cons_zero, List.set_cons_succ, Nat.reduceAdd]
      obtain ⟨aa, nn, cc, e9⟩ := sv.isAgg
      have S9 : Hid _ := (SI.out.go hb1).addM sv
      have j1 := S9.out.cel g 0 (.slice a1 n1 c1)
      obtain rfl : u1 = .slice aa nn cc := by rw [e9] at ev; simpa using ev.symm
      rw [e9] at S9
      have S8 : Hid _ := (S9.out.set (b := g) (i := 0) j1 (S9.out.lo g) [(b, 0, .slice none 0 0)] (by have := I.out.2; simp; omega) (.slice aa nn cc)).addC (b := g) (i := 0) (v := .slice aa nn cc) (by simp [go_sem, j1])
      rw [← ew] at S8
      have I2 : Hid (Rt10 w b g w' (10 ^ (m + 1)) aa nn cc) := ⟨by rw [Nat.pow_succ]; exact S8.out.sub _ _ _ _ _ _ (by simp) (by simp) (by simp) (by simp) (by simp) (by simp), I.out.2⟩
      clear S8 S9 SI sv e9 ev ew hb1 j1 k1 k3 f1 f3 I hK hA
      go_wp2_with fail
      go_roundw
      case rel => exact ⟨m + 1, _, _, _, by go_num, by omega, I2.out⟩
      case measure => simp [intOf]; omega
    · obtain rfl : m = n := by omega
      have Z : Hid _ := I.out.1.rret1 (r := b) k3 (by simp) (I.out.1.rat (.agg #[.slice a1 n1 c1]) (10 ^ m)) (.slice a1 n1 c1)
      go_wp2_with fail
      exact bodyPost_ret (v := .agg #[.slice a1 n1 c1]) (by simp [results, Tryz.results77, go_sem, k3]) rfl ⟨_, rfl, Z.out.1, Z.out.2⟩
/-- The value of an exponent. -/
def pzI (r : PtS) : Int := if r.minus then -((decVal r.power r.power.size : Nat) : Int) else ((decVal r.power r.power.size : Nat) : Int)
def RPw (z : Int) (ok : Bool) (w : World) (e : Ending) (w' : World) : Prop := e = .returned (.tuple #[.int .i64 z, .bool ok]) ∧ w' = w
set_option maxHeartbeats 1000000 in
theorem rpower_end (s : ByteArray) (w : World) (hs : s.size ≤ 400) : Calls Tryz.prog 76 #[.string s, .int .i64 (s.size : Int)] w (RPw 0 true w) := by
  go_enter Tryz.func76, Tryz.ntmps76
  go_wp2_with fail
  exact bodyPost_ret (v := .tuple #[.int .i64 0, .bool true]) (by simp [results, Tryz.results76, go_sem]) rfl ⟨rfl, rfl⟩
set_option maxHeartbeats 1000000 in
theorem rpower_none (s : ByteArray) (i : Nat) (w : World) (hs : s.size ≤ 400) (hi : i < s.size) (he : ¬ sb s i = 101) : Calls Tryz.prog 76 #[.string s, .int .i64 (i : Int)] w (RPw 0 false w) := by
  have hc := sb_at hi
  have n0 : ¬ i = s.size := by omega
  obtain ⟨t2, t3⟩ := ne_beq n0
  obtain ⟨x1, x2⟩ := ne_sb (x := sb s i) (y := 101) (by omega)
  go_enter Tryz.func76, Tryz.ntmps76
  go_wp2_with fail
  exact bodyPost_ret (v := .tuple #[.int .i64 0, .bool false]) (by simp [results, Tryz.results76, go_sem]) rfl ⟨rfl, rfl⟩
theorem sb_dig {s : ByteArray} {j e : Nat} (hj : j ≤ s.size) (he : e = runE s j) {k : Nat} (h1 : j ≤ k) (h2 : k < e) : 48 ≤ sb s k ∧ sb s k ≤ 57 := isD_dig (runE_dig (i := j) h1 (by omega))
/-- What power tells behind the letter. -/
def PwQ (w : World) (s : ByteArray) (i : Nat) (P : PtS) (e : Ending) (w' : World) : Prop :=
  w' = w ∧ (sgnC s (i + 1) P = none → e = .returned (.tuple #[.int .i64 0, .bool false])) ∧ ∀ r, sgnC s (i + 1) P = some r → e = .returned (.tuple #[.int .i64 (pzI r), .bool true])
theorem powC_no {s : ByteArray} {j e : Nat} {P : PtS} (he : e = runE s j) (h : ¬ (j < e ∧ e = s.size ∧ e - j ≤ 3)) : powC s j j P = none := by
  unfold powC
  rw [← he]
  split
  · rfl
  · unfold endC
    rw [if_neg]
    rintro ⟨h1, h2⟩
    exact h ⟨h1, h2, by omega⟩
theorem powC_so {s : ByteArray} {j e : Nat} {P : PtS} (he : e = runE s j) (h1 : j < e) (h2 : e = s.size) (h3 : e - j ≤ 3) : powC s j j P = some { P with power := s.extract j e } := by
  unfold powC
  rw [← he, if_neg (by omega)]
  unfold endC
  rw [if_pos ⟨h1, h2⟩]
theorem pwq_no {w : World} {s : ByteArray} {i j e : Nat} {P Q : PtS} (hq : sgnC s (i + 1) P = powC s j j Q) (he : e = runE s j) (h : ¬ (j < e ∧ e = s.size ∧ e - j ≤ 3)) : PwQ w s i P (.returned (.tuple #[.int .i64 0, .bool false])) w := by
  have h0 := powC_no (P := Q) he h
  refine ⟨rfl, fun _ => rfl, fun r hr => ?_⟩
  rw [hq, h0] at hr
  cases hr
theorem pwq_so {w : World} {s : ByteArray} {i j e x : Nat} {P Q : PtS} {z : Int} (hq : sgnC s (i + 1) P = powC s j j Q) (he : e = runE s j) (h1 : j < e) (h2 : e = s.size) (h3 : e - j ≤ 3) (hx : decVal (s.extract j e) (e - j) = x) (hz : (s.extract j e).size = e - j) (hm : z = if Q.minus then -(x : Int) else (x : Int)) : PwQ w s i P (.returned (.tuple #[.int .i64 z, .bool true])) w := by
  have h0 := powC_so (P := Q) he h1 h2 h3
  refine ⟨rfl, fun hn => ?_, fun r hr => ?_⟩
  · rw [hq, h0] at hn
    cases hn
  · rw [hq, h0] at hr
    obtain rfl := Option.some.inj hr
    have : pzI { Q with power := s.extract j e } = z := by
      unfold pzI
      simp only
      rw [hz, hx, hm]
    rw [this]
set_option maxHeartbeats 2000000 in
theorem rpower_e (s : ByteArray) (i : Nat) (P : PtS) (w : World) (hs : s.size ≤ 400) (hi : i < s.size) (he : sb s i = 101) (hP : P.minus = false) : Calls Tryz.prog 76 #[.string s, .int .i64 (i : Int)] w (PwQ w s i P) := by
  have hc := sb_at hi
  rw [he] at hc
  have n0 : ¬ i = s.size := by omega
  obtain ⟨t2, t3⟩ := ne_beq n0
  have i400 : i ≤ 400 := by omega
  have HS : Hid (s.size ≤ 400) := hs
  have HP : Hid (P.minus = false) := hP
  clear he hP
  by_cases g0 : i + 1 < s.size ∧ (sb s (i + 1) = 43 ∨ sb s (i + 1) = 45)
  · obtain ⟨g1, g2⟩ := g0
    have hc1 := sb_at g1
    obtain ⟨j, hj⟩ : ∃ j, j = i + 1 + 1 := ⟨_, rfl⟩
    have HR2 : Hid ((i : Int) + 1 + 1 = (j : Int)) := by show _ = _; omega
    have LE : Hid (j ≤ s.size ∧ s.size ≤ 400) := ⟨by omega, hs⟩
    rcases g2 with g2 | g2
    · have HQ : Hid (sgnC s (i + 1) P = powC s j j { P with minus := false }) := by
        show _ = _
        unfold sgnC isSgn
        rw [hj, g2]
        simp [g1]
      have HN0 : Hid (∀ ee, ee = runE s j → ¬ (j < ee ∧ ee = s.size ∧ ee - j ≤ 3) → PwQ w s i P (.returned (.tuple #[.int .i64 0, .bool false])) w) := fun ee h1 h2 => pwq_no HQ.out h1 h2
      have HY : Hid (∀ ee x, j < ee → ee = s.size → ee - j ≤ 3 → ee = runE s j → decVal (s.extract j ee) (ee - j) = x → (s.extract j ee).size = ee - j → PwQ w s i P (.returned (.tuple #[.int .i64 ((x : Int)), .bool true])) w) := fun ee x h1 h2 h3 h4 h5 h6 => pwq_so HQ.out h4 h1 h2 h3 h5 h6 rfl
      rw [g2] at hc1
      clear g2 hj
      go_enter Tryz.func76, Tryz.ntmps76
      go_wp2_with fail
      rw [HR2.out]
      clear g1 hc1 hc i400 t2 t3 n0
      refine (rrun_any s j _ (by have := LE.out; omega) (by have := LE.out; omega)).mono ?_
      rintro e wx ⟨rfl, hwx⟩
      rw [hwx]
      clear hwx wx
      obtain ⟨ee, hee⟩ : ∃ ee, ee = runE s j := ⟨_, rfl⟩
      have hge := runE_ge s j
      have hle := runE_le (s := s) (i := j) (by have := LE.out; omega)
      rw [← hee] at hge hle
      rw [← hee]
      have HEE : Hid (ee = runE s j) := hee
      have l4 : s.size ≤ 400 := LE.out.2
      have HN : Hid (¬ (j < ee ∧ ee = s.size ∧ ee - j ≤ 3) → PwQ w s i P (.returned (.tuple #[.int .i64 0, .bool false])) w) := fun hh => HN0.out ee HEE.out hh
      by_cases c1 : ee = s.size
      · subst c1
        by_cases c2 : s.size - j < 1
        · have u0 : (s.size : Int) - (j : Int) < 1 := by omega
          have u1 : decide ((s.size : Int) - (j : Int) < 1) = true := decide_eq_true u0
          have HW : Hid (¬ (j < s.size ∧ s.size = s.size ∧ s.size - j ≤ 3)) := fun hh => by omega
          clear c2 hee u0
          go_wp2_with fail
          exact bodyPost_ret (v := .tuple #[.int .i64 0, .bool false]) (by simp [results, Tryz.results76, go_sem]) rfl (HN.out (HW.out))
        · have u0 : ¬ (s.size : Int) - (j : Int) < 1 := by omega
          have u1 : decide ((s.size : Int) - (j : Int) < 1) = false := decide_eq_false u0
          by_cases c3 : 3 < s.size - j
          · have u2 : (3 : Int) < (s.size : Int) - (j : Int) := by omega
            have u3 : decide ((3 : Int) < (s.size : Int) - (j : Int)) = true := decide_eq_true u2
            have HW : Hid (¬ (j < s.size ∧ s.size = s.size ∧ s.size - j ≤ 3)) := fun hh => by omega
            clear c2 c3 hee
            go_wp2_with fail
            exact bodyPost_ret (v := .tuple #[.int .i64 0, .bool false]) (by simp [results, Tryz.results76, go_sem]) rfl (HN.out (HW.out))
          · have u2 : ¬ (3 : Int) < (s.size : Int) - (j : Int) := by omega
            have u3 : decide ((3 : Int) < (s.size : Int) - (j : Int)) = false := decide_eq_false u2
            have HW : Hid ((j < s.size ∧ s.size = s.size ∧ s.size - j ≤ 3)) := ⟨by omega, rfl, by omega⟩
            have HDG : Hid (∀ k, j ≤ k → k < s.size → 48 ≤ sb s k ∧ sb s k ≤ 57) := fun k h1 h2 => sb_dig (by have := LE.out; omega) HEE.out h1 h2
            have HX : Hid (Digits (s.extract j s.size) (s.size - j) ∧ (s.extract j s.size).size = s.size - j) := ⟨fun k hk => by rw [sb_extract (by omega) (by omega)]; exact HDG.out (j + k) (by omega) (by omega), size_ext (by omega)⟩
            clear c2 c3 hee
            go_wp2_with fail
            go_loop [8, 9] (fun v t => ∃ k : Nat, j ≤ k ∧ k ≤ s.size ∧ t = .int .i64 (k : Int) ∧ v = .int .i64 ((decVal (s.extract j s.size) (k - j) : Nat) : Int)) (fun _ t => s.size - (intOf t).toNat)
            case atStart => exact ⟨j, by omega, by omega, rfl, by rw [Nat.sub_self]; rfl⟩
            case round =>
              obtain ⟨k, hk1, hk2, rfl, rfl⟩ := hrel
              by_cases h : k < s.size
              · have hks : k < s.size := by omega
                have hc := sb_at hks
                have hd := HDG.out k hk1 h
                obtain ⟨d, ed⟩ : ∃ d, sb s k = d + 48 := ⟨sb s k - 48, by omega⟩
                obtain ⟨x, ex⟩ : ∃ x, decVal (s.extract j s.size) (k - j) = x := ⟨_, rfl⟩
                obtain ⟨y, ey⟩ : ∃ y, decVal (s.extract j s.size) (k + 1 - j) = y := ⟨_, rfl⟩
                have hy : y = x * 10 + d := by rw [← ey, show k + 1 - j = k - j + 1 by omega, decVal, ex, sb_extract (by omega) (by omega), show j + (k - j) = k by omega, ed]; omega
                have hx : x ≤ 999 := by rw [← ex]; exact decVal_3 (fun q hq => HX.out.1 q (by omega)) (by have := HW.out; omega)
                rw [ex]
                rw [ed] at hc
                have hd9 : d < 10 := by omega
                obtain ⟨e2, e3, e4, e5, e7⟩ := small_m hx hd9 hy
                have HE2 : Hid (decVal (s.extract j s.size) (k + 1 - j) = y) := ey
                have E3 : Hid _ := e3
                clear ex ey hy hx ed hd hd9 u0 u1 u2 u3
                go_wp2_with fail
                go_round
                case rel => exact ⟨k + 1, by omega, by omega, by go_num, by rw [HE2.out, e3]⟩
                case measure => simp [intOf]; omega
              · obtain hks : k = s.size := by omega
                subst hks
                obtain ⟨x, ex⟩ : ∃ x, decVal (s.extract j s.size) (s.size - j) = x := ⟨_, rfl⟩
                have hx : x ≤ 999 := by rw [← ex]; exact decVal_3 HX.out.1 (by have := HW.out; omega)
                have HXE : Hid (decVal (s.extract j s.size) (s.size - j) = x) := ex
                rw [ex]
                have m1 : wrap64 ((x : Int)) = (x : Int) := IntWalk.wrap64_in _ ⟨by omega, by omega⟩
                clear ex hx u0 u1 u2 u3
                go_wp2_with fail
                exact bodyPost_ret (v := .tuple #[.int .i64 ((x : Int)), .bool true]) (by simp [results, Tryz.results76, go_sem]) rfl (HY.out s.size x HW.out.1 rfl HW.out.2.2 HEE.out HXE.out HX.out.2)
      · obtain ⟨t1, t2⟩ := ne_beq c1
        have HW : Hid (¬ (j < ee ∧ ee = s.size ∧ ee - j ≤ 3)) := fun hh => c1 hh.2.1
        go_wp2_with fail
        exact bodyPost_ret (v := .tuple #[.int .i64 0, .bool false]) (by simp [results, Tryz.results76, go_sem]) rfl (HN.out (HW.out))
    · have HQ : Hid (sgnC s (i + 1) P = powC s j j { P with minus := true }) := by
        show _ = _
        unfold sgnC isSgn
        rw [hj, g2]
        simp [g1]
      have HN0 : Hid (∀ ee, ee = runE s j → ¬ (j < ee ∧ ee = s.size ∧ ee - j ≤ 3) → PwQ w s i P (.returned (.tuple #[.int .i64 0, .bool false])) w) := fun ee h1 h2 => pwq_no HQ.out h1 h2
      have HY : Hid (∀ ee x, j < ee → ee = s.size → ee - j ≤ 3 → ee = runE s j → decVal (s.extract j ee) (ee - j) = x → (s.extract j ee).size = ee - j → PwQ w s i P (.returned (.tuple #[.int .i64 (-(x : Int)), .bool true])) w) := fun ee x h1 h2 h3 h4 h5 h6 => pwq_so HQ.out h4 h1 h2 h3 h5 h6 rfl
      rw [g2] at hc1
      clear g2 hj
      go_enter Tryz.func76, Tryz.ntmps76
      go_wp2_with fail
      rw [HR2.out]
      clear g1 hc1 hc i400 t2 t3 n0
      refine (rrun_any s j _ (by have := LE.out; omega) (by have := LE.out; omega)).mono ?_
      rintro e wx ⟨rfl, hwx⟩
      rw [hwx]
      clear hwx wx
      obtain ⟨ee, hee⟩ : ∃ ee, ee = runE s j := ⟨_, rfl⟩
      have hge := runE_ge s j
      have hle := runE_le (s := s) (i := j) (by have := LE.out; omega)
      rw [← hee] at hge hle
      rw [← hee]
      have HEE : Hid (ee = runE s j) := hee
      have l4 : s.size ≤ 400 := LE.out.2
      have HN : Hid (¬ (j < ee ∧ ee = s.size ∧ ee - j ≤ 3) → PwQ w s i P (.returned (.tuple #[.int .i64 0, .bool false])) w) := fun hh => HN0.out ee HEE.out hh
      by_cases c1 : ee = s.size
      · subst c1
        by_cases c2 : s.size - j < 1
        · have u0 : (s.size : Int) - (j : Int) < 1 := by omega
          have u1 : decide ((s.size : Int) - (j : Int) < 1) = true := decide_eq_true u0
          have HW : Hid (¬ (j < s.size ∧ s.size = s.size ∧ s.size - j ≤ 3)) := fun hh => by omega
          clear c2 hee u0
          go_wp2_with fail
          exact bodyPost_ret (v := .tuple #[.int .i64 0, .bool false]) (by simp [results, Tryz.results76, go_sem]) rfl (HN.out (HW.out))
        · have u0 : ¬ (s.size : Int) - (j : Int) < 1 := by omega
          have u1 : decide ((s.size : Int) - (j : Int) < 1) = false := decide_eq_false u0
          by_cases c3 : 3 < s.size - j
          · have u2 : (3 : Int) < (s.size : Int) - (j : Int) := by omega
            have u3 : decide ((3 : Int) < (s.size : Int) - (j : Int)) = true := decide_eq_true u2
            have HW : Hid (¬ (j < s.size ∧ s.size = s.size ∧ s.size - j ≤ 3)) := fun hh => by omega
            clear c2 c3 hee
            go_wp2_with fail
            exact bodyPost_ret (v := .tuple #[.int .i64 0, .bool false]) (by simp [results, Tryz.results76, go_sem]) rfl (HN.out (HW.out))
          · have u2 : ¬ (3 : Int) < (s.size : Int) - (j : Int) := by omega
            have u3 : decide ((3 : Int) < (s.size : Int) - (j : Int)) = false := decide_eq_false u2
            have HW : Hid ((j < s.size ∧ s.size = s.size ∧ s.size - j ≤ 3)) := ⟨by omega, rfl, by omega⟩
            have HDG : Hid (∀ k, j ≤ k → k < s.size → 48 ≤ sb s k ∧ sb s k ≤ 57) := fun k h1 h2 => sb_dig (by have := LE.out; omega) HEE.out h1 h2
            have HX : Hid (Digits (s.extract j s.size) (s.size - j) ∧ (s.extract j s.size).size = s.size - j) := ⟨fun k hk => by rw [sb_extract (by omega) (by omega)]; exact HDG.out (j + k) (by omega) (by omega), size_ext (by omega)⟩
            clear c2 c3 hee
            go_wp2_with fail
            go_loop [8, 9] (fun v t => ∃ k : Nat, j ≤ k ∧ k ≤ s.size ∧ t = .int .i64 (k : Int) ∧ v = .int .i64 ((decVal (s.extract j s.size) (k - j) : Nat) : Int)) (fun _ t => s.size - (intOf t).toNat)
            case atStart => exact ⟨j, by omega, by omega, rfl, by rw [Nat.sub_self]; rfl⟩
            case round =>
              obtain ⟨k, hk1, hk2, rfl, rfl⟩ := hrel
              by_cases h : k < s.size
              · have hks : k < s.size := by omega
                have hc := sb_at hks
                have hd := HDG.out k hk1 h
                obtain ⟨d, ed⟩ : ∃ d, sb s k = d + 48 := ⟨sb s k - 48, by omega⟩
                obtain ⟨x, ex⟩ : ∃ x, decVal (s.extract j s.size) (k - j) = x := ⟨_, rfl⟩
                obtain ⟨y, ey⟩ : ∃ y, decVal (s.extract j s.size) (k + 1 - j) = y := ⟨_, rfl⟩
                have hy : y = x * 10 + d := by rw [← ey, show k + 1 - j = k - j + 1 by omega, decVal, ex, sb_extract (by omega) (by omega), show j + (k - j) = k by omega, ed]; omega
                have hx : x ≤ 999 := by rw [← ex]; exact decVal_3 (fun q hq => HX.out.1 q (by omega)) (by have := HW.out; omega)
                rw [ex]
                rw [ed] at hc
                have hd9 : d < 10 := by omega
                obtain ⟨e2, e3, e4, e5, e7⟩ := small_m hx hd9 hy
                have HE2 : Hid (decVal (s.extract j s.size) (k + 1 - j) = y) := ey
                have E3 : Hid _ := e3
                clear ex ey hy hx ed hd hd9 u0 u1 u2 u3
                go_wp2_with fail
                go_round
                case rel => exact ⟨k + 1, by omega, by omega, by go_num, by rw [HE2.out, e3]⟩
                case measure => simp [intOf]; omega
              · obtain hks : k = s.size := by omega
                subst hks
                obtain ⟨x, ex⟩ : ∃ x, decVal (s.extract j s.size) (s.size - j) = x := ⟨_, rfl⟩
                have hx : x ≤ 999 := by rw [← ex]; exact decVal_3 HX.out.1 (by have := HW.out; omega)
                have HXE : Hid (decVal (s.extract j s.size) (s.size - j) = x) := ex
                rw [ex]
                have m1 : wrap64 (-(x : Int)) = -(x : Int) := IntWalk.wrap64_in _ ⟨by omega, by omega⟩
                clear ex hx u0 u1 u2 u3
                go_wp2_with fail
                exact bodyPost_ret (v := .tuple #[.int .i64 (-(x : Int)), .bool true]) (by simp [results, Tryz.results76, go_sem]) rfl (HY.out s.size x HW.out.1 rfl HW.out.2.2 HEE.out HXE.out HX.out.2)
      · obtain ⟨t1, t2⟩ := ne_beq c1
        have HW : Hid (¬ (j < ee ∧ ee = s.size ∧ ee - j ≤ 3)) := fun hh => c1 hh.2.1
        go_wp2_with fail
        exact bodyPost_ret (v := .tuple #[.int .i64 0, .bool false]) (by simp [results, Tryz.results76, go_sem]) rfl (HN.out (HW.out))
  · obtain ⟨i1, hi1⟩ : ∃ i1, i1 = i + 1 := ⟨_, rfl⟩
    have HR1 : Hid ((i : Int) + 1 = (i1 : Int)) := by show _ = _; omega
    have LE : Hid (i1 ≤ s.size ∧ s.size ≤ 400) := ⟨by omega, hs⟩
    have HQ : Hid (sgnC s (i + 1) P = powC s i1 i1 P) := by
      show _ = _
      unfold sgnC isSgn
      rw [if_neg (by simp; intro h1; have h2 : ¬ (sb s (i + 1) = 43 ∨ sb s (i + 1) = 45) := fun h2 => g0 ⟨h1, h2⟩; omega), hi1]
    have HN0 : Hid (∀ ee, ee = runE s i1 → ¬ (i1 < ee ∧ ee = s.size ∧ ee - i1 ≤ 3) → PwQ w s i P (.returned (.tuple #[.int .i64 0, .bool false])) w) := fun ee h1 h2 => pwq_no HQ.out h1 h2
    have HY : Hid (∀ ee x, i1 < ee → ee = s.size → ee - i1 ≤ 3 → ee = runE s i1 → decVal (s.extract i1 ee) (ee - i1) = x → (s.extract i1 ee).size = ee - i1 → PwQ w s i P (.returned (.tuple #[.int .i64 ((x : Int)), .bool true])) w) := fun ee x h1 h2 h3 h4 h5 h6 => pwq_so HQ.out h4 h1 h2 h3 h5 h6 (by rw [HP.out]; rfl)
    clear hi1
    by_cases g1 : i + 1 < s.size
    · have hc1 := sb_at g1
      have m43 : ¬ sb s (i + 1) = 43 := fun e => g0 ⟨g1, .inl e⟩
      have m45 : ¬ sb s (i + 1) = 45 := fun e => g0 ⟨g1, .inr e⟩
      obtain ⟨x1, x2⟩ := ne_sb (x := sb s (i + 1)) (y := 43) (by omega)
      obtain ⟨x3, x4⟩ := ne_sb (x := sb s (i + 1)) (y := 45) (by omega)
      clear g0
      go_enter Tryz.func76, Tryz.ntmps76
      go_wp2_with fail
      rw [HR1.out]
      clear g1 hc1 hc i400 t2 t3 n0 m43 m45 x1 x2 x3 x4
      refine (rrun_any s i1 _ (by have := LE.out; omega) (by have := LE.out; omega)).mono ?_
      rintro e wx ⟨rfl, hwx⟩
      rw [hwx]
      clear hwx wx
      obtain ⟨ee, hee⟩ : ∃ ee, ee = runE s i1 := ⟨_, rfl⟩
      have hge := runE_ge s i1
      have hle := runE_le (s := s) (i := i1) (by have := LE.out; omega)
      rw [← hee] at hge hle
      rw [← hee]
      have HEE : Hid (ee = runE s i1) := hee
      have l4 : s.size ≤ 400 := LE.out.2
      have HN : Hid (¬ (i1 < ee ∧ ee = s.size ∧ ee - i1 ≤ 3) → PwQ w s i P (.returned (.tuple #[.int .i64 0, .bool false])) w) := fun hh => HN0.out ee HEE.out hh
      by_cases c1 : ee = s.size
      · subst c1
        by_cases c2 : s.size - i1 < 1
        · have u0 : (s.size : Int) - (i1 : Int) < 1 := by omega
          have u1 : decide ((s.size : Int) - (i1 : Int) < 1) = true := decide_eq_true u0
          have HW : Hid (¬ (i1 < s.size ∧ s.size = s.size ∧ s.size - i1 ≤ 3)) := fun hh => by omega
          clear c2 hee u0
          go_wp2_with fail
          exact bodyPost_ret (v := .tuple #[.int .i64 0, .bool false]) (by simp [results, Tryz.results76, go_sem]) rfl (HN.out (HW.out))
        · have u0 : ¬ (s.size : Int) - (i1 : Int) < 1 := by omega
          have u1 : decide ((s.size : Int) - (i1 : Int) < 1) = false := decide_eq_false u0
          by_cases c3 : 3 < s.size - i1
          · have u2 : (3 : Int) < (s.size : Int) - (i1 : Int) := by omega
            have u3 : decide ((3 : Int) < (s.size : Int) - (i1 : Int)) = true := decide_eq_true u2
            have HW : Hid (¬ (i1 < s.size ∧ s.size = s.size ∧ s.size - i1 ≤ 3)) := fun hh => by omega
            clear c2 c3 hee
            go_wp2_with fail
            exact bodyPost_ret (v := .tuple #[.int .i64 0, .bool false]) (by simp [results, Tryz.results76, go_sem]) rfl (HN.out (HW.out))
          · have u2 : ¬ (3 : Int) < (s.size : Int) - (i1 : Int) := by omega
            have u3 : decide ((3 : Int) < (s.size : Int) - (i1 : Int)) = false := decide_eq_false u2
            have HW : Hid ((i1 < s.size ∧ s.size = s.size ∧ s.size - i1 ≤ 3)) := ⟨by omega, rfl, by omega⟩
            have HDG : Hid (∀ k, i1 ≤ k → k < s.size → 48 ≤ sb s k ∧ sb s k ≤ 57) := fun k h1 h2 => sb_dig (by have := LE.out; omega) HEE.out h1 h2
            have HX : Hid (Digits (s.extract i1 s.size) (s.size - i1) ∧ (s.extract i1 s.size).size = s.size - i1) := ⟨fun k hk => by rw [sb_extract (by omega) (by omega)]; exact HDG.out (i1 + k) (by omega) (by omega), size_ext (by omega)⟩
            clear c2 c3 hee
            go_wp2_with fail
            go_loop [8, 9] (fun v t => ∃ k : Nat, i1 ≤ k ∧ k ≤ s.size ∧ t = .int .i64 (k : Int) ∧ v = .int .i64 ((decVal (s.extract i1 s.size) (k - i1) : Nat) : Int)) (fun _ t => s.size - (intOf t).toNat)
            case atStart => exact ⟨i1, by omega, by omega, rfl, by rw [Nat.sub_self]; rfl⟩
            case round =>
              obtain ⟨k, hk1, hk2, rfl, rfl⟩ := hrel
              by_cases h : k < s.size
              · have hks : k < s.size := by omega
                have hc := sb_at hks
                have hd := HDG.out k hk1 h
                obtain ⟨d, ed⟩ : ∃ d, sb s k = d + 48 := ⟨sb s k - 48, by omega⟩
                obtain ⟨x, ex⟩ : ∃ x, decVal (s.extract i1 s.size) (k - i1) = x := ⟨_, rfl⟩
                obtain ⟨y, ey⟩ : ∃ y, decVal (s.extract i1 s.size) (k + 1 - i1) = y := ⟨_, rfl⟩
                have hy : y = x * 10 + d := by rw [← ey, show k + 1 - i1 = k - i1 + 1 by omega, decVal, ex, sb_extract (by omega) (by omega), show i1 + (k - i1) = k by omega, ed]; omega
                have hx : x ≤ 999 := by rw [← ex]; exact decVal_3 (fun q hq => HX.out.1 q (by omega)) (by have := HW.out; omega)
                rw [ex]
                rw [ed] at hc
                have hd9 : d < 10 := by omega
                obtain ⟨e2, e3, e4, e5, e7⟩ := small_m hx hd9 hy
                have HE2 : Hid (decVal (s.extract i1 s.size) (k + 1 - i1) = y) := ey
                have E3 : Hid _ := e3
                clear ex ey hy hx ed hd hd9 u0 u1 u2 u3
                go_wp2_with fail
                go_round
                case rel => exact ⟨k + 1, by omega, by omega, by go_num, by rw [HE2.out, e3]⟩
                case measure => simp [intOf]; omega
              · obtain hks : k = s.size := by omega
                subst hks
                obtain ⟨x, ex⟩ : ∃ x, decVal (s.extract i1 s.size) (s.size - i1) = x := ⟨_, rfl⟩
                have hx : x ≤ 999 := by rw [← ex]; exact decVal_3 HX.out.1 (by have := HW.out; omega)
                have HXE : Hid (decVal (s.extract i1 s.size) (s.size - i1) = x) := ex
                rw [ex]
                have m1 : wrap64 ((x : Int)) = (x : Int) := IntWalk.wrap64_in _ ⟨by omega, by omega⟩
                clear ex hx u0 u1 u2 u3
                go_wp2_with fail
                exact bodyPost_ret (v := .tuple #[.int .i64 ((x : Int)), .bool true]) (by simp [results, Tryz.results76, go_sem]) rfl (HY.out s.size x HW.out.1 rfl HW.out.2.2 HEE.out HXE.out HX.out.2)
      · obtain ⟨t1, t2⟩ := ne_beq c1
        have HW : Hid (¬ (i1 < ee ∧ ee = s.size ∧ ee - i1 ≤ 3)) := fun hh => c1 hh.2.1
        go_wp2_with fail
        exact bodyPost_ret (v := .tuple #[.int .i64 0, .bool false]) (by simp [results, Tryz.results76, go_sem]) rfl (HN.out (HW.out))
    · clear g0
      go_enter Tryz.func76, Tryz.ntmps76
      go_wp2_with fail
      rw [HR1.out]
      clear g1 hc i400 t2 t3 n0
      refine (rrun_any s i1 _ (by have := LE.out; omega) (by have := LE.out; omega)).mono ?_
      rintro e wx ⟨rfl, hwx⟩
      rw [hwx]
      clear hwx wx
      obtain ⟨ee, hee⟩ : ∃ ee, ee = runE s i1 := ⟨_, rfl⟩
      have hge := runE_ge s i1
      have hle := runE_le (s := s) (i := i1) (by have := LE.out; omega)
      rw [← hee] at hge hle
      rw [← hee]
      have HEE : Hid (ee = runE s i1) := hee
      have l4 : s.size ≤ 400 := LE.out.2
      have HN : Hid (¬ (i1 < ee ∧ ee = s.size ∧ ee - i1 ≤ 3) → PwQ w s i P (.returned (.tuple #[.int .i64 0, .bool false])) w) := fun hh => HN0.out ee HEE.out hh
      by_cases c1 : ee = s.size
      · subst c1
        by_cases c2 : s.size - i1 < 1
        · have u0 : (s.size : Int) - (i1 : Int) < 1 := by omega
          have u1 : decide ((s.size : Int) - (i1 : Int) < 1) = true := decide_eq_true u0
          have HW : Hid (¬ (i1 < s.size ∧ s.size = s.size ∧ s.size - i1 ≤ 3)) := fun hh => by omega
          clear c2 hee u0
          go_wp2_with fail
          exact bodyPost_ret (v := .tuple #[.int .i64 0, .bool false]) (by simp [results, Tryz.results76, go_sem]) rfl (HN.out (HW.out))
        · have u0 : ¬ (s.size : Int) - (i1 : Int) < 1 := by omega
          have u1 : decide ((s.size : Int) - (i1 : Int) < 1) = false := decide_eq_false u0
          by_cases c3 : 3 < s.size - i1
          · have u2 : (3 : Int) < (s.size : Int) - (i1 : Int) := by omega
            have u3 : decide ((3 : Int) < (s.size : Int) - (i1 : Int)) = true := decide_eq_true u2
            have HW : Hid (¬ (i1 < s.size ∧ s.size = s.size ∧ s.size - i1 ≤ 3)) := fun hh => by omega
            clear c2 c3 hee
            go_wp2_with fail
            exact bodyPost_ret (v := .tuple #[.int .i64 0, .bool false]) (by simp [results, Tryz.results76, go_sem]) rfl (HN.out (HW.out))
          · have u2 : ¬ (3 : Int) < (s.size : Int) - (i1 : Int) := by omega
            have u3 : decide ((3 : Int) < (s.size : Int) - (i1 : Int)) = false := decide_eq_false u2
            have HW : Hid ((i1 < s.size ∧ s.size = s.size ∧ s.size - i1 ≤ 3)) := ⟨by omega, rfl, by omega⟩
            have HDG : Hid (∀ k, i1 ≤ k → k < s.size → 48 ≤ sb s k ∧ sb s k ≤ 57) := fun k h1 h2 => sb_dig (by have := LE.out; omega) HEE.out h1 h2
            have HX : Hid (Digits (s.extract i1 s.size) (s.size - i1) ∧ (s.extract i1 s.size).size = s.size - i1) := ⟨fun k hk => by rw [sb_extract (by omega) (by omega)]; exact HDG.out (i1 + k) (by omega) (by omega), size_ext (by omega)⟩
            clear c2 c3 hee
            go_wp2_with fail
            go_loop [8, 9] (fun v t => ∃ k : Nat, i1 ≤ k ∧ k ≤ s.size ∧ t = .int .i64 (k : Int) ∧ v = .int .i64 ((decVal (s.extract i1 s.size) (k - i1) : Nat) : Int)) (fun _ t => s.size - (intOf t).toNat)
            case atStart => exact ⟨i1, by omega, by omega, rfl, by rw [Nat.sub_self]; rfl⟩
            case round =>
              obtain ⟨k, hk1, hk2, rfl, rfl⟩ := hrel
              by_cases h : k < s.size
              · have hks : k < s.size := by omega
                have hc := sb_at hks
                have hd := HDG.out k hk1 h
                obtain ⟨d, ed⟩ : ∃ d, sb s k = d + 48 := ⟨sb s k - 48, by omega⟩
                obtain ⟨x, ex⟩ : ∃ x, decVal (s.extract i1 s.size) (k - i1) = x := ⟨_, rfl⟩
                obtain ⟨y, ey⟩ : ∃ y, decVal (s.extract i1 s.size) (k + 1 - i1) = y := ⟨_, rfl⟩
                have hy : y = x * 10 + d := by rw [← ey, show k + 1 - i1 = k - i1 + 1 by omega, decVal, ex, sb_extract (by omega) (by omega), show i1 + (k - i1) = k by omega, ed]; omega
                have hx : x ≤ 999 := by rw [← ex]; exact decVal_3 (fun q hq => HX.out.1 q (by omega)) (by have := HW.out; omega)
                rw [ex]
                rw [ed] at hc
                have hd9 : d < 10 := by omega
                obtain ⟨e2, e3, e4, e5, e7⟩ := small_m hx hd9 hy
                have HE2 : Hid (decVal (s.extract i1 s.size) (k + 1 - i1) = y) := ey
                have E3 : Hid _ := e3
                clear ex ey hy hx ed hd hd9 u0 u1 u2 u3
                go_wp2_with fail
                go_round
                case rel => exact ⟨k + 1, by omega, by omega, by go_num, by rw [HE2.out, e3]⟩
                case measure => simp [intOf]; omega
              · obtain hks : k = s.size := by omega
                subst hks
                obtain ⟨x, ex⟩ : ∃ x, decVal (s.extract i1 s.size) (s.size - i1) = x := ⟨_, rfl⟩
                have hx : x ≤ 999 := by rw [← ex]; exact decVal_3 HX.out.1 (by have := HW.out; omega)
                have HXE : Hid (decVal (s.extract i1 s.size) (s.size - i1) = x) := ex
                rw [ex]
                have m1 : wrap64 ((x : Int)) = (x : Int) := IntWalk.wrap64_in _ ⟨by omega, by omega⟩
                clear ex hx u0 u1 u2 u3
                go_wp2_with fail
                exact bodyPost_ret (v := .tuple #[.int .i64 ((x : Int)), .bool true]) (by simp [results, Tryz.results76, go_sem]) rfl (HY.out s.size x HW.out.1 rfl HW.out.2.2 HEE.out HXE.out HX.out.2)
      · obtain ⟨t1, t2⟩ := ne_beq c1
        have HW : Hid (¬ (i1 < ee ∧ ee = s.size ∧ ee - i1 ≤ 3)) := fun hh => c1 hh.2.1
        go_wp2_with fail
        exact bodyPost_ret (v := .tuple #[.int .i64 0, .bool false]) (by simp [results, Tryz.results76, go_sem]) rfl (HN.out (HW.out))
end Go.Proofs.YtpeimefangpnaaaGreatDoor

