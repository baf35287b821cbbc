/- Contracts of the program's functions, part 23: own work, joined in build order. -/
import Derived.Test.YtmiiaomdenpceaaGreatDoorJ22
import Derived.Laws.Cover1
import Derived.Handy
import Derived.Deep.Cut
namespace Go.Proofs.YtmiiaomdenpceaaGreatDoor
open Go.RowKit
set_option maxRecDepth 100000
set_option linter.unusedVariables false
theorem endC_some {s : ByteArray} {i f : Nat} {p r : PtS} (h : endC s i f p = some r) : r = p ∧ f < i ∧ i = s.size := by
  unfold endC at h
  split at h
  · rename_i hh
    exact ⟨(Option.some.inj h).symm, hh⟩
  · cases h
theorem em_dig : Digits em em.size := fun i hi => by
  have : em.size = 0 := rfl
  omega
/-- So far the parts are runs of digits within the first i bytes. -/
structure Sofar (s : ByteArray) (p : PtS) (i : Nat) : Prop where
  w0 : 0 < p.whole.size
  dw : Digits p.whole p.whole.size
  dp : Digits p.places p.places.size
  db : Digits p.below p.below.size
  dx : Digits p.power p.power.size
  sz : p.whole.size + p.places.size ≤ i
  sb : p.below.size ≤ s.size
  sx : p.power.size ≤ 3
theorem powC_good {s : ByteArray} {i : Nat} {p r : PtS} (hs : s.size ≤ 400) (hi : i ≤ s.size) (g : Sofar s p i) (h : powC s i i p = some r) : GoodP r := by
  unfold powC at h
  split at h
  · cases h
  · rename_i h3
    obtain ⟨rfl, h1, h2⟩ := endC_some h
    have hz := size_ext (s := s) (a := i) (b := runE s i) (runE_le hi)
    exact ⟨g.w0, g.dw, g.dp, g.db, dig_ext hi, by have := g.sz; simp only; omega, by have := g.sb; simp only; omega, by simp only; rw [hz]; omega⟩
theorem sgnC_good {s : ByteArray} {i : Nat} {p r : PtS} (hs : s.size ≤ 400) (hi : i ≤ s.size) (g : Sofar s p i) (h : sgnC s i p = some r) : GoodP r := by
  unfold sgnC at h
  split at h
  · rename_i hc
    have : i < s.size := by unfold isSgn at hc; simp at hc; exact hc.1
    exact powC_good (p := { p with minus := sb s i == 45 }) hs this ⟨g.w0, g.dw, g.dp, g.db, g.dx, Nat.le_succ_of_le g.sz, g.sb, g.sx⟩ h
  · exact powC_good hs hi g h
theorem em_le (n : Nat) : em.size ≤ n := by rw [show em.size = 0 from rfl]; omega
theorem sofar_mk {s A B : ByteArray} {i : Nat} (hA : 0 < A.size) (dA : Digits A A.size) (dB : Digits B B.size) (hz : A.size + B.size ≤ i) : Sofar s ⟨A, em, B, em, false⟩ i :=
  ⟨hA, dA, dB, em_dig, em_dig, hz, em_le _, em_le _⟩
theorem good_mk {A B C : ByteArray} (hA : 0 < A.size) (dA : Digits A A.size) (dB : Digits B B.size) (dC : Digits C C.size) (hz : A.size + B.size ≤ 400) (hc : C.size ≤ 400) : GoodP ⟨A, C, B, em, false⟩ :=
  ⟨hA, dA, dB, dC, em_dig, hz, hc, em_le _⟩
theorem cutP_good {s : ByteArray} {r : PtS} (hs : s.size ≤ 400) (h : cutP s = some r) : GoodP r := by
  unfold cutP whoC at h
  have l0 := runE_le (s := s) (i := 0) (Nat.zero_le _)
  have z0 := size_ext (s := s) (a := 0) (b := runE s 0) l0
  have d0 := dig_ext (s := s) (i := 0) (Nat.zero_le _)
  have E : em.size = 0 := rfl
  generalize runE s 0 = i0 at *
  generalize s.extract 0 i0 = A at *
  split at h
  · obtain ⟨rfl, h1, h2⟩ := endC_some h
    exact good_mk (A := A) (B := em) (C := em) (by omega) d0 em_dig em_dig (by omega) (em_le _)
  · rename_i hc
    have n0 : ¬ i0 = 0 := fun e => hc (.inl e)
    have n1 : ¬ i0 = s.size := fun e => hc (.inr e)
    have l1 : i0 + 1 ≤ s.size := by omega
    have l2 := runE_le l1
    have z1 := size_ext (s := s) (a := i0 + 1) (b := runE s (i0 + 1)) l2
    have d1 := dig_ext l1
    have ge1 := runE_ge s (i0 + 1)
    unfold belC plaC at h
    generalize runE s (i0 + 1) = i1 at *
    generalize s.extract (i0 + 1) i1 = B at *
    have W0 : 0 < A.size := by omega
    split at h
    · obtain ⟨rfl, h1, h2⟩ := endC_some h
      exact good_mk (A := A) (B := em) (C := B) W0 d0 em_dig d1 (by omega) (by omega)
    · split at h
      · split at h
        · obtain ⟨rfl, h1, h2⟩ := endC_some h
          exact good_mk (A := A) (B := B) (C := em) W0 d0 d1 em_dig (by omega) (em_le _)
        · rename_i hc2
          have n2 : ¬ i1 = s.size := fun e => hc2 (.inr (.inl e))
          exact sgnC_good hs (by omega) (sofar_mk (A := A) (B := B) W0 d0 d1 (by omega)) h
      · split at h
        · exact sgnC_good hs l1 (sofar_mk (A := A) (B := em) W0 d0 em_dig (by omega)) h
        · cases h
theorem value_all (p : PtS) (w : World) (hg : GoodP p) (hT : Tab w) : Calls Tryz.prog 81 #[PAgg p] w (MakesV w p) := by
  by_cases h : p.below.size = 0
  · exact value_pow p w hg h hT
  · exact value_below p w hg h hT
/-- What Parse tells of a text. -/
def npOk (s : ByteArray) : Bool := decide (s.size ≤ 400) && (match cutP s with | some p => !decide (vD p = 0) | none => false)
def npP (s : ByteArray) : Nat := if npOk s then (match cutP s with | some p => vN p / Nat.gcd (vN p) (vD p) | none => 0) else 0
def npQ (s : ByteArray) : Nat := if npOk s then (match cutP s with | some p => vD p / Nat.gcd (vN p) (vD p) | none => 1) else 1
def npE (s : ByteArray) : Int := if npOk s then 0 else 30
def MakesP (w : World) (s : ByteArray) (e : Ending) (w' : World) : Prop := ∃ v, e = .returned (.tuple #[v, .int .i64 (npE s)]) ∧ Rt w' v (npP s) (npQ s) ∧ Below w.heap.size w w'
theorem np_no {s : ByteArray} (h : npOk s = false) : npP s = 0 ∧ npQ s = 1 ∧ npE s = 30 := by
  unfold npP npQ npE
  rw [h]
  exact ⟨rfl, rfl, rfl⟩
theorem np_yes {s : ByteArray} {p : PtS} (h1 : s.size ≤ 400) (h2 : cutP s = some p) (h3 : ¬ vD p = 0) : npP s = vN p / Nat.gcd (vN p) (vD p) ∧ npQ s = vD p / Nat.gcd (vN p) (vD p) ∧ npE s = 0 := by
  have h : npOk s = true := by unfold npOk; rw [h2]; simp [h1, h3]
  unfold npP npQ npE
  rw [h, h2]
  exact ⟨rfl, rfl, rfl⟩
set_option maxHeartbeats 1000000 in
theorem nparse_any (s : ByteArray) (w : World) (hs : s.size ≤ 9223372036854775807) (hT : Tab w) : Calls Tryz.prog 35 #[.string s] w (MakesP w s) := by
  have HT : Hid (Tab w) := hT
  have S0 : Hid _ := (sy_start w).box (.slice none 0 0) (.slice none 0 0) 28 _ rfl
  obtain ⟨b, hb⟩ : ∃ b, b = w.heap.size := ⟨_, rfl⟩
  obtain ⟨w0, hw0⟩ : ∃ w0, w0 = w.alloc (.cells #[.slice none 0 0, .slice none 0 0] 28) := ⟨_, rfl⟩
  rw [← hw0, ← hb] at S0
  clear hT
  by_cases h4 : 400 < s.size
  · have HV : Hid (npP s = 0 ∧ npQ s = 1 ∧ npE s = 30) := np_no (by unfold npOk; simp; omega)
    have t1 : decide (400 < (s.size : Int)) = true := decide_eq_true (by omega)
    go_enter Tryz.func35, Tryz.ntmps35
    go_wp2_with fail
    refine bodyPost_ret (v := .tuple #[.agg #[.slice none 0 0, .slice none 0 0], .int .i64 30]) (by simp [results, Tryz.results35, go_sem]) rfl ?_
    unfold MakesP
    rw [HV.out.1, HV.out.2.1, HV.out.2.2]
    exact ⟨_, rfl, rt_zero _, bel_al (bel_refl w)⟩
  · have HS : Hid (s.size ≤ 400) := by show _ ≤ _; omega
    have t1 : decide (400 < (s.size : Int)) = false := decide_eq_false (by omega)
    have n1 : ¬ 400 < s.size := h4
    clear h4
    go_enter Tryz.func35, Tryz.ntmps35
    go_wp2_with fail
    rw [← hw0, ← hb]
    clear hw0 hb
    refine (ncut_any s _ HS.out).mono ?_
    rintro e w1 ⟨p, ok, rfl, hc, hb1⟩
    have S1 : Hid _ := S0.out.go hb1
    clear hb1 S0
    cases ok with
    | false =>
      have HV : Hid (npP s = 0 ∧ npQ s = 1 ∧ npE s = 30) := np_no (by unfold npOk; rw [hc]; simp)
      clear hc
      have S2 : Hid _ := S1.out.go (w' := w1.alloc (.cells #[.string p.whole, .string p.below, .string p.places, .string p.power, .bool p.minus] 117)) (bel_al (bel_refl _))
      clear S1
      have S9 := S2.out
      have x0 := S9.cel b 0 (.slice none 0 0)
      have x1 := S9.cel b 1 (.slice none 0 0)
      have f0 := S9.fz b 0
      have f1 := S9.fz b 1
      have Z : Hid _ := rat_put (w0 := w) (v := .slice none 0 0) (u := .slice none 0 0) x0 x1 (rt_zero _) S9.bel (S9.lo b)
      clear S9
      go_wp2_with fail
      refine bodyPost_ret (v := .tuple #[.agg #[.slice none 0 0, .slice none 0 0], .int .i64 30]) (by simp [results, Tryz.results35, go_sem, x0, x1]) rfl ?_
      unfold MakesP
      rw [HV.out.1, HV.out.2.1, HV.out.2.2]
      exact ⟨_, rfl, Z.out.1, Z.out.2⟩
    | true =>
      have HC : Hid (cutP s = some p) := hc
      have HG : Hid (GoodP p) := cutP_good HS.out HC.out
      clear hc
      have S2 : Hid _ := S1.out.go (w' := w1.alloc (.cells #[.string p.whole, .string p.below, .string p.places, .string p.power, .bool p.minus] 117)) (bel_al (bel_refl _))
      have k0 : (w1.alloc (.cells #[.string p.whole, .string p.below, .string p.places, .string p.power, .bool p.minus] 117)).cell? ⟨w1.heap.size, 0, none⟩ = some (.string p.whole) := by simp [go_sem]
      clear S1
      go_wp2_with fail
      refine (value_all p _ HG.out (HT.out.go S2.out.bel)).mono ?_
      intro e w3 hV
      unfold MakesV at hV
      by_cases hz : vD p = 0
      · rw [if_pos hz] at hV
        obtain ⟨v3, rfl, hv3, hb3⟩ := hV
        obtain ⟨a5, n5, c5, a6, n6, c6, ev, _, _⟩ := hv3.raw
        subst ev
        have HV : Hid (npP s = 0 ∧ npQ s = 1 ∧ npE s = 30) := np_no (by unfold npOk; rw [HC.out]; simp [hz])
        have S3 : Hid _ := (S2.out.go hb3).go (w' := w3.alloc (.cells #[.slice a5 n5 c5, .slice a6 n6 c6] 28)) (bel_al (bel_refl _))
        clear hv3 hb3 S2 k0 hz
        have S9 := S3.out
        have x0 := S9.cel b 0 (.slice none 0 0)
        have x1 := S9.cel b 1 (.slice none 0 0)
        have f0 := S9.fz b 0
        have f1 := S9.fz b 1
        have Z : Hid _ := rat_put (w0 := w) (v := .slice none 0 0) (u := .slice none 0 0) x0 x1 (rt_zero _) S9.bel (S9.lo b)
        clear S9
        go_wp2_with fail
        refine bodyPost_ret (v := .tuple #[.agg #[.slice none 0 0, .slice none 0 0], .int .i64 30]) (by simp [results, Tryz.results35, go_sem, x0, x1]) rfl ?_
        unfold MakesP
        rw [HV.out.1, HV.out.2.1, HV.out.2.2]
        exact ⟨_, rfl, Z.out.1, Z.out.2⟩
      · rw [if_neg hz] at hV
        obtain ⟨v3, rfl, hv3, hb3⟩ := hV
        obtain ⟨a5, n5, c5, a6, n6, c6, ev, _, _⟩ := hv3.raw
        subst ev
        have HV : Hid (npP s = vN p / Nat.gcd (vN p) (vD p) ∧ npQ s = vD p / Nat.gcd (vN p) (vD p) ∧ npE s = 0) := np_yes HS.out HC.out hz
        have S3 : Hid _ := ((S2.out.go hb3).addF hv3).go (w' := w3.alloc (.cells #[.slice a5 n5 c5, .slice a6 n6 c6] 28)) (bel_al (bel_refl _))
        have y0 : (w3.alloc (.cells #[.slice a5 n5 c5, .slice a6 n6 c6] 28)).cell? ⟨w3.heap.size, 0, none⟩ = some (.slice a5 n5 c5) := by simp [go_sem]
        have y1 : (w3.alloc (.cells #[.slice a5 n5 c5, .slice a6 n6 c6] 28)).cell? ⟨w3.heap.size, 1, none⟩ = some (.slice a6 n6 c6) := by simp [go_sem]
        clear hv3 hb3 S2 k0 hz
        have S9 := S3.out
        have x0 := S9.cel b 0 (.slice none 0 0)
        have x1 := S9.cel b 1 (.slice none 0 0)
        have f0 := S9.fz b 0
        have f1 := S9.fz b 1
        have Z : Hid _ := rat_put (w0 := w) (v := .slice a5 n5 c5) (u := .slice a6 n6 c6) x0 x1 (S9.fr (.agg #[.slice a5 n5 c5, .slice a6 n6 c6]) (vN p / Nat.gcd (vN p) (vD p)) (vD p / Nat.gcd (vN p) (vD p))) S9.bel (S9.lo b)
        clear S9
        go_wp2_with fail
        refine bodyPost_ret (v := .tuple #[.agg #[.slice a5 n5 c5, .slice a6 n6 c6], .int .i64 0]) (by simp [results, Tryz.results35, go_sem, x0, x1]) rfl ?_
        unfold MakesP
        rw [HV.out.1, HV.out.2.1, HV.out.2.2]
        exact ⟨_, rfl, Z.out.1, Z.out.2⟩
end Go.Proofs.YtmiiaomdenpceaaGreatDoor

namespace Go.Proofs.YtmiiaomdenpceaaGreatDoor
open Go.RowKit
set_option maxRecDepth 100000
set_option linter.unusedVariables false
theorem SY.rret1 {w0 w : World} {N M : List (Value × Nat)} {F G : List (Value × Nat × Nat)} {C : List (Nat × Nat × Value)} {Z : List Nat} (h : SY w0 w N M F G C Z) {r : Nat} {v : Value} {x : Nat} (hc : w.cell? ⟨r, 0, none⟩ = some (.slice none 0 0)) (hz : r ∈ Z) (hv : RNat w v x) (u : Value) : RNat (w.setCell ⟨r, 0, none⟩ u) v x ∧ Below w0.heap.size w0 (w.setCell ⟨r, 0, none⟩ u) :=
  ⟨hv.setCell (no_int_slice hc) u, h.bel.setCell (p := ⟨r, 0, none⟩) (h.lo r hz) u⟩
end Go.Proofs.YtmiiaomdenpceaaGreatDoor

namespace Go.Proofs.YtmiiaomdenpceaaGreatDoor
open Go.RowKit
set_option maxRecDepth 100000
set_option linter.unusedVariables false
/-- How far two numbers are from one another. -/
def dst (a b : Nat) : Nat := (a - b) + (b - a)
end Go.Proofs.YtmiiaomdenpceaaGreatDoor

namespace Go.Proofs.YtmiiaomdenpceaaGreatDoor
open Go.RowKit
set_option linter.unusedVariables false
end Go.Proofs.YtmiiaomdenpceaaGreatDoor

namespace Go.Proofs.YtmiiaomdenpceaaGreatDoor
open Go.RowKit
set_option maxRecDepth 100000
set_option linter.unusedVariables false
theorem i64_and1023n (n : Int) : bits .and .i64 n 1023 = n % 1024 := by
  have h127 : (BitVec.ofInt 64 1023).toNat = 2 ^ 10 - 1 := by decide
  have key : (BitVec.ofInt 64 n &&& BitVec.ofInt 64 1023).toNat = (n % ((2 ^ 64 : Nat) : Int)).toNat % 2 ^ 10 := by
    rw [BitVec.toNat_and, BitVec.toNat_ofInt, h127, Nat.and_two_pow_sub_one_eq_mod]
  show IntKind.i64.wrap ((BitVec.ofInt 64 n &&& BitVec.ofInt 64 1023).toNat : Nat) = n % 1024
  rw [key, IntKind.wrap_i64]
  omega
theorem and1023_ex (z : Int) : ∃ m : Nat, m ≤ 1023 ∧ bits .and .i64 z 1023 = (m : Int) := ⟨(z % 1024).toNat, by omega, by rw [i64_and1023n]; omega⟩
end Go.Proofs.YtmiiaomdenpceaaGreatDoor

namespace Go.Proofs.YtmiiaomdenpceaaGreatDoor
open Go.RowKit
set_option maxRecDepth 100000
set_option linter.unusedVariables false
end Go.Proofs.YtmiiaomdenpceaaGreatDoor

namespace Go.Proofs.YtmiiaomdenpceaaGreatDoor
open Go.RowKit
set_option maxRecDepth 100000
set_option linter.unusedVariables false
theorem cmpI_zero {x y : Nat} : cmpI x y = 0 ↔ x = y := by
  unfold cmpI
  split
  · constructor <;> intro h <;> omega
  · split
    · constructor <;> intro h <;> omega
    · constructor <;> intro h <;> omega
end Go.Proofs.YtmiiaomdenpceaaGreatDoor

namespace Go.Proofs.YtmiiaomdenpceaaGreatDoor
open Go.RowKit
set_option maxRecDepth 100000
set_option linter.unusedVariables false
/-- Is it rounded up? -/
def upB (X q : Nat) : Bool := decide (q < 2 * (X % q)) || (decide (2 * (X % q) = q) && decide (X / q % 2 = 1))
theorem near_up (X q : Nat) : nearN X q = if upB X q then X / q + 1 else X / q := by
  unfold nearN upB
  by_cases h1 : 2 * (X % q) < q
  · rw [if_pos h1, decide_eq_false (by omega), decide_eq_false (by omega)]
    rfl
  · rw [if_neg h1]
    by_cases h2 : 2 * (X % q) = q
    · rw [decide_eq_false (by omega), decide_eq_true h2]
      by_cases h3 : X / q % 2 = 0
      · rw [if_pos ⟨h2, h3⟩, decide_eq_false (by omega)]
        rfl
      · rw [if_neg (by omega), decide_eq_true (by omega)]
        rfl
    · rw [if_neg (by omega), decide_eq_true (by omega)]
      rfl
end Go.Proofs.YtmiiaomdenpceaaGreatDoor

namespace Go.Proofs.YtmiiaomdenpceaaGreatDoor
open Go.RowKit
set_option maxRecDepth 100000
set_option linter.unusedVariables false
/-- What at tells: the whole part, and how what is left stands to a half. -/
def atH (U N : Nat) : Int := if U % N = 0 then -2 else cmpI (U % N * 2) N
def MakesA (w : World) (m : Nat) (z : Int) (e : Ending) (w' : World) : Prop := ∃ v, e = .returned (.tuple #[v, .int .i64 z]) ∧ RNat w' v m ∧ Below w.heap.size w w'
set_option maxHeartbeats 1000000 in
theorem rat3_any (v : Value) (p q : Nat) (ee : Int) (w : World) (h : RRt w v p q) (hp : RS p) (hq : RS q) (hq0 : 0 < q) (h1 : -5000 ≤ ee) (h2 : ee ≤ 5750) :
    Calls Tryz.prog 50 #[v, .int .i64 ee] w (MakesA w (upN p ee / dnN q ee) (atH (upN p ee) (dnN q ee))) := by
  obtain ⟨a1, n1, c1, a2, n2, c2, e0, hP, hQ⟩ := h
  subst e0
  obtain ⟨U, hU⟩ : ∃ U, upN p ee = U := ⟨_, rfl⟩
  obtain ⟨N, hN⟩ : ∃ N, dnN q ee = N := ⟨_, rfl⟩
  obtain ⟨Q, hQ0⟩ : ∃ Q, Q = U / N := ⟨_, rfl⟩
  obtain ⟨R, hR0⟩ : ∃ R, R = U % N := ⟨_, rfl⟩
  obtain ⟨H0, hH0⟩ : ∃ H0, atH U N = H0 := ⟨_, rfl⟩
  have sU : U < P 180 := by rw [← hU]; exact up_P (n := 90) (m := 90) hp.lt (by omega) (by omega)
  have sN : N < P 180 := by rw [← hN]; exact dn_P (n := 90) (m := 90) hq.lt (by omega) (by omega)
  have pN : 0 < N := by rw [← hN]; exact dnN_pos hq0 ee
  have rsm : ∀ x, x < P 180 → RSome x := fun x hx => ⟨Nat.lt_of_lt_of_le (by rw [← P_B]; exact hx) (B_le (show 2 * 180 ≤ 1000000 by omega))⟩
  have HH : Hid (RSome U ∧ RSome N ∧ N ≠ 0 ∧ RFits N ∧ RFits (R * 2) ∧ RFits R) := ⟨rsm U sU, rsm N sN, by omega, rfits_P sN (by omega), by
    have : R < P 180 := Nat.lt_trans (by rw [hR0]; exact Nat.mod_lt _ pN) sN
    have h9 := P_succ 180
    exact rfits_P (n := 181) (by rw [show 181 = 180 + 1 from rfl, h9]; omega) (by omega), rfits_P (Nat.lt_trans (by rw [hR0]; exact Nat.mod_lt _ pN) sN) (by omega)⟩
  have HE : Hid (Q = U / N ∧ R = U % N ∧ True ∧ (R = 0 → H0 = -2) ∧ (¬ R = 0 → cmpI (R * 2) N = H0)) := ⟨hQ0, hR0, trivial, fun h => by rw [← hH0, atH, if_pos (by rw [← hR0]; exact h)], fun h => by rw [← hH0, atH, if_neg (by rw [← hR0]; exact h), hR0]⟩
  have HP : Hid (RFits p ∧ RFits q) := ⟨hp.rfits, hq.rfits⟩
  have S1 : Hid _ := (((((sy_start w).addM hP).addM hQ).box (.slice a1 n1 c1) (.slice a2 n2 c2) 32 _ rfl).box1 (.slice none 0 0) 30 _ rfl).box1 (.slice a1 n1 c1) 30 _ rfl
  have S0 : Hid _ := S1.out.box1 (.slice a2 n2 c2) 30 _ rfl
  simp only [World.size_alloc, Nat.add_assoc, Nat.reduceAdd] at S0
  clear S1
  rw [hU, hN, ← hQ0, hH0]
  by_cases hs : 0 < ee
  · obtain ⟨k, hk⟩ : ∃ k : Nat, ee = (k : Int) := ⟨ee.toNat, by omega⟩
    have t1 : 0 < k := by omega
    have HK : Hid (k < 1099511627776 ∧ p = U ∧ q * 2 ^ k = N) := ⟨by omega, by rw [← hU]; unfold upN; rw [show (-ee).toNat = 0 by omega, Nat.pow_zero, Nat.mul_one], by rw [← hN]; unfold dnN; rw [show ee.toNat = k by omega]⟩
    subst hk
    clear hs hP hQ hp hq hq0 h1 h2 hU hN hQ0 hR0 hH0 sU sN pN rsm
    go_enter Tryz.func50, Tryz.ntmps50
    go_wp2_with fail
    simp only [Nat.add_assoc, Nat.reduceAdd]
    obtain ⟨w1, ew⟩ : ∃ w1, w1 = ((((w.alloc (.cells #[.slice a1 n1 c1, .slice a2 n2 c2] 32)).alloc (.cells #[.slice none 0 0] 30)).alloc (.cells #[.slice a1 n1 c1] 30)).alloc (.cells #[.slice a2 n2 c2] 30)) := ⟨_, rfl⟩
    obtain ⟨g, eb⟩ : ∃ g, g = w.heap.size := ⟨_, rfl⟩
    rw [← ew, ← eb] at S0
    rw [← ew, ← eb]
    clear ew eb
    refine (rleft_any _ q k _ (S0.out.rat (.agg #[.slice a2 n2 c2]) q) HP.out.2 HK.out.1).mono ?_
    rintro e w3 ⟨v3, rfl, hv, hb⟩
    rw [HK.out.2.2] at hv
    obtain ⟨a3, n3, c3, rfl⟩ := hv.isAgg
    have SA : Hid _ := (S0.out.go hb).addM hv
    clear hv hb S0
    have k1 := SA.out.cell (g + 3) (.slice a2 n2 c2)
    have f1 := SA.out.fz (g + 3) 0
    have NV : Hid _ := HK.out.2.1
    rw [NV.out] at SA
    have S2 : Hid _ := (SA.out.set (b := g + 3) (i := 0) k1 (SA.out.lo (g + 3)) [(g + 2, 0, .slice a1 n1 c1), (g + 1, 0, .slice none 0 0)] (by simp) (.slice a3 n3 c3)).addC (b := g + 3) (i := 0) (v := .slice a3 n3 c3) (by simp [go_sem, k1])
    have k2 : (w3.setCell ⟨g + 3, 0, none⟩ (.slice a3 n3 c3)).cell? ⟨g + 2, 0, none⟩ = some (.slice a1 n1 c1) := S2.out.cell (g + 2) (.slice a1 n1 c1)
    have k3 : (w3.setCell ⟨g + 3, 0, none⟩ (.slice a3 n3 c3)).cell? ⟨g + 3, 0, none⟩ = some (.slice a3 n3 c3) := S2.out.cell (g + 3) (.slice a3 n3 c3)
    go_upto_region 6 with fail
    obtain ⟨w4, ew⟩ : ∃ w4, w4 = w3.setCell ⟨g + 3, 0, none⟩ (.slice a3 n3 c3) := ⟨_, rfl⟩
    rw [← ew] at S2
    rw [← ew]
    clear ew k1 f1 k2 k3 SA NV
    have y0 := S2.out.cell (g + 2) (.slice a1 n1 c1)
    have y1 := S2.out.cell (g + 3) (.slice a3 n3 c3)
    go_wp2_with fail
    refine (rdivMod_any _ _ U N _ (S2.out.rat (.agg #[.slice a1 n1 c1]) U) (S2.out.rat (.agg #[.slice a3 n3 c3]) N) HH.out.1 HH.out.2.1 HH.out.2.2.1).mono ?_
    rintro e w5 ⟨v5, v6, rfl, hv, hu, hb⟩
    rw [← HE.out.1] at hv
    rw [← HE.out.2.1] at hu
    obtain ⟨a5, n5, c5, rfl⟩ := hv.isAgg
    obtain ⟨a6, n6, c6, rfl⟩ := hu.isAgg
    have S3 : Hid _ := ((((S2.out.go hb).addM hv).addM hu).box1 (.slice a5 n5 c5) 30 _ rfl).box1 (.slice a6 n6 c6) 30 _ rfl
    have GL : Hid (g + 3 < w5.heap.size) := (S2.out.go hb).lt (g + 3)
    simp only [World.size_alloc] at S3
    clear hv hu hb S2 y0 y1
    go_wp2_with fail
    obtain ⟨w6, ew⟩ : ∃ w6, w6 = (w5.alloc (.cells #[.slice a5 n5 c5] 30)).alloc (.cells #[.slice a6 n6 c6] 30) := ⟨_, rfl⟩
    obtain ⟨h, eb⟩ : ∃ h, h = w5.heap.size := ⟨_, rfl⟩
    rw [← ew, ← eb] at S3
    rw [← ew, ← eb]
    rw [← eb] at GL
    clear ew eb
    refine (rzero_any _ R _ (S3.out.rat (.agg #[.slice a6 n6 c6]) R) HH.out.2.2.2.2.2).mono ?_
    rintro e w7 ⟨rfl, hb⟩
    have S4 : Hid _ := S3.out.go hb
    clear hb S3
    have z0 := S4.out.cell (g + 1) (.slice none 0 0)
    have y0 := S4.out.fz (g + 1) 0
    by_cases h0 : R = 0
    · have d0 : decide (R = 0) = true := decide_eq_true h0
      have HV : Hid (H0 = -2) := HE.out.2.2.2.1 h0
      have x0 := S4.out.cell h (.slice a5 n5 c5)
      have Z : Hid _ := S4.out.rret1 (r := g + 1) z0 (by simp) (S4.out.rat (.agg #[.slice a5 n5 c5]) Q) (.slice a5 n5 c5)
      clear h0
      go_wp2_with fail
      exact bodyPost_ret (v := .tuple #[(.agg #[.slice a5 n5 c5]), .int .i64 (-2)]) (by simp [results, Tryz.results50, go_sem, z0]) rfl ⟨_, by rw [HV.out], Z.out.1, Z.out.2⟩
    · have d0 : decide (R = 0) = false := decide_eq_false h0
      have HV : Hid (cmpI (R * 2) N = H0) := HE.out.2.2.2.2 h0
      have NG : Hid (g + 3 < h) := GL
      have GN : ¬ h = g + 1 ∧ ¬ h + 1 = g + 1 ∧ ¬ g + 3 = g + 1 ∧ ¬ g + 1 = h ∧ ¬ g + 1 = h + 1 ∧ ¬ g + 1 = g + 3 := by have := NG.out; omega
      obtain ⟨m1, m2, m3, m4, m5, m6⟩ := GN
      clear h0
      go_wp2_with fail
      refine wp_region_held_drew (S := fun w9 => w9.cell? ⟨h, 0, none⟩ = some (.slice a5 n5 c5) ∧ w9.cell? ⟨h + 1, 0, none⟩ = some (.slice a6 n6 c6) ∧ w9.cell? ⟨g + 3, 0, none⟩ = some (.slice a3 n3 c3)) (by kernel_rfl) ⟨(S4.out.cel (h) 0 (.slice a5 n5 c5)), (S4.out.cel (h + 1) 0 (.slice a6 n6 c6)), (S4.out.cel (g + 3) 0 (.slice a3 n3 c3))⟩ (fun hHeld => ?_)
      refine wpAnyH_take (i := 0) (v := .agg #[.slice a5 n5 c5]) rfl (by kernel_rfl) (by kernel_rfl) (by kernel_rfl) (fun _ _ _ h => h) (Or.inl ⟨by rfl, ?_⟩) (by assumption) ?_
      · intro w hSw
        obtain ⟨g0, g1, g2⟩ := hSw
        go_simp
      refine wpAnyH_take (i := 1) (v := .agg #[.slice a6 n6 c6]) rfl (by kernel_rfl) (by kernel_rfl) (by kernel_rfl) (fun _ _ _ h => h) (Or.inl ⟨by rfl, ?_⟩) (by assumption) ?_
      · intro w hSw
        obtain ⟨g0, g1, g2⟩ := hSw
        go_simp
      refine wpAnyH_take (i := 3) (v := .agg #[.slice a3 n3 c3]) rfl (by kernel_rfl) (by kernel_rfl) (by kernel_rfl) (fun _ _ _ h => h) (Or.inl ⟨by rfl, ?_⟩) (by assumption) ?_
      · intro w hSw
        obtain ⟨g0, g1, g2⟩ := hSw
        go_simp
      refine wpAnyH_ready (rs := [2]) (by kernel_rfl) (by simp) ?_
      refine AllReadyH.cons rfl (fun K9 hK9 => ?_) AllReadyH.nil
      go_simp
      refine Calls.mono (rleft_any _ R 1 _ ((S4.out.rat (.agg #[.slice a6 n6 c6]) R).mono (bel_dr (bel_refl _))) HH.out.2.2.2.2.2 (by omega)) ?_
      rintro e w8 ⟨v8, rfl, hv8, hb8⟩
      replace hb8 : Below w7.heap.size w7 w8 := bel_undrew hb8
      rw [show R * 2 ^ 1 = R * 2 from rfl] at hv8
      have S5 : Hid _ := (S4.out.go hb8).addM hv8
      clear hv8 hb8 S4 hHeld z0 y0
      refine hK9.out _ _ ⟨(S5.out.cel (h) 0 (.slice a5 n5 c5)), (S5.out.cel (h + 1) 0 (.slice a6 n6 c6)), (S5.out.cel (g + 3) 0 (.slice a3 n3 c3))⟩ (fun hHeld => ?_)
      clear hK9 K9
      refine wpAnyH_ready (rs := [4]) (by kernel_rfl) (by simp) ?_
      refine AllReadyH.cons rfl (fun K9 hK9 => ?_) AllReadyH.nil
      go_simp
      refine Calls.mono (rcmp_any v8 _ (R * 2) N _ (S5.out.rat v8 (R * 2)) (S5.out.rat (.agg #[.slice a3 n3 c3]) N) HH.out.2.2.2.2.1 HH.out.2.2.2.1) ?_
      rintro e w9 ⟨rfl, hb9⟩
      rw [HV.out]
      have S6 : Hid _ := S5.out.go hb9
      clear hb9 S5 hHeld
      have z0 := S6.out.cell (g + 1) (.slice none 0 0)
      have y0 := S6.out.fz (g + 1) 0
      have t0 := (S6.out.cel (h) 0 (.slice a5 n5 c5))
      have t1 := (S6.out.cel (h + 1) 0 (.slice a6 n6 c6))
      have t2 := (S6.out.cel (g + 3) 0 (.slice a3 n3 c3))
      refine hK9.out _ _ ⟨t0, t1, t2⟩ (fun hHeld => ?_)
      clear hK9 K9
      refine wpAnyH_ready (rs := [5]) (by kernel_rfl) (by simp) ?_
      refine AllReadyH.cons rfl (fun K9 hK9 => ?_) AllReadyH.nil
      go_simp
      clear hHeld
      refine hK9.out _ _ (by simp [go_sem, *]) (fun hHeld => ?_)
      clear hK9 K9
      refine wpAnyH_take (i := 6) (v := .int .i64 H0) rfl (by kernel_rfl) (by kernel_rfl) (by kernel_rfl) (fun _ _ _ h => h) (Or.inl ⟨by rfl, ?_⟩) (by assumption) ?_
      · intro w hSw
        obtain ⟨g0, g1, g2⟩ := hSw
        go_simp
      refine wpAnyH_done (by kernel_rfl) ?_ _
      have Z : Hid _ := S6.out.rret1 (r := g + 1) z0 (by simp) (S6.out.rat (.agg #[.slice a5 n5 c5]) Q) (.slice a5 n5 c5)
      clear S6 t0 t1 t2
      go_wp2_with fail
      exact bodyPost_ret (v := .tuple #[(.agg #[.slice a5 n5 c5]), .int .i64 H0]) (by simp [results, Tryz.results50, go_sem, z0]) rfl ⟨_, rfl, Z.out.1, Z.out.2⟩
  · obtain ⟨k, hk⟩ : ∃ k : Nat, -ee = (k : Int) := ⟨(-ee).toNat, by omega⟩
    have t1 : decide (0 < ee) = false := decide_eq_false hs
    have t2 : wrap64 (-ee) = (k : Int) := by rw [IntWalk.wrap64_in _ ⟨by omega, by omega⟩, hk]
    have t3 : IntKind.i64.wrap (-ee) = (k : Int) := by rw [IntKind.wrap_i64]; omega
    have HK : Hid (k < 1099511627776 ∧ q = N ∧ p * 2 ^ k = U) := ⟨by omega, by rw [← hN]; unfold dnN; rw [show ee.toNat = 0 by omega, Nat.pow_zero, Nat.mul_one], by rw [← hU]; unfold upN; rw [show (-ee).toNat = k by omega]⟩
    clear hs hP hQ hp hq hq0 h1 h2 hU hN hQ0 hR0 hH0 sU sN pN rsm hk
    go_enter Tryz.func50, Tryz.ntmps50
    go_wp2_with fail
    simp only [Nat.add_assoc, Nat.reduceAdd]
    obtain ⟨w1, ew⟩ : ∃ w1, w1 = ((((w.alloc (.cells #[.slice a1 n1 c1, .slice a2 n2 c2] 32)).alloc (.cells #[.slice none 0 0] 30)).alloc (.cells #[.slice a1 n1 c1] 30)).alloc (.cells #[.slice a2 n2 c2] 30)) := ⟨_, rfl⟩
    obtain ⟨g, eb⟩ : ∃ g, g = w.heap.size := ⟨_, rfl⟩
    rw [← ew, ← eb] at S0
    rw [← ew, ← eb]
    clear ew eb
    refine (rleft_any _ p k _ (S0.out.rat (.agg #[.slice a1 n1 c1]) p) HP.out.1 HK.out.1).mono ?_
    rintro e w3 ⟨v3, rfl, hv, hb⟩
    rw [HK.out.2.2] at hv
    obtain ⟨a3, n3, c3, rfl⟩ := hv.isAgg
    have SA : Hid _ := (S0.out.go hb).addM hv
    clear hv hb S0
    have k1 := SA.out.cell (g + 2) (.slice a1 n1 c1)
    have f1 := SA.out.fz (g + 2) 0
    have NV : Hid _ := HK.out.2.1
    rw [NV.out] at SA
    have S2 : Hid _ := (SA.out.set (b := g + 2) (i := 0) k1 (SA.out.lo (g + 2)) [(g + 3, 0, .slice a2 n2 c2), (g + 1, 0, .slice none 0 0)] (by simp) (.slice a3 n3 c3)).addC (b := g + 2) (i := 0) (v := .slice a3 n3 c3) (by simp [go_sem, k1])
    have k2 : (w3.setCell ⟨g + 2, 0, none⟩ (.slice a3 n3 c3)).cell? ⟨g + 2, 0, none⟩ = some (.slice a3 n3 c3) := S2.out.cell (g + 2) (.slice a3 n3 c3)
    have k3 : (w3.setCell ⟨g + 2, 0, none⟩ (.slice a3 n3 c3)).cell? ⟨g + 3, 0, none⟩ = some (.slice a2 n2 c2) := S2.out.cell (g + 3) (.slice a2 n2 c2)
    go_upto_region 6 with fail
    obtain ⟨w4, ew⟩ : ∃ w4, w4 = w3.setCell ⟨g + 2, 0, none⟩ (.slice a3 n3 c3) := ⟨_, rfl⟩
    rw [← ew] at S2
    rw [← ew]
    clear ew k1 f1 k2 k3 SA NV
    have y0 := S2.out.cell (g + 2) (.slice a3 n3 c3)
    have y1 := S2.out.cell (g + 3) (.slice a2 n2 c2)
    go_wp2_with fail
    refine (rdivMod_any _ _ U N _ (S2.out.rat (.agg #[.slice a3 n3 c3]) U) (S2.out.rat (.agg #[.slice a2 n2 c2]) N) HH.out.1 HH.out.2.1 HH.out.2.2.1).mono ?_
    rintro e w5 ⟨v5, v6, rfl, hv, hu, hb⟩
    rw [← HE.out.1] at hv
    rw [← HE.out.2.1] at hu
    obtain ⟨a5, n5, c5, rfl⟩ := hv.isAgg
    obtain ⟨a6, n6, c6, rfl⟩ := hu.isAgg
    have S3 : Hid _ := ((((S2.out.go hb).addM hv).addM hu).box1 (.slice a5 n5 c5) 30 _ rfl).box1 (.slice a6 n6 c6) 30 _ rfl
    have GL : Hid (g + 3 < w5.heap.size) := (S2.out.go hb).lt (g + 3)
    simp only [World.size_alloc] at S3
    clear hv hu hb S2 y0 y1
    go_wp2_with fail
    obtain ⟨w6, ew⟩ : ∃ w6, w6 = (w5.alloc (.cells #[.slice a5 n5 c5] 30)).alloc (.cells #[.slice a6 n6 c6] 30) := ⟨_, rfl⟩
    obtain ⟨h, eb⟩ : ∃ h, h = w5.heap.size := ⟨_, rfl⟩
    rw [← ew, ← eb] at S3
    rw [← ew, ← eb]
    rw [← eb] at GL
    clear ew eb
    refine (rzero_any _ R _ (S3.out.rat (.agg #[.slice a6 n6 c6]) R) HH.out.2.2.2.2.2).mono ?_
    rintro e w7 ⟨rfl, hb⟩
    have S4 : Hid _ := S3.out.go hb
    clear hb S3
    have z0 := S4.out.cell (g + 1) (.slice none 0 0)
    have y0 := S4.out.fz (g + 1) 0
    by_cases h0 : R = 0
    · have d0 : decide (R = 0) = true := decide_eq_true h0
      have HV : Hid (H0 = -2) := HE.out.2.2.2.1 h0
      have x0 := S4.out.cell h (.slice a5 n5 c5)
      have Z : Hid _ := S4.out.rret1 (r := g + 1) z0 (by simp) (S4.out.rat (.agg #[.slice a5 n5 c5]) Q) (.slice a5 n5 c5)
      clear h0
      go_wp2_with fail
      exact bodyPost_ret (v := .tuple #[(.agg #[.slice a5 n5 c5]), .int .i64 (-2)]) (by simp [results, Tryz.results50, go_sem, z0]) rfl ⟨_, by rw [HV.out], Z.out.1, Z.out.2⟩
    · have d0 : decide (R = 0) = false := decide_eq_false h0
      have HV : Hid (cmpI (R * 2) N = H0) := HE.out.2.2.2.2 h0
      have NG : Hid (g + 3 < h) := GL
      have GN : ¬ h = g + 1 ∧ ¬ h + 1 = g + 1 ∧ ¬ g + 3 = g + 1 ∧ ¬ g + 1 = h ∧ ¬ g + 1 = h + 1 ∧ ¬ g + 1 = g + 3 := by have := NG.out; omega
      obtain ⟨m1, m2, m3, m4, m5, m6⟩ := GN
      clear h0
      go_wp2_with fail
      refine wp_region_held_drew (S := fun w9 => w9.cell? ⟨h, 0, none⟩ = some (.slice a5 n5 c5) ∧ w9.cell? ⟨h + 1, 0, none⟩ = some (.slice a6 n6 c6) ∧ w9.cell? ⟨g + 3, 0, none⟩ = some (.slice a2 n2 c2)) (by kernel_rfl) ⟨(S4.out.cel (h) 0 (.slice a5 n5 c5)), (S4.out.cel (h + 1) 0 (.slice a6 n6 c6)), (S4.out.cel (g + 3) 0 (.slice a2 n2 c2))⟩ (fun hHeld => ?_)
      refine wpAnyH_take (i := 0) (v := .agg #[.slice a5 n5 c5]) rfl (by kernel_rfl) (by kernel_rfl) (by kernel_rfl) (fun _ _ _ h => h) (Or.inl ⟨by rfl, ?_⟩) (by assumption) ?_
      · intro w hSw
        obtain ⟨g0, g1, g2⟩ := hSw
        go_simp
      refine wpAnyH_take (i := 1) (v := .agg #[.slice a6 n6 c6]) rfl (by kernel_rfl) (by kernel_rfl) (by kernel_rfl) (fun _ _ _ h => h) (Or.inl ⟨by rfl, ?_⟩) (by assumption) ?_
      · intro w hSw
        obtain ⟨g0, g1, g2⟩ := hSw
        go_simp
      refine wpAnyH_take (i := 3) (v := .agg #[.slice a2 n2 c2]) rfl (by kernel_rfl) (by kernel_rfl) (by kernel_rfl) (fun _ _ _ h => h) (Or.inl ⟨by rfl, ?_⟩) (by assumption) ?_
      · intro w hSw
        obtain ⟨g0, g1, g2⟩ := hSw
        go_simp
      refine wpAnyH_ready (rs := [2]) (by kernel_rfl) (by simp) ?_
      refine AllReadyH.cons rfl (fun K9 hK9 => ?_) AllReadyH.nil
      go_simp
      refine Calls.mono (rleft_any _ R 1 _ ((S4.out.rat (.agg #[.slice a6 n6 c6]) R).mono (bel_dr (bel_refl _))) HH.out.2.2.2.2.2 (by omega)) ?_
      rintro e w8 ⟨v8, rfl, hv8, hb8⟩
      replace hb8 : Below w7.heap.size w7 w8 := bel_undrew hb8
      rw [show R * 2 ^ 1 = R * 2 from rfl] at hv8
      have S5 : Hid _ := (S4.out.go hb8).addM hv8
      clear hv8 hb8 S4 hHeld z0 y0
      refine hK9.out _ _ ⟨(S5.out.cel (h) 0 (.slice a5 n5 c5)), (S5.out.cel (h + 1) 0 (.slice a6 n6 c6)), (S5.out.cel (g + 3) 0 (.slice a2 n2 c2))⟩ (fun hHeld => ?_)
      clear hK9 K9
      refine wpAnyH_ready (rs := [4]) (by kernel_rfl) (by simp) ?_
      refine AllReadyH.cons rfl (fun K9 hK9 => ?_) AllReadyH.nil
      go_simp
      refine Calls.mono (rcmp_any v8 _ (R * 2) N _ (S5.out.rat v8 (R * 2)) (S5.out.rat (.agg #[.slice a2 n2 c2]) N) HH.out.2.2.2.2.1 HH.out.2.2.2.1) ?_
      rintro e w9 ⟨rfl, hb9⟩
      rw [HV.out]
      have S6 : Hid _ := S5.out.go hb9
      clear hb9 S5 hHeld
      have z0 := S6.out.cell (g + 1) (.slice none 0 0)
      have y0 := S6.out.fz (g + 1) 0
      have t0 := (S6.out.cel (h) 0 (.slice a5 n5 c5))
      have t1 := (S6.out.cel (h + 1) 0 (.slice a6 n6 c6))
      have t2 := (S6.out.cel (g + 3) 0 (.slice a2 n2 c2))
      refine hK9.out _ _ ⟨t0, t1, t2⟩ (fun hHeld => ?_)
      clear hK9 K9
      refine wpAnyH_ready (rs := [5]) (by kernel_rfl) (by simp) ?_
      refine AllReadyH.cons rfl (fun K9 hK9 => ?_) AllReadyH.nil
      go_simp
      clear hHeld
      refine hK9.out _ _ (by simp [go_sem, *]) (fun hHeld => ?_)
      clear hK9 K9
      refine wpAnyH_take (i := 6) (v := .int .i64 H0) rfl (by kernel_rfl) (by kernel_rfl) (by kernel_rfl) (fun _ _ _ h => h) (Or.inl ⟨by rfl, ?_⟩) (by assumption) ?_
      · intro w hSw
        obtain ⟨g0, g1, g2⟩ := hSw
        go_simp
      refine wpAnyH_done (by kernel_rfl) ?_ _
      have Z : Hid _ := S6.out.rret1 (r := g + 1) z0 (by simp) (S6.out.rat (.agg #[.slice a5 n5 c5]) Q) (.slice a5 n5 c5)
      clear S6 t0 t1 t2
      go_wp2_with fail
      exact bodyPost_ret (v := .tuple #[(.agg #[.slice a5 n5 c5]), .int .i64 H0]) (by simp [results, Tryz.results50, go_sem, z0]) rfl ⟨_, rfl, Z.out.1, Z.out.2⟩
end Go.Proofs.YtmiiaomdenpceaaGreatDoor

namespace Go.Proofs.YtmiiaomdenpceaaGreatDoor
open Go.RowKit
set_option maxRecDepth 100000
set_option linter.unusedVariables false
set_option maxHeartbeats 2000000 in
theorem rwhole_any (n : Nat) (w : World) (hn : n < 18446744073709551616) : Calls Tryz.prog 55 #[.int .u64 (n : Int)] w (MakesRR w n 1) := by
  have ba : Hid (Below w.heap.size w (w.alloc (.cells #[.slice none 0 0, .slice none 0 0] 32))) := bel_al (bel_refl w)
  have HN : Hid (n < 18446744073709551616) := hn
  clear hn
  go_enter Tryz.func55, Tryz.ntmps55
  go_wp2_with fail
  refine (rof_any n _ HN.out).mono ?_
  rintro e w1 ⟨v1, rfl, hv1, hb1⟩
  obtain ⟨a1, n1, k1, rfl⟩ := hv1.isAgg
  have c0 : w1.cell? ⟨w.heap.size, 0, none⟩ = some (.slice none 0 0) := cell_later hb1 (by simp [go_sem])
  have c1 : w1.cell? ⟨w.heap.size, 1, none⟩ = some (.slice none 0 0) := cell_later hb1 (by simp [go_sem])
  have f0 : w1.frozen? ⟨w.heap.size, 0, none⟩ = false := (hb1.frozen (by simp)).trans (by simp [go_sem])
  have f1 : w1.frozen? ⟨w.heap.size, 1, none⟩ = false := (hb1.frozen (by simp)).trans (by simp [go_sem])
  have I1 : Hid (RNat w1 (.agg #[.slice a1 n1 k1]) n ∧ Below w.heap.size w w1) := ⟨hv1, bel_go ba.out hb1⟩
  clear hv1 hb1 ba
  go_wp2_with fail
  refine (rof_any 1 _ (by omega)).mono ?_
  rintro e w2 ⟨v2, rfl, hv2, hb2⟩
  obtain ⟨a2, n2, k2, rfl⟩ := hv2.isAgg
  have x0 := cell_later hb2 c0
  have x1 := cell_later hb2 c1
  have y0 := (hb2.frozen (World.block_lt_of_cell? _ _ c0)).trans f0
  have y1 := (hb2.frozen (World.block_lt_of_cell? _ _ c1)).trans f1
  have Z : Hid _ := rrat_put (v := .slice a1 n1 k1) (u := .slice a2 n2 k2) x0 x1 (V := .agg #[.slice a1 n1 k1, .slice a2 n2 k2]) (p := n) (q := 1) ⟨_, _, _, _, _, _, rfl, I1.out.1.mono hb2, hv2⟩ (bel_go I1.out.2 hb2) (Nat.le_refl _)
  clear hv2 hb2 c0 c1 f0 f1 I1
  go_wp2_with fail
  exact bodyPost_ret (v := .agg #[.slice a1 n1 k1, .slice a2 n2 k2]) (by simp [results, Tryz.results55, go_sem, x0, x1]) rfl ⟨_, rfl, Z.out.1, Z.out.2⟩
set_option maxHeartbeats 2000000 in
theorem rsign2_any (v : Value) (p q : Nat) (w : World) (h : RRt w v p q) (hp : RFits p) (z : Int) (hz : z = if p = 0 then 0 else 1) : Calls Tryz.prog 48 #[v] w fun e w' => e = .returned (.int .i64 z) ∧ Below w.heap.size w w' := by
  obtain ⟨a, n, c, a', n', c', rfl, h1, h2⟩ := h
  have HH : Hid (RNat (w.alloc (.cells #[.slice a n c, .slice a' n' c'] 32)) (.agg #[.slice a n c]) p ∧ RFits p ∧ Below w.heap.size w (w.alloc (.cells #[.slice a n c, .slice a' n' c'] 32))) := ⟨h1.mono (bel_al (bel_refl _)), hp, bel_al (bel_refl _)⟩
  clear h1 h2 hp
  go_enter Tryz.func48, Tryz.ntmps48
  go_wp2_with fail
  refine (rzero_any _ p _ HH.out.1 HH.out.2.1).mono ?_
  rintro e w1 ⟨rfl, hb1⟩
  have B1 : Hid (Below w.heap.size w w1) := bel_go HH.out.2.2 hb1
  clear hb1 HH
  by_cases e0 : p = 0
  · have d : decide (p = 0) = true := decide_eq_true e0
    rw [if_pos e0] at hz
    have HZ : Hid (z = 0) := hz
    clear e0 hz
    go_wp2_with fail
    go_ret
    exact ⟨ret_int HZ.out.symm, B1.out⟩
  · have d : decide (p = 0) = false := decide_eq_false e0
    rw [if_neg e0] at hz
    have HZ : Hid (z = 1) := hz
    clear e0 hz
    go_wp2_with fail
    go_ret
    exact ⟨ret_int HZ.out.symm, B1.out⟩
set_option maxHeartbeats 8000000 in
theorem rdiv2_yes (v u : Value) (p q x y : Nat) (w : World) (h : RRt w v p q) (k : RRt w u x y) (hp : RS p) (hq : RS q) (hx : RS x) (hy : RS y) (hq0 : 0 < q) (hx0 : 0 < x) :
    Calls Tryz.prog 54 #[v, u] w (MakesRRB w (p * y / Nat.gcd (p * y) (q * x)) (q * x / Nat.gcd (p * y) (q * x)) true) := by
  obtain ⟨a1, n1, c1, a2, n2, c2, e0, g1, g2⟩ := h
  subst e0
  obtain ⟨a3, n3, c3, a4, n4, c4, e1, g3, g4⟩ := k
  subst e1
  have S0 : Hid _ := ((((((sx_start w).addM g1).addM g2).addM g3).addM g4).box (.slice a1 n1 c1) (.slice a2 n2 c2) 32 _ rfl).box (.slice a3 n3 c3) (.slice a4 n4 c4) 32 _ rfl
  simp only [World.size_alloc] at S0
  have S1 : Hid _ := S0.out.box (.slice none 0 0) (.slice none 0 0) 32 _ rfl
  simp only [World.size_alloc] at S1
  obtain ⟨w0, hw0⟩ : ∃ w0, w0 = ((w.alloc (.cells #[.slice a1 n1 c1, .slice a2 n2 c2] 32)).alloc (.cells #[.slice a3 n3 c3, .slice a4 n4 c4] 32)).alloc (.cells #[.slice none 0 0, .slice none 0 0] 32) := ⟨_, rfl⟩
  have f6 : w0.frozen? ⟨w.heap.size + 1 + 1, 0, none⟩ = false := by rw [hw0]; simp [go_sem]
  have f7 : w0.frozen? ⟨w.heap.size + 1 + 1, 1, none⟩ = false := by rw [hw0]; simp [go_sem]
  have FZ : Hid _ := And.intro f6 f7
  have s1 : RSome (p * y) := ⟨Nat.lt_of_lt_of_le (by rw [← P_B]; exact hp.mul hy) (B_le (show 2 * 180 ≤ 1000000 by omega))⟩
  have s2 : RSome (q * x) := ⟨Nat.lt_of_lt_of_le (by rw [← P_B]; exact hq.mul hx) (B_le (show 2 * 180 ≤ 1000000 by omega))⟩
  have HH : Hid (RS p ∧ RS q ∧ RS x ∧ RS y ∧ RSome (p * y) ∧ RSome (q * x) ∧ 0 < q * x) := ⟨hp, hq, hx, hy, s1, s2, Nat.mul_pos hq0 hx0⟩
  have SG : Hid (∀ v w, RRt w v x y → Calls Tryz.prog 48 #[v] w fun e w' => e = .returned (.int .i64 1) ∧ Below w.heap.size w w') := fun v w h => rsign2_any v x y w h hx.rfits 1 (by rw [if_neg (by omega)])
  have g34 : Hid (RRt w (.agg #[.slice a3 n3 c3, .slice a4 n4 c4]) x y) := ⟨_, _, _, _, _, _, rfl, g3, g4⟩
  clear g1 g2 g3 g4 hp hq hx hy hq0 hx0 s1 s2 S0 f6 f7
  go_enter Tryz.func54, Tryz.ntmps54
  go_wp2_with fail
  rw [← hw0] at S1
  rw [← hw0]
  obtain ⟨b2, hb2⟩ : ∃ b2, b2 = w.heap.size := ⟨_, rfl⟩
  have HB : Hid (w.heap.size ≤ b2 + 1 + 1) := by show _ ≤ _; omega
  rw [← hb2] at S1 FZ
  rw [← hb2]
  clear hw0 hb2
  refine (SG.out _ _ (g34.out.mono S1.out.bel)).mono ?_
  rintro e w5 ⟨rfl, hb5⟩
  have FZ : Hid (w5.frozen? ⟨b2 + 1 + 1, 0, none⟩ = false ∧ w5.frozen? ⟨b2 + 1 + 1, 1, none⟩ = false) := ⟨(hb5.frozen (World.block_lt_of_cell? _ _ (S1.out.cel (b2 + 1 + 1) 0 (.slice none 0 0)))).trans FZ.out.1, (hb5.frozen (World.block_lt_of_cell? _ _ (S1.out.cel (b2 + 1 + 1) 1 (.slice none 0 0)))).trans FZ.out.2⟩
  have S1 : Hid _ := S1.out.go hb5
  clear hb5 g34 SG
  go_wp2_with fail
  obtain ⟨w0, ew0⟩ : ∃ w0, w0 = w5 := ⟨_, rfl⟩
  rw [← ew0] at S1 FZ
  rw [← ew0]
  clear ew0
  refine wp_region_held_drew (S := fun w9 => w9.cell? ⟨b2, 0, none⟩ = some (.slice a1 n1 c1) ∧ w9.cell? ⟨b2, 1, none⟩ = some (.slice a2 n2 c2) ∧ w9.cell? ⟨b2 + 1, 0, none⟩ = some (.slice a3 n3 c3) ∧ w9.cell? ⟨b2 + 1, 1, none⟩ = some (.slice a4 n4 c4)) (by kernel_rfl) ⟨(S1.out.cel (b2) 0 (.slice a1 n1 c1)), (S1.out.cel (b2) 1 (.slice a2 n2 c2)), (S1.out.cel (b2 + 1) 0 (.slice a3 n3 c3)), (S1.out.cel (b2 + 1) 1 (.slice a4 n4 c4))⟩ (fun hHeld => ?_)
  refine wpAnyH_take (i := 0) (v := .pointer (some ⟨b2, 0, none⟩)) rfl (by kernel_rfl) (by kernel_rfl) (by kernel_rfl) (fun _ _ _ h => h) (Or.inl ⟨by rfl, ?_⟩) (by assumption) ?_
  · intro w hSw
    obtain ⟨g0, g1, g2, g3⟩ := hSw
    go_simp
  refine wpAnyH_take (i := 1) (v := .agg #[.slice a1 n1 c1]) rfl (by kernel_rfl) (by kernel_rfl) (by kernel_rfl) (fun _ _ _ h => h) (Or.inl ⟨by rfl, ?_⟩) (by assumption) ?_
  · intro w hSw
    obtain ⟨g0, g1, g2, g3⟩ := hSw
    go_simp
  refine wpAnyH_take (i := 2) (v := .pointer (some ⟨b2 + 1, 1, none⟩)) rfl (by kernel_rfl) (by kernel_rfl) (by kernel_rfl) (fun _ _ _ h => h) (Or.inl ⟨by rfl, ?_⟩) (by assumption) ?_
  · intro w hSw
    obtain ⟨g0, g1, g2, g3⟩ := hSw
    go_simp
  refine wpAnyH_take (i := 3) (v := .agg #[.slice a4 n4 c4]) rfl (by kernel_rfl) (by kernel_rfl) (by kernel_rfl) (fun _ _ _ h => h) (Or.inl ⟨by rfl, ?_⟩) (by assumption) ?_
  · intro w hSw
    obtain ⟨g0, g1, g2, g3⟩ := hSw
    go_simp
  refine wpAnyH_take (i := 5) (v := .pointer (some ⟨b2, 1, none⟩)) rfl (by kernel_rfl) (by kernel_rfl) (by kernel_rfl) (fun _ _ _ h => h) (Or.inl ⟨by rfl, ?_⟩) (by assumption) ?_
  · intro w hSw
    obtain ⟨g0, g1, g2, g3⟩ := hSw
    go_simp
  refine wpAnyH_take (i := 6) (v := .agg #[.slice a2 n2 c2]) rfl (by kernel_rfl) (by kernel_rfl) (by kernel_rfl) (fun _ _ _ h => h) (Or.inl ⟨by rfl, ?_⟩) (by assumption) ?_
  · intro w hSw
    obtain ⟨g0, g1, g2, g3⟩ := hSw
    go_simp
  refine wpAnyH_take (i := 7) (v := .pointer (some ⟨b2 + 1, 0, none⟩)) rfl (by kernel_rfl) (by kernel_rfl) (by kernel_rfl) (fun _ _ _ h => h) (Or.inl ⟨by rfl, ?_⟩) (by assumption) ?_
  · intro w hSw
    obtain ⟨g0, g1, g2, g3⟩ := hSw
    go_simp
  refine wpAnyH_take (i := 8) (v := .agg #[.slice a3 n3 c3]) rfl (by kernel_rfl) (by kernel_rfl) (by kernel_rfl) (fun _ _ _ h => h) (Or.inl ⟨by rfl, ?_⟩) (by assumption) ?_
  · intro w hSw
    obtain ⟨g0, g1, g2, g3⟩ := hSw
    go_simp
  refine wpAnyH_ready (rs := [4]) (by kernel_rfl) (by simp) ?_
  refine AllReadyH.cons rfl (fun K9 hK9 => ?_) AllReadyH.nil
  go_simp
  refine Calls.mono (rtimes_any _ _ p y _ ((S1.out.rat (.agg #[.slice a1 n1 c1]) p).mono (bel_dr (bel_refl _))) ((S1.out.rat (.agg #[.slice a4 n4 c4]) y).mono (bel_dr (bel_refl _))) HH.out.1.rfits HH.out.2.2.2.1.rfits) ?_
  rintro e w3 ⟨v3, rfl, hv3, hb3⟩
  replace hb3 : Below w0.heap.size w0 w3 := bel_undrew hb3
  have FZ : Hid (w3.frozen? ⟨b2 + 1 + 1, 0, none⟩ = false ∧ w3.frozen? ⟨b2 + 1 + 1, 1, none⟩ = false) := ⟨(hb3.frozen (World.block_lt_of_cell? _ _ (S1.out.cel (b2 + 1 + 1) 0 (.slice none 0 0)))).trans FZ.out.1, (hb3.frozen (World.block_lt_of_cell? _ _ (S1.out.cel (b2 + 1 + 1) 1 (.slice none 0 0)))).trans FZ.out.2⟩
  have S2 : Hid _ := (S1.out.go hb3).addM hv3
  clear hv3 hb3 S1 hHeld
  refine hK9.out _ _ ⟨(S2.out.cel (b2) 0 (.slice a1 n1 c1)), (S2.out.cel (b2) 1 (.slice a2 n2 c2)), (S2.out.cel (b2 + 1) 0 (.slice a3 n3 c3)), (S2.out.cel (b2 + 1) 1 (.slice a4 n4 c4))⟩ (fun hHeld => ?_)
  clear hK9 K9
  refine wpAnyH_ready (rs := [9]) (by kernel_rfl) (by simp) ?_
  refine AllReadyH.cons rfl (fun K9 hK9 => ?_) AllReadyH.nil
  go_simp
  refine Calls.mono (rtimes_any _ _ q x _ (S2.out.rat (.agg #[.slice a2 n2 c2]) q) (S2.out.rat (.agg #[.slice a3 n3 c3]) x) HH.out.2.1.rfits HH.out.2.2.1.rfits) ?_
  rintro e w4 ⟨v4, rfl, hv4, hb4⟩
  have FZ : Hid (w4.frozen? ⟨b2 + 1 + 1, 0, none⟩ = false ∧ w4.frozen? ⟨b2 + 1 + 1, 1, none⟩ = false) := ⟨(hb4.frozen (World.block_lt_of_cell? _ _ (S2.out.cel (b2 + 1 + 1) 0 (.slice none 0 0)))).trans FZ.out.1, (hb4.frozen (World.block_lt_of_cell? _ _ (S2.out.cel (b2 + 1 + 1) 1 (.slice none 0 0)))).trans FZ.out.2⟩
  have S3 : Hid _ := (S2.out.go hb4).addM hv4
  clear hv4 hb4 S2 hHeld
  refine hK9.out _ _ ⟨(S3.out.cel (b2) 0 (.slice a1 n1 c1)), (S3.out.cel (b2) 1 (.slice a2 n2 c2)), (S3.out.cel (b2 + 1) 0 (.slice a3 n3 c3)), (S3.out.cel (b2 + 1) 1 (.slice a4 n4 c4))⟩ (fun hHeld => ?_)
  clear hK9 K9
  refine wpAnyH_ready (rs := [10]) (by kernel_rfl) (by simp) ?_
  refine AllReadyH.cons rfl (fun K9 hK9 => ?_) AllReadyH.nil
  go_simp
  refine Calls.mono (rmade_any v3 v4 (p * y) (q * x) _ (S3.out.rat v3 (p * y)) (S3.out.rat v4 (q * x)) HH.out.2.2.2.2.1 HH.out.2.2.2.2.2.1 HH.out.2.2.2.2.2.2) ?_
  rintro e w6 ⟨v6, rfl, hv6, hb6⟩
  have FZ : Hid (w6.frozen? ⟨b2 + 1 + 1, 0, none⟩ = false ∧ w6.frozen? ⟨b2 + 1 + 1, 1, none⟩ = false) := ⟨(hb6.frozen (World.block_lt_of_cell? _ _ (S3.out.cel (b2 + 1 + 1) 0 (.slice none 0 0)))).trans FZ.out.1, (hb6.frozen (World.block_lt_of_cell? _ _ (S3.out.cel (b2 + 1 + 1) 1 (.slice none 0 0)))).trans FZ.out.2⟩
  have S4 : Hid _ := (S3.out.go hb6).addG hv6
  obtain ⟨a6, n6, c6, a7, n7, c7, ev, _, _⟩ := hv6
  subst ev
  clear hb6 S3 hHeld
  have z0 := S4.out.cel (b2 + 1 + 1) 0 (.slice none 0 0)
  have z1 := S4.out.cel (b2 + 1 + 1) 1 (.slice none 0 0)
  have y0 := FZ.out.1
  have y1 := FZ.out.2
  have t0 := (S4.out.cel (b2) 0 (.slice a1 n1 c1))
  have t1 := (S4.out.cel (b2) 1 (.slice a2 n2 c2))
  have t2 := (S4.out.cel (b2 + 1) 0 (.slice a3 n3 c3))
  have t3 := (S4.out.cel (b2 + 1) 1 (.slice a4 n4 c4))
  refine hK9.out _ _ ⟨t0, t1, t2, t3⟩ (fun hHeld => ?_)
  clear hK9 K9
  refine wpAnyH_ready (rs := [11]) (by kernel_rfl) (by simp) ?_
  refine AllReadyH.cons rfl (fun K9 hK9 => ?_) AllReadyH.nil
  go_simp
  clear hHeld
  refine hK9.out _ _ (by simp [go_sem, *]) (fun hHeld => ?_)
  clear hK9 K9
  refine wpAnyH_take (i := 12) (v := .bool true) rfl (by kernel_rfl) (by kernel_rfl) (by kernel_rfl) (fun _ _ _ h => h) (Or.inl ⟨by rfl, ?_⟩) (by assumption) ?_
  · intro w hSw
    obtain ⟨g0, g1, g2, g3⟩ := hSw
    go_simp
  refine wpAnyH_done (by kernel_rfl) ?_ _
  have Z : Hid _ := rrat_put (w0 := w) (v := .slice a6 n6 c6) (u := .slice a7 n7 c7) z0 z1 (S4.out.rfr (.agg #[.slice a6 n6 c6, .slice a7 n7 c7]) (p * y / Nat.gcd (p * y) (q * x)) (q * x / Nat.gcd (p * y) (q * x))) S4.out.bel HB.out
  clear S4 FZ t0 t1 t2 t3
  go_wp2_with fail
  exact bodyPost_ret (v := .tuple #[.agg #[.slice a6 n6 c6, .slice a7 n7 c7], .bool true]) (by simp [results, Tryz.results54, go_sem, z0, z1]) rfl ⟨_, rfl, Z.out.1, Z.out.2⟩
end Go.Proofs.YtmiiaomdenpceaaGreatDoor


