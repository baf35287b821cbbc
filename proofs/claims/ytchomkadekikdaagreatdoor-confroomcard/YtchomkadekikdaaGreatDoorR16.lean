/- Contracts of the program's functions, part 16: own work, joined in build order. -/
import Derived.Test.YtchomkadekikdaaGreatDoorR15
import Derived.Lib.OthersKept
import Derived.Laws.RangeAny
import Derived.Shelf.Strings.Builder1
import Derived.Shelf.Strings.Builder2
import Derived.Shelf.Strings.OnBuilder
import Derived.Shelf.Strings.BuilderF
import Derived.Shelf.Strconv.Atoi
import Derived.Shelf.Strconv.Itoa0
import Derived.Shelf.Strconv.Itoa1
import Derived.Shelf.LaysM
import Derived.Shelf.Strconv.Itoa2
import Derived.Shelf.Strconv.Itoa3
import Derived.Shelf.Strconv.AtoiErrFast
import Derived.Shelf.Strconv.ParseIntEmpty
import Derived.Shelf.Strconv.AtoiFail
import Derived.Shelf.Strconv.Clone
import Derived.Shelf.Strconv.SyntaxError
import Derived.Shelf.LaysC
import Derived.Shelf.Strconv.ToError
import Derived.Shelf.Strconv.AtoiErr
import Derived.Shelf.Strconv.Lower
import Derived.Shelf.Strconv.ParseUint10
import Derived.Shelf.Strconv.ParseUint10Empty
import Derived.Shelf.Strconv.ParseUint10Any
import Derived.Shelf.Strconv.ParseInt10
import Derived.Shelf.Strconv.AtoiLong
import Derived.Shelf.Strconv.AtoiInnerAll
import Derived.Shelf.Strconv.RangeError
import Derived.Shelf.Strconv.ToErrorRange
import Derived.Shelf.Strconv.AtoiAll
import Derived.Shelf.Strings.Prefix
import Derived.Shelf.Bits.Mul64
import Derived.Shelf.Slices.Turned
import Derived.Test.YtchomkadekikdaaGreatDoorProg
import Derived.Lib.AppendIntMem
namespace Go.Proofs.YtchomkadekikdaaGreatDoor
open Go.RowKit
set_option maxRecDepth 100000
set_option linter.unusedVariables false
def flowE1 (K C : Int) (F : Nat → Nat → Int) (n : Nat) (pw pq pc ps pb : Int) (pr : Nat) (pp pn : Int) : Int := if okAt K F n pn = false then 1 else if hld 1 C pw = false then 93 else if hld (fQ0 (kAt K F n pn)) (fQ1 (kAt K F n pn)) pq = false then 94 else if hld 0 (fC1 (kAt K F n pn)) pc = false then 95 else if hld 0 (fS1 (kAt K F n pn)) ps = false then 96 else if hld 1 1099511627776 pb = false then 97 else if hldF 0 4697254411347427328 pr = false then 98 else if hld 1 1073741824 pp = false then 98 else 0
def flowE (K R M C Fl A : Int) (F : Nat → Nat → Int) (n : Nat) (pw pq pc ps pb : Int) (pr : Nat) (pp pn : Int) : Int := if ¬ checkE K R M C Fl A F n = 0 then checkE K R M C Fl A F n else flowE1 K C F n pw pq pc ps pb pr pp pn
set_option maxHeartbeats 4000000 in
theorem checkFlow_any (K R M C Fl A : Int) (a : Option Addr) (n cap : Nat) (F : Nat → Nat → Int) (pw pq pc ps pb : Int) (pr : Nat) (pp pn : Int) (w : World) (h : NSl w a n cap F) :
    Calls Tryz.prog 16 #[.agg #[.int .i64 K, .int .i64 R, .int .i64 M, .int .i64 C, .int .i64 Fl, .int .i64 A, .slice a n cap], .agg #[.int .i64 pw, .int .i64 pq, .int .i64 pc, .int .i64 ps, .int .i64 pb, .float .f64 pr, .int .i64 pp, .int .i64 pn]] w fun e w' => e = .returned (.int .i64 (flowE K R M C Fl A F n pw pq pc ps pb pr pp pn)) ∧ Below w.heap.size w w' := by
  obtain ⟨E, hE⟩ : ∃ E, flowE K R M C Fl A F n pw pq pc ps pb pr pp pn = E := ⟨_, rfl⟩
  rw [hE]
  obtain ⟨ce, hce⟩ : ∃ ce, checkE K R M C Fl A F n = ce := ⟨_, rfl⟩
  have HE : Hid (E = if ¬ ce = 0 then ce else flowE1 K C F n pw pq pc ps pb pr pp pn) := by
    show E = _
    rw [← hE, flowE, hce]
  have HN : Hid _ := h
  have HCE : Hid _ := hce
  have hl0 : n ≤ 9223372036854775807 := Nat.le_trans h.le h.lim
  clear hE h hce
  go_enter Tryz.func16, Tryz.ntmps16
  go_wp2_with fail
  have S00 : Hid _ := (ce_start w).box7 (.int .i64 K) (.int .i64 R) (.int .i64 M) (.int .i64 C) (.int .i64 Fl) (.int .i64 A) (.slice a n cap) 24 _ rfl
  have S0 : Hid _ := S00.out.box8 (.int .i64 pw) (.int .i64 pq) (.int .i64 pc) (.int .i64 ps) (.int .i64 pb) (.float .f64 pr) (.int .i64 pp) (.int .i64 pn) 27 (w.heap.size + 1) (by simp)
  clear S00
  refine (check_any K R M C Fl A a n cap F _ (HN.out.go S0.out.bel)).mono ?_
  rintro e w1 ⟨rfl, hb⟩
  rw [HCE.out]
  obtain ⟨g, eg⟩ : ∃ g, g = w.heap.size := ⟨_, rfl⟩
  rw [← eg] at S0
  rw [← eg]
  clear eg HCE
  have S1 : Hid _ := S0.out.go hb
  clear hb S0
  by_cases c0 : ce = 0
  · have HX : Hid (E = flowE1 K C F n pw pq pc ps pb pr pp pn) := by
      show E = _
      rw [HE.out, if_neg (by rw [c0]; decide)]
    clear HE
    rename Hid (E = _) => HE
    subst c0
    have x0 := S1.out.cel g 0 (.int .i64 K)
    have x1 := S1.out.cel g 1 (.int .i64 R)
    have x2 := S1.out.cel g 2 (.int .i64 M)
    have x3 := S1.out.cel g 3 (.int .i64 C)
    have x4 := S1.out.cel g 4 (.int .i64 Fl)
    have x5 := S1.out.cel g 5 (.int .i64 A)
    have x6 := S1.out.cel g 6 (.slice a n cap)
    have y0 := S1.out.cel (g + 1) 0 (.int .i64 pw)
    have y1 := S1.out.cel (g + 1) 1 (.int .i64 pq)
    have y2 := S1.out.cel (g + 1) 2 (.int .i64 pc)
    have y3 := S1.out.cel (g + 1) 3 (.int .i64 ps)
    have y4 := S1.out.cel (g + 1) 4 (.int .i64 pb)
    have y5 := S1.out.cel (g + 1) 5 (.float .f64 pr)
    have y6 := S1.out.cel (g + 1) 6 (.int .i64 pp)
    have y7 := S1.out.cel (g + 1) 7 (.int .i64 pn)
    have hl := S1.out.lt (g + 1) 0 (.int .i64 pw)
    have hl2 := S1.out.lt g 0 (.int .i64 K)
    go_wp2_with fail
    refine (kindAt_any K R M C Fl A a n cap F pn _ (HN.out.go S1.out.bel)).mono ?_
    rintro e w2 ⟨rfl, hb⟩
    have S2 : Hid _ := S1.out.go hb
    clear x0 x1 x2 x3 x4 x5 x6 y0 y1 y2 y3 y4 y5 y6 y7 hl hl2
    clear hb S1
    obtain ⟨kk, ek⟩ : ∃ kk, kAt K F n pn = kk := ⟨_, rfl⟩
    obtain ⟨ok, eo⟩ : ∃ ok, okAt K F n pn = ok := ⟨_, rfl⟩
    obtain ⟨q0, f1⟩ : ∃ q0, fQ0 kk = q0 := ⟨_, rfl⟩
    obtain ⟨q1, f2⟩ : ∃ q1, fQ1 kk = q1 := ⟨_, rfl⟩
    obtain ⟨cl, f3⟩ : ∃ cl, fC1 kk = cl := ⟨_, rfl⟩
    obtain ⟨sp, f4⟩ : ∃ sp, fS1 kk = sp := ⟨_, rfl⟩
    obtain ⟨a1, f5⟩ : ∃ a1, fA1 kk = a1 := ⟨_, rfl⟩
    have HFA : Hid _ := FAgg_at kk f1 f2 f3 f4 f5
    have HX : Hid (E = if ok = false then 1 else if hld 1 C pw = false then 93 else if hld q0 q1 pq = false then 94 else if hld 0 cl pc = false then 95 else if hld 0 sp ps = false then 96 else if hld 1 1099511627776 pb = false then 97 else if hldF 0 4697254411347427328 pr = false then 98 else if hld 1 1073741824 pp = false then 98 else 0) := by
      show E = _
      rw [HE.out, flowE1, ek, eo, f1, f2, f3, f4]
    clear HE
    rename Hid (E = _) => HE
    rw [ek, eo]
    clear ek eo f1 f2 f3 f4 f5
    have x0 := S2.out.cel g 0 (.int .i64 K)
    have x1 := S2.out.cel g 1 (.int .i64 R)
    have x2 := S2.out.cel g 2 (.int .i64 M)
    have x3 := S2.out.cel g 3 (.int .i64 C)
    have x4 := S2.out.cel g 4 (.int .i64 Fl)
    have x5 := S2.out.cel g 5 (.int .i64 A)
    have x6 := S2.out.cel g 6 (.slice a n cap)
    have y0 := S2.out.cel (g + 1) 0 (.int .i64 pw)
    have y1 := S2.out.cel (g + 1) 1 (.int .i64 pq)
    have y2 := S2.out.cel (g + 1) 2 (.int .i64 pc)
    have y3 := S2.out.cel (g + 1) 3 (.int .i64 ps)
    have y4 := S2.out.cel (g + 1) 4 (.int .i64 pb)
    have y5 := S2.out.cel (g + 1) 5 (.float .f64 pr)
    have y6 := S2.out.cel (g + 1) 6 (.int .i64 pp)
    have y7 := S2.out.cel (g + 1) 7 (.int .i64 pn)
    have hl := S2.out.lt (g + 1) 0 (.int .i64 pw)
    have hl2 := S2.out.lt g 0 (.int .i64 K)
    go_wp2_with fail
    refine (fieldsOf_any kk _).mono ?_
    rintro e w3 ⟨rfl, hb⟩
    rw [HFA.out]
    have S3 : Hid _ := S2.out.go hb
    clear x0 x1 x2 x3 x4 x5 x6 y0 y1 y2 y3 y4 y5 y6 y7 hl hl2
    clear hb S2 HFA
    have x0 := S3.out.cel g 0 (.int .i64 K)
    have x1 := S3.out.cel g 1 (.int .i64 R)
    have x2 := S3.out.cel g 2 (.int .i64 M)
    have x3 := S3.out.cel g 3 (.int .i64 C)
    have x4 := S3.out.cel g 4 (.int .i64 Fl)
    have x5 := S3.out.cel g 5 (.int .i64 A)
    have x6 := S3.out.cel g 6 (.slice a n cap)
    have y0 := S3.out.cel (g + 1) 0 (.int .i64 pw)
    have y1 := S3.out.cel (g + 1) 1 (.int .i64 pq)
    have y2 := S3.out.cel (g + 1) 2 (.int .i64 pc)
    have y3 := S3.out.cel (g + 1) 3 (.int .i64 ps)
    have y4 := S3.out.cel (g + 1) 4 (.int .i64 pb)
    have y5 := S3.out.cel (g + 1) 5 (.float .f64 pr)
    have y6 := S3.out.cel (g + 1) 6 (.int .i64 pp)
    have y7 := S3.out.cel (g + 1) 7 (.int .i64 pn)
    have hl := S3.out.lt (g + 1) 0 (.int .i64 pw)
    have hl2 := S3.out.lt g 0 (.int .i64 K)
    obtain ⟨m, em⟩ : ∃ m, m = w3.heap.size := ⟨_, rfl⟩
    have S4 : Hid _ := S3.out.box8 (.int .i64 q0) (.int .i64 q1) (.int .i64 0) (.int .i64 cl) (.int .i64 0) (.int .i64 sp) (.int .i64 0) (.int .i64 a1) 84 m em
    clear S3
    rcases hq : ok with _ | _
    · have HR : Hid (E = 1) := by
        show E = 1
        rw [HE.out, if_pos hq]
      clear hq HE
      go_wp2_with fail
      go_ret
      rw [HR.out]
      exact ⟨rfl, S4.out.bel⟩
    have HX : Hid (E = if hld 1 C pw = false then 93 else if hld q0 q1 pq = false then 94 else if hld 0 cl pc = false then 95 else if hld 0 sp ps = false then 96 else if hld 1 1099511627776 pb = false then 97 else if hldF 0 4697254411347427328 pr = false then 98 else if hld 1 1073741824 pp = false then 98 else 0) := by
      show E = _
      rw [HE.out, if_neg (by rw [hq]; decide)]
    clear hq HE
    rename Hid (E = _) => HE
    go_wp2_with fail
    refine (within_any pw 1 C _).mono ?_
    rintro e u1 ⟨rfl, hw⟩
    rw [hw]
    clear hw u1
    rcases hq : hld 1 C pw with _ | _
    · have HR : Hid (E = 93) := by
        show E = 93
        rw [HE.out, if_pos hq]
      clear hq HE
      go_wp2_with fail
      go_ret
      rw [HR.out]
      exact ⟨rfl, S4.out.bel⟩
    have HX : Hid (E = if hld q0 q1 pq = false then 94 else if hld 0 cl pc = false then 95 else if hld 0 sp ps = false then 96 else if hld 1 1099511627776 pb = false then 97 else if hldF 0 4697254411347427328 pr = false then 98 else if hld 1 1073741824 pp = false then 98 else 0) := by
      show E = _
      rw [HE.out, if_neg (by rw [hq]; decide)]
    clear hq HE
    rename Hid (E = _) => HE
    go_wp2_with fail
    rw [← em]
    clear em
    refine (hold_any pq q0 q1 _).mono ?_
    rintro e v2 ⟨rfl, hb⟩
    have T2 : Hid _ := S4.out.go hb
    clear x0 x1 x2 x3 x4 x5 x6 y0 y1 y2 y3 y4 y5 y6 y7 hl hl2
    clear hb S4
    have x0 := T2.out.cel g 0 (.int .i64 K)
    have x1 := T2.out.cel g 1 (.int .i64 R)
    have x2 := T2.out.cel g 2 (.int .i64 M)
    have x3 := T2.out.cel g 3 (.int .i64 C)
    have x4 := T2.out.cel g 4 (.int .i64 Fl)
    have x5 := T2.out.cel g 5 (.int .i64 A)
    have x6 := T2.out.cel g 6 (.slice a n cap)
    have y0 := T2.out.cel (g + 1) 0 (.int .i64 pw)
    have y1 := T2.out.cel (g + 1) 1 (.int .i64 pq)
    have y2 := T2.out.cel (g + 1) 2 (.int .i64 pc)
    have y3 := T2.out.cel (g + 1) 3 (.int .i64 ps)
    have y4 := T2.out.cel (g + 1) 4 (.int .i64 pb)
    have y5 := T2.out.cel (g + 1) 5 (.float .f64 pr)
    have y6 := T2.out.cel (g + 1) 6 (.int .i64 pp)
    have y7 := T2.out.cel (g + 1) 7 (.int .i64 pn)
    have z0 := T2.out.cel m 0 (.int .i64 q0)
    have z1 := T2.out.cel m 1 (.int .i64 q1)
    have z2 := T2.out.cel m 2 (.int .i64 0)
    have z3 := T2.out.cel m 3 (.int .i64 cl)
    have z4 := T2.out.cel m 4 (.int .i64 0)
    have z5 := T2.out.cel m 5 (.int .i64 sp)
    have z6 := T2.out.cel m 6 (.int .i64 0)
    have z7 := T2.out.cel m 7 (.int .i64 a1)
    have hl := T2.out.lt (g + 1) 0 (.int .i64 pw)
    have hl2 := T2.out.lt g 0 (.int .i64 K)
    rcases hq : hld q0 q1 pq with _ | _
    · have HR : Hid (E = 94) := by
        show E = 94
        rw [HE.out, if_pos hq]
      clear hq HE
      go_wp2_with fail
      go_ret
      rw [HR.out]
      exact ⟨rfl, T2.out.bel⟩
    have HX : Hid (E = if hld 0 cl pc = false then 95 else if hld 0 sp ps = false then 96 else if hld 1 1099511627776 pb = false then 97 else if hldF 0 4697254411347427328 pr = false then 98 else if hld 1 1073741824 pp = false then 98 else 0) := by
      show E = _
      rw [HE.out, if_neg (by rw [hq]; decide)]
    clear hq HE
    rename Hid (E = _) => HE
    go_wp2_with fail
    refine (hold_any pc 0 cl _).mono ?_
    rintro e v3 ⟨rfl, hb⟩
    have T3 : Hid _ := T2.out.go hb
    clear x0 x1 x2 x3 x4 x5 x6 y0 y1 y2 y3 y4 y5 y6 y7 z0 z1 z2 z3 z4 z5 z6 z7 hl hl2
    clear hb T2
    have x0 := T3.out.cel g 0 (.int .i64 K)
    have x1 := T3.out.cel g 1 (.int .i64 R)
    have x2 := T3.out.cel g 2 (.int .i64 M)
    have x3 := T3.out.cel g 3 (.int .i64 C)
    have x4 := T3.out.cel g 4 (.int .i64 Fl)
    have x5 := T3.out.cel g 5 (.int .i64 A)
    have x6 := T3.out.cel g 6 (.slice a n cap)
    have y0 := T3.out.cel (g + 1) 0 (.int .i64 pw)
    have y1 := T3.out.cel (g + 1) 1 (.int .i64 pq)
    have y2 := T3.out.cel (g + 1) 2 (.int .i64 pc)
    have y3 := T3.out.cel (g + 1) 3 (.int .i64 ps)
    have y4 := T3.out.cel (g + 1) 4 (.int .i64 pb)
    have y5 := T3.out.cel (g + 1) 5 (.float .f64 pr)
    have y6 := T3.out.cel (g + 1) 6 (.int .i64 pp)
    have y7 := T3.out.cel (g + 1) 7 (.int .i64 pn)
    have z0 := T3.out.cel m 0 (.int .i64 q0)
    have z1 := T3.out.cel m 1 (.int .i64 q1)
    have z2 := T3.out.cel m 2 (.int .i64 0)
    have z3 := T3.out.cel m 3 (.int .i64 cl)
    have z4 := T3.out.cel m 4 (.int .i64 0)
    have z5 := T3.out.cel m 5 (.int .i64 sp)
    have z6 := T3.out.cel m 6 (.int .i64 0)
    have z7 := T3.out.cel m 7 (.int .i64 a1)
    have hl := T3.out.lt (g + 1) 0 (.int .i64 pw)
    have hl2 := T3.out.lt g 0 (.int .i64 K)
    rcases hq : hld 0 cl pc with _ | _
    · have HR : Hid (E = 95) := by
        show E = 95
        rw [HE.out, if_pos hq]
      clear hq HE
      go_wp2_with fail
      go_ret
      rw [HR.out]
      exact ⟨rfl, T3.out.bel⟩
    have HX : Hid (E = if hld 0 sp ps = false then 96 else if hld 1 1099511627776 pb = false then 97 else if hldF 0 4697254411347427328 pr = false then 98 else if hld 1 1073741824 pp = false then 98 else 0) := by
      show E = _
      rw [HE.out, if_neg (by rw [hq]; decide)]
    clear hq HE
    rename Hid (E = _) => HE
    go_wp2_with fail
    refine (hold_any ps 0 sp _).mono ?_
    rintro e v4 ⟨rfl, hb⟩
    have T4 : Hid _ := T3.out.go hb
    clear x0 x1 x2 x3 x4 x5 x6 y0 y1 y2 y3 y4 y5 y6 y7 z0 z1 z2 z3 z4 z5 z6 z7 hl hl2
    clear hb T3
    have x0 := T4.out.cel g 0 (.int .i64 K)
    have x1 := T4.out.cel g 1 (.int .i64 R)
    have x2 := T4.out.cel g 2 (.int .i64 M)
    have x3 := T4.out.cel g 3 (.int .i64 C)
    have x4 := T4.out.cel g 4 (.int .i64 Fl)
    have x5 := T4.out.cel g 5 (.int .i64 A)
    have x6 := T4.out.cel g 6 (.slice a n cap)
    have y0 := T4.out.cel (g + 1) 0 (.int .i64 pw)
    have y1 := T4.out.cel (g + 1) 1 (.int .i64 pq)
    have y2 := T4.out.cel (g + 1) 2 (.int .i64 pc)
    have y3 := T4.out.cel (g + 1) 3 (.int .i64 ps)
    have y4 := T4.out.cel (g + 1) 4 (.int .i64 pb)
    have y5 := T4.out.cel (g + 1) 5 (.float .f64 pr)
    have y6 := T4.out.cel (g + 1) 6 (.int .i64 pp)
    have y7 := T4.out.cel (g + 1) 7 (.int .i64 pn)
    have z0 := T4.out.cel m 0 (.int .i64 q0)
    have z1 := T4.out.cel m 1 (.int .i64 q1)
    have z2 := T4.out.cel m 2 (.int .i64 0)
    have z3 := T4.out.cel m 3 (.int .i64 cl)
    have z4 := T4.out.cel m 4 (.int .i64 0)
    have z5 := T4.out.cel m 5 (.int .i64 sp)
    have z6 := T4.out.cel m 6 (.int .i64 0)
    have z7 := T4.out.cel m 7 (.int .i64 a1)
    have hl := T4.out.lt (g + 1) 0 (.int .i64 pw)
    have hl2 := T4.out.lt g 0 (.int .i64 K)
    rcases hq : hld 0 sp ps with _ | _
    · have HR : Hid (E = 96) := by
        show E = 96
        rw [HE.out, if_pos hq]
      clear hq HE
      go_wp2_with fail
      go_ret
      rw [HR.out]
      exact ⟨rfl, T4.out.bel⟩
    have HX : Hid (E = if hld 1 1099511627776 pb = false then 97 else if hldF 0 4697254411347427328 pr = false then 98 else if hld 1 1073741824 pp = false then 98 else 0) := by
      show E = _
      rw [HE.out, if_neg (by rw [hq]; decide)]
    clear hq HE
    rename Hid (E = _) => HE
    go_wp2_with fail
    refine (within_any pb 1 1099511627776 _).mono ?_
    rintro e u5 ⟨rfl, hw⟩
    rw [hw]
    clear hw u5
    rcases hq : hld 1 1099511627776 pb with _ | _
    · have HR : Hid (E = 97) := by
        show E = 97
        rw [HE.out, if_pos hq]
      clear hq HE
      go_wp2_with fail
      go_ret
      rw [HR.out]
      exact ⟨rfl, T4.out.bel⟩
    have HX : Hid (E = if hldF 0 4697254411347427328 pr = false then 98 else if hld 1 1073741824 pp = false then 98 else 0) := by
      show E = _
      rw [HE.out, if_neg (by rw [hq]; decide)]
    clear hq HE
    rename Hid (E = _) => HE
    go_wp2_with fail
    refine (withinF_any pr 0 4697254411347427328 _).mono ?_
    rintro e u6 ⟨rfl, hw⟩
    rw [hw]
    clear hw u6
    rcases hq : hldF 0 4697254411347427328 pr with _ | _
    · have HR : Hid (E = 98) := by
        show E = 98
        rw [HE.out, if_pos hq]
      clear hq HE
      go_wp2_with fail
      go_ret
      rw [HR.out]
      exact ⟨rfl, T4.out.bel⟩
    have HX : Hid (E = if hld 1 1073741824 pp = false then 98 else 0) := by
      show E = _
      rw [HE.out, if_neg (by rw [hq]; decide)]
    clear hq HE
    rename Hid (E = _) => HE
    go_wp2_with fail
    refine (within_any pp 1 1073741824 _).mono ?_
    rintro e u7 ⟨rfl, hw⟩
    rw [hw]
    clear hw u7
    rcases hq : hld 1 1073741824 pp with _ | _
    · have HR : Hid (E = 98) := by
        show E = 98
        rw [HE.out, if_pos hq]
      clear hq HE
      go_wp2_with fail
      go_ret
      rw [HR.out]
      exact ⟨rfl, T4.out.bel⟩
    have HX : Hid (E = 0) := by
      show E = _
      rw [HE.out, if_neg (by rw [hq]; decide)]
    clear hq HE
    rename Hid (E = _) => HE
    have HR : Hid (E = 0) := by
      show E = 0
      rw [HE.out]
    clear HE
    go_wp2_with fail
    go_ret
    rw [HR.out]
    exact ⟨rfl, T4.out.bel⟩
  have HR : Hid (E = ce) := by
    show E = _
    rw [HE.out, if_pos c0]
  have d : (ce != 0) = true := by simpa using c0
  clear HE c0
  go_wp2_with fail
  go_ret
  rw [HR.out]
  exact ⟨rfl, S1.out.bel⟩
theorem sb_get {s : ByteArray} {i : Nat} : sb s i = (s.get! i).toNat := by
  unfold sb
  split
  · rename_i h
    have := get_at s i h
    rw [← this]
    rfl
  rename_i h
  simp [ByteArray.get!, getElem!_neg, h]
  rfl
theorem decode_skip (s : ByteArray) (pos : Nat) : ∀ j, 1 ≤ j → j < (Utf8.decode s pos).2 → 128 ≤ (s.get! (pos + j)).toNat ∧ pos + j < s.size := by
  intro j h1 h2
  simp only [Utf8.decode] at h2
  repeat' split at h2
  all_goals first | (exfalso; omega) | skip
  all_goals simp only [Bool.and_eq_true, decide_eq_true_eq, beq_iff_eq] at *
  all_goals rcases j with _ | _ | _ | _ | j
  all_goals first | (exfalso; omega) | (refine ⟨?_, ?_⟩ <;> simp_all <;> omega)
def ws (s : ByteArray) : Nat → Nat × List ByteArray
  | 0 => (0, [])
  | i + 1 => if sb s i = 32 then (i + 1, if (ws s i).1 < i then (ws s i).2 ++ [s.extract (ws s i).1 i] else (ws s i).2) else ws s i
def wordsL (s : ByteArray) : List ByteArray := if (ws s s.size).1 < s.size then (ws s s.size).2 ++ [s.extract (ws s s.size).1 s.size] else (ws s s.size).2
theorem ws_le (s : ByteArray) (i : Nat) : (ws s i).1 ≤ i ∧ (ws s i).2.length ≤ i := by
  induction i with
  | zero => simp [ws]
  | succ i ih =>
    rw [ws]
    split
    · refine ⟨Nat.le_refl _, ?_⟩
      show (if (ws s i).1 < i then _ else _ : List ByteArray).length ≤ _
      split
      · simp; omega
      omega
    omega
theorem ws_skip {s : ByteArray} {i : Nat} : ∀ k, (∀ j, j < k → sb s (i + j) ≠ 32) → ws s (i + k) = ws s i
  | 0, _ => rfl
  | k + 1, h => by
    rw [← Nat.add_assoc, ws, if_neg (h k (by omega)), ws_skip k fun j hj => h j (by omega)]
def tx (l : List ByteArray) (i : Nat) : Value := .string (l.getD i ⟨#[]⟩)
theorem tx_snoc (l : List ByteArray) (x : ByteArray) (j : Nat) (hj : j < l.length + 1) : (if j = l.length then .string x else tx l j) = tx (l ++ [x]) j := by
  unfold tx
  by_cases e : j = l.length
  · rw [if_pos e, e]; simp [List.getD]
  rw [if_neg e]
  have : j < l.length := by omega
  simp [List.getD, List.getElem?_append_left this]
theorem Tryz.infoStr : (Tryz.prog.info? 9).map (fun i => (i.zero, i.size, i.bytes)) = some (some (.string ⟨#[]⟩), 1, 16) := by kernel_rfl
theorem itPos_of {w : World} {k : Nat} {s : ByteArray} {p : Nat} (h : w.heap[k]? = some (.stringIter s p)) : w.iterPos k = p := by simp [World.iterPos, h]
theorem OR.iterAt {w : World} {e : TypeId} {base n : Nat} {v : Value} {G : Nat → Value} (h : OR w e base v n G) {k : Nat} (hk : k < base) (s : ByteArray) (p : Nat) : OR (w.iterAt k s p) e base v n G := by
  rcases h with h | ⟨g, cap, f, rfl, hb, hn, hc, h1, h4⟩
  · exact .inl h
  exact .inr ⟨g, cap, f, rfl, hb, hn, hc, h1.of_block (Lib.iterAt_other w k g s p (by omega)), h4⟩
theorem OR.low {w : World} {e : TypeId} {base base' n : Nat} {v : Value} {G : Nat → Value} (h : OR w e base v n G) (hb : base' ≤ base) : OR w e base' v n G := by
  rcases h with h | ⟨g, cap, f, rfl, h1, h2⟩
  · exact .inl h
  exact .inr ⟨g, cap, f, rfl, Nat.le_trans hb h1, h2⟩
theorem ws_next {s : ByteArray} {pos : Nat} (h : pos < s.size) : 1 ≤ (Utf8.decode s pos).2 ∧ pos + (Utf8.decode s pos).2 ≤ s.size ∧ (((Utf8.decode s pos).1 = 32 ∧ (Utf8.decode s pos).2 = 1 ∧ sb s pos = 32) ∨ ((Utf8.decode s pos).1 ≠ 32 ∧ ws s (pos + (Utf8.decode s pos).2) = ws s pos)) := by
  by_cases ha : (s[pos]'h).toNat < 128
  · have e := decode_ascii s pos h ha
    have e2 := sb_at h
    rw [e]
    refine ⟨Nat.le_refl _, by show pos + 1 ≤ _; omega, ?_⟩
    by_cases q : (s[pos]'h).toNat = 32
    · exact .inl ⟨q, rfl, by rw [← e2]; exact q⟩
    refine .inr ⟨q, ws_skip 1 fun j hj => ?_⟩
    obtain rfl : j = 0 := by omega
    rw [Nat.add_zero, ← e2]
    exact q
  have e := decode_high s pos h (by omega)
  refine ⟨e.2, ?_, .inr ⟨by omega, ws_skip _ fun j hj => ?_⟩⟩
  · rcases Nat.lt_or_ge 1 (Utf8.decode s pos).2 with q | q
    · have := (decode_skip s pos ((Utf8.decode s pos).2 - 1) (by omega) (by omega)).2
      omega
    omega
  rcases Nat.eq_zero_or_pos j with rfl | q
  · rw [Nat.add_zero, ← sb_at h]
    omega
  have := (decode_skip s pos j q hj).1
  rw [sb_get]
  omega
set_option maxHeartbeats 1000000 in
theorem words_any (s : ByteArray) (w : World) (hs : s.size ≤ 1000000000) :
    Calls Tryz.prog 49 #[.string s] w fun e w' => ∃ v, e = .returned v ∧ OR w' 9 w.heap.size v (wordsL s).length (tx (wordsL s)) ∧ Below w.heap.size w w' := by
  have HS : Hid _ := hs
  go_enter Tryz.func49, Tryz.ntmps49
  go_wp2_with fail
  go_loopw [3, 4] (fun v f wr => ∃ pos : Nat, pos ≤ s.size ∧ f = .int .i64 ((ws s pos).1 : Int) ∧ wr.heap[w.heap.size]? = some (.stringIter s pos) ∧ Hid (OR wr 9 (w.heap.size + 1) v (ws s pos).2.length (tx (ws s pos).2) ∧ Below w.heap.size w wr)) (fun _ _ wr => s.size - wr.iterPos w.heap.size)
  case atStart => exact ⟨0, Nat.zero_le _, rfl, World.iter_heap w s 0, OR.nil _ _ _ _, (Below.refl _ _).alloc (Nat.le_refl _) _⟩
  case round =>
    obtain ⟨pos, hpos, rfl, hit, HO⟩ := hrel
    have hpos0 := itPos_of hit
    have hw1 := (ws_le s pos).1
    have hw2 := (ws_le s pos).2
    by_cases hp : pos < s.size
    · have hnx : ∀ ty, (Instr.next (.pointer (some ⟨w.heap.size, 0, none⟩)) true ty).run Tryz.prog wr = _ := fun ty => Lib.run_next_any_at wr w.heap.size s pos ty hit hp
      obtain ⟨n1, n2, n3⟩ := ws_next hp
      have hit2 := Lib.iterAt_heap wr w.heap.size s pos (pos + (Utf8.decode s pos).2) hit
      have HO2 : Hid (OR (wr.iterAt w.heap.size s (pos + (Utf8.decode s pos).2)) 9 (w.heap.size + 1) u3 (ws s pos).2.length (tx (ws s pos).2) ∧ Below w.heap.size w (wr.iterAt w.heap.size s (pos + (Utf8.decode s pos).2))) := ⟨HO.out.1.iterAt (by omega) s _, Lib.below_iterAt HO.out.2 (Nat.le_refl _) s _⟩
      obtain ⟨W1, hW1⟩ : ∃ W1, W1 = wr.iterAt w.heap.size s (pos + (Utf8.decode s pos).2) := ⟨_, rfl⟩
      rw [← hW1] at hnx hit2 HO2
      have hlt := lt_of_block hit2
      obtain ⟨r, hr⟩ : ∃ r, (Utf8.decode s pos).1 = r := ⟨_, rfl⟩
      obtain ⟨k, hk⟩ : ∃ k, (Utf8.decode s pos).2 = k := ⟨_, rfl⟩
      rw [hr] at hnx n3
      rw [hk] at n1 n2 n3 hit2
      clear hW1 hit HO
      rcases n3 with ⟨rfl, rfl, n4⟩ | ⟨n3, n4⟩
      · obtain ⟨fr, hf⟩ : ∃ fr, (ws s pos).1 = fr := ⟨_, rfl⟩
        rw [hf] at hw1
        rw [hf]
        by_cases hlf : fr < pos
        · have d : decide ((fr : Int) < (pos : Int)) = true := decide_eq_true (by omega)
          have HE : Hid (ws s (pos + 1) = (pos + 1, (ws s pos).2 ++ [s.extract fr pos])) := by
            show _ = _
            rw [ws, if_pos n4, hf, if_pos hlf]
          have HB1 : Hid _ := HO2.out.1.blk
          go_wp2_with (refine (id ?_ : wpList Tryz.prog _ _ (⟨some 24, _, _, _, _, _⟩ :: _) _ _); refine wpList_append_one rfl (.tmp 18) (.tmp 23) 59 rfl 9 (.string ⟨#[]⟩) 16 Tryz.underlying59 Tryz.infoStr rfl (by omega) (w.heap.size + 1) _ _ _ rfl (HO2.out.1.below (bc_al (bel_refl _))) _ _ rfl _ (by simp; rfl) rfl (by have := HS.out; omega) (by simp; omega) ?_)
          intro g2 cap2 w2 ho hg hor hlt2
          have I2 : Hid _ := ho
          have hit3 : w2.heap[w.heap.size]? = some (.stringIter s (pos + 1)) := by
            rw [hg.block w.heap.size (by simp; omega) (fun h => by have := HB1.out _ h.symm; omega), Below.heap_alloc _ _ _ hlt]
            exact hit2
          have B2 : Hid (Below w.heap.size w w2) := Below.grown (HO2.out.2.alloc (by omega) _) hg (by simp; omega) (fun j hj => by have := HB1.out _ hj; omega)
          clear ho hg hor d n4 hf
          go_wp2_with fail
          go_roundw
          case rel =>
            refine ⟨pos + 1, n2, by rw [HE.out]; go_num, hit3, ?_, B2.out⟩
            rw [HE.out]
            have := OR.congr I2.out (fun j hj => tx_snoc _ _ j hj)
            simpa using this
          case measure => rw [itPos_of hit3, hpos0]; omega
        have d : decide ((fr : Int) < (pos : Int)) = false := decide_eq_false (by omega)
        have HE : Hid (ws s (pos + 1) = (pos + 1, (ws s pos).2)) := by
          show _ = _
          rw [ws, if_pos n4, hf, if_neg hlf]
        clear n4 hf
        go_wp2_with fail
        go_roundw
        case rel =>
          refine ⟨pos + 1, n2, by rw [HE.out]; go_num, hit2, ?_⟩
          rw [HE.out]
          exact HO2.out
        case measure => rw [itPos_of hit2, hpos0]; omega
      have d : (((r : Nat) : Int) != 32) = true := by simp; omega
      have HN : Hid _ := n4
      clear n4 n3
      go_wp2_with fail
      go_roundw
      case rel =>
        refine ⟨pos + k, n2, by rw [HN.out], hit2, ?_⟩
        rw [HN.out]
        exact HO2.out
      case measure => rw [itPos_of hit2, hpos0]; omega
    obtain rfl : pos = s.size := by omega
    have hnx : ∀ ty, (Instr.next (.pointer (some ⟨w.heap.size, 0, none⟩)) true ty).run Tryz.prog wr = _ := fun ty => Lib.run_next_end_at wr w.heap.size s s.size ty hit hp
    obtain ⟨fr, hf⟩ : ∃ fr, (ws s s.size).1 = fr := ⟨_, rfl⟩
    have hlt := lt_of_block hit
    rw [hf] at hw1
    rw [hf]
    by_cases hlf : fr < s.size
    · have d : decide ((fr : Int) < (s.size : Int)) = true := decide_eq_true (by omega)
      have HE : Hid (wordsL s = (ws s s.size).2 ++ [s.extract fr s.size]) := by
        show _ = _
        rw [wordsL, hf, if_pos hlf]
      have HB1 : Hid _ := HO.out.1.blk
      clear hf
      go_wp2_with (refine (id ?_ : wpList Tryz.prog _ _ (⟨some 36, _, _, _, _, _⟩ :: _) _ _); refine wpList_append_one rfl (.tmp 31) (.tmp 35) 59 rfl 9 (.string ⟨#[]⟩) 16 Tryz.underlying59 Tryz.infoStr rfl (by omega) (w.heap.size + 1) _ _ _ rfl (HO.out.1.below (bc_al (bel_refl _))) _ _ rfl _ (by simp; rfl) rfl (by have := HS.out; omega) (by simp; omega) ?_)
      intro g2 cap2 w2 ho hg hor hlt2
      have I2 : Hid _ := ho
      have B2 : Hid (Below w.heap.size w w2) := Below.grown (HO.out.2.alloc (by omega) _) hg (by simp; omega) (fun j hj => by have := HB1.out _ hj; omega)
      clear ho hg hor
      go_wp2_with fail
      go_ret
      refine ⟨_, rfl, ?_, B2.out⟩
      rw [HE.out]
      have := OR.congr I2.out (fun j hj => tx_snoc _ _ j hj)
      exact OR.low (by simpa using this) (by omega)
    have d : decide ((fr : Int) < (s.size : Int)) = false := decide_eq_false (by omega)
    have HE : Hid (wordsL s = (ws s s.size).2) := by
      show _ = _
      rw [wordsL, hf, if_neg hlf]
    clear hf
    go_wp2_with fail
    go_ret
    refine ⟨_, rfl, ?_, HO.out.2⟩
    rw [HE.out]
    exact OR.low HO.out.1 (by omega)
end Go.Proofs.YtchomkadekikdaaGreatDoor
namespace Go.Proofs
open Go.Shelf
def Tryz.lays156_ren : Go.Shelf.Ren := ⟨fun | 156 => 27 | 165 => 64 | 166 => 65 | 169 => 66 | 240 => 105 | 241 => 106 | 276 => 132 | 277 => 133 | n => n, fun | 31 => 59 | 9 => 9 | 3 => 3 | 4 => 4 | 0 => 0 | 20 => 20 | 72 => 125 | 76 => 129 | 70 => 122 | 37 => 123 | 75 => 128 | 127 => 169 | 164 => 198 | 5 => 5 | 80 => 131 | n => n, fun | n => n⟩
theorem Tryz.lays156 : Go.Proofs.Lays.n156 Tryz.prog Tryz.lays156_ren := {
  mixed := by kernel_rfl
  f156 := Tryz.func27.trans (congrArg some (by kernel_rfl))
  f165 := Tryz.func64.trans (congrArg some (by kernel_rfl))
  f166 := Tryz.func65.trans (congrArg some (by kernel_rfl))
  f169 := Tryz.func66.trans (congrArg some (by kernel_rfl))
  f240 := Tryz.func105.trans (congrArg some (by kernel_rfl))
  f241 := Tryz.func106.trans (congrArg some (by kernel_rfl))
  f276 := Tryz.func132.trans (congrArg some (by kernel_rfl))
  f277 := Tryz.func133.trans (congrArg some (by kernel_rfl))
  t0 := Tryz.underlying0
  a0 := Tryz.isAgg0
  z0 := Tryz.sizeOf0
  v0 := Tryz.zeroValue0
  t3 := Tryz.underlying3
  a3 := Tryz.isAgg3
  z3 := Tryz.sizeOf3
  v3 := Tryz.zeroValue3
  t4 := Tryz.underlying4
  a4 := Tryz.isAgg4
  z4 := Tryz.sizeOf4
  v4 := Tryz.zeroValue4
  t9 := Tryz.underlying9
  a9 := Tryz.isAgg9
  z9 := Tryz.sizeOf9
  v9 := Tryz.zeroValue9
  t20 := Tryz.underlying20
  a20 := Tryz.isAgg20
  z20 := Tryz.sizeOf20
  v20 := Tryz.zeroValue20
  t31 := Tryz.underlying59
  a31 := Tryz.isAgg59
  z31 := Tryz.sizeOf59
  v31 := Tryz.zeroValue59
  t37 := Tryz.underlying123
  a37 := Tryz.isAgg123
  z37 := Tryz.sizeOf123
  v37 := Tryz.zeroValue123
  t70 := Tryz.underlying122
  a70 := Tryz.isAgg122
  z70 := Tryz.sizeOf122
  v70 := Tryz.zeroValue122
  t72 := Tryz.underlying125
  a72 := Tryz.isAgg125
  z72 := Tryz.sizeOf125
  v72 := Tryz.zeroValue125
  t75 := Tryz.underlying128
  a75 := Tryz.isAgg128
  z75 := Tryz.sizeOf128
  v75 := Tryz.zeroValue128
  t76 := Tryz.underlying129
  a76 := Tryz.isAgg129
  z76 := Tryz.sizeOf129
  v76 := Tryz.zeroValue129
  t127 := Tryz.underlying169
  a127 := Tryz.isAgg169
  z127 := Tryz.sizeOf169
  v127 := Tryz.zeroValue169
  t164 := Tryz.underlying198
  a164 := Tryz.isAgg198
  z164 := Tryz.sizeOf198
  v164 := Tryz.zeroValue198 }
theorem Tryz.Builder_Extra_156 : Builder.Extra Tryz.prog Tryz.lays156_ren := {
  sizeBuilder := by kernel_rfl
  liesBuilder := by kernel_rfl
  t5 := Tryz.underlying5
  a5 := Tryz.isAgg5
  z5 := Tryz.sizeOf5
  v5 := Tryz.zeroValue5
  infoByte := by kernel_rfl
  cellsByte := by kernel_rfl
  sizeByte := by kernel_rfl
  neB5 := by decide }
open Go.RowKit in
theorem Tryz.strings_Join (bk o c : Nat) (xs : List ByteArray) (sep : ByteArray) (w : World) (hcells : ∀ (j : Nat) x, xs[j]? = some x → w.cell? ⟨bk, o + j, none⟩ = some (.string x)) (hbk : bk < w.heap.size) (hN : xs.length ≤ 140737488355328) (hcap : xs.length ≤ c) (hlen : (Lib.join (xs.map (·.data.toList)) sep.data.toList).length ≤ 140737488355328) :
    Calls Tryz.prog 27 #[.slice (some ⟨bk, o, none⟩) xs.length c, .string sep] w fun e w' => e = .returned (.string ⟨(Lib.join (xs.map (·.data.toList)) sep.data.toList).toArray⟩) ∧ Below w.heap.size w w' := Any.strings_Join Tryz.lays156 Tryz.Builder_Extra_156 bk o c xs sep w hcells hbk hN hcap hlen
def Tryz.laysM171_ren : Go.Shelf.Ren := ⟨fun | 171 => 63 | 243 => 104 | 246 => 131 | 283 => 161 | 284 => 162 | 285 => 163 | 286 => 164 | 129 => 113 | 317 => 186 | 318 => 187 | 319 => 188 | 320 => 189 | 337 => 201 | 338 => 165 | n => n, fun | 3 => 3 | 9 => 9 | 2 => 2 | 4 => 4 | 171 => 217 | 0 => 0 | 53 => 78 | 37 => 123 | 5 => 5 | 173 => 219 | 212 => 244 | 51 => 245 | 20 => 20 | 213 => 246 | 46 => 133 | 232 => 267 | 233 => 248 | n => n, fun | 17 => 3 | 18 => 9 | 19 => 4 | n => n⟩
theorem Tryz.laysM171 : Go.Proofs.LaysM.n171 Tryz.prog Tryz.laysM171_ren := {
  mixed := by kernel_rfl
  f129 := Tryz.func113.trans (congrArg some (by kernel_rfl))
  f171 := Tryz.func63.trans (congrArg some (by kernel_rfl))
  f243 := Tryz.func104.trans (congrArg some (by kernel_rfl))
  f246 := Tryz.func131.trans (congrArg some (by kernel_rfl))
  f283 := Tryz.func161.trans (congrArg some (by kernel_rfl))
  f284 := Tryz.func162.trans (congrArg some (by kernel_rfl))
  f285 := Tryz.func163.trans (congrArg some (by kernel_rfl))
  f286 := Tryz.func164.trans (congrArg some (by kernel_rfl))
  f317 := Tryz.func186.trans (congrArg some (by kernel_rfl))
  f318 := Tryz.func187.trans (congrArg some (by kernel_rfl))
  f319 := Tryz.func188.trans (congrArg some (by kernel_rfl))
  f320 := Tryz.func189.trans (congrArg some (by kernel_rfl))
  f337 := Tryz.func201.trans (congrArg some (by kernel_rfl))
  f338 := Tryz.func165.trans (congrArg some (by kernel_rfl))
  t0 := Tryz.underlying0
  a0 := Tryz.isAgg0
  z0 := Tryz.sizeOf0
  v0 := Tryz.zeroValue0
  t2 := Tryz.underlying2
  a2 := Tryz.isAgg2
  z2 := Tryz.sizeOf2
  v2 := Tryz.zeroValue2
  t3 := Tryz.underlying3
  a3 := Tryz.isAgg3
  z3 := Tryz.sizeOf3
  v3 := Tryz.zeroValue3
  t4 := Tryz.underlying4
  a4 := Tryz.isAgg4
  z4 := Tryz.sizeOf4
  v4 := Tryz.zeroValue4
  t5 := Tryz.underlying5
  a5 := Tryz.isAgg5
  z5 := Tryz.sizeOf5
  v5 := Tryz.zeroValue5
  t9 := Tryz.underlying9
  a9 := Tryz.isAgg9
  z9 := Tryz.sizeOf9
  v9 := Tryz.zeroValue9
  t20 := Tryz.underlying20
  a20 := Tryz.isAgg20
  z20 := Tryz.sizeOf20
  v20 := Tryz.zeroValue20
  t37 := Tryz.underlying123
  a37 := Tryz.isAgg123
  z37 := Tryz.sizeOf123
  v37 := Tryz.zeroValue123
  t46 := Tryz.underlying133
  a46 := Tryz.isAgg133
  z46 := Tryz.sizeOf133
  v46 := Tryz.zeroValue133
  t51 := Tryz.underlying245
  a51 := Tryz.isAgg245
  z51 := Tryz.sizeOf245
  v51 := Tryz.zeroValue245
  t53 := Tryz.underlying78
  a53 := Tryz.isAgg78
  z53 := Tryz.sizeOf78
  v53 := Tryz.zeroValue78
  t171 := Tryz.underlying217
  a171 := Tryz.isAgg217
  z171 := Tryz.sizeOf217
  v171 := Tryz.zeroValue217
  t173 := Tryz.underlying219
  a173 := Tryz.isAgg219
  z173 := Tryz.sizeOf219
  v173 := Tryz.zeroValue219
  t212 := Tryz.underlying244
  a212 := Tryz.isAgg244
  z212 := Tryz.sizeOf244
  v212 := Tryz.zeroValue244
  t213 := Tryz.underlying246
  a213 := Tryz.isAgg246
  z213 := Tryz.sizeOf246
  t232 := Tryz.underlying267
  a232 := Tryz.isAgg267
  z232 := Tryz.sizeOf267
  v232 := Tryz.zeroValue267
  t233 := Tryz.underlying248
  a233 := Tryz.isAgg248
  z233 := Tryz.sizeOf248
  v233 := Tryz.zeroValue248
  g17 := by kernel_rfl
  g18 := by kernel_rfl
  g19 := by kernel_rfl
  i0 := by kernel_rfl
  i2 := by kernel_rfl
  i3 := by kernel_rfl
  i4 := by kernel_rfl
  i5 := by kernel_rfl
  i9 := by kernel_rfl
  i20 := by kernel_rfl
  i37 := by kernel_rfl
  i46 := by kernel_rfl
  i51 := by kernel_rfl
  i53 := by kernel_rfl
  i171 := by kernel_rfl
  i173 := by kernel_rfl
  i212 := by kernel_rfl
  i232 := by kernel_rfl
  i233 := by kernel_rfl
  m17 := by kernel_rfl
  m18 := by kernel_rfl
  m19 := by kernel_rfl }
open Go.RowKit Go.Sort Go.Lib in
theorem Tryz.strconv_Itoa (n : Int) (h0 : -9223372036854775808 ≤ n) (h1 : n ≤ 9223372036854775807) (w : World) (htab : Lib.TabIs Tryz.prog w "internal/strconv.uint64pow10" .u64 Lib.pow10Tab) :
    Calls Tryz.prog 63 #[.int .i64 n] w fun e w' => e = .returned (.string ⟨(Lib.itoa n).toArray⟩) ∧ ∃ k os, w' = grow (w.drewN k) os := Any.strconv_Itoa Tryz.laysM171 n h0 h1 w htab
def Tryz.laysC172_ren : Go.Shelf.Ren := ⟨fun | 172 => 121 | 244 => 143 | 245 => 144 | 247 => 174 | 279 => 175 | 280 => 176 | 281 => 177 | 282 => 178 | 287 => 195 | 316 => 196 | 171 => 63 | 205 => 197 | 321 => 205 | 322 => 206 | 243 => 104 | 246 => 131 | 283 => 161 | 284 => 162 | 285 => 163 | 286 => 164 | 129 => 113 | 317 => 186 | 318 => 187 | 319 => 188 | 320 => 189 | 337 => 201 | 338 => 165 | n => n, fun | 9 => 9 | 3 => 3 | 75 => 128 | 76 => 129 | 4 => 4 | 5 => 5 | 167 => 230 | 37 => 123 | 0 => 0 | 85 => 231 | 2 => 2 | 168 => 233 | 53 => 78 | 175 => 252 | 46 => 133 | 210 => 256 | 127 => 169 | 145 => 266 | 143 => 264 | 21 => 21 | 171 => 217 | 173 => 219 | 212 => 244 | 51 => 245 | 20 => 20 | 213 => 246 | 232 => 267 | 233 => 248 | 80 => 131 | n => n, fun | 15 => 5 | 16 => 6 | 17 => 3 | 18 => 9 | 19 => 4 | n => n⟩
theorem Tryz.laysC172 : Go.Proofs.LaysC.n172 Tryz.prog Tryz.laysC172_ren := {
  mixed := by kernel_rfl
  f129 := Tryz.func113.trans (congrArg some (by kernel_rfl))
  f171 := Tryz.func63.trans (congrArg some (by kernel_rfl))
  f172 := Tryz.func121.trans (congrArg some (by kernel_rfl))
  f205 := Tryz.func197.trans (congrArg some (by kernel_rfl))
  f243 := Tryz.func104.trans (congrArg some (by kernel_rfl))
  f244 := Tryz.func143.trans (congrArg some (by kernel_rfl))
  f245 := Tryz.func144.trans (congrArg some (by kernel_rfl))
  f246 := Tryz.func131.trans (congrArg some (by kernel_rfl))
  f247 := Tryz.func174.trans (congrArg some (by kernel_rfl))
  f279 := Tryz.func175.trans (congrArg some (by kernel_rfl))
  f280 := Tryz.func176.trans (congrArg some (by kernel_rfl))
  f281 := Tryz.func177.trans (congrArg some (by kernel_rfl))
  f282 := Tryz.func178.trans (congrArg some (by kernel_rfl))
  f283 := Tryz.func161.trans (congrArg some (by kernel_rfl))
  f284 := Tryz.func162.trans (congrArg some (by kernel_rfl))
  f285 := Tryz.func163.trans (congrArg some (by kernel_rfl))
  f286 := Tryz.func164.trans (congrArg some (by kernel_rfl))
  f287 := Tryz.func195.trans (congrArg some (by kernel_rfl))
  f316 := Tryz.func196.trans (congrArg some (by kernel_rfl))
  f317 := Tryz.func186.trans (congrArg some (by kernel_rfl))
  f318 := Tryz.func187.trans (congrArg some (by kernel_rfl))
  f319 := Tryz.func188.trans (congrArg some (by kernel_rfl))
  f320 := Tryz.func189.trans (congrArg some (by kernel_rfl))
  f321 := Tryz.func205.trans (congrArg some (by kernel_rfl))
  f322 := Tryz.func206.trans (congrArg some (by kernel_rfl))
  f337 := Tryz.func201.trans (congrArg some (by kernel_rfl))
  f338 := Tryz.func165.trans (congrArg some (by kernel_rfl))
  t0 := Tryz.underlying0
  a0 := Tryz.isAgg0
  z0 := Tryz.sizeOf0
  v0 := Tryz.zeroValue0
  t2 := Tryz.underlying2
  a2 := Tryz.isAgg2
  z2 := Tryz.sizeOf2
  v2 := Tryz.zeroValue2
  t3 := Tryz.underlying3
  a3 := Tryz.isAgg3
  z3 := Tryz.sizeOf3
  v3 := Tryz.zeroValue3
  t4 := Tryz.underlying4
  a4 := Tryz.isAgg4
  z4 := Tryz.sizeOf4
  v4 := Tryz.zeroValue4
  t5 := Tryz.underlying5
  a5 := Tryz.isAgg5
  z5 := Tryz.sizeOf5
  v5 := Tryz.zeroValue5
  t9 := Tryz.underlying9
  a9 := Tryz.isAgg9
  z9 := Tryz.sizeOf9
  v9 := Tryz.zeroValue9
  t20 := Tryz.underlying20
  a20 := Tryz.isAgg20
  z20 := Tryz.sizeOf20
  v20 := Tryz.zeroValue20
  t21 := Tryz.underlying21
  a21 := Tryz.isAgg21
  z21 := Tryz.sizeOf21
  v21 := Tryz.zeroValue21
  t37 := Tryz.underlying123
  a37 := Tryz.isAgg123
  z37 := Tryz.sizeOf123
  v37 := Tryz.zeroValue123
  t46 := Tryz.underlying133
  a46 := Tryz.isAgg133
  z46 := Tryz.sizeOf133
  v46 := Tryz.zeroValue133
  t51 := Tryz.underlying245
  a51 := Tryz.isAgg245
  z51 := Tryz.sizeOf245
  v51 := Tryz.zeroValue245
  t53 := Tryz.underlying78
  a53 := Tryz.isAgg78
  z53 := Tryz.sizeOf78
  v53 := Tryz.zeroValue78
  t75 := Tryz.underlying128
  a75 := Tryz.isAgg128
  z75 := Tryz.sizeOf128
  v75 := Tryz.zeroValue128
  t76 := Tryz.underlying129
  a76 := Tryz.isAgg129
  z76 := Tryz.sizeOf129
  v76 := Tryz.zeroValue129
  t85 := Tryz.underlying231
  a85 := Tryz.isAgg231
  z85 := Tryz.sizeOf231
  v85 := Tryz.zeroValue231
  t127 := Tryz.underlying169
  a127 := Tryz.isAgg169
  z127 := Tryz.sizeOf169
  v127 := Tryz.zeroValue169
  t143 := Tryz.underlying264
  a143 := Tryz.isAgg264
  z143 := Tryz.sizeOf264
  v143 := Tryz.zeroValue264
  t145 := Tryz.underlying266
  a145 := Tryz.isAgg266
  z145 := Tryz.sizeOf266
  v145 := Tryz.zeroValue266
  t167 := Tryz.underlying230
  a167 := Tryz.isAgg230
  z167 := Tryz.sizeOf230
  v167 := Tryz.zeroValue230
  t168 := Tryz.underlying233
  a168 := Tryz.isAgg233
  z168 := Tryz.sizeOf233
  v168 := Tryz.zeroValue233
  t171 := Tryz.underlying217
  a171 := Tryz.isAgg217
  z171 := Tryz.sizeOf217
  v171 := Tryz.zeroValue217
  t173 := Tryz.underlying219
  a173 := Tryz.isAgg219
  z173 := Tryz.sizeOf219
  v173 := Tryz.zeroValue219
  t175 := Tryz.underlying252
  a175 := Tryz.isAgg252
  z175 := Tryz.sizeOf252
  v175 := Tryz.zeroValue252
  t210 := Tryz.underlying256
  a210 := Tryz.isAgg256
  z210 := Tryz.sizeOf256
  v210 := Tryz.zeroValue256
  t212 := Tryz.underlying244
  a212 := Tryz.isAgg244
  z212 := Tryz.sizeOf244
  v212 := Tryz.zeroValue244
  t213 := Tryz.underlying246
  a213 := Tryz.isAgg246
  z213 := Tryz.sizeOf246
  t232 := Tryz.underlying267
  a232 := Tryz.isAgg267
  z232 := Tryz.sizeOf267
  v232 := Tryz.zeroValue267
  t233 := Tryz.underlying248
  a233 := Tryz.isAgg248
  z233 := Tryz.sizeOf248
  v233 := Tryz.zeroValue248
  g15 := by kernel_rfl
  g16 := by kernel_rfl
  g17 := by kernel_rfl
  g18 := by kernel_rfl
  g19 := by kernel_rfl
  t80 := Tryz.underlying131
  a80 := Tryz.isAgg131
  z80 := Tryz.sizeOf131
  v80 := Tryz.zeroValue131
  i0 := by kernel_rfl
  i2 := by kernel_rfl
  i3 := by kernel_rfl
  i4 := by kernel_rfl
  i5 := by kernel_rfl
  i9 := by kernel_rfl
  i20 := by kernel_rfl
  i21 := by kernel_rfl
  i37 := by kernel_rfl
  i46 := by kernel_rfl
  i51 := by kernel_rfl
  i53 := by kernel_rfl
  i75 := by kernel_rfl
  i76 := by kernel_rfl
  i80 := by kernel_rfl
  i85 := by kernel_rfl
  i127 := by kernel_rfl
  i143 := by kernel_rfl
  i145 := by kernel_rfl
  i167 := by kernel_rfl
  i168 := by kernel_rfl
  i171 := by kernel_rfl
  i173 := by kernel_rfl
  i175 := by kernel_rfl
  i210 := by kernel_rfl
  i212 := by kernel_rfl
  i232 := by kernel_rfl
  i233 := by kernel_rfl
  m15 := by kernel_rfl
  m16 := by kernel_rfl
  m17 := by kernel_rfl
  m18 := by kernel_rfl
  m19 := by kernel_rfl
  c0 := by kernel_rfl
  c2 := by kernel_rfl
  c3 := by kernel_rfl
  c4 := by kernel_rfl
  c5 := by kernel_rfl
  c9 := by kernel_rfl
  c20 := by kernel_rfl
  c21 := by kernel_rfl
  c37 := by kernel_rfl
  c46 := by kernel_rfl
  c51 := by kernel_rfl
  c53 := by kernel_rfl
  c75 := by kernel_rfl
  c76 := by kernel_rfl
  c80 := by kernel_rfl
  c85 := by kernel_rfl
  c127 := by kernel_rfl
  c143 := by kernel_rfl
  c145 := by kernel_rfl
  c167 := by kernel_rfl
  c168 := by kernel_rfl
  c171 := by kernel_rfl
  c173 := by kernel_rfl
  c175 := by kernel_rfl
  c210 := by kernel_rfl
  c212 := by kernel_rfl
  c213 := by kernel_rfl
  c232 := by kernel_rfl
  c233 := by kernel_rfl }
open Go.RowKit in
theorem Tryz.strconv_Atoi_ok (s : ByteArray) (hmax : s.size ≤ 9223372036854775806) (v : Int) (h : Lib.atoiAll s.data.toList = .ok v) (w : World) :
    Calls Tryz.prog 121 #[.string s] w fun e w' => e = .returned (.tuple #[.int .i64 v, .nilIface]) ∧ (w' = w ∨ ∃ t, w' = Lib.bytesWorld w 5 t) := Any.strconv_Atoi_ok Tryz.laysC172 s hmax v h w
open Go.RowKit in
theorem Tryz.strconv_Atoi_syntax (s : ByteArray) (hlim : s.size ≤ 281474976710656) (h : Lib.atoiAll s.data.toList = .«syntax») (ev : Value) (w : World) (hv : w.cell? ⟨5, 0, none⟩ = some ev) (hev : ev = .nilIface ∨ ∃ te pe, ev = .iface te pe) :
    Calls Tryz.prog 121 #[.string s] w fun e w' => ∃ N, e = .returned (.tuple #[.int .i64 (0), .iface 233 (.pointer (some ⟨N, 0, none⟩))]) ∧ w.heap.size ≤ N ∧ w'.heap[N]? = some (.cells #[.string ⟨#[65, 116, 111, 105]⟩, .string s, ev] 256 (0, 0)) ∧ Below w.heap.size w w' := Any.strconv_Atoi_syntax Tryz.laysC172 s hlim h ev w hv hev
open Go.RowKit in
theorem Tryz.strconv_Atoi_range (s : ByteArray) (hlim : s.size ≤ 281474976710656) (h : Lib.atoiAll s.data.toList = .range) (ev : Value) (w : World) (hv : w.cell? ⟨6, 0, none⟩ = some ev) (hev : ev = .nilIface ∨ ∃ te pe, ev = .iface te pe) :
    Calls Tryz.prog 121 #[.string s] w fun e w' => ∃ N, e = .returned (.tuple #[.int .i64 (Lib.atoiSat s.data.toList), .iface 233 (.pointer (some ⟨N, 0, none⟩))]) ∧ w.heap.size ≤ N ∧ w'.heap[N]? = some (.cells #[.string ⟨#[65, 116, 111, 105]⟩, .string s, ev] 256 (0, 0)) ∧ Below w.heap.size w w' := Any.strconv_Atoi_range Tryz.laysC172 s hlim h ev w hv hev
def Tryz.lays101_ren : Go.Shelf.Ren := ⟨fun | 101 => 122 | 208 => 145 | 206 => 179 | n => n, fun | 9 => 9 | 4 => 4 | 3 => 3 | n => n, fun | n => n⟩
theorem Tryz.lays101 : Go.Proofs.Lays.n101 Tryz.prog Tryz.lays101_ren := {
  mixed := by kernel_rfl
  f101 := Tryz.func122.trans (congrArg some (by kernel_rfl))
  f206 := Tryz.func179.trans (congrArg some (by kernel_rfl))
  f208 := Tryz.func145.trans (congrArg some (by kernel_rfl))
  t3 := Tryz.underlying3
  a3 := Tryz.isAgg3
  z3 := Tryz.sizeOf3
  v3 := Tryz.zeroValue3
  t4 := Tryz.underlying4
  a4 := Tryz.isAgg4
  z4 := Tryz.sizeOf4
  v4 := Tryz.zeroValue4
  t9 := Tryz.underlying9
  a9 := Tryz.isAgg9
  z9 := Tryz.sizeOf9
  v9 := Tryz.zeroValue9 }
open Go.RowKit Go.Lib in
theorem Tryz.strings_TrimPrefix (s p : ByteArray) (w : World) :
    Calls Tryz.prog 122 #[.string s, .string p] w fun e w' => e = .returned (.string ⟨(Lib.trimPrefix s.data.toList p.data.toList).toArray⟩) ∧ w' = w := Any.strings_TrimPrefix Tryz.lays101 s p w
def Tryz.lays109_ren : Go.Shelf.Ren := ⟨fun | 109 => 120 | n => n, fun | 31 => 59 | 9 => 9 | 3 => 3 | 0 => 0 | 4 => 4 | n => n, fun | n => n⟩
theorem Tryz.lays109 : Go.Proofs.Lays.n109 Tryz.prog Tryz.lays109_ren := {
  mixed := by kernel_rfl
  f109 := Tryz.func120.trans (congrArg some (by kernel_rfl))
  t0 := Tryz.underlying0
  a0 := Tryz.isAgg0
  z0 := Tryz.sizeOf0
  v0 := Tryz.zeroValue0
  t3 := Tryz.underlying3
  a3 := Tryz.isAgg3
  z3 := Tryz.sizeOf3
  v3 := Tryz.zeroValue3
  t4 := Tryz.underlying4
  a4 := Tryz.isAgg4
  z4 := Tryz.sizeOf4
  v4 := Tryz.zeroValue4
  t9 := Tryz.underlying9
  a9 := Tryz.isAgg9
  z9 := Tryz.sizeOf9
  v9 := Tryz.zeroValue9
  t31 := Tryz.underlying59
  a31 := Tryz.isAgg59
  z31 := Tryz.sizeOf59
  v31 := Tryz.zeroValue59 }
open Go.Lib in
theorem Tryz.slices_Index_string (b off n c : Nat) (zs : List ByteArray) (x : ByteArray) (w : World) (hz : n ≤ zs.length) (hbig : n ≤ 9223372036854775807) (hc : ∀ j, j < zs.length → w.cell? ⟨b, off + j, none⟩ = some (.string (zs.getD j ByteArray.empty))) :
    Calls Tryz.prog 120 #[.slice (some ⟨b, off, none⟩) n c, .string x] w fun e w' => e = .returned (.int .i64 (Lib.idxOfS (zs.take n) x)) ∧ w' = w := Any.slices_Index_string Tryz.lays109 b off n c zs x w hz hbig hc
end Go.Proofs
namespace Go.Proofs.YtchomkadekikdaaGreatDoor
open Go.RowKit
set_option maxRecDepth 100000
set_option linter.unusedVariables false
theorem bc_grow (w : World) (k : Nat) (os : Array Obj) : Below w.heap.size w (Go.Sort.grow (w.drewN k) os) := ⟨rfl, rfl, rfl, by show _ ≤ (w.heap ++ os).size; simp, fun i hi => by show (w.heap ++ os)[i]? = _; rw [Array.getElem?_append_left hi]⟩
def itT (x : Int) : ByteArray := ⟨(Lib.itoa x).toArray⟩
theorem itoa_any (x : Int) (h0 : -9223372036854775808 ≤ x) (h1 : x ≤ 9223372036854775807) (w : World) (ht : Lib.TabIs Tryz.prog w "internal/strconv.uint64pow10" .u64 Lib.pow10Tab) : Calls Tryz.prog 63 #[.int .i64 x] w fun e w' => e = .returned (.string (itT x)) ∧ Below w.heap.size w w' := by
  refine (Tryz.strconv_Itoa x h0 h1 w ht).mono ?_
  rintro e w' ⟨rfl, k, os, rfl⟩
  exact ⟨rfl, bc_grow w k os⟩
set_option maxHeartbeats 1000000 in
theorem digits_any (b o n c : Nat) (X : Nat → Int) (w : World) (hn : n ≤ 1000) (hc : n ≤ c) (hx : ∀ i, i < n → w.cell? ⟨b, o + i, none⟩ = some (.int .i64 (X i))) (hb : ∀ i, i < n → -9223372036854775808 ≤ X i ∧ X i ≤ 9223372036854775807) (ht : Lib.TabIs Tryz.prog w "internal/strconv.uint64pow10" .u64 Lib.pow10Tab) :
    Calls Tryz.prog 26 #[.slice (some ⟨b, o, none⟩) n c] w fun e w' => ∃ v, e = .returned v ∧ OR w' 9 w.heap.size v n (fun i => .string (itT (X i))) ∧ Below w.heap.size w w' := by
  have HX : Hid _ := hx
  have HB : Hid _ := hb
  have HT : Hid _ := Lib.tabBelow_of_tabIs ht
  clear hx hb ht
  go_enter Tryz.func26, Tryz.ntmps26
  go_wp2_with fail
  go_loopw [3, 8] (fun v t wr => ∃ k : Nat, k ≤ n ∧ t = .int .i64 (k : Int) ∧ Hid (OR wr 9 w.heap.size v k (fun i => .string (itT (X i))) ∧ Below w.heap.size w wr)) (fun _ t _ => n - (intOf t).toNat)
  case atStart => exact ⟨0, by omega, rfl, OR.nil _ _ _ _, bel_refl _⟩
  case round =>
    obtain ⟨k, hk, rfl, HO⟩ := hrel
    by_cases e : k = n
    · rw [e] at HO
      rw [e]
      clear e hk k
      go_wp2_with fail
      go_ret
      exact ⟨_, rfl, HO.out⟩
    have lk : k < n := by omega
    have x0 := bc_cell HO.out.2 (HX.out k lk)
    have hsz := HO.out.2.size
    clear e
    go_wp2_with fail
    refine (itoa_any (X k) (HB.out k lk).1 (HB.out k lk).2 _ (HT.out _ HO.out.2)).mono ?_
    rintro e w3 ⟨rfl, hb⟩
    have H3 : Hid (OR w3 9 w.heap.size u3 k (fun i => .string (itT (X i))) ∧ Below w.heap.size w w3) := ⟨HO.out.1.below hb, bc_go HO.out.2 hb⟩
    have HB1 : Hid _ := HO.out.1.blk
    have hsz3 := H3.out.2.size
    clear hb HO x0
    go_wp2_with (refine (id ?_ : wpList Tryz.prog _ _ (⟨some 16, _, _, _, _, _⟩ :: _) _ _); refine wpList_append_one rfl (.tmp 12) (.tmp 15) 59 rfl 9 (.string ⟨#[]⟩) 16 Tryz.underlying59 Tryz.infoStr rfl (by omega) w.heap.size _ _ _ rfl (H3.out.1.below (bc_al (bel_refl _))) _ _ rfl _ (by simp; rfl) rfl (by omega) (by simp; omega) ?_)
    intro g2 cap2 w2 ho hg hor hlt2
    have I2 : Hid _ := ho
    have B2 : Hid (Below w.heap.size w w2) := Below.grown (H3.out.2.alloc (by omega) _) hg (by simp; omega) (fun j hj => HB1.out _ hj)
    clear ho hg hor
    go_wp2_with fail
    go_roundw
    case rel =>
      refine ⟨k + 1, by omega, by go_num, OR.congr I2.out fun j hj => ?_, B2.out⟩
      by_cases e : j = k
      · rw [if_pos e, e]
      rw [if_neg e]
    case measure => simp [intOf]; omega
theorem tx_app (l l2 : List ByteArray) (i : Nat) : tx (l ++ l2) i = if i < l.length then tx l i else tx l2 (i - l.length) := by
  unfold tx
  by_cases h : i < l.length
  · rw [if_pos h]; simp [List.getD, List.getElem?_append_left h]
  rw [if_neg h]; simp [List.getD, List.getElem?_append_right (show l.length ≤ i by omega)]
theorem tx_get {l : List ByteArray} {i : Nat} (h : i < l.length) : (l.map Value.string)[i]? = some (tx l i) := by
  unfold tx
  simp [List.getD, h]
theorem wpList_append_tx {w : World} {ops : Array Oper} {rest : List Oper} {o : Oper} {ac : Act} {Q : Exit → Act → World → Prop} (hgd : o.guard = none) (s x : Operand)
    (ho : o.op = .call { callee := .builtin .append, args := #[s, x], argTypes := #[59, 59] }) (base : Nat) (v : Value) (l l2 : List ByteArray) (hs : ac.eval s = v) (hown : OR w 9 base v l.length (tx l))
    (ad : Addr) (c : Nat) (hx : ac.eval x = .slice (some ad) l2.length c) (hc : ∀ j, j < l2.length → w.cell? (ad.add j) = some (tx l2 j)) (hm : 0 < l2.length) (hn : l.length + l2.length ≤ 1099511627776) (hbase : base ≤ w.heap.size)
    (h : ∀ g cap w', OR w' 9 base (.slice (some ⟨g, 0, none⟩) (l ++ l2).length cap) (l ++ l2).length (tx (l ++ l2)) → w.grownBy w' v.ownBlock → (v.ownBlock = some g ∨ g = w.heap.size) → g < w'.heap.size → wpList Tryz.prog ops Q rest (ac.put o.dst (.slice (some ⟨g, 0, none⟩) (l ++ l2).length cap)) w') : wpList Tryz.prog ops Q (o :: rest) ac w := by
  obtain ⟨i, hi, hzz, hsz, hb⟩ := info_parts Tryz.infoStr
  refine wpList_append_lies w hgd s x 59 ho base 9 i (.string ⟨#[]⟩) 1 16 Tryz.underlying59 hi hzz hsz hb rfl (by omega) v l.length _ hs hown.owns ad l2.length c (l2.map Value.string) hx (by simp) (fun j u hj => ?_) (fun u hu => ?_) hm (by simp only [maxLen]; omega) (by omega) hbase _ rfl (fun g cap w' k1 k2 k3 k4 => ?_)
  · have hj2 : j < l2.length := by
      rcases Nat.lt_or_ge j l2.length with q | q
      · exact q
      rw [List.getElem?_eq_none (by simpa using q)] at hj; cases hj
    rw [tx_get hj2] at hj
    cases hj
    exact hc j hj2
  · simp at hu
    obtain ⟨a, _, rfl⟩ := hu
    rfl
  have h2 := h g cap w'
  rw [List.length_append] at h2
  refine h2 (OR.of_owns k1 fun i hi => ?_) k2 k3 k4
  rw [tx_app]
  by_cases q : i < l.length
  · rw [if_pos q, List.getElem?_append_left (by simpa using q), List.getElem?_map, List.getElem?_range q]
    rfl
  rw [if_neg q, List.getElem?_append_right (by simp; omega), List.length_map, List.length_range]
  exact tx_get (by omega)
theorem OR.row {w : World} {e : TypeId} {base n : Nat} {v : Value} {G : Nat → Value} (h : OR w e base v n G) (hn : n ≠ 0) : ∃ g c, v = .slice (some ⟨g, 0, none⟩) n c ∧ n ≤ c ∧ ∀ i, i < n → w.cell? ⟨g, i, none⟩ = some (G i) := by
  rcases h with ⟨_, q⟩ | ⟨g, cap, f, rfl, h1, h2, h3, h4, h5⟩
  · exact absurd q hn
  exact ⟨g, cap, rfl, h2, fun i hi => by rw [h4.cell (show i < cap by omega), h5 i hi]⟩
def zipT (A B : List ByteArray) : Nat → List ByteArray
  | 0 => []
  | k + 1 => zipT A B k ++ [A.getD k ⟨#[]⟩, B.getD k ⟨#[]⟩]
theorem zipT_len (A B : List ByteArray) (k : Nat) : (zipT A B k).length = 2 * k := by
  induction k with
  | zero => rfl
  | succ k ih => rw [zipT, List.length_append, ih]; simp; omega
theorem two_new (w : World) (a b : ByteArray) (t : TypeId) (j : Nat) (hj : j < [a, b].length) : (w.alloc (.cells #[.string a, .string b] t)).cell? ((⟨w.heap.size, 0, none⟩ : Addr).add j) = some (tx [a, b] j) := by
  match j, hj with
  | 0, _ => simp [Addr.add, tx]
  | 1, _ => simp [Addr.add, tx]
set_option maxHeartbeats 1000000 in
theorem named_any (s : ByteArray) (b o m c : Nat) (V : List ByteArray) (w : World) (hs : s.size ≤ 1000000000) (hm : m ≤ c) (h0 : 0 < (wordsL s).length) (hn : (wordsL s).length ≤ m) (hm2 : m ≤ 1000) (hv : ∀ i, i < m → w.cell? ⟨b, o + i, none⟩ = some (tx V i)) (hz : True) :
    Calls Tryz.prog 25 #[.string s, .slice (some ⟨b, o, none⟩) m c] w fun e w' => ∃ v, e = .returned v ∧ OR w' 9 w.heap.size v (zipT (wordsL s) V (wordsL s).length).length (tx (zipT (wordsL s) V (wordsL s).length)) ∧ Below w.heap.size w w' := by
  have HV : Hid _ := hv
  have HZ : Hid _ := hz
  clear hv hz
  go_enter Tryz.func25, Tryz.ntmps25
  go_wp2_with fail
  refine (words_any s _ (by omega)).mono ?_
  rintro e w1 ⟨v1, rfl, hO, hb1⟩
  obtain ⟨N, hN⟩ : ∃ N, wordsL s = N := ⟨_, rfl⟩
  rw [hN] at hO h0 hn
  obtain ⟨g, c1, rfl, hnc, hcN⟩ := OR.row hO (by omega)
  have HN : Hid _ := hN
  obtain ⟨n, hln⟩ : ∃ n, N.length = n := ⟨_, rfl⟩
  rw [hln] at hcN hn h0
  rw [hln]
  have HCN : Hid _ := hcN
  have HB1 : Hid _ := hb1
  rw [hln] at hnc
  clear hO hcN hb1 hN
  go_wp2_with fail
  go_loopw [5, 11] (fun v t wr => ∃ k : Nat, k ≤ n ∧ t = .int .i64 (k : Int) ∧ Hid (OR wr 9 w1.heap.size v (zipT N V k).length (tx (zipT N V k)) ∧ Below w1.heap.size w1 wr)) (fun _ t _ => n - (intOf t).toNat)
  case atStart => exact ⟨0, by omega, rfl, OR.nil _ _ _ _, bel_refl _⟩
  case round =>
    obtain ⟨k, hk, rfl, HO⟩ := hrel
    by_cases e : k = n
    · rw [e] at HO
      rw [e]
      clear e hk k
      go_wp2_with fail
      go_ret
      refine ⟨_, rfl, ?_, bc_go HB1.out HO.out.2⟩
      rw [HN.out, hln]
      exact OR.low HO.out.1 HB1.out.size
    have lk : k < n := by omega
    have x0 := bc_cell HO.out.2 (HCN.out k lk)
    have x1 := bc_cell HO.out.2 (bc_cell HB1.out (HV.out k (by omega)))
    have hsz := HO.out.2.size
    have hzl := zipT_len N V k
    have l1 : k < m := by omega
    have HB2 : Hid _ := HO.out.1.blk
    have HX0 : Hid (tx N k = .string (N.getD k ⟨#[]⟩) ∧ tx V k = .string (V.getD k ⟨#[]⟩)) := ⟨rfl, rfl⟩
    rw [HX0.out.1] at x0
    rw [HX0.out.2] at x1
    obtain ⟨a0, ha0⟩ : ∃ a0, N.getD k ⟨#[]⟩ = a0 := ⟨_, rfl⟩
    obtain ⟨a1, ha1⟩ : ∃ a1, V.getD k ⟨#[]⟩ = a1 := ⟨_, rfl⟩
    rw [ha0] at x0
    rw [ha1] at x1
    have HA : Hid (zipT N V (k + 1) = zipT N V k ++ [a0, a1]) := by
      show _ = _
      rw [zipT, ha0, ha1]
    clear e HX0 ha0 ha1
    go_wp2_with (refine (id ?_ : wpList Tryz.prog _ _ (⟨some 23, _, _, _, _, _⟩ :: _) _ _); refine wpList_append_tx rfl (.tmp 16) (.tmp 22) rfl w1.heap.size _ (zipT N V k) [a0, a1] rfl (HO.out.1.below (bc_al (bel_refl _))) _ _ rfl (fun j hj => two_new wr a0 a1 _ j hj) (by simp) (by simp; omega) (by simp; omega) ?_)
    intro g2 cap2 w2 ho hg hor hlt2
    have I2 : Hid _ := ho
    have B2 : Hid (Below w1.heap.size w1 w2) := Below.grown (HO.out.2.alloc (by omega) _) hg (by simp; omega) (fun j hj => HB2.out _ hj)
    clear ho hg hor x0 x1
    go_wp2_with fail
    go_roundw
    case rel =>
      refine ⟨k + 1, by omega, by go_num, ?_, B2.out⟩
      rw [HA.out]
      have q := I2.out
      have e : (zipT N V k ++ [a0, a1]).length = 2 * k + 2 := by rw [List.length_append, zipT_len]; rfl
      rw [e]
      first | exact q | (rw [e] at q; exact q)
    case measure => simp [intOf]; omega
end Go.Proofs.YtchomkadekikdaaGreatDoor
