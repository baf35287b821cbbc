/- Contracts of the program's functions, part 2: own work, joined in build order. -/
import Derived.Test.YtfjmnhmdipjenaaGreatDoorJ1
import Derived.Laws.Cover2
import Derived.Laws.MathBits
namespace Go.Proofs.YtfjmnhmdipjenaaGreatDoor
open Go.RowKit
set_option maxRecDepth 100000
set_option linter.unusedVariables false
/-- What is wrong with a set-up. -/
def checkE (K R M C Fl A : Int) (F : Nat → Nat → Int) (n : Nat) : Int := if isK K = false then 90 else if hld 1 65536 M = false then 92 else if hld M 1073741824 R = false then 91 else if hld 1 4096 C = false then 93 else if hld 1 256 Fl = false then 99 else if hld 0 (fA1 K) A = false then 95 else (if K = 6 then nodesE F n else if 0 < n then 1 else 0)
set_option maxHeartbeats 2000000 in
theorem check_any (K R M C Fl A : Int) (a : Option Addr) (n cap : Nat) (F : Nat → Nat → Int) (w : World) (h : NSl w a n cap F) :
    Calls Tryz.prog 7 #[.agg #[.int .i64 K, .int .i64 R, .int .i64 M, .int .i64 C, .int .i64 Fl, .int .i64 A, .slice a n cap]] w fun e w' => e = .returned (.int .i64 (checkE K R M C Fl A F n)) ∧ Below w.heap.size w w' := by
  obtain ⟨q0, f1⟩ : ∃ q0, fQ0 K = q0 := ⟨_, rfl⟩
  obtain ⟨q1, f2⟩ : ∃ q1, fQ1 K = q1 := ⟨_, rfl⟩
  obtain ⟨cl, f3⟩ : ∃ cl, fC1 K = cl := ⟨_, rfl⟩
  obtain ⟨sp, f4⟩ : ∃ sp, fS1 K = sp := ⟨_, rfl⟩
  obtain ⟨a1, f5⟩ : ∃ a1, fA1 K = a1 := ⟨_, rfl⟩
  have HFA : Hid _ := FAgg_at K f1 f2 f3 f4 f5
  obtain ⟨E, hE⟩ : ∃ E, checkE K R M C Fl A F n = E := ⟨_, rfl⟩
  rw [hE]
  have HE : Hid (E = if isK K = false then 90 else if hld 1 65536 M = false then 92 else if hld M 1073741824 R = false then 91 else if hld 1 4096 C = false then 93 else if hld 1 256 Fl = false then 99 else if hld 0 a1 A = false then 95 else (if K = 6 then nodesE F n else if 0 < n then 1 else 0)) := by
    show E = _
    rw [← hE, checkE, f5]
  have HN : Hid _ := h
  have hl0 : n ≤ 9223372036854775807 := Nat.le_trans h.le h.lim
  clear f1 f2 f3 f4 f5 hE h
  go_enter Tryz.func7, Tryz.ntmps7
  go_wp2_with fail
  have S0 : Hid _ := (ce_start w).box7 (.int .i64 K) (.int .i64 R) (.int .i64 M) (.int .i64 C) (.int .i64 Fl) (.int .i64 A) (.slice a n cap) 24 _ rfl
  refine (fieldsOf_any K _).mono ?_
  rintro e w1 ⟨rfl, hb⟩
  rw [HFA.out]
  obtain ⟨g, eg⟩ : ∃ g, g = w.heap.size := ⟨_, rfl⟩
  rw [← eg] at S0
  rw [← eg]
  clear eg
  have S1 : Hid _ := S0.out.go hb
  have x0 := S1.out.cel g 0 (.int .i64 K)
  have x1 := S1.out.cel g 1 (.int .i64 R)
  have x2 := S1.out.cel g 2 (.int .i64 M)
  have x3 := S1.out.cel g 3 (.int .i64 C)
  have x4 := S1.out.cel g 4 (.int .i64 Fl)
  have x5 := S1.out.cel g 5 (.int .i64 A)
  have x6 := S1.out.cel g 6 (.slice a n cap)
  have hl := S1.out.lt g 0 (.int .i64 K)
  have S2 : Hid _ := (S1.out.box8 (.int .i64 q0) (.int .i64 q1) (.int .i64 0) (.int .i64 cl) (.int .i64 0) (.int .i64 sp) (.int .i64 0) (.int .i64 a1) 48 _ rfl)
  clear hb S0 S1 HFA
  rcases hq : isK K with _ | _
  · have HR : Hid (E = 90) := by
      show E = 90
      rw [HE.out, if_pos hq]
    clear hq HE
    go_wp2_with fail
    go_ret
    rw [HR.out]
    exact ⟨rfl, S2.out.bel⟩
  · have HX : Hid (E = if hld 1 65536 M = false then 92 else if hld M 1073741824 R = false then 91 else if hld 1 4096 C = false then 93 else if hld 1 256 Fl = false then 99 else if hld 0 a1 A = false then 95 else (if K = 6 then nodesE F n else if 0 < n then 1 else 0)) := by
      show E = _
      rw [HE.out, if_neg (by rw [hq]; decide)]
    clear hq HE
    rename Hid (E = _) => HE
    go_wp2_with fail
    refine (within_any M 1 65536 _).mono ?_
    rintro e w2 ⟨rfl, hw⟩
    rw [hw]
    clear hw w2
    rcases hq : hld 1 65536 M with _ | _
    · have HR : Hid (E = 92) := by
        show E = 92
        rw [HE.out, if_pos hq]
      clear hq HE
      go_wp2_with fail
      go_ret
      rw [HR.out]
      exact ⟨rfl, S2.out.bel⟩
    · have HX : Hid (E = if hld M 1073741824 R = false then 91 else if hld 1 4096 C = false then 93 else if hld 1 256 Fl = false then 99 else if hld 0 a1 A = false then 95 else (if K = 6 then nodesE F n else if 0 < n then 1 else 0)) := by
        show E = _
        rw [HE.out, if_neg (by rw [hq]; decide)]
      clear hq HE
      rename Hid (E = _) => HE
      go_wp2_with fail
      refine (within_any R M 1073741824 _).mono ?_
      rintro e w2 ⟨rfl, hw⟩
      rw [hw]
      clear hw w2
      rcases hq : hld M 1073741824 R with _ | _
      · have HR : Hid (E = 91) := by
          show E = 91
          rw [HE.out, if_pos hq]
        clear hq HE
        go_wp2_with fail
        go_ret
        rw [HR.out]
        exact ⟨rfl, S2.out.bel⟩
      · have HX : Hid (E = if hld 1 4096 C = false then 93 else if hld 1 256 Fl = false then 99 else if hld 0 a1 A = false then 95 else (if K = 6 then nodesE F n else if 0 < n then 1 else 0)) := by
          show E = _
          rw [HE.out, if_neg (by rw [hq]; decide)]
        clear hq HE
        rename Hid (E = _) => HE
        go_wp2_with fail
        refine (within_any C 1 4096 _).mono ?_
        rintro e w2 ⟨rfl, hw⟩
        rw [hw]
        clear hw w2
        rcases hq : hld 1 4096 C with _ | _
        · have HR : Hid (E = 93) := by
            show E = 93
            rw [HE.out, if_pos hq]
          clear hq HE
          go_wp2_with fail
          go_ret
          rw [HR.out]
          exact ⟨rfl, S2.out.bel⟩
        · have HX : Hid (E = if hld 1 256 Fl = false then 99 else if hld 0 a1 A = false then 95 else (if K = 6 then nodesE F n else if 0 < n then 1 else 0)) := by
            show E = _
            rw [HE.out, if_neg (by rw [hq]; decide)]
          clear hq HE
          rename Hid (E = _) => HE
          go_wp2_with fail
          refine (within_any Fl 1 256 _).mono ?_
          rintro e w2 ⟨rfl, hw⟩
          rw [hw]
          clear hw w2
          rcases hq : hld 1 256 Fl with _ | _
          · have HR : Hid (E = 99) := by
              show E = 99
              rw [HE.out, if_pos hq]
            clear hq HE
            go_wp2_with fail
            go_ret
            rw [HR.out]
            exact ⟨rfl, S2.out.bel⟩
          · have HX : Hid (E = if hld 0 a1 A = false then 95 else (if K = 6 then nodesE F n else if 0 < n then 1 else 0)) := by
              show E = _
              rw [HE.out, if_neg (by rw [hq]; decide)]
            clear hq HE
            rename Hid (E = _) => HE
            go_wp2_with fail
            refine (hold_any A 0 a1 _).mono ?_
            rintro e w8 ⟨rfl, hb⟩
            have S8 : Hid _ := S2.out.go hb
            clear hb S2
            rcases hq : hld 0 a1 A with _ | _
            · have HR : Hid (E = 95) := by
                show E = 95
                rw [HE.out, if_pos hq]
              clear hq HE
              go_wp2_with fail
              go_ret
              rw [HR.out]
              exact ⟨rfl, S8.out.bel⟩
            · have HX : Hid (E = (if K = 6 then nodesE F n else if 0 < n then 1 else 0)) := by
                show E = _
                rw [HE.out, if_neg (by rw [hq]; decide)]
              clear hq HE
              rename Hid (E = _) => HE
              have y0 := S8.out.cel g 0 (.int .i64 K)
              have y6 := S8.out.cel g 6 (.slice a n cap)
              by_cases h6 : K = 6
              · have HR : Hid (E = nodesE F n) := by
                  show E = _
                  rw [HE.out, if_pos h6]
                rw [h6] at y0
                clear HE h6
                go_wp2_with fail
                refine (checkNodes_any a n cap F _ (HN.out.go S8.out.bel)).mono ?_
                rintro e w9 ⟨rfl, hb⟩
                have S9 : Hid _ := S8.out.go hb
                clear hb S8
                go_wp2_with fail
                go_ret
                rw [HR.out]
                exact ⟨rfl, S9.out.bel⟩
              · have d : (K == 6) = false := by simpa using h6
                by_cases hn : 0 < n
                · have HR : Hid (E = 1) := by
                    show E = _
                    rw [HE.out, if_neg h6, if_pos hn]
                  clear HE h6
                  go_wp2_with fail
                  go_ret
                  rw [HR.out]
                  exact ⟨rfl, S8.out.bel⟩
                · have HR : Hid (E = 0) := by
                    show E = _
                    rw [HE.out, if_neg h6, if_neg hn]
                  obtain rfl : n = 0 := by omega
                  clear HE h6 hn
                  go_wp2_with fail
                  go_ret
                  rw [HR.out]
                  exact ⟨rfl, S8.out.bel⟩
end Go.Proofs.YtfjmnhmdipjenaaGreatDoor

namespace Go.Proofs.YtfjmnhmdipjenaaGreatDoor
open Go.RowKit
set_option maxRecDepth 100000
set_option linter.unusedVariables false
/-- Is the float x at most y? -/
def fle (x y : Nat) : Bool := FloatKind.f64.format.order x y == some .lt || FloatKind.f64.format.order x y == some .eq
def hldF (lo hi x : Nat) : Bool := fle lo x && fle x hi
set_option maxHeartbeats 400000 in
theorem withinF_any (x lo hi : Nat) (w : World) : Calls Tryz.prog 20 #[.float .f64 x, .float .f64 lo, .float .f64 hi] w fun e w' => e = .returned (.bool (hldF lo hi x)) ∧ w' = w := by
  rcases h : fle lo x with _ | _
  · have HV : Hid (hldF lo hi x = false) := by show _ = _; rw [hldF, h]; rfl
    have d : (FloatKind.f64.format.order lo x == some .lt || FloatKind.f64.format.order lo x == some .eq) = false := h
    clear h
    go_enter Tryz.func20, Tryz.ntmps20
    go_wp2_with fail
    go_ret
    rw [HV.out]
    exact ⟨rfl, rfl⟩
  · have HV : Hid (hldF lo hi x = fle x hi) := by show _ = _; rw [hldF, h]; rfl
    have d : (FloatKind.f64.format.order lo x == some .lt || FloatKind.f64.format.order lo x == some .eq) = true := h
    clear h
    go_enter Tryz.func20, Tryz.ntmps20
    go_wp2_with fail
    go_ret
    rw [HV.out]
    exact ⟨rfl, rfl⟩
/-- The kind of the discipline that a flow of node x has; whether a flow may be there. -/
def kAt (K : Int) (F : Nat → Nat → Int) (n : Nat) (x : Int) : Int := if K = 6 then kO F n x else K
def okAt (K : Int) (F : Nat → Nat → Int) (n : Nat) (x : Int) : Bool := if K = 6 then (kO F n x != 0 && kO F n x != 6) else (x == 0)
set_option maxHeartbeats 1000000 in
theorem kindAt_any (K R M C Fl A : Int) (a : Option Addr) (n cap : Nat) (F : Nat → Nat → Int) (x : Int) (w : World) (h : NSl w a n cap F) :
    Calls Tryz.prog 19 #[.agg #[.int .i64 K, .int .i64 R, .int .i64 M, .int .i64 C, .int .i64 Fl, .int .i64 A, .slice a n cap], .int .i64 x] w fun e w' => e = .returned (.tuple #[.int .i64 (kAt K F n x), .bool (okAt K F n x)]) ∧ Below w.heap.size w w' := by
  have HN : Hid _ := h
  clear h
  by_cases h6 : K = 6
  · have HV : Hid (kAt K F n x = kO F n x ∧ okAt K F n x = (kO F n x != 0 && kO F n x != 6)) := ⟨if_pos h6, if_pos h6⟩
    rw [HV.out.1, HV.out.2]
    clear HV
    subst h6
    go_enter Tryz.func19, Tryz.ntmps19
    go_wp2_with fail
    refine (kindOf_any a n cap F x _ (HN.out.go (bc_al (bel_refl _)))).mono ?_
    rintro e w1 ⟨rfl, hw⟩
    rw [hw]
    clear hw w1
    obtain ⟨y, hy⟩ : ∃ y, kO F n x = y := ⟨_, rfl⟩
    rw [hy]
    have HY : Hid _ := hy
    clear hy
    by_cases y0 : y = 0
    · subst y0
      go_wp2_with fail
      exact bodyPost_ret (v := .tuple #[.int .i64 0, .bool false]) (by simp [results, Tryz.results19, go_sem]) rfl ⟨by rw [HY.out]; rfl, bc_al (bel_refl _)⟩
    · have d : (y != 0) = true := by simpa using y0
      have HD : Hid _ := d
      clear y0
      go_wp2_with fail
      exact bodyPost_ret (v := .tuple #[.int .i64 y, .bool (y != 6)]) (by simp [results, Tryz.results19, go_sem]) rfl ⟨by rw [HY.out, HD.out]; rfl, bc_al (bel_refl _)⟩
  · have HV : Hid (kAt K F n x = K ∧ okAt K F n x = (x == 0)) := ⟨if_neg h6, if_neg h6⟩
    rw [HV.out.1, HV.out.2]
    clear HV
    have d : (K != 6) = true := by simpa using h6
    clear h6
    go_enter Tryz.func19, Tryz.ntmps19
    go_wp2_with fail
    exact bodyPost_ret (v := .tuple #[.int .i64 K, .bool (x == 0)]) (by simp [results, Tryz.results19, go_sem]) rfl ⟨rfl, bc_al (bel_refl _)⟩
end Go.Proofs.YtfjmnhmdipjenaaGreatDoor

namespace Go.Proofs.YtfjmnhmdipjenaaGreatDoor
open Go.RowKit
set_option maxRecDepth 100000
set_option linter.unusedVariables false
/-- What is wrong with a flow of a set-up with which nothing is wrong. -/
def flowE1 (K C : Int) (F : Nat → Nat → Int) (n : Nat) (pw pq pc ps pb : Int) (pr : Nat) (pp pn : Int) : Int := if okAt K F n pn = false then 1 else if hld 1 C pw = false then 93 else if hld (fQ0 (kAt K F n pn)) (fQ1 (kAt K F n pn)) pq = false then 94 else if hld 0 (fC1 (kAt K F n pn)) pc = false then 95 else if hld 0 (fS1 (kAt K F n pn)) ps = false then 96 else if hld 1 1099511627776 pb = false then 97 else if hldF 0 4697254411347427328 pr = false then 98 else if hld 1 1073741824 pp = false then 98 else 0
/-- What is wrong with a flow's parameters. -/
def flowE (K R M C Fl A : Int) (F : Nat → Nat → Int) (n : Nat) (pw pq pc ps pb : Int) (pr : Nat) (pp pn : Int) : Int := if ¬ checkE K R M C Fl A F n = 0 then checkE K R M C Fl A F n else flowE1 K C F n pw pq pc ps pb pr pp pn
set_option maxHeartbeats 4000000 in
theorem checkFlow_any (K R M C Fl A : Int) (a : Option Addr) (n cap : Nat) (F : Nat → Nat → Int) (pw pq pc ps pb : Int) (pr : Nat) (pp pn : Int) (w : World) (h : NSl w a n cap F) :
    Calls Tryz.prog 8 #[.agg #[.int .i64 K, .int .i64 R, .int .i64 M, .int .i64 C, .int .i64 Fl, .int .i64 A, .slice a n cap], .agg #[.int .i64 pw, .int .i64 pq, .int .i64 pc, .int .i64 ps, .int .i64 pb, .float .f64 pr, .int .i64 pp, .int .i64 pn]] w fun e w' => e = .returned (.int .i64 (flowE K R M C Fl A F n pw pq pc ps pb pr pp pn)) ∧ Below w.heap.size w w' := by
  obtain ⟨E, hE⟩ : ∃ E, flowE K R M C Fl A F n pw pq pc ps pb pr pp pn = E := ⟨_, rfl⟩
  rw [hE]
  obtain ⟨ce, hce⟩ : ∃ ce, checkE K R M C Fl A F n = ce := ⟨_, rfl⟩
  have HE : Hid (E = if ¬ ce = 0 then ce else flowE1 K C F n pw pq pc ps pb pr pp pn) := by
    show E = _
    rw [← hE, flowE, hce]
  have HN : Hid _ := h
  have HCE : Hid _ := hce
  have hl0 : n ≤ 9223372036854775807 := Nat.le_trans h.le h.lim
  clear hE h hce
  go_enter Tryz.func8, Tryz.ntmps8
  go_wp2_with fail
  have S00 : Hid _ := (ce_start w).box7 (.int .i64 K) (.int .i64 R) (.int .i64 M) (.int .i64 C) (.int .i64 Fl) (.int .i64 A) (.slice a n cap) 24 _ rfl
  have S0 : Hid _ := S00.out.box8 (.int .i64 pw) (.int .i64 pq) (.int .i64 pc) (.int .i64 ps) (.int .i64 pb) (.float .f64 pr) (.int .i64 pp) (.int .i64 pn) 27 (w.heap.size + 1) (by simp)
  clear S00
  refine (check_any K R M C Fl A a n cap F _ (HN.out.go S0.out.bel)).mono ?_
  rintro e w1 ⟨rfl, hb⟩
  rw [HCE.out]
  obtain ⟨g, eg⟩ : ∃ g, g = w.heap.size := ⟨_, rfl⟩
  rw [← eg] at S0
  rw [← eg]
  clear eg HCE
  have S1 : Hid _ := S0.out.go hb
  clear hb S0
  by_cases c0 : ce = 0
  · have HX : Hid (E = flowE1 K C F n pw pq pc ps pb pr pp pn) := by
      show E = _
      rw [HE.out, if_neg (by rw [c0]; decide)]
    clear HE
    rename Hid (E = _) => HE
    subst c0
    have x0 := S1.out.cel g 0 (.int .i64 K)
    have x1 := S1.out.cel g 1 (.int .i64 R)
    have x2 := S1.out.cel g 2 (.int .i64 M)
    have x3 := S1.out.cel g 3 (.int .i64 C)
    have x4 := S1.out.cel g 4 (.int .i64 Fl)
    have x5 := S1.out.cel g 5 (.int .i64 A)
    have x6 := S1.out.cel g 6 (.slice a n cap)
    have y0 := S1.out.cel (g + 1) 0 (.int .i64 pw)
    have y1 := S1.out.cel (g + 1) 1 (.int .i64 pq)
    have y2 := S1.out.cel (g + 1) 2 (.int .i64 pc)
    have y3 := S1.out.cel (g + 1) 3 (.int .i64 ps)
    have y4 := S1.out.cel (g + 1) 4 (.int .i64 pb)
    have y5 := S1.out.cel (g + 1) 5 (.float .f64 pr)
    have y6 := S1.out.cel (g + 1) 6 (.int .i64 pp)
    have y7 := S1.out.cel (g + 1) 7 (.int .i64 pn)
    have hl := S1.out.lt (g + 1) 0 (.int .i64 pw)
    have hl2 := S1.out.lt g 0 (.int .i64 K)
    go_wp2_with fail
    refine (kindAt_any K R M C Fl A a n cap F pn _ (HN.out.go S1.out.bel)).mono ?_
    rintro e w2 ⟨rfl, hb⟩
    have S2 : Hid _ := S1.out.go hb
    clear x0 x1 x2 x3 x4 x5 x6 y0 y1 y2 y3 y4 y5 y6 y7 hl hl2
    clear hb S1
    obtain ⟨kk, ek⟩ : ∃ kk, kAt K F n pn = kk := ⟨_, rfl⟩
    obtain ⟨ok, eo⟩ : ∃ ok, okAt K F n pn = ok := ⟨_, rfl⟩
    obtain ⟨q0, f1⟩ : ∃ q0, fQ0 kk = q0 := ⟨_, rfl⟩
    obtain ⟨q1, f2⟩ : ∃ q1, fQ1 kk = q1 := ⟨_, rfl⟩
    obtain ⟨cl, f3⟩ : ∃ cl, fC1 kk = cl := ⟨_, rfl⟩
    obtain ⟨sp, f4⟩ : ∃ sp, fS1 kk = sp := ⟨_, rfl⟩
    obtain ⟨a1, f5⟩ : ∃ a1, fA1 kk = a1 := ⟨_, rfl⟩
    have HFA : Hid _ := FAgg_at kk f1 f2 f3 f4 f5
    have HX : Hid (E = if ok = false then 1 else if hld 1 C pw = false then 93 else if hld q0 q1 pq = false then 94 else if hld 0 cl pc = false then 95 else if hld 0 sp ps = false then 96 else if hld 1 1099511627776 pb = false then 97 else if hldF 0 4697254411347427328 pr = false then 98 else if hld 1 1073741824 pp = false then 98 else 0) := by
      show E = _
      rw [HE.out, flowE1, ek, eo, f1, f2, f3, f4]
    clear HE
    rename Hid (E = _) => HE
    rw [ek, eo]
    clear ek eo f1 f2 f3 f4 f5
    have x0 := S2.out.cel g 0 (.int .i64 K)
    have x1 := S2.out.cel g 1 (.int .i64 R)
    have x2 := S2.out.cel g 2 (.int .i64 M)
    have x3 := S2.out.cel g 3 (.int .i64 C)
    have x4 := S2.out.cel g 4 (.int .i64 Fl)
    have x5 := S2.out.cel g 5 (.int .i64 A)
    have x6 := S2.out.cel g 6 (.slice a n cap)
    have y0 := S2.out.cel (g + 1) 0 (.int .i64 pw)
    have y1 := S2.out.cel (g + 1) 1 (.int .i64 pq)
    have y2 := S2.out.cel (g + 1) 2 (.int .i64 pc)
    have y3 := S2.out.cel (g + 1) 3 (.int .i64 ps)
    have y4 := S2.out.cel (g + 1) 4 (.int .i64 pb)
    have y5 := S2.out.cel (g + 1) 5 (.float .f64 pr)
    have y6 := S2.out.cel (g + 1) 6 (.int .i64 pp)
    have y7 := S2.out.cel (g + 1) 7 (.int .i64 pn)
    have hl := S2.out.lt (g + 1) 0 (.int .i64 pw)
    have hl2 := S2.out.lt g 0 (.int .i64 K)
    go_wp2_with fail
    refine (fieldsOf_any kk _).mono ?_
    rintro e w3 ⟨rfl, hb⟩
    rw [HFA.out]
    have S3 : Hid _ := S2.out.go hb
    clear x0 x1 x2 x3 x4 x5 x6 y0 y1 y2 y3 y4 y5 y6 y7 hl hl2
    clear hb S2 HFA
    have x0 := S3.out.cel g 0 (.int .i64 K)
    have x1 := S3.out.cel g 1 (.int .i64 R)
    have x2 := S3.out.cel g 2 (.int .i64 M)
    have x3 := S3.out.cel g 3 (.int .i64 C)
    have x4 := S3.out.cel g 4 (.int .i64 Fl)
    have x5 := S3.out.cel g 5 (.int .i64 A)
    have x6 := S3.out.cel g 6 (.slice a n cap)
    have y0 := S3.out.cel (g + 1) 0 (.int .i64 pw)
    have y1 := S3.out.cel (g + 1) 1 (.int .i64 pq)
    have y2 := S3.out.cel (g + 1) 2 (.int .i64 pc)
    have y3 := S3.out.cel (g + 1) 3 (.int .i64 ps)
    have y4 := S3.out.cel (g + 1) 4 (.int .i64 pb)
    have y5 := S3.out.cel (g + 1) 5 (.float .f64 pr)
    have y6 := S3.out.cel (g + 1) 6 (.int .i64 pp)
    have y7 := S3.out.cel (g + 1) 7 (.int .i64 pn)
    have hl := S3.out.lt (g + 1) 0 (.int .i64 pw)
    have hl2 := S3.out.lt g 0 (.int .i64 K)
    obtain ⟨m, em⟩ : ∃ m, m = w3.heap.size := ⟨_, rfl⟩
    have S4 : Hid _ := S3.out.box8 (.int .i64 q0) (.int .i64 q1) (.int .i64 0) (.int .i64 cl) (.int .i64 0) (.int .i64 sp) (.int .i64 0) (.int .i64 a1) 48 m em
    clear S3
    rcases hq : ok with _ | _
    · have HR : Hid (E = 1) := by
        show E = 1
        rw [HE.out, if_pos hq]
      clear hq HE
      go_wp2_with fail
      go_ret
      rw [HR.out]
      exact ⟨rfl, S4.out.bel⟩
    · have HX : Hid (E = if hld 1 C pw = false then 93 else if hld q0 q1 pq = false then 94 else if hld 0 cl pc = false then 95 else if hld 0 sp ps = false then 96 else if hld 1 1099511627776 pb = false then 97 else if hldF 0 4697254411347427328 pr = false then 98 else if hld 1 1073741824 pp = false then 98 else 0) := by
        show E = _
        rw [HE.out, if_neg (by rw [hq]; decide)]
      clear hq HE
      rename Hid (E = _) => HE
      go_wp2_with fail
      refine (within_any pw 1 C _).mono ?_
      rintro e u1 ⟨rfl, hw⟩
      rw [hw]
      clear hw u1
      rcases hq : hld 1 C pw with _ | _
      · have HR : Hid (E = 93) := by
          show E = 93
          rw [HE.out, if_pos hq]
        clear hq HE
        go_wp2_with fail
        go_ret
        rw [HR.out]
        exact ⟨rfl, S4.out.bel⟩
      · have HX : Hid (E = if hld q0 q1 pq = false then 94 else if hld 0 cl pc = false then 95 else if hld 0 sp ps = false then 96 else if hld 1 1099511627776 pb = false then 97 else if hldF 0 4697254411347427328 pr = false then 98 else if hld 1 1073741824 pp = false then 98 else 0) := by
          show E = _
          rw [HE.out, if_neg (by rw [hq]; decide)]
        clear hq HE
        rename Hid (E = _) => HE
        go_wp2_with fail
        rw [← em]
        clear em
        refine (hold_any pq q0 q1 _).mono ?_
        rintro e v2 ⟨rfl, hb⟩
        have T2 : Hid _ := S4.out.go hb
        clear x0 x1 x2 x3 x4 x5 x6 y0 y1 y2 y3 y4 y5 y6 y7 hl hl2
        clear hb S4
        have x0 := T2.out.cel g 0 (.int .i64 K)
        have x1 := T2.out.cel g 1 (.int .i64 R)
        have x2 := T2.out.cel g 2 (.int .i64 M)
        have x3 := T2.out.cel g 3 (.int .i64 C)
        have x4 := T2.out.cel g 4 (.int .i64 Fl)
        have x5 := T2.out.cel g 5 (.int .i64 A)
        have x6 := T2.out.cel g 6 (.slice a n cap)
        have y0 := T2.out.cel (g + 1) 0 (.int .i64 pw)
        have y1 := T2.out.cel (g + 1) 1 (.int .i64 pq)
        have y2 := T2.out.cel (g + 1) 2 (.int .i64 pc)
        have y3 := T2.out.cel (g + 1) 3 (.int .i64 ps)
        have y4 := T2.out.cel (g + 1) 4 (.int .i64 pb)
        have y5 := T2.out.cel (g + 1) 5 (.float .f64 pr)
        have y6 := T2.out.cel (g + 1) 6 (.int .i64 pp)
        have y7 := T2.out.cel (g + 1) 7 (.int .i64 pn)
        have z0 := T2.out.cel m 0 (.int .i64 q0)
        have z1 := T2.out.cel m 1 (.int .i64 q1)
        have z2 := T2.out.cel m 2 (.int .i64 0)
        have z3 := T2.out.cel m 3 (.int .i64 cl)
        have z4 := T2.out.cel m 4 (.int .i64 0)
        have z5 := T2.out.cel m 5 (.int .i64 sp)
        have z6 := T2.out.cel m 6 (.int .i64 0)
        have z7 := T2.out.cel m 7 (.int .i64 a1)
        have hl := T2.out.lt (g + 1) 0 (.int .i64 pw)
        have hl2 := T2.out.lt g 0 (.int .i64 K)
        rcases hq : hld q0 q1 pq with _ | _
        · have HR : Hid (E = 94) := by
            show E = 94
            rw [HE.out, if_pos hq]
          clear hq HE
          go_wp2_with fail
          go_ret
          rw [HR.out]
          exact ⟨rfl, T2.out.bel⟩
        · have HX : Hid (E = if hld 0 cl pc = false then 95 else if hld 0 sp ps = false then 96 else if hld 1 1099511627776 pb = false then 97 else if hldF 0 4697254411347427328 pr = false then 98 else if hld 1 1073741824 pp = false then 98 else 0) := by
            show E = _
            rw [HE.out, if_neg (by rw [hq]; decide)]
          clear hq HE
          rename Hid (E = _) => HE
          go_wp2_with fail
          refine (hold_any pc 0 cl _).mono ?_
          rintro e v3 ⟨rfl, hb⟩
          have T3 : Hid _ := T2.out.go hb
          clear x0 x1 x2 x3 x4 x5 x6 y0 y1 y2 y3 y4 y5 y6 y7 z0 z1 z2 z3 z4 z5 z6 z7 hl hl2
          clear hb T2
          have x0 := T3.out.cel g 0 (.int .i64 K)
          have x1 := T3.out.cel g 1 (.int .i64 R)
          have x2 := T3.out.cel g 2 (.int .i64 M)
          have x3 := T3.out.cel g 3 (.int .i64 C)
          have x4 := T3.out.cel g 4 (.int .i64 Fl)
          have x5 := T3.out.cel g 5 (.int .i64 A)
          have x6 := T3.out.cel g 6 (.slice a n cap)
          have y0 := T3.out.cel (g + 1) 0 (.int .i64 pw)
          have y1 := T3.out.cel (g + 1) 1 (.int .i64 pq)
          have y2 := T3.out.cel (g + 1) 2 (.int .i64 pc)
          have y3 := T3.out.cel (g + 1) 3 (.int .i64 ps)
          have y4 := T3.out.cel (g + 1) 4 (.int .i64 pb)
          have y5 := T3.out.cel (g + 1) 5 (.float .f64 pr)
          have y6 := T3.out.cel (g + 1) 6 (.int .i64 pp)
          have y7 := T3.out.cel (g + 1) 7 (.int .i64 pn)
          have z0 := T3.out.cel m 0 (.int .i64 q0)
          have z1 := T3.out.cel m 1 (.int .i64 q1)
          have z2 := T3.out.cel m 2 (.int .i64 0)
          have z3 := T3.out.cel m 3 (.int .i64 cl)
          have z4 := T3.out.cel m 4 (.int .i64 0)
          have z5 := T3.out.cel m 5 (.int .i64 sp)
          have z6 := T3.out.cel m 6 (.int .i64 0)
          have z7 := T3.out.cel m 7 (.int .i64 a1)
          have hl := T3.out.lt (g + 1) 0 (.int .i64 pw)
          have hl2 := T3.out.lt g 0 (.int .i64 K)
          rcases hq : hld 0 cl pc with _ | _
          · have HR : Hid (E = 95) := by
              show E = 95
              rw [HE.out, if_pos hq]
            clear hq HE
            go_wp2_with fail
            go_ret
            rw [HR.out]
            exact ⟨rfl, T3.out.bel⟩
          · have HX : Hid (E = if hld 0 sp ps = false then 96 else if hld 1 1099511627776 pb = false then 97 else if hldF 0 4697254411347427328 pr = false then 98 else if hld 1 1073741824 pp = false then 98 else 0) := by
              show E = _
              rw [HE.out, if_neg (by rw [hq]; decide)]
            clear hq HE
            rename Hid (E = _) => HE
            go_wp2_with fail
            refine (hold_any ps 0 sp _).mono ?_
            rintro e v4 ⟨rfl, hb⟩
            have T4 : Hid _ := T3.out.go hb
            clear x0 x1 x2 x3 x4 x5 x6 y0 y1 y2 y3 y4 y5 y6 y7 z0 z1 z2 z3 z4 z5 z6 z7 hl hl2
            clear hb T3
            have x0 := T4.out.cel g 0 (.int .i64 K)
            have x1 := T4.out.cel g 1 (.int .i64 R)
            have x2 := T4.out.cel g 2 (.int .i64 M)
            have x3 := T4.out.cel g 3 (.int .i64 C)
            have x4 := T4.out.cel g 4 (.int .i64 Fl)
            have x5 := T4.out.cel g 5 (.int .i64 A)
            have x6 := T4.out.cel g 6 (.slice a n cap)
            have y0 := T4.out.cel (g + 1) 0 (.int .i64 pw)
            have y1 := T4.out.cel (g + 1) 1 (.int .i64 pq)
            have y2 := T4.out.cel (g + 1) 2 (.int .i64 pc)
            have y3 := T4.out.cel (g + 1) 3 (.int .i64 ps)
            have y4 := T4.out.cel (g + 1) 4 (.int .i64 pb)
            have y5 := T4.out.cel (g + 1) 5 (.float .f64 pr)
            have y6 := T4.out.cel (g + 1) 6 (.int .i64 pp)
            have y7 := T4.out.cel (g + 1) 7 (.int .i64 pn)
            have z0 := T4.out.cel m 0 (.int .i64 q0)
            have z1 := T4.out.cel m 1 (.int .i64 q1)
            have z2 := T4.out.cel m 2 (.int .i64 0)
            have z3 := T4.out.cel m 3 (.int .i64 cl)
            have z4 := T4.out.cel m 4 (.int .i64 0)
            have z5 := T4.out.cel m 5 (.int .i64 sp)
            have z6 := T4.out.cel m 6 (.int .i64 0)
            have z7 := T4.out.cel m 7 (.int .i64 a1)
            have hl := T4.out.lt (g + 1) 0 (.int .i64 pw)
            have hl2 := T4.out.lt g 0 (.int .i64 K)
            rcases hq : hld 0 sp ps with _ | _
            · have HR : Hid (E = 96) := by
                show E = 96
                rw [HE.out, if_pos hq]
              clear hq HE
              go_wp2_with fail
              go_ret
              rw [HR.out]
              exact ⟨rfl, T4.out.bel⟩
            · have HX : Hid (E = if hld 1 1099511627776 pb = false then 97 else if hldF 0 4697254411347427328 pr = false then 98 else if hld 1 1073741824 pp = false then 98 else 0) := by
                show E = _
                rw [HE.out, if_neg (by rw [hq]; decide)]
              clear hq HE
              rename Hid (E = _) => HE
              go_wp2_with fail
              refine (within_any pb 1 1099511627776 _).mono ?_
              rintro e u5 ⟨rfl, hw⟩
              rw [hw]
              clear hw u5
              rcases hq : hld 1 1099511627776 pb with _ | _
              · have HR : Hid (E = 97) := by
                  show E = 97
                  rw [HE.out, if_pos hq]
                clear hq HE
                go_wp2_with fail
                go_ret
                rw [HR.out]
                exact ⟨rfl, T4.out.bel⟩
              · have HX : Hid (E = if hldF 0 4697254411347427328 pr = false then 98 else if hld 1 1073741824 pp = false then 98 else 0) := by
                  show E = _
                  rw [HE.out, if_neg (by rw [hq]; decide)]
                clear hq HE
                rename Hid (E = _) => HE
                go_wp2_with fail
                refine (withinF_any pr 0 4697254411347427328 _).mono ?_
                rintro e u6 ⟨rfl, hw⟩
                rw [hw]
                clear hw u6
                rcases hq : hldF 0 4697254411347427328 pr with _ | _
                · have HR : Hid (E = 98) := by
                    show E = 98
                    rw [HE.out, if_pos hq]
                  clear hq HE
                  go_wp2_with fail
                  go_ret
                  rw [HR.out]
                  exact ⟨rfl, T4.out.bel⟩
                · have HX : Hid (E = if hld 1 1073741824 pp = false then 98 else 0) := by
                    show E = _
                    rw [HE.out, if_neg (by rw [hq]; decide)]
                  clear hq HE
                  rename Hid (E = _) => HE
                  go_wp2_with fail
                  refine (within_any pp 1 1073741824 _).mono ?_
                  rintro e u7 ⟨rfl, hw⟩
                  rw [hw]
                  clear hw u7
                  rcases hq : hld 1 1073741824 pp with _ | _
                  · have HR : Hid (E = 98) := by
                      show E = 98
                      rw [HE.out, if_pos hq]
                    clear hq HE
                    go_wp2_with fail
                    go_ret
                    rw [HR.out]
                    exact ⟨rfl, T4.out.bel⟩
                  · have HX : Hid (E = 0) := by
                      show E = _
                      rw [HE.out, if_neg (by rw [hq]; decide)]
                    clear hq HE
                    rename Hid (E = _) => HE
                    have HR : Hid (E = 0) := by
                      show E = 0
                      rw [HE.out]
                    clear HE
                    go_wp2_with fail
                    go_ret
                    rw [HR.out]
                    exact ⟨rfl, T4.out.bel⟩
  · have HR : Hid (E = ce) := by
      show E = _
      rw [HE.out, if_pos c0]
    have d : (ce != 0) = true := by simpa using c0
    clear HE c0
    go_wp2_with fail
    go_ret
    rw [HR.out]
    exact ⟨rfl, S1.out.bel⟩
end Go.Proofs.YtfjmnhmdipjenaaGreatDoor

namespace Go.Proofs.YtfjmnhmdipjenaaGreatDoor
open Go.RowKit
set_option maxRecDepth 100000
theorem Sl.at {w : World} {a : Option Addr} {n cap : Nat} {F : Nat → Nat} (h : Sl w a n cap F) (i : Nat) (hi : i < n) : ∃ b o, a = some ⟨b, o, none⟩ ∧ Words w b o n F := by
  rcases h.2.2.2 with h0 | h0
  · omega
  · exact h0
/-- The first k words of a slice, where those beyond are 0. -/
theorem isNat_cut {w : World} {b o n cap k : Nat} {F : Nat → Nat} (h : Sl w (some ⟨b, o, none⟩) n cap F) (hk : k ≤ n) (h0 : 0 < k) (hz : ∀ i, k ≤ i → i < n → F i = 0) (hf : F (k - 1) ≠ 0) :
    IsNat w (.agg #[.slice (some ⟨b, o, none⟩) k cap]) (V F n) := by
  obtain ⟨b', o', e, hw⟩ := h.at 0 (by omega)
  cases e
  refine ⟨_, k, cap, F, rfl, ⟨by have := h.1; omega, h.2.1, h.2.2.1.mono hk, .inr ⟨b, o, rfl, fun i hi => hw i (by omega)⟩⟩, fun e => absurd e (by omega), fun _ => hf, (V_top hk hz).symm⟩
set_option maxHeartbeats 400000 in
theorem trimmed_any (a : Option Addr) (n cap : Nat) (F : Nat → Nat) (w : World) (h : Sl w a n cap F) (hn : n ≤ 1099511627776) :
    Calls Tryz.prog 63 #[.slice a n cap] w fun e w' => ∃ v, e = .returned v ∧ IsNat w' v (V F n) ∧ Below w.heap.size w w' := by
  go_enter Tryz.func63, Tryz.ntmps63
  go_wp2
  go_loop [3] (fun t => ∃ k : Nat, k ≤ n ∧ t = .int .i64 k ∧ (∀ i, k ≤ i → i < n → F i = 0)) (fun t => (intOf t).toNat)
  case atStart => exact ⟨n, Nat.le_refl _, rfl, fun i h1 h2 => absurd h1 (by omega)⟩
  case round =>
    obtain ⟨k, hk, rfl, hz⟩ := hrel
    by_cases h0 : k = 0
    · subst h0
      have HZ : Hid _ := hz
      clear hz
      go_wp2
      refine bodyPost_ret (v := .agg #[.slice none 0 0]) (by simp [results, Tryz.results63, go_sem]) rfl ⟨_, rfl, ?_, ?_⟩
      · rw [V_zeros fun i hi => HZ.out i (Nat.zero_le _) hi]; exact isNat_zero _
      · exact (Below.refl _ _).alloc (Nat.le_refl _) _
    · obtain ⟨b, o, rfl, hw⟩ := h.at (k - 1) (by omega)
      have hc : (w.alloc (.cells #[.slice none 0 0] 64)).cell? ⟨b, o + (k - 1), none⟩ = some (.int .u64 (F (k - 1) : Nat)) := cell_later ((Below.refl _ _).alloc (Nat.le_refl _) _) (hw (k - 1) (by omega))
      have h0' : (0 : Int) < k := by omega
      have HZ : Hid _ := hz
      have HW : Hid _ := hw
      have HH : Hid _ := h
      clear hz hw h
      by_cases hf : F (k - 1) = 0
      · rw [hf] at hc
        go_wp2
        go_round
        case rel =>
          refine ⟨k - 1, by omega, by go_num, fun i h1 h2 => ?_⟩
          by_cases e : i = k - 1
          · rw [e, hf]
          · exact HZ.out i (by omega) h2
        case measure => simp [intOf]; omega
      · have hne : (((F (k - 1) : Nat) : Int) == 0) = false := by simp; omega
        have hk0 : ((k : Int) == 0) = false := by simp; omega
        have hcap : (k : Int) ≤ cap := by have := HH.out.1; omega
        go_wp2
        refine bodyPost_ret (v := .agg #[.slice (some ⟨b, o, none⟩) k cap]) (by simp [results, Tryz.results63, go_sem]) rfl ⟨_, rfl, ?_, ?_⟩
        · exact (isNat_cut HH.out hk (by omega) HZ.out hf).mono ((Below.refl _ _).alloc (Nat.le_refl _) _)
        · exact (Below.refl _ _).alloc (Nat.le_refl _) _
end Go.Proofs.YtfjmnhmdipjenaaGreatDoor

namespace Go.Proofs.YtfjmnhmdipjenaaGreatDoor
open Go.RowKit
set_option maxRecDepth 100000
theorem sl_one (w : World) (n g : Nat) (hn : n < 18446744073709551616) (hg : g = w.heap.size) (t : TypeId) : Sl (w.alloc (.cells #[.int .u64 (n : Int)] t)) (some ⟨g, 0, none⟩) 1 1 (fun _ => n) :=
  ⟨Nat.le_refl _, by omega, fun _ _ => hn, .inr ⟨g, 0, rfl, fun i hi => by
    obtain rfl : i = 0 := by omega
    subst hg
    simp⟩⟩
/-- A store into a cell that holds no word leaves numbers as they are. -/
theorem Sl.setCell {w : World} {a : Option Addr} {n cap : Nat} {F : Nat → Nat} (h : Sl w a n cap F) {p : Addr} (hp : ∀ k q, w.cell? p ≠ some (.int k q)) (u : Value) : Sl (w.setCell p u) a n cap F := by
  obtain ⟨h1, h2, h3, h4⟩ := h
  refine ⟨h1, h2, h3, h4.imp id ?_⟩
  rintro ⟨b, o, ha, hw⟩
  refine ⟨b, o, ha, fun i hi => ?_⟩
  have hne : (⟨b, o + i, none⟩ : Addr) ≠ p := fun e => hp _ _ (e ▸ hw i hi)
  exact (World.cell?_setCell_other (h := hne.symm) ..).trans (hw i hi)
theorem IsNat.setCell {w : World} {v : Value} {x : Nat} (h : IsNat w v x) {p : Addr} (hp : ∀ k q, w.cell? p ≠ some (.int k q)) (u : Value) : IsNat (w.setCell p u) v x := by
  obtain ⟨a, n, cap, F, rfl, hs, h0, h1, hv⟩ := h
  exact ⟨a, n, cap, F, rfl, hs.setCell hp u, h0, h1, hv⟩
theorem no_int_slice {w : World} {p : Addr} {a : Option Addr} {n c : Nat} (h : w.cell? p = some (.slice a n c)) : ∀ k q, w.cell? p ≠ some (.int k q) := fun k q e => by rw [h] at e; cases e
set_option maxHeartbeats 400000 in
theorem of_any (n : Nat) (w : World) (hn : n < 18446744073709551616) :
    Calls Tryz.prog 41 #[.int .u64 (n : Int)] w fun e w' => ∃ v, e = .returned v ∧ IsNat w' v n ∧ Below w.heap.size w w' := by
  go_enter Tryz.func41, Tryz.ntmps41
  go_wp2_with fail
  refine (trimmed_any _ 1 1 (fun _ => n) _ (sl_one _ n _ hn (by simp) _) (by omega)).mono ?_
  rintro e w1 ⟨v, rfl, hv, hb⟩
  have hc : w1.cell? ⟨w.heap.size, 0, none⟩ = some (.slice none 0 0) := cell_later hb (by simp)
  have hf : w1.frozen? ⟨w.heap.size, 0, none⟩ = false := (hb.frozen (by simp; omega)).trans (by simp)
  have HBB : Hid (Below w.heap.size w w1) := ((((Below.refl _ _).alloc (Nat.le_refl _) _).alloc (by simp) _)).trans (hb.mono (by simp; omega))
  obtain ⟨a', n', cap', F', rfl, HF⟩ := id hv
  have HV : Hid _ := hv
  clear hb hv HF
  go_wp2_with fail
  refine bodyPost_ret (v := .agg #[.slice a' n' cap']) (by simp [results, Tryz.results41, go_sem, hc]) rfl ⟨_, rfl, ?_, ?_⟩
  · have hx : IsNat w1 _ _ := HV.out
    rw [V_succ, V_zero, P_zero, Nat.zero_add, Nat.mul_one] at hx
    exact hx.setCell (no_int_slice hc) _
  · exact HBB.out.setCell (Nat.le_refl _) _
end Go.Proofs.YtfjmnhmdipjenaaGreatDoor

namespace Go.Proofs.YtfjmnhmdipjenaaGreatDoor
open Go.RowKit
set_option maxRecDepth 100000
theorem wrap64_small (n : Int) (h0 : 0 ≤ n) (h : n ≤ 1000) : wrap64 n = n := IntWalk.wrap64_in n ⟨by omega, by omega⟩
theorem sh32 (n : Nat) (h : 4294967296 ≤ n) : bitLen n = 32 + bitLen (n / 4294967296) := bitLen_shift n 32 (by show n / 4294967296 ≠ 0; omega)
theorem sh16 (n : Nat) (h : 65536 ≤ n) : bitLen n = 16 + bitLen (n / 65536) := bitLen_shift n 16 (by show n / 65536 ≠ 0; omega)
theorem sh8 (n : Nat) (h : 256 ≤ n) : bitLen n = 8 + bitLen (n / 256) := bitLen_shift n 8 (by show n / 256 ≠ 0; omega)
theorem len_fin (k i n : Nat) (z : Int) (hz : z = (k : Int)) (h : i < 256) (hk : k ≤ 56) (e : bitLen n = k + bitLen i) : wrap64 (z + wrap64 ((bitLen i : Nat) : Int)) = ((bitLen n : Nat) : Int) := by
  have hb := bitLen_le8 i h
  subst hz
  rw [wrap64_small ((bitLen i : Nat) : Int) (by omega) (by omega), wrap64_small _ (by omega) (by omega), e]
  omega
theorem len_fin0 (n : Nat) (h : n < 256) : wrap64 (wrap64 ((bitLen n : Nat) : Int)) = ((bitLen n : Nat) : Int) := by
  have hb := bitLen_le8 n h
  rw [wrap64_small ((bitLen n : Nat) : Int) (by omega) (by omega), wrap64_small _ (by omega) (by omega)]
theorem bitLen_le64 (n : Nat) (h : n < 18446744073709551616) : bitLen n ≤ 64 := by
  unfold bitLen
  split
  · omega
  · rename_i h0
    have := (Nat.log2_lt h0).2 (show n < 2 ^ 64 from h)
    omega
set_option maxHeartbeats 1000000 in
theorem len64_111 (n m k j : Nat) (w : World) (hn : n < 18446744073709551616) (i0 : decide ((4294967296 : Int) ≤ (n : Int)) = true) (i1 : (n : Int) / 4294967296 = (m : Int)) (i2 : decide ((65536 : Int) ≤ (m : Int)) = true) (i3 : (m : Int) / 65536 = (k : Int)) (i4 : decide ((256 : Int) ≤ (k : Int)) = true) (i5 : (k : Int) / 256 = (j : Int)) (i6 : (j : Int) < 256) :
    Calls Tryz.prog 64 #[.int .u64 (n : Int)] w fun e w' => e = .returned (.int .i64 ((bitLen n : Nat) : Int)) ∧ w' = w := by
  have Q0 : Hid (4294967296 ≤ n) := by have := of_decide_eq_true i0; show 4294967296 ≤ n; omega
  have Q1 : Hid (65536 ≤ m) := by have := of_decide_eq_true i2; show 65536 ≤ m; omega
  have Q2 : Hid (256 ≤ k) := by have := of_decide_eq_true i4; show 256 ≤ k; omega
  go_enter Tryz.func64, Tryz.ntmps64
  go_wp2
  go_ret
  refine ⟨ret_int ?_, rfl⟩
  simp only [len8tab_get]
  exact len_fin 56 j n 56 (by omega) (by omega) (by omega) (by rw [sh32 n Q0.out, show n / 4294967296 = m from by omega, sh16 m Q1.out, show m / 65536 = k from by omega, sh8 k Q2.out, show k / 256 = j from by omega] <;> omega)
set_option maxHeartbeats 1000000 in
theorem len64_110 (n m k : Nat) (w : World) (hn : n < 18446744073709551616) (i0 : decide ((4294967296 : Int) ≤ (n : Int)) = true) (i1 : (n : Int) / 4294967296 = (m : Int)) (i2 : decide ((65536 : Int) ≤ (m : Int)) = true) (i3 : (m : Int) / 65536 = (k : Int)) (i4 : decide ((256 : Int) ≤ (k : Int)) = false) (i5 : (k : Int) < 256) :
    Calls Tryz.prog 64 #[.int .u64 (n : Int)] w fun e w' => e = .returned (.int .i64 ((bitLen n : Nat) : Int)) ∧ w' = w := by
  have Q0 : Hid (4294967296 ≤ n) := by have := of_decide_eq_true i0; show 4294967296 ≤ n; omega
  have Q1 : Hid (65536 ≤ m) := by have := of_decide_eq_true i2; show 65536 ≤ m; omega
  go_enter Tryz.func64, Tryz.ntmps64
  go_wp2
  go_ret
  refine ⟨ret_int ?_, rfl⟩
  simp only [len8tab_get]
  exact len_fin 48 k n 48 (by omega) (by omega) (by omega) (by rw [sh32 n Q0.out, show n / 4294967296 = m from by omega, sh16 m Q1.out, show m / 65536 = k from by omega] <;> omega)
set_option maxHeartbeats 1000000 in
theorem len64_101 (n m j : Nat) (w : World) (hn : n < 18446744073709551616) (i0 : decide ((4294967296 : Int) ≤ (n : Int)) = true) (i1 : (n : Int) / 4294967296 = (m : Int)) (i2 : decide ((65536 : Int) ≤ (m : Int)) = false) (i3 : decide ((256 : Int) ≤ (m : Int)) = true) (i4 : (m : Int) / 256 = (j : Int)) (i5 : (j : Int) < 256) :
    Calls Tryz.prog 64 #[.int .u64 (n : Int)] w fun e w' => e = .returned (.int .i64 ((bitLen n : Nat) : Int)) ∧ w' = w := by
  have Q0 : Hid (4294967296 ≤ n) := by have := of_decide_eq_true i0; show 4294967296 ≤ n; omega
  have Q1 : Hid (256 ≤ m) := by have := of_decide_eq_true i3; show 256 ≤ m; omega
  go_enter Tryz.func64, Tryz.ntmps64
  go_wp2
  go_ret
  refine ⟨ret_int ?_, rfl⟩
  simp only [len8tab_get]
  exact len_fin 40 j n 40 (by omega) (by omega) (by omega) (by rw [sh32 n Q0.out, show n / 4294967296 = m from by omega, sh8 m Q1.out, show m / 256 = j from by omega] <;> omega)
set_option maxHeartbeats 1000000 in
theorem len64_100 (n m : Nat) (w : World) (hn : n < 18446744073709551616) (i0 : decide ((4294967296 : Int) ≤ (n : Int)) = true) (i1 : (n : Int) / 4294967296 = (m : Int)) (i2 : decide ((65536 : Int) ≤ (m : Int)) = false) (i3 : decide ((256 : Int) ≤ (m : Int)) = false) (i4 : (m : Int) < 256) :
    Calls Tryz.prog 64 #[.int .u64 (n : Int)] w fun e w' => e = .returned (.int .i64 ((bitLen n : Nat) : Int)) ∧ w' = w := by
  have Q0 : Hid (4294967296 ≤ n) := by have := of_decide_eq_true i0; show 4294967296 ≤ n; omega
  go_enter Tryz.func64, Tryz.ntmps64
  go_wp2
  go_ret
  refine ⟨ret_int ?_, rfl⟩
  simp only [len8tab_get]
  exact len_fin 32 m n 32 (by omega) (by omega) (by omega) (by rw [sh32 n Q0.out, show n / 4294967296 = m from by omega] <;> omega)
set_option maxHeartbeats 1000000 in
theorem len64_011 (n k j : Nat) (w : World) (hn : n < 18446744073709551616) (i0 : decide ((4294967296 : Int) ≤ (n : Int)) = false) (i1 : decide ((65536 : Int) ≤ (n : Int)) = true) (i2 : (n : Int) / 65536 = (k : Int)) (i3 : decide ((256 : Int) ≤ (k : Int)) = true) (i4 : (k : Int) / 256 = (j : Int)) (i5 : (j : Int) < 256) :
    Calls Tryz.prog 64 #[.int .u64 (n : Int)] w fun e w' => e = .returned (.int .i64 ((bitLen n : Nat) : Int)) ∧ w' = w := by
  have Q0 : Hid (65536 ≤ n) := by have := of_decide_eq_true i1; show 65536 ≤ n; omega
  have Q1 : Hid (256 ≤ k) := by have := of_decide_eq_true i3; show 256 ≤ k; omega
  go_enter Tryz.func64, Tryz.ntmps64
  go_wp2
  go_ret
  refine ⟨ret_int ?_, rfl⟩
  simp only [len8tab_get]
  exact len_fin 24 j n 24 (by omega) (by omega) (by omega) (by rw [sh16 n Q0.out, show n / 65536 = k from by omega, sh8 k Q1.out, show k / 256 = j from by omega] <;> omega)
set_option maxHeartbeats 1000000 in
theorem len64_010 (n k : Nat) (w : World) (hn : n < 18446744073709551616) (i0 : decide ((4294967296 : Int) ≤ (n : Int)) = false) (i1 : decide ((65536 : Int) ≤ (n : Int)) = true) (i2 : (n : Int) / 65536 = (k : Int)) (i3 : decide ((256 : Int) ≤ (k : Int)) = false) (i4 : (k : Int) < 256) :
    Calls Tryz.prog 64 #[.int .u64 (n : Int)] w fun e w' => e = .returned (.int .i64 ((bitLen n : Nat) : Int)) ∧ w' = w := by
  have Q0 : Hid (65536 ≤ n) := by have := of_decide_eq_true i1; show 65536 ≤ n; omega
  go_enter Tryz.func64, Tryz.ntmps64
  go_wp2
  go_ret
  refine ⟨ret_int ?_, rfl⟩
  simp only [len8tab_get]
  exact len_fin 16 k n 16 (by omega) (by omega) (by omega) (by rw [sh16 n Q0.out, show n / 65536 = k from by omega] <;> omega)
set_option maxHeartbeats 1000000 in
theorem len64_001 (n j : Nat) (w : World) (hn : n < 18446744073709551616) (i0 : decide ((4294967296 : Int) ≤ (n : Int)) = false) (i1 : decide ((65536 : Int) ≤ (n : Int)) = false) (i2 : decide ((256 : Int) ≤ (n : Int)) = true) (i3 : (n : Int) / 256 = (j : Int)) (i4 : (j : Int) < 256) :
    Calls Tryz.prog 64 #[.int .u64 (n : Int)] w fun e w' => e = .returned (.int .i64 ((bitLen n : Nat) : Int)) ∧ w' = w := by
  have Q0 : Hid (256 ≤ n) := by have := of_decide_eq_true i2; show 256 ≤ n; omega
  go_enter Tryz.func64, Tryz.ntmps64
  go_wp2
  go_ret
  refine ⟨ret_int ?_, rfl⟩
  simp only [len8tab_get]
  exact len_fin 8 j n 8 (by omega) (by omega) (by omega) (by rw [sh8 n Q0.out, show n / 256 = j from by omega] <;> omega)
set_option maxHeartbeats 1000000 in
theorem len64_000 (n  : Nat) (w : World) (hn : n < 18446744073709551616) (i0 : decide ((4294967296 : Int) ≤ (n : Int)) = false) (i1 : decide ((65536 : Int) ≤ (n : Int)) = false) (i2 : decide ((256 : Int) ≤ (n : Int)) = false) (i3 : (n : Int) < 256) :
    Calls Tryz.prog 64 #[.int .u64 (n : Int)] w fun e w' => e = .returned (.int .i64 ((bitLen n : Nat) : Int)) ∧ w' = w := by
  go_enter Tryz.func64, Tryz.ntmps64
  go_wp2
  go_ret
  refine ⟨ret_int ?_, rfl⟩
  simp only [len8tab_get]
  exact len_fin0 n (by omega)
theorem len64_any (n : Nat) (w : World) (hn : n < 18446744073709551616) :
    Calls Tryz.prog 64 #[.int .u64 (n : Int)] w fun e w' => e = .returned (.int .i64 ((bitLen n : Nat) : Int)) ∧ w' = w := by
  by_cases h1 : 4294967296 ≤ n
  · by_cases h2 : 65536 ≤ n / 4294967296
    · by_cases h3 : 256 ≤ n / 4294967296 / 65536
      · exact len64_111 n (n / 4294967296) ((n / 4294967296) / 65536) (((n / 4294967296) / 65536) / 256) w hn (decide_eq_true (by omega)) (by omega) (decide_eq_true (by omega)) (by omega) (decide_eq_true (by omega)) (by omega) (by omega)
      · exact len64_110 n (n / 4294967296) ((n / 4294967296) / 65536) w hn (decide_eq_true (by omega)) (by omega) (decide_eq_true (by omega)) (by omega) (decide_eq_false (by omega)) (by omega)
    · by_cases h3 : 256 ≤ n / 4294967296
      · exact len64_101 n (n / 4294967296) ((n / 4294967296) / 256) w hn (decide_eq_true (by omega)) (by omega) (decide_eq_false (by omega)) (decide_eq_true (by omega)) (by omega) (by omega)
      · exact len64_100 n (n / 4294967296) w hn (decide_eq_true (by omega)) (by omega) (decide_eq_false (by omega)) (decide_eq_false (by omega)) (by omega)
  · by_cases h2 : 65536 ≤ n
    · by_cases h3 : 256 ≤ n / 65536
      · exact len64_011 n (n / 65536) ((n / 65536) / 256) w hn (decide_eq_false (by omega)) (decide_eq_true (by omega)) (by omega) (decide_eq_true (by omega)) (by omega) (by omega)
      · exact len64_010 n (n / 65536) w hn (decide_eq_false (by omega)) (decide_eq_true (by omega)) (by omega) (decide_eq_false (by omega)) (by omega)
    · by_cases h3 : 256 ≤ n
      · exact len64_001 n (n / 256) w hn (decide_eq_false (by omega)) (decide_eq_false (by omega)) (decide_eq_true (by omega)) (by omega) (by omega)
      · exact len64_000 n  w hn (decide_eq_false (by omega)) (decide_eq_false (by omega)) (decide_eq_false (by omega)) (by omega)
set_option maxHeartbeats 400000 in
theorem lz64_any (n : Nat) (w : World) (hn : n < 18446744073709551616) :
    Calls Tryz.prog 113 #[.int .u64 (n : Int)] w fun e w' => e = .returned (.int .i64 ((64 - bitLen n : Nat) : Int)) ∧ w' = w := by
  have hb := bitLen_le64 n hn
  go_enter Tryz.func113, Tryz.ntmps113
  go_wp2_with fail
  refine (len64_any n _ hn).mono ?_
  rintro e w' ⟨rfl, rfl⟩
  go_wp2_with fail
  go_ret
  exact ⟨ret_int (by omega), rfl⟩
end Go.Proofs.YtfjmnhmdipjenaaGreatDoor

namespace Go.Proofs.YtfjmnhmdipjenaaGreatDoor
open Go.RowKit
set_option maxRecDepth 100000
theorem P_two (n : Nat) : P n = 2 ^ (64 * n) := by
  unfold P
  rw [show (18446744073709551616 : Nat) = 2 ^ 64 from rfl, ← Nat.pow_mul]
theorem V_div {F : Nat → Nat} {n : Nat} (h : Ok F n) : V F (n + 1) / P n = F n := by
  rw [V_succ, Nat.add_mul_div_right _ _ (P_pos n), Nat.div_eq_of_lt (V_lt h), Nat.zero_add]
theorem bitLen_V {F : Nat → Nat} {n : Nat} (h : Ok F (n + 1)) (h0 : F n ≠ 0) : bitLen (V F (n + 1)) = 64 * n + bitLen (F n) := by
  have e := V_div (h.mono (Nat.le_succ n))
  have hs := bitLen_shift (V F (n + 1)) (64 * n) (by rw [← P_two, e]; exact h0)
  rw [← P_two, e] at hs
  exact hs
theorem isNat_zero_iff {w : World} {a : Option Addr} {n cap : Nat} {x : Nat} (h : IsNat w (.agg #[.slice a n cap]) x) : n = 0 ↔ x = 0 := by
  obtain ⟨a', n', cap', F, e, hs, h0, h1, hv⟩ := h
  simp only [Value.agg.injEq, Array.mk.injEq, List.cons.injEq, Value.slice.injEq, and_true] at e
  obtain ⟨rfl, rfl, rfl⟩ := e
  constructor
  · rintro rfl
    exact hv.symm
  · intro hx
    by_cases e0 : n = 0
    · exact e0
    · have := V_ge F n (by omega)
      have hF := h1 (by omega)
      have hp := P_pos (n - 1)
      have hm : 1 * P (n - 1) ≤ F (n - 1) * P (n - 1) := Nat.mul_le_mul_right _ (by omega)
      omega
set_option maxHeartbeats 400000 in
theorem len_any (v : Value) (x : Nat) (w : World) (h : IsNat w v x) (hx : Fits x) :
    Calls Tryz.prog 43 #[v] w fun e w' => e = .returned (.int .i64 ((bitLen x : Nat) : Int)) ∧ Below w.heap.size w w' := by
  obtain ⟨a, n, cap, F, rfl, hs, h0, h1, hv⟩ := h
  by_cases e0 : n = 0
  · subst e0
    have hv0 : x = 0 := hv.symm
    subst hv0
    clear hv h1 h0
    go_enter Tryz.func43, Tryz.ntmps43
    go_wp2
    go_ret
    exact ⟨rfl, (Below.refl _ _).alloc (Nat.le_refl _) _⟩
  · obtain ⟨m, rfl⟩ : ∃ m, n = m + 1 := ⟨n - 1, by omega⟩
    obtain ⟨b, o, rfl, hw⟩ := hs.at m (by omega)
    have hF : F m ≠ 0 := h1 (by omega)
    have hok := hs.2.2.1
    have hm : m + 1 ≤ 4294967296 := fits_len (hv.symm ▸ hx) h1
    have hlen := bitLen_V hok hF
    rw [hv] at hlen
    have hc := hw m (by omega)
    have hlt : b < w.heap.size := World.block_lt_of_cell? _ _ hc
    have hFm := hok m (by omega)
    have hbl := bitLen_le64 (F m) hFm
    have HL : Hid _ := hlen
    clear hlen hw h0 h1 hv hs hok hx
    have hne : ((m : Int) + 1 == 0) = false := by simp; omega
    go_enter Tryz.func43, Tryz.ntmps43
    go_wp2_with fail
    refine (len64_any (F m) _ hFm).mono ?_
    rintro e w1 ⟨rfl, rfl⟩
    go_wp2_with fail
    go_ret
    exact ⟨ret_int (by rw [HL.out]; omega), (Below.refl _ _).alloc (Nat.le_refl _) _⟩
end Go.Proofs.YtfjmnhmdipjenaaGreatDoor

namespace Go.Proofs.YtfjmnhmdipjenaaGreatDoor
open Go.RowKit
set_option maxRecDepth 100000
theorem isNat_fits1 {w : World} {a : Option Addr} {n cap : Nat} {F : Nat → Nat} (hs : Sl w a n cap F) (h1 : 0 < n → F (n - 1) ≠ 0) : V F n < 18446744073709551616 ↔ n ≤ 1 := by
  rw [← P_one]
  constructor
  · intro h
    exact len_le_of h h1
  · intro h
    exact Nat.lt_of_lt_of_le (V_lt hs.2.2.1) (P_le h)
set_option maxHeartbeats 400000 in
theorem uint_yes (v : Value) (x : Nat) (w : World) (h : IsNat w v x) (hx : x < 18446744073709551616) :
    Calls Tryz.prog 74 #[v] w fun e w' => e = .returned (.tuple #[.int .u64 (x : Int), .bool true]) ∧ Below w.heap.size w w' := by
  obtain ⟨a, n, cap, F, rfl, hs, h0, h1, hv⟩ := h
  have hn := (isNat_fits1 hs h1).1 (hv.symm ▸ hx)
  by_cases e0 : n = 0
  · subst e0
    have hv0 : x = 0 := hv.symm
    subst hv0
    clear hv h1 h0
    go_enter Tryz.func74, Tryz.ntmps74
    go_wp2
    go_ret2
    exact ⟨rfl, (Below.refl _ _).alloc (Nat.le_refl _) _⟩
  · obtain rfl : n = 1 := by omega
    obtain ⟨b, o, rfl, hw⟩ := hs.at 0 (by omega)
    have hxF : x = F 0 := by rw [← hv, V_succ, V_zero, P_zero]; omega
    have hc : w.cell? ⟨b, o, none⟩ = some (.int .u64 (F 0 : Nat)) := hw 0 (by omega)
    rw [← hxF] at hc
    have hlt : b < w.heap.size := World.block_lt_of_cell? _ _ hc
    clear hw h0 h1 hv hs hxF hn e0
    go_enter Tryz.func74, Tryz.ntmps74
    go_wp2
    go_ret2
    exact ⟨rfl, (Below.refl _ _).alloc (Nat.le_refl _) _⟩
/-- -1, 0 or 1. -/
def cmpI (x y : Nat) : Int := if x < y then -1 else if x = y then 0 else 1
theorem cmpI_lt {x y : Nat} (h : x < y) : cmpI x y = -1 := by simp [cmpI, h]
theorem cmpI_gt {x y : Nat} (h : y < x) : cmpI x y = 1 := by simp [cmpI, Nat.not_lt.2 (Nat.le_of_lt h), Nat.ne_of_gt h]
theorem cmpI_eq (x : Nat) : cmpI x x = 0 := by simp [cmpI]
theorem V_lt_len {F G : Nat → Nat} {n m : Nat} (hF : Ok F n) (hm : n < m) (h1 : G (m - 1) ≠ 0) : V F n < V G m :=
  Nat.lt_of_lt_of_le (V_lt hF) (V_long hm h1)
theorem V_lt_at {F G : Nat → Nat} {n k : Nat} (hF : Ok F n) (hk : k < n) (hl : F k < G k) (he : ∀ j, k + 1 ≤ j → j < n → F j = G j) : V F n < V G n := by
  obtain ⟨t, rfl⟩ : ∃ t, n = k + 1 + t := ⟨n - (k + 1), by omega⟩
  rw [V_split F (k + 1), V_split G (k + 1), V_congr (F := fun i => F (k + 1 + i)) (G := fun i => G (k + 1 + i)) fun i hi => he _ (by omega) (by omega), V_succ, V_succ]
  have h1 := V_lt (hF.mono (show k ≤ k + 1 + t by omega))
  have h2 : (F k + 1) * P k ≤ G k * P k := Nat.mul_le_mul_right _ hl
  rw [Nat.add_mul] at h2
  omega
theorem bel_alloc2 (w : World) (o1 o2 : Obj) : Below w.heap.size w ((w.alloc o1).alloc o2) := ((Below.refl _ _).alloc (Nat.le_refl _) _).alloc (by simp) _
theorem bel_drewN {B : Nat} {a w : World} (h : Below B a w) (n : Nat) : Below B a (w.drewN n) := ⟨h.os, h.tape, h.output, h.size, h.block⟩
set_option maxHeartbeats 400000 in
theorem cmp_any (v u : Value) (x y : Nat) (w : World) (h : IsNat w v x) (k : IsNat w u y) (hx : Fits x) (hy : Fits y) :
    Calls Tryz.prog 72 #[v, u] w fun e w' => e = .returned (.int .i64 (cmpI x y)) ∧ Below w.heap.size w w' := by
  obtain ⟨a, n, cap, F, rfl, hs, h0, h1, hv⟩ := h
  obtain ⟨a', m, cap', G, rfl, ks, k0, k1, kv⟩ := k
  have hn : n ≤ 4294967296 := fits_len (hv.symm ▸ hx) h1
  have hm : m ≤ 4294967296 := fits_len (kv.symm ▸ hy) k1
  rcases Nat.lt_trichotomy n m with hlt | heq | hgt
  · have HC : Hid (cmpI x y = -1) := cmpI_lt (by rw [← hv, ← kv]; exact V_lt_len hs.2.2.1 hlt (k1 (by omega)))
    clear hs h0 h1 hv ks k0 k1 kv hx hy
    go_enter Tryz.func72, Tryz.ntmps72
    go_wp2
    go_ret
    exact ⟨ret_int HC.out.symm, bel_alloc2 _ _ _⟩
  · subst heq
    go_enter Tryz.func72, Tryz.ntmps72
    have HH : Hid _ := (show (Sl w a n cap F ∧ Sl w a' n cap' G ∧ V F n = x ∧ V G n = y) from ⟨hs, ks, hv, kv⟩)
    clear hs h0 h1 hv ks k0 k1 kv hx hy
    go_wp2
    go_loopw [5] (fun t wr => ∃ (k nd : Nat), k ≤ n ∧ t = .int .i64 ((k : Int) - 1) ∧ (∀ j, k ≤ j → j < n → F j = G j) ∧ wr = ((w.alloc (.cells #[.slice a n cap] 64)).alloc (.cells #[.slice a' n cap'] 64)).drewN nd) (fun t _ => (intOf t + 1).toNat)
    case atStart => exact ⟨n, 0, Nat.le_refl _, rfl, fun j h1 h2 => absurd h1 (by omega), rfl⟩
    case round =>
      obtain ⟨k, nd, hk, rfl, he, rfl⟩ := hrel
      by_cases e0 : k = 0
      · subst e0
        have HE : Hid _ := he
        clear he
        go_wp2
        go_ret
        refine ⟨ret_int ?_, bel_drewN (bel_alloc2 _ _ _) _⟩
        obtain ⟨_, _, q1, q2⟩ := HH.out
        rw [← q1, ← q2, V_congr fun i hi => HE.out i (Nat.zero_le _) hi, cmpI_eq]
      · obtain ⟨j, rfl⟩ : ∃ j, k = j + 1 := ⟨k - 1, by omega⟩
        obtain ⟨b, o, rfl, hw⟩ := HH.out.1.at j (by omega)
        obtain ⟨b', o', rfl, kw⟩ := HH.out.2.1.at j (by omega)
        have hc := hw j (by omega)
        have kc := kw j (by omega)
        have hb : b < w.heap.size := World.block_lt_of_cell? _ _ hc
        have kb : b' < w.heap.size := World.block_lt_of_cell? _ _ kc
        have HE : Hid _ := he
        clear he hw kw
        rcases Nat.lt_trichotomy (F j) (G j) with hl | hl | hl
        · have hl' : ((F j : Nat) : Int) < (G j : Nat) := by omega
          have HC : Hid (cmpI x y = -1) := by
            obtain ⟨q1, _, q3, q4⟩ := HH.out
            exact cmpI_lt (by rw [← q3, ← q4]; exact V_lt_at q1.2.2.1 (by omega) hl HE.out)
          go_wp2_with fail
          go_region
          go_wp2_with fail
          go_ret
          exact ⟨ret_int HC.out.symm, bel_drewN (bel_alloc2 _ _ _) _⟩
        · have hd1 : decide (((F j : Nat) : Int) < (G j : Nat)) = false := decide_eq_false (by omega)
          have hd2 : decide (((G j : Nat) : Int) < (F j : Nat)) = false := decide_eq_false (by omega)
          go_wp2_with fail
          go_region
          go_wp2_with fail
          go_region
          go_wp2_with fail
          go_roundw
          case rel =>
            refine ⟨j, nd + 1 + 1, by omega, by go_num, fun i h1 h2 => ?_, rfl⟩
            by_cases e : i = j
            · rw [e, hl]
            · exact HE.out i (by omega) h2
          case measure => simp [intOf]
        · have hd1 : decide (((F j : Nat) : Int) < (G j : Nat)) = false := decide_eq_false (by omega)
          have hl' : ((G j : Nat) : Int) < (F j : Nat) := by omega
          have HC : Hid (cmpI x y = 1) := by
            obtain ⟨_, q2, q3, q4⟩ := HH.out
            exact cmpI_gt (by rw [← q3, ← q4]; exact V_lt_at q2.2.2.1 (by omega) hl fun i h1 h2 => (HE.out i h1 h2).symm)
          go_wp2_with fail
          go_region
          go_wp2_with fail
          go_region
          go_wp2_with fail
          go_ret
          exact ⟨ret_int HC.out.symm, bel_drewN (bel_alloc2 _ _ _) _⟩
  · have HC : Hid (cmpI x y = 1) := cmpI_gt (by rw [← hv, ← kv]; exact V_lt_len ks.2.2.1 hgt (h1 (by omega)))
    clear hs h0 h1 hv ks k0 k1 kv hx hy
    have hd1 : decide ((n : Int) < m) = false := decide_eq_false (by omega)
    have hd2 : (m : Int) < n := by omega
    go_enter Tryz.func72, Tryz.ntmps72
    go_wp2
    go_ret
    exact ⟨ret_int HC.out.symm, bel_alloc2 _ _ _⟩
end Go.Proofs.YtfjmnhmdipjenaaGreatDoor

