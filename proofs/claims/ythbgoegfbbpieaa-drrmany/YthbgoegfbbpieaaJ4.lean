/- Contracts of the program's functions, part 4: own work, joined in build order. -/
import Derived.Test.YthbgoegfbbpieaaJ3
import Derived.Scope
namespace Go.Proofs.Ythbgoegfbbpieaa
open Go.RowKit
set_option maxRecDepth 100000
set_option linter.unusedVariables false
set_option maxHeartbeats 2000000 in
theorem turnF_any (r g N f : Nat) (xs : List (Option Addr)) (n : Int) (w : World) (h : RF w r g N f xs.length xs) (hx : xs.length ≤ 4294967296) (hn : -9223372036854775808 ≤ n) (hn2 : n ≤ 9223372036854775807) :
    Calls Try.prog 47 #[.pointer (some ⟨r, 0, none⟩), .int .i64 n] w fun e w' => e = .returned (.tuple #[]) ∧ RingsF w r g (rt n xs) w' := by
  have c2 := h.c2
  have hl := h.lim
  have hc := h.cl
  have HH : Hid (RF w r g N f xs.length xs) := h
  obtain ⟨c, ec⟩ : ∃ c, c = xs.length := ⟨_, rfl⟩
  rw [← ec] at c2 hc hx
  have HE : Hid (c = xs.length) := ec
  by_cases hc0 : c = 0
  · have d0 : ((c : Int) == 0) = true := by simp <;> omega
    have HR : Hid (rt n xs = xs) := by
      have : xs = [] := List.eq_nil_of_length_eq_zero (by omega)
      show rt n xs = xs
      subst this
      exact rt_nil n
    clear h ec hc0
    go_enter Try.func47, Try.ntmps47
    go_wp2_with fail
    refine bodyPost_ret (v := .tuple #[]) (by simp [results, Try.results47, go_sem]) rfl ⟨rfl, ?_⟩
    rw [HR.out]
    exact RingsF.intro HH.out (Chg.refl _ _ _) (.inl rfl)
  have d0 : ((c : Int) == 0) = false := by simp <;> omega
  obtain ⟨q, hq⟩ : ∃ q, n.tmod (c : Int) = q := ⟨_, rfl⟩
  have HQ : Hid (rt q xs = rt n xs ∧ rt (q + (c : Int)) xs = rt n xs ∧ rt (q - (c : Int)) xs = rt n xs) := by
    have e1 := rt_tmod n q xs (by rw [← ec]; exact hq)
    refine ⟨e1, ?_, ?_⟩
    · rw [ec, rt_add, e1]
    rw [ec, rt_sub, e1]
  have hq1 : q < (c : Int) := by
    have := Int.tmod_lt_of_pos n (show (0 : Int) < (c : Int) by omega)
    omega
  have hq2 : -(c : Int) < q := by
    have := Int.lt_tmod_of_pos n (show (0 : Int) < (c : Int) by omega)
    omega
  have H0 : Hid (RingsF w r g xs w) := RingsF.intro h (Chg.refl _ _ _) (.inl rfl)
  clear h ec
  have cases3 : (decide ((c : Int) / 2 < q) = true) ∨ (decide ((c : Int) / 2 < q) = false ∧ decide (q < -((c : Int) / 2)) = true) ∨ (decide ((c : Int) / 2 < q) = false ∧ decide (q < -((c : Int) / 2)) = false) := by
    simp only [decide_eq_true_eq, decide_eq_false_iff_not]
    omega
  rcases cases3 with hd1 | ⟨hd1, hd2⟩ | ⟨hd1, hd2⟩
  all_goals (
    have HD1 : Hid _ := hd1
    go_enter Try.func47, Try.ntmps47
    go_wp2_with fail
    clear hd1
    go_loopw [1] (fun p wr => ∃ (m : Int) (ys : List (Option Addr)), p = .int .i64 m ∧ -(c : Int) ≤ m ∧ m ≤ (c : Int) ∧ ys.length = c ∧ rt m ys = rt n xs ∧ Hid (RingsF w r g ys wr)) (fun p _ => (intOf p).toNat)
    case atStart =>
      have hd1 := HD1.out
      simp only [decide_eq_true_eq, decide_eq_false_iff_not] at *
      first
        | exact ⟨q, xs, by go_num, by omega, by omega, HE.out.symm, HQ.out.1, H0⟩
        | exact ⟨q + (c : Int), xs, by go_num, by omega, by omega, HE.out.symm, HQ.out.2.1, H0⟩
        | exact ⟨q - (c : Int), xs, by go_num, by omega, by omega, HE.out.symm, HQ.out.2.2, H0⟩
    case round =>
      obtain ⟨m, ys, rfl, hm1, hm2, hyl, hrt, hR⟩ := hrel
      clear hq
      by_cases hm : 0 < m
      · have hd : decide (0 < m) = true := decide_eq_true hm
        obtain ⟨g1, N1, f1, h1, hC, hg⟩ := hR.out
        obtain ⟨y, zs, rfl⟩ : ∃ y zs, ys = y :: zs := by
          rcases ys with _ | ⟨y, zs⟩
          · simp at hyl; omega
          exact ⟨y, zs, rfl⟩
        rw [rt_front] at hrt
        have H1 : Hid (RF wr r g1 N1 f1 (y :: zs).length (y :: zs) ∧ Chg w wr r g ∧ (g1 = g ∨ g1 = r ∨ w.heap.size ≤ g1) ∧ (y :: zs).length = c ∧ rt (m - 1) (zs ++ [y]) = rt n xs) := ⟨h1, hC, hg, hyl, hrt⟩
        clear h1 hC hg hyl hrt hR
        go_wp2_with fail
        refine (popFrontF_yes r g1 N1 f1 y zs wr H1.out.1).mono ?_
        rintro e w1 ⟨rfl, h2⟩
        obtain ⟨g2, N2, f2, h3, h4⟩ := h2
        have H2 : Hid (RF w1 r g2 N2 f2 zs.length zs ∧ Chg wr w1 r g1 ∧ (g2 = g1 ∨ g2 = r ∨ wr.heap.size ≤ g2)) := ⟨h3, h4⟩
        clear h3 h4
        go_wp2_with fail
        refine (pushBackF_any r g2 N2 f2 zs y w1 H2.out.1 (by have := H1.out.2.2.2.1; simp at this; omega)).mono ?_
        rintro e w2 ⟨rfl, h5⟩
        have H3 : Hid (RingsF w r g (zs ++ [y]) w2) := RingsF.trans H1.out.2.1 H1.out.2.2.1 (RingsF.trans H2.out.2.1 H2.out.2.2 h5)
        clear h5
        go_wp2_with fail
        go_roundw
        case rel => exact ⟨m - 1, zs ++ [y], by go_num, by omega, by omega, by have := H1.out.2.2.2.1; simpa using this, H1.out.2.2.2.2, H3⟩
        case measure => simp [intOf]; omega
      have hd : decide (0 < m) = false := decide_eq_false hm
      have HR : Hid (ys.length = c ∧ rt m ys = rt n xs ∧ Hid (RingsF w r g ys wr)) := ⟨hyl, hrt, hR⟩
      clear hyl hrt hR
      go_wp2_with fail
      go_loopw [1] (fun p wr => ∃ (m : Int) (ys : List (Option Addr)), p = .int .i64 m ∧ -(c : Int) ≤ m ∧ m ≤ 0 ∧ ys.length = c ∧ rt m ys = rt n xs ∧ Hid (RingsF w r g ys wr)) (fun p _ => (-(intOf p)).toNat)
      case atStart => exact ⟨m, ys, rfl, by omega, by omega, HR.out⟩
      case round =>
        clear HR hd
        obtain ⟨m, ys, rfl, hm1, hm2, hyl, hrt, hR⟩ := hrel
        by_cases hm : m < 0
        · have hd : decide (m < 0) = true := decide_eq_true hm
          obtain ⟨g1, N1, f1, h1, hC, hg⟩ := hR.out
          obtain ⟨y, zs, rfl⟩ : ∃ y zs, ys = zs ++ [y] := by
            rcases List.eq_nil_or_concat ys with e | ⟨zs, y, e⟩
            · subst e
              simp at hyl
              omega
            exact ⟨y, zs, by simpa using e⟩
          rw [rt_back] at hrt
          have H1 : Hid (RF wr r g1 N1 f1 (zs ++ [y]).length (zs ++ [y]) ∧ Chg w wr r g ∧ (g1 = g ∨ g1 = r ∨ w.heap.size ≤ g1) ∧ (zs ++ [y]).length = c ∧ rt (m + 1) (y :: zs) = rt n xs) := ⟨h1, hC, hg, hyl, hrt⟩
          clear h1 hC hg hyl hrt hR
          go_wp2_with fail
          refine (popBackF_yes r g1 N1 f1 y zs wr H1.out.1).mono ?_
          rintro e w1 ⟨rfl, h2⟩
          obtain ⟨g2, N2, f2, h3, h4⟩ := h2
          have H2 : Hid (RF w1 r g2 N2 f2 zs.length zs ∧ Chg wr w1 r g1 ∧ (g2 = g1 ∨ g2 = r ∨ wr.heap.size ≤ g2)) := ⟨h3, h4⟩
          clear h3 h4
          go_wp2_with fail
          refine (pushFrontF_any r g2 N2 f2 zs y w1 H2.out.1 (by have := H1.out.2.2.2.1; simp at this; omega)).mono ?_
          rintro e w2 ⟨rfl, h5⟩
          have H3 : Hid (RingsF w r g (y :: zs) w2) := RingsF.trans H1.out.2.1 H1.out.2.2.1 (RingsF.trans H2.out.2.1 H2.out.2.2 h5)
          clear h5
          go_wp2_with fail
          go_roundw
          case rel => exact ⟨m + 1, y :: zs, by go_num, by omega, by omega, by have := H1.out.2.2.2.1; simpa using this, H1.out.2.2.2.2, H3⟩
          case measure => simp [intOf]; omega
        have hd : decide (m < 0) = false := decide_eq_false hm
        obtain rfl : m = 0 := by omega
        rw [rt_zero] at hrt
        have HR : Hid (RingsF w r g (rt n xs) wr) := by rw [← hrt]; exact hR
        clear hyl hrt hR
        go_wp2_with fail
        exact bodyPost_end (v := .tuple #[]) (by simp [results, Try.results47, go_sem]) rfl ⟨rfl, HR.out⟩)
structure Dv where
  flows : Nat
  ring : Nat
  turn : Bool
  weight : Int
  count : Int
  seq : Int
  came : Int
def Dv.cell (x : Dv) : Nat → Value
  | 0 => .map (some x.flows)
  | 1 => .pointer (some ⟨x.ring, 0, none⟩)
  | 2 => .bool x.turn
  | 3 => .int .i64 x.weight
  | 4 => .int .i64 x.count
  | 5 => .int .i64 x.seq
  | _ => .int .i64 x.came
def Dr (w : World) (d : Nat) (x : Dv) : Prop := w.rowIs d 69 7 x.cell
theorem lenD_any (d : Nat) (x : Dv) (w : World) (h : Dr w d x) : Calls Try.prog 18 #[.pointer (some ⟨d, 0, none⟩)] w fun e w' => e = .returned (.int .i64 x.count) ∧ w' = w := by
  have c4 : w.cell? ⟨d, 4, none⟩ = some (.int .i64 x.count) := World.rowIs.cell h (i := 4) (by omega)
  clear h
  go_enter Try.func18, Try.ntmps18
  go_wp2_with fail
  go_ret
  exact ⟨rfl, rfl⟩
set_option maxHeartbeats 1000000 in
theorem newD_any (w : World) : Calls Try.prog 14 #[] w fun e w' => ∃ rg d, e = .returned (.pointer (some ⟨d, 0, none⟩)) ∧ Dr w' d ⟨w.heap.size, rg, false, 0, 0, 0, 0⟩ ∧ Mp w' w.heap.size 0 (fun _ => none) ∧ RF w' rg rg 0 0 0 [] ∧ Below w.heap.size w w' ∧ w.heap.size < rg ∧ rg < d := by
  obtain ⟨W, hW⟩ : ∃ W, W = w.alloc (.map #[] 0) := ⟨_, rfl⟩
  have HM : Hid (Mp W w.heap.size 0 (fun _ => none) ∧ Below w.heap.size w W ∧ W.heap.size = w.heap.size + 1) := by
    rw [hW]
    exact ⟨Mp.made w, (Below.refl _ _).alloc (Nat.le_refl _) _, by simp⟩
  have HW : Hid (w.alloc (.map #[] 0) = W) := hW.symm
  have hmm := @run_makeMap Try.prog
  clear hW
  go_enter Try.func14, Try.ntmps14
  go_wp2_with fail
  rw [HW.out]
  refine (newF_any W).mono ?_
  rintro e w1 ⟨rfl, h1, hb⟩
  have HF : Hid (Dr (w1.alloc (.cells #[.map (some w.heap.size), .pointer (some ⟨W.heap.size, 0, none⟩), .bool false, .int .i64 0, .int .i64 0, .int .i64 0, .int .i64 0] 69)) w1.heap.size ⟨w.heap.size, W.heap.size, false, 0, 0, 0, 0⟩ ∧ Mp (w1.alloc (.cells #[.map (some w.heap.size), .pointer (some ⟨W.heap.size, 0, none⟩), .bool false, .int .i64 0, .int .i64 0, .int .i64 0, .int .i64 0] 69)) w.heap.size 0 (fun _ => none) ∧ RF (w1.alloc (.cells #[.map (some w.heap.size), .pointer (some ⟨W.heap.size, 0, none⟩), .bool false, .int .i64 0, .int .i64 0, .int .i64 0, .int .i64 0] 69)) W.heap.size W.heap.size 0 0 0 [] ∧ Below w.heap.size w (w1.alloc (.cells #[.map (some w.heap.size), .pointer (some ⟨W.heap.size, 0, none⟩), .bool false, .int .i64 0, .int .i64 0, .int .i64 0, .int .i64 0] 69)) ∧ w.heap.size < W.heap.size ∧ W.heap.size < w1.heap.size) := by
    have hs := HM.out.2.2
    have hr := h1.rlt
    have k0 : ∀ o : Obj, Below w1.heap.size w1 (w1.alloc o) := fun o => (Below.refl _ _).alloc (Nat.le_refl _) o
    refine ⟨?_, ?_, h1.mono (k0 _), HM.out.2.1.trans ((hb.mono (by omega)).trans ((k0 _).mono (by omega))), by omega, hr⟩
    · refine World.rowIs_alloc w1 #[.map (some w.heap.size), .pointer (some ⟨W.heap.size, 0, none⟩), .bool false, .int .i64 0, .int .i64 0, .int .i64 0, .int .i64 0] 69 _ fun i hi => ?_
      rcases i with _ | _ | _ | _ | _ | _ | _ | i
      · rfl
      · rfl
      · rfl
      · rfl
      · rfl
      · rfl
      · rfl
      simp at hi
      omega
    exact HM.out.1.kept (((k0 _).block _ (by omega)).trans (hb.block _ (by omega)))
  clear h1 hb
  go_wp2_with fail
  go_ret
  exact ⟨_, _, rfl, HF.out⟩
set_option maxHeartbeats 2000000 in
theorem openD_yes (d : Nat) (x : Dv) (nn : Nat) (F : Int → Option Nat) (s gn : Int) (w : World) (h : Dr w d x) (hm : Mp w x.flows nn F) (h1 : -9223372036854775808 ≤ s) (h2 : s ≤ 9223372036854775807) (b : Nat) (y : Fw) (hF : F s = some b) (hb : Fl w b y) (hs : y.slot = s) (hg : y.gen = gn) :
    Calls Try.prog 24 #[.pointer (some ⟨d, 0, none⟩), .agg #[.int .i64 s, .int .i64 gn]] w fun e w' => e = .returned (.tuple #[.pointer (some ⟨b, 0, none⟩), .int .i64 0]) ∧ Below w.heap.size w w' := by
  obtain ⟨m, rg, tn, wt, ct, sq, cm⟩ := x
  obtain ⟨W, hW⟩ : ∃ W, W = w.alloc (.cells #[.int .i64 s, .int .i64 gn] 41) := ⟨_, rfl⟩
  obtain ⟨v, ev⟩ : ∃ v, v = w.heap.size := ⟨_, rfl⟩
  have B0 : Below w.heap.size w W := by rw [hW]; exact (Below.refl _ _).alloc (Nat.le_refl _) _
  have hB : W.heap[v]? = some (.cells #[.int .i64 s, .int .i64 gn] 41) := by rw [hW, ev]; exact (MapKept.heap_alloc _ _).1
  have v0 : W.cell? ⟨v, 0, none⟩ = some (.int .i64 s) := by simp [World.cell?, hB]
  have c0 : W.cell? ⟨d, 0, none⟩ = some (.map (some m)) := cell_later B0 (World.rowIs.cell h (i := 0) (by omega))
  have b0 : W.cell? ⟨b, 0, none⟩ = some (.int .i64 s) := by rw [← hs]; exact cell_later B0 (World.rowIs.cell hb (i := 0) (by omega))
  have b1 : W.cell? ⟨b, 1, none⟩ = some (.int .i64 gn) := by rw [← hg]; exact cell_later B0 (World.rowIs.cell hb (i := 1) (by omega))
  have v1 : W.cell? ⟨v, 1, none⟩ = some (.int .i64 gn) := by simp [World.cell?, hB]
  have hml : m < w.heap.size := by
    obtain ⟨es, clock, hb⟩ := hm.block
    exact (Array.getElem?_eq_some_iff.1 hb).1
  have hm' : Mp W m nn F := hm.kept (B0.block _ hml)
  have lk : ∀ k, (Instr.lookup 66 (.map (some m)) (.int .i64 s) false).run Try.prog (W.drewN k) = .ok (.pointer (some ⟨b, 0, none⟩)) (W.drewN k) := fun k => by
    have := (hm'.kept (W' := W.drewN k) rfl).look Try.underlying66 (by rfl) (i := s) h1 h2
    rw [hF] at this
    exact this
  have lk0 : (Instr.lookup 66 (.map (some m)) (.int .i64 s) false).run Try.prog W = .ok (.pointer (some ⟨b, 0, none⟩)) W := lk 0
  have HW : Hid (w.alloc (.cells #[.int .i64 s, .int .i64 gn] 41) = W ∧ w.heap.size = v ∧ Below w.heap.size w W) := ⟨hW.symm, ev.symm, B0⟩
  clear h hm hm' h1 h2 hF hb hs hg B0 hB hW ev
  go_enter Try.func24, Try.ntmps24
  go_wp2_with fail
  rw [HW.out.1, HW.out.2.1]
  go_quiet (fail)
  go_wp2_with fail
  go_quiet (fail)
  go_wp2_with fail
  exact bodyPost_ret (v := .tuple #[.pointer (some ⟨b, 0, none⟩), .int .i64 0]) (by simp [results, Try.results24, go_sem]) rfl ⟨rfl, bel_drewN (bel_drewN HW.out.2.2 _) _⟩
set_option maxHeartbeats 4000000 in
theorem takerD_yes (d : Nat) (x : Dv) (nn : Nat) (F : Int → Option Nat) (p : Pk) (w : World) (h : Dr w d x) (hm : Mp w x.flows nn F) (h1 : -9223372036854775808 ≤ p.slot) (h2 : p.slot ≤ 9223372036854775807) (b : Nat) (y : Fw) (hF : F p.slot = some b) (hb : Fl w b y) (hs : y.slot = p.slot) (hg : y.gen = p.gen)
    (s1 : 1 ≤ p.size) (s2 : p.size ≤ 65536) (q1 : x.seq < p.seq) (t1 : x.came ≤ p.came) (t2 : p.came ≤ 4611686018427387904) :
    Calls Try.prog 27 #[.pointer (some ⟨d, 0, none⟩), p.val] w fun e w' => e = .returned (.tuple #[.pointer (some ⟨b, 0, none⟩), .int .i64 0]) ∧ Below w.heap.size w w' := by
  obtain ⟨a0, a1, a2, a3, a4, a5⟩ := p
  obtain ⟨W, hW⟩ : ∃ W, W = w.alloc (.cells #[.int .i64 a0, .int .i64 a1, .int .i64 a2, .int .i64 a3, .int .i64 a4, .int .i64 a5] 49) := ⟨_, rfl⟩
  obtain ⟨v, ev⟩ : ∃ v, v = w.heap.size := ⟨_, rfl⟩
  have B0 : Below w.heap.size w W := by rw [hW]; exact (Below.refl _ _).alloc (Nat.le_refl _) _
  have hB : W.heap[v]? = some (.cells #[.int .i64 a0, .int .i64 a1, .int .i64 a2, .int .i64 a3, .int .i64 a4, .int .i64 a5] 49) := by rw [hW, ev]; exact (MapKept.heap_alloc _ _).1
  have hvl : v < W.heap.size := (Array.getElem?_eq_some_iff.1 hB).1
  have c0 : (w.alloc (.cells #[.int .i64 a0, .int .i64 a1, .int .i64 a2, .int .i64 a3, .int .i64 a4, .int .i64 a5] 49)).cell? ⟨v, 0, none⟩ = some (.int .i64 a0) := by rw [← hW]; simp [World.cell?, hB]
  have c1 : (w.alloc (.cells #[.int .i64 a0, .int .i64 a1, .int .i64 a2, .int .i64 a3, .int .i64 a4, .int .i64 a5] 49)).cell? ⟨v, 1, none⟩ = some (.int .i64 a1) := by rw [← hW]; simp [World.cell?, hB]
  have hml : x.flows < w.heap.size := by
    obtain ⟨es, clock, hb⟩ := hm.block
    exact (Array.getElem?_eq_some_iff.1 hb).1
  have hD : Dr W d x := World.rowIs.of_block h (B0.block _ (World.rowIs.lt h))
  have hbW : Fl W b y := World.rowIs.of_block hb (B0.block _ (World.rowIs.lt hb))
  have HO : Hid (Calls Try.prog 24 #[.pointer (some ⟨d, 0, none⟩), .agg #[.int .i64 a0, .int .i64 a1]] W fun e w' => e = .returned (.tuple #[.pointer (some ⟨b, 0, none⟩), .int .i64 0]) ∧ Below W.heap.size W w') := openD_yes d x nn F a0 a1 W hD (hm.kept (B0.block _ hml)) h1 h2 b y hF hbW hs hg
  have HD : Hid (Dr W d x ∧ W.heap[v]? = some (.cells #[.int .i64 a0, .int .i64 a1, .int .i64 a2, .int .i64 a3, .int .i64 a4, .int .i64 a5] 49) ∧ v < W.heap.size ∧ Below w.heap.size w W) := ⟨hD, hB, hvl, B0⟩
  have HW : Hid (w.alloc (.cells #[.int .i64 a0, .int .i64 a1, .int .i64 a2, .int .i64 a3, .int .i64 a4, .int .i64 a5] 49) = W) := hW.symm
  have HV : Hid (w.heap.size = v) := ev.symm
  rw [ev] at c0 c1
  obtain ⟨m, rg, tn, wt, ct, sq, cm⟩ := x
  have d1 : decide (a3 < 1) = false := decide_eq_false (by simp only at s1; omega)
  have d2 : decide (65536 < a3) = false := decide_eq_false (by simp only at s2; omega)
  have d3 : decide (a4 ≤ sq) = false := decide_eq_false (by simp only at q1; omega)
  have d4 : decide (a5 < cm) = false := decide_eq_false (by simp only at t1; omega)
  have d5 : decide ((4611686018427387904 : Int) < a5) = false := decide_eq_false (by simp only at t2; omega)
  show Calls Try.prog 27 #[.pointer (some ⟨d, 0, none⟩), .agg #[.int .i64 a0, .int .i64 a1, .int .i64 a2, .int .i64 a3, .int .i64 a4, .int .i64 a5]] w _
  clear h hm h1 h2 hF hb hs hg s1 s2 q1 t1 t2 hD hbW B0 hB hvl hW ev hml
  go_enter Try.func27, Try.ntmps27
  go_wp2_with fail
  rw [HW.out, HV.out]
  refine HO.out.mono ?_
  rintro e w1 ⟨rfl, hb1⟩
  have hv1 : w1.heap[v]? = some (.cells #[.int .i64 a0, .int .i64 a1, .int .i64 a2, .int .i64 a3, .int .i64 a4, .int .i64 a5] 49) := (hb1.block v HD.out.2.2.1).trans HD.out.2.1
  have k2 : w1.cell? ⟨v, 3, none⟩ = some (.int .i64 a3) := by simp [World.cell?, hv1]
  have k3 : w1.cell? ⟨v, 4, none⟩ = some (.int .i64 a4) := by simp [World.cell?, hv1]
  have k4 : w1.cell? ⟨v, 5, none⟩ = some (.int .i64 a5) := by simp [World.cell?, hv1]
  have e5 : w1.cell? ⟨d, 5, none⟩ = some (.int .i64 sq) := cell_later hb1 (World.rowIs.cell HD.out.1 (i := 5) (by omega))
  have e6 : w1.cell? ⟨d, 6, none⟩ = some (.int .i64 cm) := cell_later hb1 (World.rowIs.cell HD.out.1 (i := 6) (by omega))
  have HB : Hid (Below w.heap.size w w1) := HD.out.2.2.2.trans (hb1.mono (HD.out.2.2.2.size))
  clear hb1 hv1 c0 c1
  go_wp2_with fail
  go_quiet (fail)
  go_wp2_with fail
  go_quiet (fail)
  go_wp2_with fail
  exact bodyPost_ret (v := .tuple #[.pointer (some ⟨b, 0, none⟩), .int .i64 0]) (by simp [results, Try.results27, go_sem]) rfl ⟨rfl, bel_drewN (bel_drewN HB.out _) _⟩
end Go.Proofs.Ythbgoegfbbpieaa
namespace Go.Proofs.Ythbgoegfbbpieaa
open Go.RowKit
set_option maxRecDepth 100000
set_option linter.unusedVariables false
def adrs (R : List Nat) : List (Option Addr) := R.map fun b => some ⟨b, 0, none⟩
theorem adrs_len (R : List Nat) : (adrs R).length = R.length := by simp [adrs]
def updN {α : Type} (g : Nat → α) (b : Nat) (x : α) : Nat → α := fun c => if c = b then x else g c
theorem updN_eq {α : Type} (g : Nat → α) (b : Nat) (x : α) : updN g b x b = x := if_pos rfl
theorem updN_ne {α : Type} (g : Nat → α) {b c : Nat} (x : α) (h : c ≠ b) : updN g b x c = g c := if_neg h
structure Sd where
  x : Dv
  nn : Nat
  g : Nat
  R : List Nat
  F : Int → Option Nat
  Y : Nat → Fw
  Q : Nat → List Pk
  G : Nat → Nat
structure DS (w : World) (d : Nat) (s : Sd) : Prop where
  dr : Dr w d s.x
  mp : Mp w s.x.flows s.nn s.F
  rg : ∃ N f, RF w s.x.ring s.g N f (adrs s.R).length (adrs s.R)
  fl : ∀ i b, s.F i = some b → Fl w b (s.Y b)
  sl : ∀ i b, s.F i = some b → (s.Y b).slot = i
  qu : ∀ i b, s.F i = some b → ∃ N f, RP w (s.Y b).queue (s.G b) N f (s.Q b).length (s.Q b)
  ap : ∀ i j b c, s.F i = some b → s.F j = some c → b ≠ c → (s.Y b).queue ≠ (s.Y c).queue ∧ s.G b ≠ s.G c
  inr : ∀ b, b ∈ s.R → ∃ i, s.F i = some b
def cls (w : World) (k : Nat) : Nat := match w.heap[k]? with
  | some (.cells _ t _) => if t = 69 then 0 else if t = 92 ∨ t = 71 then 2 else if t = 74 then 3 else if t = 95 ∨ t = 49 then 4 else 5
  | _ => 1
theorem ne_cls {w : World} {a b m n : Nat} (h1 : cls w a = m) (h2 : cls w b = n) (h : m ≠ n) : a ≠ b := by
  rintro rfl
  exact h (h1.symm.trans h2)
theorem cls_row {w : World} {k n : Nat} {t : TypeId} {f : Nat → Value} (h : w.rowIs k t n f) : cls w k = if t = 69 then 0 else if t = 92 ∨ t = 71 then 2 else if t = 74 then 3 else if t = 95 ∨ t = 49 then 4 else 5 := by
  obtain ⟨c, e, _⟩ := h
  simp only [cls, e]
section
variable {w w' : World} {d : Nat} {s s' : Sd} {i : Int} {b : Nat}
theorem DS.cd (h : DS w d s) : cls w d = 0 := (cls_row h.dr).trans (by decide)
theorem DS.cm (h : DS w d s) : cls w s.x.flows = 1 := by
  obtain ⟨es, ck, e⟩ := h.mp.block
  simp only [cls, e]
theorem DS.cr (h : DS w d s) : cls w s.x.ring = 2 := by
  obtain ⟨N, f, hr⟩ := h.rg
  exact (cls_row hr.hd).trans (by decide)
theorem DS.cg (h : DS w d s) : cls w s.g = 2 := by
  obtain ⟨N, f, hr⟩ := h.rg
  rcases Nat.eq_zero_or_pos N with e | e
  · rw [(hr.zr e).1]
    exact h.cr
  exact (cls_row (hr.row e)).trans (by decide)
theorem DS.cb (h : DS w d s) (hF : s.F i = some b) : cls w b = 3 := (cls_row (h.fl i b hF)).trans (by decide)
theorem DS.cq (h : DS w d s) (hF : s.F i = some b) : cls w (s.Y b).queue = 4 := by
  obtain ⟨N, f, hr⟩ := h.qu i b hF
  exact (cls_row hr.hd).trans (by decide)
theorem DS.cG (h : DS w d s) (hF : s.F i = some b) : cls w (s.G b) = 4 := by
  obtain ⟨N, f, hr⟩ := h.qu i b hF
  rcases Nat.eq_zero_or_pos N with e | e
  · rw [(hr.zr e).1]
    exact h.cq hF
  exact (cls_row (hr.row e)).trans (by decide)
theorem DS.ml (h : DS w d s) : s.x.flows < w.heap.size := by
  obtain ⟨es, ck, e⟩ := h.mp.block
  exact (Array.getElem?_eq_some_iff.1 e).1
theorem DS.dl (h : DS w d s) : d < w.heap.size := World.rowIs.lt h.dr
theorem DS.rl (h : DS w d s) : s.x.ring < w.heap.size := by obtain ⟨N, f, hr⟩ := h.rg; exact hr.rlt
theorem DS.gl (h : DS w d s) : s.g < w.heap.size := by obtain ⟨N, f, hr⟩ := h.rg; exact hr.glt
theorem DS.bl (h : DS w d s) (hF : s.F i = some b) : b < w.heap.size := World.rowIs.lt (h.fl i b hF)
theorem DS.ql (h : DS w d s) (hF : s.F i = some b) : (s.Y b).queue < w.heap.size := by obtain ⟨N, f, hr⟩ := h.qu i b hF; exact hr.rlt
theorem DS.Gl (h : DS w d s) (hF : s.F i = some b) : s.G b < w.heap.size := by obtain ⟨N, f, hr⟩ := h.qu i b hF; exact hr.glt
def Mine (d : Nat) (s : Sd) (k : Nat) : Prop := k = d ∨ k = s.x.flows ∨ k = s.x.ring ∨ k = s.g ∨ ∃ i b, s.F i = some b ∧ (k = b ∨ k = (s.Y b).queue ∨ k = s.G b)
theorem DS.same (h : DS w d s) (e : ∀ k, k < w.heap.size → Mine d s k → w'.heap[k]? = w.heap[k]?) : DS w' d s :=
  ⟨World.rowIs.of_block h.dr (e d h.dl (.inl rfl)), h.mp.kept (e _ h.ml (.inr (.inl rfl))),
   by obtain ⟨N, f, hr⟩ := h.rg; exact ⟨N, f, hr.of_blocks (e _ h.rl (.inr (.inr (.inl rfl)))) (e _ h.gl (.inr (.inr (.inr (.inl rfl)))))⟩,
   fun i b hF => World.rowIs.of_block (h.fl i b hF) (e _ (h.bl hF) (.inr (.inr (.inr (.inr ⟨i, b, hF, .inl rfl⟩))))),
   h.sl,
   fun i b hF => by obtain ⟨N, f, hr⟩ := h.qu i b hF; exact ⟨N, f, hr.of_blocks (e _ (h.ql hF) (.inr (.inr (.inr (.inr ⟨i, b, hF, .inr (.inl rfl)⟩))))) (e _ (h.Gl hF) (.inr (.inr (.inr (.inr ⟨i, b, hF, .inr (.inr rfl)⟩)))))⟩,
   h.ap, h.inr⟩
structure Fm (d : Nat) (s s' : Sd) (w w' : World) : Prop where
  os : w'.os = w.os
  tape : w'.tape = w.tape
  output : w'.output = w.output
  size : w.heap.size ≤ w'.heap.size
  block : ∀ k, k < w.heap.size → ¬ Mine d s k → w'.heap[k]? = w.heap[k]?
  mine : ∀ k, Mine d s' k → Mine d s k ∨ w.heap.size ≤ k
theorem Fm.refl (d : Nat) (s : Sd) (w : World) : Fm d s s w w := ⟨rfl, rfl, rfl, Nat.le_refl _, fun _ _ _ => rfl, fun _ h => .inl h⟩
theorem Fm.trans {s1 s2 : Sd} {w1 w2 : World} (h : Fm d s s1 w w1) (k : Fm d s1 s2 w1 w2) : Fm d s s2 w w2 :=
  ⟨k.os.trans h.os, k.tape.trans h.tape, k.output.trans h.output, Nat.le_trans h.size k.size,
   fun j hj hm => (k.block j (Nat.lt_of_lt_of_le hj h.size) fun m1 => by rcases h.mine j m1 with e | e; exact hm e; omega).trans (h.block j hj hm),
   fun j hj => by
     rcases k.mine j hj with e | e
     · exact h.mine j e
     exact .inr (Nat.le_trans h.size e)⟩
def DF (d : Nat) (s s' : Sd) (w w' : World) : Prop := DS w' d s' ∧ Fm d s s' w w'
theorem DS.df (h : DS w d s) : DF d s s w w := ⟨h, Fm.refl d s w⟩
theorem DF.trans {s1 s2 : Sd} {w1 w2 : World} (h : DF d s s1 w w1) (k : DF d s1 s2 w1 w2) : DF d s s2 w w2 := ⟨k.1, h.2.trans k.2⟩
theorem DF.below {s1 : Sd} {w1 w2 : World} (h : DF d s s1 w w1) (hb : Below w1.heap.size w1 w2) : DF d s s1 w w2 :=
  h.trans ⟨h.1.same fun k hk _ => hb.block k hk, ⟨hb.os, hb.tape, hb.output, hb.size, fun k hk _ => hb.block k hk, fun _ h => .inl h⟩⟩
theorem DF.drewN {s1 : Sd} {w1 : World} (h : DF d s s1 w w1) (n : Nat) : DF d s s1 w (w1.drewN n) := h.below (bel_drewN (Below.refl _ _) n)
theorem DF.alloc {s1 : Sd} {w1 : World} (h : DF d s s1 w w1) (o : Obj) : DF d s s1 w (w1.alloc o) := h.below ((Below.refl _ _).alloc (Nat.le_refl _) o)
theorem DF.cellV {s1 : Sd} {w1 : World} (h : DF d s s1 w w1) {v : Nat} (hv : w.heap.size ≤ v) (hn : ¬ Mine d s1 v) (i : Nat) (u : Value) : DF d s s1 w (w1.setCell ⟨v, i, none⟩ u) :=
  ⟨h.1.same fun k _ hm => Below.heap_setCell _ _ _ k (by rintro rfl; exact hn hm),
   ⟨h.2.os, h.2.tape, h.2.output, by simpa using h.2.size, fun k hk hm => (Below.heap_setCell _ _ _ k (by show k ≠ v; omega)).trans (h.2.block k hk hm), h.2.mine⟩⟩
theorem DS.putD (h : DS w d s) {x' : Dv} (hd : Dr w' d x') (e1 : x'.flows = s.x.flows) (e2 : x'.ring = s.x.ring) (he : ∀ k, k < w.heap.size → k ≠ d → w'.heap[k]? = w.heap[k]?) : DS w' d { s with x := x' } := by
  refine ⟨hd, ?_, ?_, fun i b hF => ?_, h.sl, fun i b hF => ?_, h.ap, h.inr⟩
  · show Mp w' x'.flows _ _
    rw [e1]
    exact h.mp.kept (he _ h.ml (ne_cls h.cm h.cd (by decide)))
  · obtain ⟨N, f, hr⟩ := h.rg
    refine ⟨N, f, ?_⟩
    show RF w' x'.ring _ _ _ _ _
    rw [e2]
    exact hr.of_blocks (he _ h.rl (ne_cls h.cr h.cd (by decide))) (he _ h.gl (ne_cls h.cg h.cd (by decide)))
  · exact World.rowIs.of_block (h.fl i b hF) (he _ (h.bl hF) (ne_cls (h.cb hF) h.cd (by decide)))
  obtain ⟨N, f, hr⟩ := h.qu i b hF
  exact ⟨N, f, hr.of_blocks (he _ (h.ql hF) (ne_cls (h.cq hF) h.cd (by decide))) (he _ (h.Gl hF) (ne_cls (h.cG hF) h.cd (by decide)))⟩
theorem DF.setD {s1 : Sd} {w1 : World} (h : DF d s s1 w w1) (k : Nat) (v : Value) (x' : Dv) (hx : ∀ j, j < 7 → (if j = k then v else s1.x.cell j) = x'.cell j) (e1 : x'.flows = s1.x.flows) (e2 : x'.ring = s1.x.ring) : DF d s { s1 with x := x' } w (w1.setCell ⟨d, k, none⟩ v) :=
  h.trans ⟨h.1.putD ((World.rowIs.set h.1.dr k v).congr hx) e1 e2 fun j _ hj => Below.heap_setCell _ _ _ j hj,
    ⟨rfl, rfl, rfl, by simp, fun j _ hm => Below.heap_setCell _ _ _ j (by rintro rfl; exact hm (.inl rfl)), fun j hm => .inl (by
      unfold Mine at hm ⊢
      rw [show ({ s1 with x := x' } : Sd).x.flows = s1.x.flows from e1, show ({ s1 with x := x' } : Sd).x.ring = s1.x.ring from e2] at hm
      exact hm)⟩⟩
theorem DS.putF (h : DS w d s) (hF : s.F i = some b) {y' : Fw} (hf : Fl w' b y') (e1 : y'.slot = (s.Y b).slot) (e2 : y'.queue = (s.Y b).queue) (he : ∀ k, k < w.heap.size → k ≠ b → w'.heap[k]? = w.heap[k]?) : DS w' d { s with Y := updN s.Y b y' } := by
  have q : ∀ c, (updN s.Y b y' c).queue = (s.Y c).queue := fun c => by
    unfold updN
    split
    · rename_i e; rw [e]; exact e2
    rfl
  refine ⟨World.rowIs.of_block h.dr (he _ h.dl (ne_cls h.cd (h.cb hF) (by decide))), h.mp.kept (he _ h.ml (ne_cls h.cm (h.cb hF) (by decide))), ?_, fun j c hc => ?_, fun j c hc => ?_, fun j c hc => ?_, fun j k c e hc hk hn => ?_, h.inr⟩
  · obtain ⟨N, f, hr⟩ := h.rg
    exact ⟨N, f, hr.of_blocks (he _ h.rl (ne_cls h.cr (h.cb hF) (by decide))) (he _ h.gl (ne_cls h.cg (h.cb hF) (by decide)))⟩
  · show Fl w' c (updN s.Y b y' c)
    by_cases e : c = b
    · rw [e, updN_eq]; exact hf
    rw [updN_ne _ _ e]
    exact World.rowIs.of_block (h.fl j c hc) (he _ (h.bl hc) e)
  · show (updN s.Y b y' c).slot = j
    by_cases e : c = b
    · subst e; rw [updN_eq, e1]; exact h.sl j c hc
    rw [updN_ne _ _ e]; exact h.sl j c hc
  · obtain ⟨N, f, hr⟩ := h.qu j c hc
    refine ⟨N, f, ?_⟩
    show RP w' (updN s.Y b y' c).queue _ _ _ _ _
    rw [q]
    exact hr.of_blocks (he _ (h.ql hc) (ne_cls (h.cq hc) (h.cb hF) (by decide))) (he _ (h.Gl hc) (ne_cls (h.cG hc) (h.cb hF) (by decide)))
  show (updN s.Y b y' c).queue ≠ (updN s.Y b y' e).queue ∧ _
  rw [q, q]
  exact h.ap j k c e hc hk hn
theorem mine_q {s s' : Sd} {d k : Nat} (e0 : s'.x = s.x) (e1 : s'.g = s.g) (e2 : s'.F = s.F) (e3 : ∀ c, (s'.Y c).queue = (s.Y c).queue) (e4 : s'.G = s.G) (h : Mine d s' k) : Mine d s k := by
  unfold Mine at h ⊢
  rw [e0, e1, e2, e4] at h
  rcases h with h | h | h | h | ⟨i, b, hF, h⟩
  · exact .inl h
  · exact .inr (.inl h)
  · exact .inr (.inr (.inl h))
  · exact .inr (.inr (.inr (.inl h)))
  rw [e3] at h
  exact .inr (.inr (.inr (.inr ⟨i, b, hF, h⟩)))
theorem DF.setF {s1 : Sd} {w1 : World} (h : DF d s s1 w w1) (hF : s1.F i = some b) (k : Nat) (v : Value) (y' : Fw) (hy : ∀ j, j < 7 → (if j = k then v else (s1.Y b).cell j) = y'.cell j) (e1 : y'.slot = (s1.Y b).slot) (e2 : y'.queue = (s1.Y b).queue) : DF d s { s1 with Y := updN s1.Y b y' } w (w1.setCell ⟨b, k, none⟩ v) :=
  h.trans ⟨h.1.putF hF ((World.rowIs.set (h.1.fl i b hF) k v).congr hy) e1 e2 fun j _ hj => Below.heap_setCell _ _ _ j hj,
    ⟨rfl, rfl, rfl, by simp, fun j _ hm => Below.heap_setCell _ _ _ j (by rintro rfl; exact hm (.inr (.inr (.inr (.inr ⟨i, _, hF, .inl rfl⟩))))), fun j hm => .inl (mine_q (s := s1) (s' := { s1 with Y := updN s1.Y b y' }) rfl rfl rfl (fun c => by
      show (updN s1.Y b y' c).queue = _
      unfold updN
      split
      · rename_i e; rw [e]; exact e2
      rfl) rfl hm)⟩⟩
theorem DS.putQ (h : DS w d s) (hF : s.F i = some b) {xs : List Pk} (hR : RingsP w (s.Y b).queue (s.G b) xs w') : ∃ g', DF d s { s with Q := updN s.Q b xs, G := updN s.G b g' } w w' := by
  obtain ⟨g', N', f', h1, hc, hg⟩ := hR
  have hq := h.cq hF
  have hG := h.cG hF
  have k0 : ∀ k n, k < w.heap.size → cls w k = n → n ≠ 4 → w'.heap[k]? = w.heap[k]? := fun k n hk hn h4 => hc.block k hk (ne_cls hn hq h4) (ne_cls hn hG h4)
  have oth : ∀ j c, s.F j = some c → c ≠ b → (s.Y c).queue ≠ (s.Y b).queue ∧ (s.Y c).queue ≠ s.G b ∧ s.G c ≠ (s.Y b).queue ∧ s.G c ≠ s.G b := by
    intro j c hj hcb
    obtain ⟨a1, a2⟩ := h.ap j i c b hj hF hcb
    obtain ⟨N1, f1, r1⟩ := h.qu j c hj
    obtain ⟨N2, f2, r2⟩ := h.qu i b hF
    refine ⟨a1, ?_, ?_, a2⟩
    · rcases Nat.eq_zero_or_pos N2 with e | e
      · rw [(r2.zr e).1]; exact a1
      intro e9
      have t1 := r1.hd
      have t2 := r2.row e
      rw [e9] at t1
      obtain ⟨_, e1, _⟩ := t1
      obtain ⟨_, e2, _⟩ := t2
      rw [e1] at e2
      cases e2
    rcases Nat.eq_zero_or_pos N1 with e | e
    · rw [(r1.zr e).1]; exact a1
    intro e9
    have t1 := r2.hd
    have t2 := r1.row e
    rw [e9] at t2
    obtain ⟨_, e1, _⟩ := t1
    obtain ⟨_, e2, _⟩ := t2
    rw [e1] at e2
    cases e2
  refine ⟨g', ⟨World.rowIs.of_block h.dr (k0 _ 0 h.dl h.cd (by decide)), h.mp.kept (k0 _ 1 h.ml h.cm (by decide)), ?_, fun j c hj => World.rowIs.of_block (h.fl j c hj) (k0 _ 3 (h.bl hj) (h.cb hj) (by decide)), h.sl, fun j c hj => ?_, fun j k c e hj hk hn => ?_, h.inr⟩, ⟨hc.os, hc.tape, hc.output, hc.size, fun k hk hm => hc.block k hk ?_ ?_, fun k hm => ?_⟩⟩
  · obtain ⟨N, f, hr⟩ := h.rg
    exact ⟨N, f, hr.of_blocks (k0 _ 2 h.rl h.cr (by decide)) (k0 _ 2 h.gl h.cg (by decide))⟩
  · show ∃ N f, RP w' (s.Y c).queue (updN s.G b g' c) N f (updN s.Q b xs c).length (updN s.Q b xs c)
    by_cases e : c = b
    · subst e
      rw [updN_eq, updN_eq]
      exact ⟨N', f', h1⟩
    rw [updN_ne _ _ e, updN_ne _ _ e]
    obtain ⟨N, f, hr⟩ := h.qu j c hj
    obtain ⟨a1, a2, a3, a4⟩ := oth j c hj e
    exact ⟨N, f, hr.of_blocks (hc.block _ hr.rlt a1 a2) (hc.block _ hr.glt a3 a4)⟩
  · show _ ∧ updN s.G b g' c ≠ updN s.G b g' e
    refine ⟨(h.ap j k c e hj hk hn).1, ?_⟩
    by_cases e1 : c = b
    · subst e1
      have e2 : e ≠ c := fun x => hn x.symm
      rw [updN_eq, updN_ne _ _ e2]
      obtain ⟨a1, a2, a3, a4⟩ := oth k e hk e2
      rcases hg with e9 | e9 | e9
      · rw [e9]; exact Ne.symm a4
      · rw [e9]; exact Ne.symm a3
      have := h.Gl hk
      omega
    rw [updN_ne _ _ e1]
    by_cases e2 : e = b
    · subst e2
      rw [updN_eq]
      obtain ⟨a1, a2, a3, a4⟩ := oth j c hj e1
      rcases hg with e9 | e9 | e9
      · rw [e9]; exact a4
      · rw [e9]; exact a3
      have := h.Gl hj
      omega
    rw [updN_ne _ _ e2]
    exact (h.ap j k c e hj hk hn).2
  · rintro rfl
    exact hm (.inr (.inr (.inr (.inr ⟨i, b, hF, .inr (.inl rfl)⟩))))
  · rintro rfl
    exact hm (.inr (.inr (.inr (.inr ⟨i, b, hF, .inr (.inr rfl)⟩))))
  rcases hm with e | e | e | e | ⟨j, c, hj, e⟩
  · exact .inl (.inl e)
  · exact .inl (.inr (.inl e))
  · exact .inl (.inr (.inr (.inl e)))
  · exact .inl (.inr (.inr (.inr (.inl e))))
  rcases e with e | e | e
  · exact .inl (.inr (.inr (.inr (.inr ⟨j, c, hj, .inl e⟩))))
  · exact .inl (.inr (.inr (.inr (.inr ⟨j, c, hj, .inr (.inl e)⟩))))
  have e' : k = updN s.G b g' c := e
  by_cases e1 : c = b
  · subst e1
    rw [updN_eq] at e'
    rcases hg with e9 | e9 | e9
    · exact .inl (.inr (.inr (.inr (.inr ⟨j, c, hj, .inr (.inr (e'.trans e9))⟩))))
    · exact .inl (.inr (.inr (.inr (.inr ⟨j, c, hj, .inr (.inl (e'.trans e9))⟩))))
    exact .inr (by omega)
  rw [updN_ne _ _ e1] at e'
  exact .inl (.inr (.inr (.inr (.inr ⟨j, c, hj, .inr (.inr e')⟩))))
theorem DF.putQ {s1 : Sd} {w1 w2 : World} (h : DF d s s1 w w1) (hF : s1.F i = some b) {xs : List Pk} (hR : RingsP w1 (s1.Y b).queue (s1.G b) xs w2) : ∃ g', DF d s { s1 with Q := updN s1.Q b xs, G := updN s1.G b g' } w w2 := by
  obtain ⟨g', k⟩ := h.1.putQ hF hR
  exact ⟨g', h.trans k⟩
theorem DS.putR (h : DS w d s) {R' : List Nat} (hR : RingsF w s.x.ring s.g (adrs R') w') (hi : ∀ b, b ∈ R' → ∃ i, s.F i = some b) : ∃ g', DF d s { s with R := R', g := g' } w w' := by
  obtain ⟨g', N', f', h1, hc, hg⟩ := hR
  have k0 : ∀ k n, k < w.heap.size → cls w k = n → n ≠ 2 → w'.heap[k]? = w.heap[k]? := fun k n hk hn h4 => hc.block k hk (ne_cls hn h.cr h4) (ne_cls hn h.cg h4)
  refine ⟨g', ⟨World.rowIs.of_block h.dr (k0 _ 0 h.dl h.cd (by decide)), h.mp.kept (k0 _ 1 h.ml h.cm (by decide)), ⟨N', f', h1⟩, fun j c hj => World.rowIs.of_block (h.fl j c hj) (k0 _ 3 (h.bl hj) (h.cb hj) (by decide)), h.sl, fun j c hj => ?_, h.ap, hi⟩, ⟨hc.os, hc.tape, hc.output, hc.size, fun k hk hm => hc.block k hk ?_ ?_, fun k hm => ?_⟩⟩
  · obtain ⟨N, f, hr⟩ := h.qu j c hj
    exact ⟨N, f, hr.of_blocks (k0 _ 4 (h.ql hj) (h.cq hj) (by decide)) (k0 _ 4 (h.Gl hj) (h.cG hj) (by decide))⟩
  · rintro rfl
    exact hm (.inr (.inr (.inl rfl)))
  · rintro rfl
    exact hm (.inr (.inr (.inr (.inl rfl))))
  rcases hm with e | e | e | e | e
  · exact .inl (.inl e)
  · exact .inl (.inr (.inl e))
  · exact .inl (.inr (.inr (.inl e)))
  · have e' : k = g' := e
    rcases hg with e9 | e9 | e9
    · exact .inl (.inr (.inr (.inr (.inl (e'.trans e9)))))
    · exact .inl (.inr (.inr (.inl (e'.trans e9))))
    exact .inr (by omega)
  exact .inl (.inr (.inr (.inr (.inr e))))
theorem DF.putR {s1 : Sd} {w1 w2 : World} (h : DF d s s1 w w1) {R' : List Nat} (hR : RingsF w1 s1.x.ring s1.g (adrs R') w2) (hi : ∀ b, b ∈ R' → ∃ i, s1.F i = some b) : ∃ g', DF d s { s1 with R := R', g := g' } w w2 := by
  obtain ⟨g', k⟩ := h.1.putR hR hi
  exact ⟨g', h.trans k⟩
end
end Go.Proofs.Ythbgoegfbbpieaa
namespace Go.Proofs.Ythbgoegfbbpieaa
open Go.RowKit
set_option maxRecDepth 100000
set_option linter.unusedVariables false
theorem noGoto_ret {Q : Exit → Act → World → Prop} {a : Act} {w : World} : Exit.noGoto Q .ret a w = Q .ret a w := rfl
def hdP (s : Sd) (b : Nat) : Pk := (s.Q b).headD Pk.zero
def Sd.nth (s : Sd) (i : Nat) : Nat := s.R.getD i 0
def va (s : Sd) (i : Nat) : Int := Int.tdiv ((hdP s (s.nth i)).size - (s.Y (s.nth i)).kept - 1) (s.Y (s.nth i)).quantum
def Sd.Good (s : Sd) : Prop := ∀ b, b ∈ s.R → s.Q b ≠ [] ∧ 1 ≤ (s.Y b).quantum ∧ (s.Y b).quantum ≤ 1073741824 ∧ 0 ≤ (hdP s b).size ∧ (hdP s b).size ≤ 65536 ∧ -1073741824 ≤ (s.Y b).kept ∧ (s.Y b).kept ≤ 1073741824
structure Pas (s : Sd) (r : Int) (k : Nat) : Prop where
  r0 : 0 ≤ r
  kn : k < s.R.length
  yes : va s k ≤ r
  no : ∀ j, j < k → r < va s j
  least : r = 0 ∨ ∀ j, j < s.R.length → r ≤ va s j
theorem nth_mem {s : Sd} {i : Nat} (h : i < s.R.length) : s.nth i ∈ s.R := by
  unfold Sd.nth
  rw [List.getD_eq_getElem?_getD, List.getElem?_eq_getElem h]
  exact List.getElem_mem h
theorem adrs_getD {s : Sd} {i : Nat} (h : i < s.R.length) : (adrs s.R).getD i (none : Option Addr) = some ⟨s.nth i, 0, none⟩ := by
  unfold adrs Sd.nth
  simp [List.getD_eq_getElem?_getD, h]
theorem va_le {s : Sd} (hg : s.Good) {i : Nat} (h : i < s.R.length) : va s i ≤ 2147483648 := by
  obtain ⟨_, q1, q2, z1, z2, k1, k2⟩ := hg _ (nth_mem h)
  unfold va
  generalize hx : (hdP s (s.nth i)).size - (s.Y (s.nth i)).kept - 1 = x
  generalize (s.Y (s.nth i)).quantum = q at *
  rcases Int.lt_or_le x 0 with e | e
  · have h1 : 0 ≤ (-x).tdiv q := Int.tdiv_nonneg (by omega) (by omega)
    rw [Int.neg_tdiv] at h1
    omega
  have := Int.tdiv_le_self q e
  omega
theorem vain_s {d : Nat} {s : Sd} {w : World} (h : DS w d s) (hg : s.Good) {i : Nat} (hi : i < s.R.length) : Calls Try.prog 48 #[.pointer (some ⟨s.nth i, 0, none⟩)] w fun e w' => e = .returned (.int .i64 (va s i)) ∧ Below w.heap.size w w' := by
  obtain ⟨hQ, q1, q2, z1, z2, k1, k2⟩ := hg _ (nth_mem hi)
  obtain ⟨j, hF⟩ := h.inr _ (nth_mem hi)
  obtain ⟨N, f, hr⟩ := h.qu j _ hF
  unfold va
  unfold hdP at z1 z2 ⊢
  rcases hq : s.Q (s.nth i) with _ | ⟨x, xs⟩
  · exact absurd hq hQ
  rw [hq] at hr z1 z2
  change 0 ≤ x.size at z1
  change x.size ≤ 65536 at z2
  have h1 : -2147483648 ≤ x.size := by omega
  have h2 : x.size ≤ 2147483648 := by omega
  exact vain_any (s.nth i) (s.Y (s.nth i)) _ N f x xs w (h.fl j _ hF) hr (by omega) h1 h2 (by omega) (by omega)
set_option maxHeartbeats 4000000 in
theorem passingD_any (d : Nat) (s : Sd) (w : World) (h : DS w d s) (hg : s.Good) (hR : s.R ≠ []) (hn : s.R.length ≤ 1073741824) :
    Calls Try.prog 32 #[.pointer (some ⟨d, 0, none⟩)] w fun e w' => (∃ (r : Int) (k : Nat), e = .returned (.int .i64 (r * (s.R.length : Int) + (k : Int))) ∧ Pas s r k) ∧ DF d s s w w' := by
  obtain ⟨n, en⟩ : ∃ n, n = s.R.length := ⟨_, rfl⟩
  have hn0 : 0 < n := by rw [en]; exact List.length_pos_iff.2 hR
  have hn1 : n ≤ 1073741824 := by omega
  have HH : Hid (s.Good ∧ n = s.R.length) := ⟨hg, en⟩
  have HD : Hid (DF d s s w w) := h.df
  obtain ⟨rg, erg⟩ : ∃ rg, rg = s.x.ring := ⟨_, rfl⟩
  have CR : Hid (∀ w1, DF d s s w w1 → w1.cell? ⟨d, 1, none⟩ = some (.pointer (some ⟨rg, 0, none⟩)) ∧ (Calls Try.prog 46 #[.pointer (some ⟨rg, 0, none⟩)] w1 fun e w' => e = .returned (.int .i64 (n : Int)) ∧ w' = w1) ∧ ∀ i, i < n → Calls Try.prog 41 #[.pointer (some ⟨rg, 0, none⟩), .int .i64 (i : Int)] w1 fun e w' => e = .returned (.tuple #[.pointer (some ⟨s.nth i, 0, none⟩), .bool true]) ∧ DF d s s w w') := fun w1 h1 => by
    obtain ⟨N, f, hr⟩ := h1.1.rg
    rw [← erg] at hr
    refine ⟨by rw [erg]; exact World.rowIs.cell h1.1.dr (i := 1) (by omega), ?_, fun i hi => ?_⟩
    · have := lenF_any rg s.g N f _ _ w1 hr
      rw [adrs_len, ← en] at this
      exact this
    refine (atF_yes rg s.g N f _ _ i i w1 hr rfl (by rw [adrs_len]; omega)).mono ?_
    rintro e w2 ⟨rfl, m, rfl⟩
    refine ⟨?_, h1.drewN m⟩
    rw [adrs_getD (by omega)]
  have CV : Hid (∀ w1 i, i < n → DF d s s w w1 → Calls Try.prog 48 #[.pointer (some ⟨s.nth i, 0, none⟩)] w1 fun e w' => e = .returned (.int .i64 (va s i)) ∧ DF d s s w w') := fun w1 i hi h1 => by
    refine (vain_s h1.1 hg (by omega)).mono ?_
    rintro e w2 ⟨rfl, hb⟩
    exact ⟨rfl, h1.below hb⟩
  clear h hg hR hn en erg
  go_enter Try.func32, Try.ntmps32
  go_wp2_with fail
  refine wp_scope_straight ?_
  go_wp2_with (refine wp_label ?_)
  go_loopw [3, 4] (fun q3 q4 wr => ∃ r k : Int, q3 = .int .i64 r ∧ q4 = .int .i64 k ∧ DF d s s w wr ∧ (r = 0 ∨ (0 < r ∧ (∀ j, j < n → r ≤ va s j) ∧ ∃ j, j < n ∧ va s j = r))) (fun q3 q4 _ => if intOf q3 = 0 then 1 else 0)
  case atStart => exact ⟨0, 0, rfl, rfl, HD.out, .inl rfl⟩
  case round =>
    obtain ⟨r, k, rfl, rfl, hd, hr⟩ := hrel
    obtain ⟨c1, CL, CA⟩ := CR.out wr hd
    have HL : Hid (Calls Try.prog 46 #[.pointer (some ⟨rg, 0, none⟩)] wr fun e w' => e = .returned (.int .i64 (n : Int)) ∧ w' = wr) := CL
    have HO : Hid (DF d s s w wr ∧ (r = 0 ∨ (0 < r ∧ (∀ j, j < n → r ≤ va s j) ∧ ∃ j, j < n ∧ va s j = r))) := ⟨hd, hr⟩
    clear CL CA hd hr
    go_wp2_with fail
    refine HL.out.mono ?_
    rintro e w9 ⟨rfl, e9⟩
    rw [e9]
    clear e9 w9 HL c1
    go_wp2_with fail
    go_loopw [4, 5, 14] (fun q4 q5 q14 wi => ∃ (k l : Int) (i : Nat), q4 = .int .i64 k ∧ q5 = .int .i64 l ∧ q14 = .int .i64 (i : Int) ∧ i ≤ n ∧ DF d s s w wi ∧ (∀ j, j < i → r < va s j ∧ l ≤ va s j) ∧ (i = 0 ∨ ∃ j, j < i ∧ va s j = l) ∧ (i = 0 → l = 9223372036854775807)) (fun _ _ q14 _ => n - (intOf q14).toNat)
    case atStart => exact ⟨k, _, 0, rfl, rfl, rfl, Nat.zero_le _, HO.out.1, fun j hj => by omega, .inl rfl, fun _ => rfl⟩
    case round =>
      obtain ⟨k, l, i, rfl, rfl, rfl, hi, hd, hA, hB, hC⟩ := hrel
      by_cases hin : i < n
      · obtain ⟨c1, CL, CA⟩ := CR.out wr hd
        have HA := (⟨CA i hin⟩ : PLift (Calls Try.prog 41 #[.pointer (some ⟨rg, 0, none⟩), .int .i64 (i : Int)] wr fun e w' => e = .returned (.tuple #[.pointer (some ⟨s.nth i, 0, none⟩), .bool true]) ∧ DF d s s w w'))
        have HI : Hid ((∀ j, j < i → r < va s j ∧ l ≤ va s j) ∧ (i = 0 ∨ ∃ j, j < i ∧ va s j = l) ∧ (i = 0 → l = 9223372036854775807)) := ⟨hA, hB, hC⟩
        have wi : IntKind.i64.wrap ((i : Int) + 1) = (i : Int) + 1 := by rw [IntKind.wrap_i64]; omega
        clear CL CA hd hA hB hC hi
        go_wp2_with fail
        refine HA.down.mono ?_
        rintro e w1 ⟨rfl, D1⟩
        clear HA c1
        have HD1 : Hid (DF d s s w w1) := D1
        clear D1
        go_wp2_with fail
        refine (CV.out w1 i hin HD1.out).mono ?_
        rintro e w2 ⟨rfl, D2⟩
        obtain ⟨c1, CL, _⟩ := CR.out w2 D2
        have HL2 : Hid (Calls Try.prog 46 #[.pointer (some ⟨rg, 0, none⟩)] w2 fun e w' => e = .returned (.int .i64 (n : Int)) ∧ w' = w2) := CL
        have HD2 : Hid (DF d s s w w2) := D2
        obtain ⟨x, ex⟩ : ∃ x, x = va s i := ⟨_, rfl⟩
        rw [← ex]
        have HX : Hid (x = va s i) := ex
        clear D2 CL ex HD1
        by_cases hv : x ≤ r
        · have HP : Hid (Pas s r i) := by
            have hn := HH.out.2
            have hr0 : 0 ≤ r := by
              rcases HO.out.2 with e | e
              · omega
              omega
            refine ⟨hr0, by omega, by rw [← HX.out]; exact hv, fun j hj => (HI.out.1 j hj).1, ?_⟩
            rcases HO.out.2 with e | e
            · exact .inl e
            exact .inr fun j hj => e.2.1 j (by omega)
          have hr2 : 0 ≤ r ∧ r ≤ 2147483648 := by
            refine ⟨HP.out.r0, ?_⟩
            rcases HO.out.2 with e | ⟨_, _, j, hj, e⟩
            · omega
            rw [← e]
            exact va_le HH.out.1 (by have := HH.out.2; omega)
          have hm : r * (n : Int) ≤ 2147483648 * 1073741824 := Int.mul_le_mul hr2.2 (by omega) (by omega) (by omega)
          have hm0 : 0 ≤ r * (n : Int) := Int.mul_nonneg hr2.1 (by omega)
          have w1' : IntKind.i64.wrap (r * (n : Int)) = r * (n : Int) := by rw [IntKind.wrap_i64]; omega
          have w2' : IntKind.i64.wrap (r * (n : Int) + (i : Int)) = r * (n : Int) + (i : Int) := by rw [IntKind.wrap_i64]; omega
          have HN : Hid (n = s.R.length) := HH.out.2
          clear hm hm0 hr2
          go_wp2_with fail
          refine HL2.out.mono ?_
          rintro e w9 ⟨rfl, e9⟩
          rw [e9]
          clear e9 w9 HL2 c1
          go_wp2_with fail
          rw [noGoto_ret]
          refine bodyPost_ret (v := .int .i64 (r * (n : Int) + (i : Int))) (by simp [results, Try.results32, go_sem]) rfl ⟨⟨r, i, ?_, HP.out⟩, HD2.out⟩
          rw [HN.out]
        have hv2 : r < x := by omega
        clear HL2 c1
        go_wp2_with fail
        go_roundw
        case rel =>
          refine ⟨_, _, i + 1, rfl, rfl, by go_num, by omega, HD2.out, ?_, .inr ?_, fun e => by omega⟩
          · intro j hj
            rcases Nat.lt_succ_iff_lt_or_eq.1 hj with e | e
            · have := HI.out.1 j e
              refine ⟨this.1, ?_⟩
              split
              · omega
              exact this.2
            subst e
            rw [← HX.out]
            refine ⟨hv2, ?_⟩
            split <;> omega
          split
          · exact ⟨i, by omega, HX.out.symm⟩
          rename_i hl
          rcases HI.out.2.1 with e | ⟨j, hj, e⟩
          · have e2 := HI.out.2.2 e
            have e3 := va_le HH.out.1 (i := i) (by have := HH.out.2; omega)
            rw [← HX.out] at e3
            omega
          exact ⟨j, by omega, e⟩
        case measure =>
          simp only [intOf]
          omega
      obtain rfl : i = n := by omega
      have hnot : ¬ ((i : Int) < (i : Int)) := by omega
      have HI : Hid (DF d s s w wr ∧ (∀ j, j < i → r < va s j ∧ l ≤ va s j) ∧ (i = 0 ∨ ∃ j, j < i ∧ va s j = l)) := ⟨hd, hA, hB⟩
      clear hd hA hB hC hi
      go_wp2_with fail
      have HM : Hid (0 < l ∧ r = 0) := by
        have hr0 : 0 ≤ r := by
          rcases HO.out.2 with e | e <;> omega
        have h1 := HI.out.2.1
        rcases HI.out.2.2 with e | ⟨j, hj, e⟩
        · omega
        have h2 := h1 j hj
        refine ⟨by omega, ?_⟩
        rcases HO.out.2 with e2 | ⟨_, _, j2, hj2, e3⟩
        · exact e2
        have := h1 j2 hj2
        omega
      go_roundw
      case rel =>
        refine ⟨_, _, rfl, rfl, HI.out.1, .inr ⟨HM.out.1, fun j hj => (HI.out.2.1 j hj).2, ?_⟩⟩
        rcases HI.out.2.2 with e | e
        · omega
        exact e
      case measure =>
        have h2 : ¬ intOf (Value.int .i64 l) = 0 := by
          show ¬ l = 0
          have := HM.out.1
          omega
        have h3 : intOf (Value.int .i64 r) = 0 := HM.out.2
        rw [if_neg h2, if_pos h3]
        omega
end Go.Proofs.Ythbgoegfbbpieaa
