/- Contracts of the program's functions, part 15: own work, joined in build order. -/
import Derived.Test.YtchomkadekikdaaGreatDoorR14
import Derived.Deep.QuietTactic
import Derived.BigQuiet
import Derived.Laws.Cover2
namespace Go.Proofs.YtchomkadekikdaaGreatDoor
open Go.RowKit
set_option maxRecDepth 100000
set_option linter.unusedVariables false
structure Ce (w W : World) (C : List (Nat × Nat × Value)) : Prop where
  cells : ∀ p ∈ C, W.cell? ⟨p.1, p.2.1, none⟩ = some p.2.2
  bel : Below w.heap.size w W
theorem ce_start (w : World) : Ce w w [] := ⟨(fun _ h => by cases h), bel_refl _⟩
theorem Ce.go {w W W' : World} {C : List (Nat × Nat × Value)} (h : Ce w W C) (k : Below W.heap.size W W') : Ce w W' C := ⟨fun p hp => bc_cell k (h.cells p hp), bc_go h.bel k⟩
theorem Ce.cel {w W : World} {C : List (Nat × Nat × Value)} (h : Ce w W C) (b i : Nat) (u : Value) (hm : (b, i, u) ∈ C := by simp) : W.cell? ⟨b, i, none⟩ = some u := h.cells _ hm
theorem Ce.lt {w W : World} {C : List (Nat × Nat × Value)} (h : Ce w W C) (b i : Nat) (u : Value) (hm : (b, i, u) ∈ C := by simp) : b < W.heap.size := World.block_lt_of_cell? _ _ (h.cells _ hm)
theorem bc_drew {a w : World} (h : Below a.heap.size a w) (n : Nat) : Below a.heap.size a (w.drewN n) := ⟨h.os, h.tape, h.output, h.size, h.block⟩
theorem Ce.drew {w W : World} {C : List (Nat × Nat × Value)} (h : Ce w W C) (n : Nat) : Ce w (W.drewN n) C := ⟨fun p hp => h.cells p hp, bc_drew h.bel n⟩
theorem NSl.drew {w : World} {a : Option Addr} {n cap : Nat} {F : Nat → Nat → Int} (h : NSl w a n cap F) (k : Nat) : NSl (w.drewN k) a n cap F := ⟨h.le, h.lim, h.wf, h.at'⟩
theorem Ce.box2 {w W : World} {C : List (Nat × Nat × Value)} (h : Ce w W C) (u0 u1 : Value) (t : TypeId) (g : Nat) (hg : g = W.heap.size) : Ce w (W.alloc (.cells #[u0, u1] t)) ((g, 0, u0) :: (g, 1, u1) :: C) := by
  subst hg
  refine ⟨fun p hp => ?_, bc_al h.bel⟩
  simp only [List.mem_cons] at hp
  rcases hp with rfl | rfl | hp
  · simp [go_sem]
  · simp [go_sem]
  exact bc_cell (bc_al (bel_refl _)) (h.cells p hp)
theorem Ce.box4 {w W : World} {C : List (Nat × Nat × Value)} (h : Ce w W C) (u0 u1 u2 u3 : Value) (t : TypeId) (g : Nat) (hg : g = W.heap.size) : Ce w (W.alloc (.cells #[u0, u1, u2, u3] t)) ((g, 0, u0) :: (g, 1, u1) :: (g, 2, u2) :: (g, 3, u3) :: C) := by
  subst hg
  refine ⟨fun p hp => ?_, bc_al h.bel⟩
  simp only [List.mem_cons] at hp
  rcases hp with rfl | rfl | rfl | rfl | hp
  · simp [go_sem]
  · simp [go_sem]
  · simp [go_sem]
  · simp [go_sem]
  exact bc_cell (bc_al (bel_refl _)) (h.cells p hp)
theorem Ce.box7 {w W : World} {C : List (Nat × Nat × Value)} (h : Ce w W C) (u0 u1 u2 u3 u4 u5 u6 : Value) (t : TypeId) (g : Nat) (hg : g = W.heap.size) : Ce w (W.alloc (.cells #[u0, u1, u2, u3, u4, u5, u6] t)) ((g, 0, u0) :: (g, 1, u1) :: (g, 2, u2) :: (g, 3, u3) :: (g, 4, u4) :: (g, 5, u5) :: (g, 6, u6) :: C) := by
  subst hg
  refine ⟨fun p hp => ?_, bc_al h.bel⟩
  simp only [List.mem_cons] at hp
  rcases hp with rfl | rfl | rfl | rfl | rfl | rfl | rfl | hp
  · simp [go_sem]
  · simp [go_sem]
  · simp [go_sem]
  · simp [go_sem]
  · simp [go_sem]
  · simp [go_sem]
  · simp [go_sem]
  exact bc_cell (bc_al (bel_refl _)) (h.cells p hp)
theorem Ce.box8 {w W : World} {C : List (Nat × Nat × Value)} (h : Ce w W C) (u0 u1 u2 u3 u4 u5 u6 u7 : Value) (t : TypeId) (g : Nat) (hg : g = W.heap.size) : Ce w (W.alloc (.cells #[u0, u1, u2, u3, u4, u5, u6, u7] t)) ((g, 0, u0) :: (g, 1, u1) :: (g, 2, u2) :: (g, 3, u3) :: (g, 4, u4) :: (g, 5, u5) :: (g, 6, u6) :: (g, 7, u7) :: C) := by
  subst hg
  refine ⟨fun p hp => ?_, bc_al h.bel⟩
  simp only [List.mem_cons] at hp
  rcases hp with rfl | rfl | rfl | rfl | rfl | rfl | rfl | rfl | hp
  · simp [go_sem]
  · simp [go_sem]
  · simp [go_sem]
  · simp [go_sem]
  · simp [go_sem]
  · simp [go_sem]
  · simp [go_sem]
  · simp [go_sem]
  exact bc_cell (bc_al (bel_refl _)) (h.cells p hp)
def nodeE (F : Nat → Nat → Int) (i : Nat) : Int :=
  if isK (F i 0) = false then 90
  else if i = 0 then (if ¬ F i 0 = 6 then 90 else if ¬ F i 1 = 0 then 1 else if hld 0 0 (F i 2) = false then 94 else if hld 0 (fA1 (F i 0)) (F i 3) = false then 95 else 0)
  else (if ¬ kO F i (F i 1) = 6 then 1 else if hld 1 1073741824 (F i 2) = false then 94 else if hld 0 (fA1 (F i 0)) (F i 3) = false then 95 else 0)
set_option maxHeartbeats 1000000 in
theorem checkNode_any (a : Option Addr) (n cap : Nat) (F : Nat → Nat → Int) (i : Nat) (w : World) (h : NSl w a n cap F) (hi : i < n) :
    Calls Tryz.prog 40 #[.slice a n cap, .int .i64 (i : Int)] w fun e w' => e = .returned (.int .i64 (nodeE F i)) ∧ Below w.heap.size w w' := by
  obtain ⟨b, o, rfl, hc⟩ := h.at (by omega)
  have c0 : w.cell? ⟨b, o + i * 4, none⟩ = some (.int .i64 (F i 0)) := by simpa using hc i 0 hi (by omega)
  have c1 := hc i 1 hi (by omega)
  have c2 := hc i 2 hi (by omega)
  have c3 := hc i 3 hi (by omega)
  obtain ⟨K, eK⟩ : ∃ K, F i 0 = K := ⟨_, rfl⟩
  obtain ⟨Pa, eP⟩ : ∃ Pa, F i 1 = Pa := ⟨_, rfl⟩
  obtain ⟨Q, eQ⟩ : ∃ Q, F i 2 = Q := ⟨_, rfl⟩
  obtain ⟨A, eA⟩ : ∃ A, F i 3 = A := ⟨_, rfl⟩
  rw [eK] at c0
  rw [eP] at c1
  rw [eQ] at c2
  rw [eA] at c3
  obtain ⟨q0, f1⟩ : ∃ q0, fQ0 K = q0 := ⟨_, rfl⟩
  obtain ⟨q1, f2⟩ : ∃ q1, fQ1 K = q1 := ⟨_, rfl⟩
  obtain ⟨cl, f3⟩ : ∃ cl, fC1 K = cl := ⟨_, rfl⟩
  obtain ⟨sp, f4⟩ : ∃ sp, fS1 K = sp := ⟨_, rfl⟩
  obtain ⟨a1, f5⟩ : ∃ a1, fA1 K = a1 := ⟨_, rfl⟩
  have HFA : Hid _ := FAgg_at K f1 f2 f3 f4 f5
  obtain ⟨E, hE⟩ : ∃ E, nodeE F i = E := ⟨_, rfl⟩
  rw [hE]
  by_cases hi0 : i = 0
  · subst hi0
    have HE : Hid (E = if isK K = false then 90 else (if ¬ K = 6 then 90 else if ¬ Pa = 0 then 1 else if hld 0 0 Q = false then 94 else if hld 0 a1 A = false then 95 else 0)) := by
      show _ = _
      rw [← hE, nodeE, eK, eP, eQ, eA, f5, if_pos (rfl : (0 : Nat) = 0)]
    have c0' : w.cell? ⟨b, o, none⟩ = some (.int .i64 K) := by simpa using c0
    have c1' : w.cell? ⟨b, o + 1, none⟩ = some (.int .i64 Pa) := by simpa using c1
    have c2' : w.cell? ⟨b, o + 2, none⟩ = some (.int .i64 Q) := by simpa using c2
    have c3' : w.cell? ⟨b, o + 3, none⟩ = some (.int .i64 A) := by simpa using c3
    clear hc eK eP eQ eA f1 f2 f3 f4 f5 hE c0 c1 c2 c3
    go_enter Tryz.func40, Tryz.ntmps40
    go_wp2_with fail
    have S0 : Hid _ := (ce_start w).box4 (.int .i64 K) (.int .i64 Pa) (.int .i64 Q) (.int .i64 A) 57 _ rfl
    refine (fieldsOf_any K _).mono ?_
    rintro e w1 ⟨rfl, hb⟩
    rw [HFA.out]
    obtain ⟨g, eg⟩ : ∃ g, g = w.heap.size := ⟨_, rfl⟩
    rw [← eg] at S0
    rw [← eg]
    clear eg
    have S1 : Hid _ := S0.out.go hb
    have x0 := S1.out.cel g 0 (.int .i64 K)
    have x1 := S1.out.cel g 1 (.int .i64 Pa)
    have x2 := S1.out.cel g 2 (.int .i64 Q)
    have x3 := S1.out.cel g 3 (.int .i64 A)
    have hl := S1.out.lt g 0 (.int .i64 K)
    have S2 : Hid _ := (S1.out.box8 (.int .i64 q0) (.int .i64 q1) (.int .i64 0) (.int .i64 cl) (.int .i64 0) (.int .i64 sp) (.int .i64 0) (.int .i64 a1) 84 _ rfl)
    clear hb S0 S1 HFA
    obtain ⟨m, em⟩ : ∃ m, m = w1.heap.size := ⟨_, rfl⟩
    have S3 : Hid _ := S2.out.box2 (.int .i64 0) (.int .i64 0) 82 (m + 1) (by simp [em])
    rw [← em] at S3
    clear S2
    rcases hK : isK K with _ | _
    · have HR : Hid (E = 90) := by
        show E = 90
        rw [HE.out, if_pos hK]
      clear HE
      go_wp2_with fail
      go_ret
      rw [HR.out]
      exact ⟨rfl, S3.out.bel⟩
    by_cases h6 : K = 6
    · by_cases hP : Pa = 0
      · have HE3 : Hid (E = if hld 0 0 Q = false then 94 else if hld 0 a1 A = false then 95 else 0) := by
          show E = _
          rw [HE.out, if_neg (by rw [hK]; decide), if_neg (by omega), if_neg (by omega)]
        clear HE hK
        rename Hid (E = _) => HE
        subst h6
        subst hP
        go_wp2_with fail
        go_quiet (fail)
        have S4 : Hid _ := S3.out.drew nq
        clear S3
        rename Hid (Ce _ _ _) => S3
        go_wp2_with fail
        rw [← em]
        clear em
        refine (hold_any Q 0 0 _).mono ?_
        rintro e w8 ⟨rfl, hb⟩
        have S8 : Hid _ := S3.out.go hb
        clear hb S3
        rcases hQ : hld 0 0 Q with _ | _
        · have HR : Hid (E = 94) := by
            show E = 94
            rw [HE.out, if_pos hQ]
          go_wp2_with fail
          go_ret
          rw [HR.out]
          exact ⟨rfl, S8.out.bel⟩
        have HE2 : Hid (E = if hld 0 a1 A = false then 95 else 0) := by
          show E = _
          rw [HE.out, if_neg (by rw [hQ]; decide)]
        clear hQ HE
        have y0 := S8.out.cel m 6 (.int .i64 0)
        have y1 := S8.out.cel m 7 (.int .i64 a1)
        have y2 := S8.out.cel g 3 (.int .i64 A)
        go_wp2_with fail
        refine (hold_any A 0 a1 _).mono ?_
        rintro e w9 ⟨rfl, hb⟩
        have S9 : Hid _ := S8.out.go hb
        clear hb S8 y0 y1 y2
        rcases hA : hld 0 a1 A with _ | _
        · have HR : Hid (E = 95) := by
            show E = 95
            rw [HE2.out, if_pos hA]
          go_wp2_with fail
          go_ret
          rw [HR.out]
          exact ⟨rfl, S9.out.bel⟩
        have HR : Hid (E = 0) := by
          show E = 0
          rw [HE2.out, if_neg (by rw [hA]; decide)]
        go_wp2_with fail
        go_ret
        rw [HR.out]
        exact ⟨rfl, S9.out.bel⟩
      have HR : Hid (E = 1) := by
        show E = 1
        rw [HE.out, if_neg (by rw [hK]; decide), if_neg (by omega), if_pos (by omega)]
      clear HE hK
      subst h6
      have d : decide (Pa = 0) = false := decide_eq_false hP
      go_wp2_with fail
      go_ret
      rw [HR.out]
      exact ⟨rfl, S3.out.bel⟩
    have HR : Hid (E = 90) := by
      show E = 90
      rw [HE.out, if_neg (by rw [hK]; decide), if_pos h6]
    clear HE hK
    have d : decide (K = 6) = false := decide_eq_false h6
    go_wp2_with fail
    go_ret
    rw [HR.out]
    exact ⟨rfl, S3.out.bel⟩
  have HE : Hid (E = if isK K = false then 90 else (if ¬ kO F i Pa = 6 then 1 else if hld 1 1073741824 Q = false then 94 else if hld 0 a1 A = false then 95 else 0)) := by
    show _ = _
    rw [← hE, nodeE, eK, eP, eQ, eA, f5, if_neg hi0]
  have HN : Hid (NSl w (some ⟨b, o, none⟩) i cap F) := h.cut (by omega)
  have hic : i ≤ cap := Nat.le_trans (by omega) h.le
  have dz : ((i : Int) == 0) = false := by simp; omega
  clear h hc eK eP eQ eA f1 f2 f3 f4 f5 hE hi0
  go_enter Tryz.func40, Tryz.ntmps40
  go_wp2_with fail
  have S0 : Hid _ := (ce_start w).box4 (.int .i64 K) (.int .i64 Pa) (.int .i64 Q) (.int .i64 A) 57 _ rfl
  refine (fieldsOf_any K _).mono ?_
  rintro e w1 ⟨rfl, hb⟩
  rw [HFA.out]
  obtain ⟨g, eg⟩ : ∃ g, g = w.heap.size := ⟨_, rfl⟩
  rw [← eg] at S0
  rw [← eg]
  clear eg
  have S1 : Hid _ := S0.out.go hb
  have x0 := S1.out.cel g 0 (.int .i64 K)
  have x1 := S1.out.cel g 1 (.int .i64 Pa)
  have x2 := S1.out.cel g 2 (.int .i64 Q)
  have x3 := S1.out.cel g 3 (.int .i64 A)
  have hl := S1.out.lt g 0 (.int .i64 K)
  have S2 : Hid _ := (S1.out.box8 (.int .i64 q0) (.int .i64 q1) (.int .i64 0) (.int .i64 cl) (.int .i64 0) (.int .i64 sp) (.int .i64 0) (.int .i64 a1) 84 _ rfl)
  clear hb S0 S1 HFA
  obtain ⟨m, em⟩ : ∃ m, m = w1.heap.size := ⟨_, rfl⟩
  have S3 : Hid _ := S2.out.box2 (.int .i64 1) (.int .i64 1073741824) 82 (m + 1) (by simp [em])
  rw [← em] at S3
  clear S2
  rcases hK : isK K with _ | _
  · have HR : Hid (E = 90) := by
      show E = 90
      rw [HE.out, if_pos hK]
    clear HE
    go_wp2_with fail
    go_ret
    rw [HR.out]
    exact ⟨rfl, S3.out.bel⟩
  by_cases h6 : kO F i Pa = 6
  · have HE3 : Hid (E = if hld 1 1073741824 Q = false then 94 else if hld 0 a1 A = false then 95 else 0) := by
      show E = _
      rw [HE.out, if_neg (by rw [hK]; decide), if_neg (by omega)]
    clear HE hK
    rename Hid (E = _) => HE
    have d : (kO F i Pa != 6) = false := by simpa using h6
    go_wp2_with fail
    go_quiet ((go_at_call 81; exact Calls.quiet_of_same (kindOf_any _ i cap F Pa _ ((HN.out.go S3.out.bel).drew _))))
    have S4 : Hid _ := S3.out.drew nq
    clear S3
    rename Hid (Ce _ _ _) => S3
    go_wp2_with fail
    rw [← em]
    clear em
    refine (hold_any Q 1 1073741824 _).mono ?_
    rintro e w8 ⟨rfl, hb⟩
    have S8 : Hid _ := S3.out.go hb
    clear hb S3
    rcases hQ : hld 1 1073741824 Q with _ | _
    · have HR : Hid (E = 94) := by
        show E = 94
        rw [HE.out, if_pos hQ]
      go_wp2_with fail
      go_ret
      rw [HR.out]
      exact ⟨rfl, S8.out.bel⟩
    have HE2 : Hid (E = if hld 0 a1 A = false then 95 else 0) := by
      show E = _
      rw [HE.out, if_neg (by rw [hQ]; decide)]
    clear hQ HE
    have y0 := S8.out.cel m 6 (.int .i64 0)
    have y1 := S8.out.cel m 7 (.int .i64 a1)
    have y2 := S8.out.cel g 3 (.int .i64 A)
    go_wp2_with fail
    refine (hold_any A 0 a1 _).mono ?_
    rintro e w9 ⟨rfl, hb⟩
    have S9 : Hid _ := S8.out.go hb
    clear hb S8 y0 y1 y2
    rcases hA : hld 0 a1 A with _ | _
    · have HR : Hid (E = 95) := by
        show E = 95
        rw [HE2.out, if_pos hA]
      go_wp2_with fail
      go_ret
      rw [HR.out]
      exact ⟨rfl, S9.out.bel⟩
    have HR : Hid (E = 0) := by
      show E = 0
      rw [HE2.out, if_neg (by rw [hA]; decide)]
    go_wp2_with fail
    go_ret
    rw [HR.out]
    exact ⟨rfl, S9.out.bel⟩
  have HR : Hid (E = 1) := by
    show E = 1
    rw [HE.out, if_neg (by rw [hK]; decide), if_pos h6]
  clear HE hK
  have d : (kO F i Pa != 6) = true := by simpa using h6
  go_wp2_with fail
  go_quiet ((go_at_call 81; exact Calls.quiet_of_same (kindOf_any _ i cap F Pa _ ((HN.out.go S3.out.bel).drew _))))
  have S4 : Hid _ := S3.out.drew nq
  clear S3
  rename Hid (Ce _ _ _) => S3
  go_wp2_with fail
  go_ret
  rw [HR.out]
  exact ⟨rfl, S3.out.bel⟩
def cntP (F : Nat → Nat → Int) : Nat → Nat → Nat
  | 0, _ => 0
  | k + 1, j => cntP F k j + if F (k + 1) 1 = (j : Int) then 1 else 0
theorem cntP_le (F : Nat → Nat → Int) (k j : Nat) : cntP F k j ≤ k := by
  induction k with
  | zero => simp [cntP]
  | succ k ih => rw [cntP]; split <;> omega
structure Cn (w W : World) (g : Nat) (H : Nat → Nat) : Prop where
  cells : ∀ j, j < 32 → W.cell? ⟨g, j, none⟩ = some (.int .i64 (H j : Int))
  bel : Below w.heap.size w W
  old : w.heap.size ≤ g
  soft : ∀ j, j < 32 → W.frozen? ⟨g, j, none⟩ = false
theorem Cn.go {w W W' : World} {g : Nat} {H : Nat → Nat} (h : Cn w W g H) (k : Below W.heap.size W W') : Cn w W' g H := ⟨fun j hj => bc_cell k (h.cells j hj), bc_go h.bel k, h.old, fun j hj => (k.frozen (World.block_lt_of_cell? _ _ (h.cells j hj))).trans (h.soft j hj)⟩
theorem Cn.set {w W : World} {g : Nat} {H : Nat → Nat} (h : Cn w W g H) (j : Nat) (hj : j < 32) (x : Nat) : Cn w (W.setCell ⟨g, j, none⟩ (.int .i64 (x : Int))) g (fun i => if i = j then x else H i) := by
  have hs := h.cells j hj
  refine ⟨fun i hi => ?_, bc_st h.bel h.old, h.old, fun i hi => by simpa [go_sem] using h.soft i hi⟩
  by_cases e : i = j
  · subst e
    rw [World.cell?_setCell_same _ _ _ hs, if_pos rfl]
  rw [World.cell?_setCell_other _ _ _ _ (by intro q; apply e; injection q with q1 q2 q3; exact q2.symm), if_neg e]
  exact h.cells i hi
theorem zeros32 (w : World) (j : Nat) (hj : j < 32) (t : TypeId) : (w.alloc (.cells #[.int .i64 0, .int .i64 0, .int .i64 0, .int .i64 0, .int .i64 0, .int .i64 0, .int .i64 0, .int .i64 0, .int .i64 0, .int .i64 0, .int .i64 0, .int .i64 0, .int .i64 0, .int .i64 0, .int .i64 0, .int .i64 0, .int .i64 0, .int .i64 0, .int .i64 0, .int .i64 0, .int .i64 0, .int .i64 0, .int .i64 0, .int .i64 0, .int .i64 0, .int .i64 0, .int .i64 0, .int .i64 0, .int .i64 0, .int .i64 0, .int .i64 0, .int .i64 0] t)).cell? ⟨w.heap.size, j, none⟩ = some (.int .i64 ((0 : Nat) : Int)) := by
  rcases j with _ | _ | _ | _ | _ | _ | _ | _ | _ | _ | _ | _ | _ | _ | _ | _ | _ | _ | _ | _ | _ | _ | _ | _ | _ | _ | _ | _ | _ | _ | _ | _ | j
  all_goals first | (simp [go_sem]; done) | omega
set_option maxHeartbeats 1000000 in
theorem allHave_any (a : Option Addr) (n cap : Nat) (F : Nat → Nat → Int) (w : World) (h : NSl w a n cap F) (h1 : 1 ≤ n) (h2 : n ≤ 32) (hp : ∀ i, 1 ≤ i → i < n → 0 ≤ F i 1 ∧ F i 1 < 32) :
    Calls Tryz.prog 41 #[.slice a n cap] w fun e w' => e = .returned (.bool (decide (∀ i, i < n → F i 0 = 6 → 0 < cntP F (n - 1) i))) ∧ Below w.heap.size w w' := by
  obtain ⟨b, o, rfl, hc⟩ := h.at (by omega)
  have hle := h.le
  obtain ⟨n, rfl⟩ : ∃ k, n = k + 1 := ⟨n - 1, by omega⟩
  obtain ⟨c, rfl⟩ : ∃ k, cap = k + 1 := ⟨cap - 1, by omega⟩
  obtain ⟨E, hE⟩ : ∃ E, decide (∀ i, i < n + 1 → F i 0 = 6 → 0 < cntP F (n + 1 - 1) i) = E := ⟨_, rfl⟩
  rw [hE]
  rw [Nat.add_sub_cancel] at hE
  have HE : Hid _ := hE
  have HC : Hid _ := hc
  have HP : Hid _ := hp
  have HL : Hid _ := h.lim
  clear hc hp h hE h1
  by_cases hc0 : c = 0
  · obtain rfl : n = 0 := by omega
    subst hc0
    obtain ⟨n, hn⟩ : ∃ n : Nat, n = 0 := ⟨0, rfl⟩
    go_enter Tryz.func41, Tryz.ntmps41
    go_wp2_with fail
    go_loopw [11] (fun t wr => ∃ k : Nat, k ≤ 0 ∧ t = .int .i64 (k : Int) ∧ Hid (Cn w wr w.heap.size (cntP F k))) (fun t _ => 0 - (intOf t).toNat)
    case atStart =>
      refine ⟨0, by omega, rfl, ⟨fun j hj => ?_, bc_al (bel_refl _), Nat.le_refl _, fun j hj => by simp [go_sem]⟩⟩
      exact zeros32 w j hj _
    case round =>
      obtain ⟨k, hk, rfl, HC1⟩ := hrel
      by_cases e : k = 0
      · rw [e]
        rw [e] at HC1
        clear e hk k
        go_wp2_with fail
        go_loopw [24] (fun t wr => ∃ k : Nat, k ≤ 0 + 1 ∧ t = .int .i64 (k : Int) ∧ Hid (∀ i, i < k → F i 0 = 6 → 0 < cntP F 0 i) ∧ Hid (Cn w wr w.heap.size (cntP F 0))) (fun t _ => 0 + 1 - (intOf t).toNat)
        case atStart => exact ⟨0, by omega, rfl, fun i hi => absurd hi (by omega), HC1.out⟩
        case round =>
          obtain ⟨k, hk, rfl, HA, HC2⟩ := hrel
          clear HC1
          by_cases e : k = 0 + 1
          · have HR : Hid (E = true) := by
              show E = true
              rw [← HE.out]
              exact decide_eq_true fun i hi => HA.out i (by omega)
            rw [e]
            clear e hk HE
            go_wp2_with fail
            go_ret
            rw [HR.out]
            exact ⟨rfl, HC2.out.bel⟩
          have lk : k < 0 + 1 := by omega
          have x0 : wr.cell? ⟨b, o + k * 4, none⟩ = some (.int .i64 (F k 0)) := by simpa using bc_cell HC2.out.bel (HC.out k 0 lk (by omega))
          have x1 := bc_cell HC2.out.bel (HC.out k 1 lk (by omega))
          have x2 := bc_cell HC2.out.bel (HC.out k 2 lk (by omega))
          have x3 := bc_cell HC2.out.bel (HC.out k 3 lk (by omega))
          have x4 := HC2.out.cells k (by omega)
          have l2 : w.heap.size < wr.heap.size := World.block_lt_of_cell? _ _ x4
          have l3 : k < 32 := by omega
          by_cases e6 : F k 0 = 6
          · rw [e6] at x0
            by_cases e0 : cntP F 0 k = 0
            · have HR : Hid (E = false) := by
                show E = false
                rw [← HE.out]
                refine decide_eq_false fun q => ?_
                have := q k lk e6
                omega
              rw [e0] at x4
              have x4 : wr.cell? ⟨w.heap.size, k, none⟩ = some (.int .i64 0) := x4
              clear e6 e0 HE e
              go_wp2_with fail
              go_ret
              rw [HR.out]
              exact ⟨rfl, bc_al HC2.out.bel⟩
            exact absurd rfl e0
          have d : (F k 0 == 6) = false := by simpa using e6
          have HG : Hid _ := e6
          clear e6 e
          go_wp2_with fail
          go_roundw
          case rel =>
            refine ⟨k + 1, by omega, by go_num, fun i hi h6 => ?_, HC2.out.go (bc_al (bel_refl _))⟩
            by_cases e : i = k
            · rw [e] at h6; exact absurd h6 HG.out
            exact HA.out i (by omega) h6
          case measure => simp [intOf]; omega
      exact absurd hk (by omega)
  go_enter Tryz.func41, Tryz.ntmps41
  go_wp2_with fail
  go_loopw [11] (fun t wr => ∃ k : Nat, k ≤ n ∧ t = .int .i64 (k : Int) ∧ Hid (Cn w wr w.heap.size (cntP F k))) (fun t _ => n - (intOf t).toNat)
  case atStart =>
    refine ⟨0, by omega, rfl, ⟨fun j hj => ?_, bc_al (bel_refl _), Nat.le_refl _, fun j hj => by simp [go_sem]⟩⟩
    exact zeros32 w j hj _
  case round =>
    obtain ⟨k, hk, rfl, HC1⟩ := hrel
    by_cases e : k = n
    · rw [e]
      rw [e] at HC1
      clear e hk k
      go_wp2_with fail
      go_loopw [24] (fun t wr => ∃ k : Nat, k ≤ n + 1 ∧ t = .int .i64 (k : Int) ∧ Hid (∀ i, i < k → F i 0 = 6 → 0 < cntP F n i) ∧ Hid (Cn w wr w.heap.size (cntP F n))) (fun t _ => n + 1 - (intOf t).toNat)
      case atStart => exact ⟨0, by omega, rfl, fun i hi => absurd hi (by omega), HC1.out⟩
      case round =>
        obtain ⟨k, hk, rfl, HA, HC2⟩ := hrel
        clear HC1
        by_cases e : k = n + 1
        · have HR : Hid (E = true) := by
            show E = true
            rw [← HE.out]
            exact decide_eq_true fun i hi => HA.out i (by omega)
          rw [e]
          clear e hk HE
          go_wp2_with fail
          go_ret
          rw [HR.out]
          exact ⟨rfl, HC2.out.bel⟩
        have lk : k < n + 1 := by omega
        have x0 : wr.cell? ⟨b, o + k * 4, none⟩ = some (.int .i64 (F k 0)) := by simpa using bc_cell HC2.out.bel (HC.out k 0 lk (by omega))
        have x1 := bc_cell HC2.out.bel (HC.out k 1 lk (by omega))
        have x2 := bc_cell HC2.out.bel (HC.out k 2 lk (by omega))
        have x3 := bc_cell HC2.out.bel (HC.out k 3 lk (by omega))
        have x4 := HC2.out.cells k (by omega)
        have l2 : w.heap.size < wr.heap.size := World.block_lt_of_cell? _ _ x4
        have l3 : k < 32 := by omega
        by_cases e6 : F k 0 = 6
        · rw [e6] at x0
          by_cases e0 : cntP F n k = 0
          · have HR : Hid (E = false) := by
              show E = false
              rw [← HE.out]
              refine decide_eq_false fun q => ?_
              have := q k lk e6
              omega
            rw [e0] at x4
            have x4 : wr.cell? ⟨w.heap.size, k, none⟩ = some (.int .i64 0) := x4
            clear e6 e0 HE e
            go_wp2_with fail
            go_ret
            rw [HR.out]
            exact ⟨rfl, bc_al HC2.out.bel⟩
          have d : ((cntP F n k : Int) == 0) = false := by simp; omega
          have HG : Hid _ := show 0 < cntP F n k from by omega
          clear e6 e0 e
          go_wp2_with fail
          go_roundw
          case rel =>
            refine ⟨k + 1, by omega, by go_num, fun i hi h6 => ?_, HC2.out.go (bc_al (bel_refl _))⟩
            by_cases e : i = k
            · rw [e]; exact HG.out
            exact HA.out i (by omega) h6
          case measure => simp [intOf]; omega
        have d : (F k 0 == 6) = false := by simpa using e6
        have HG : Hid _ := e6
        clear e6 e
        go_wp2_with fail
        go_roundw
        case rel =>
          refine ⟨k + 1, by omega, by go_num, fun i hi h6 => ?_, HC2.out.go (bc_al (bel_refl _))⟩
          by_cases e : i = k
          · rw [e] at h6; exact absurd h6 HG.out
          exact HA.out i (by omega) h6
        case measure => simp [intOf]; omega
    have lk : k < n := by omega
    obtain ⟨hp0, hp1⟩ := HP.out (k + 1) (by omega) (by omega)
    obtain ⟨p, ep⟩ : ∃ p : Nat, F (k + 1) 1 = (p : Int) := ⟨(F (k + 1) 1).toNat, by omega⟩
    have lp : p < 32 := by omega
    have x0 : wr.cell? ⟨b, o + 4 + k * 4, none⟩ = some (.int .i64 (F (k + 1) 0)) := by
      have := bc_cell HC1.out.bel (HC.out (k + 1) 0 (by omega) (by omega))
      rwa [show o + (k + 1) * 4 + 0 = o + 4 + k * 4 by omega] at this
    have x1 : wr.cell? ⟨b, o + 4 + k * 4 + 1, none⟩ = some (.int .i64 (F (k + 1) 1)) := by
      have := bc_cell HC1.out.bel (HC.out (k + 1) 1 (by omega) (by omega))
      rwa [show o + (k + 1) * 4 + 1 = o + 4 + k * 4 + 1 by omega] at this
    have x2 : wr.cell? ⟨b, o + 4 + k * 4 + 2, none⟩ = some (.int .i64 (F (k + 1) 2)) := by
      have := bc_cell HC1.out.bel (HC.out (k + 1) 2 (by omega) (by omega))
      rwa [show o + (k + 1) * 4 + 2 = o + 4 + k * 4 + 2 by omega] at this
    have x3 : wr.cell? ⟨b, o + 4 + k * 4 + 3, none⟩ = some (.int .i64 (F (k + 1) 3)) := by
      have := bc_cell HC1.out.bel (HC.out (k + 1) 3 (by omega) (by omega))
      rwa [show o + (k + 1) * 4 + 3 = o + 4 + k * 4 + 3 by omega] at this
    rw [ep] at x1
    have x4 := HC1.out.cells p lp
    have x5 := HC1.out.soft p lp
    have l2 : w.heap.size < wr.heap.size := World.block_lt_of_cell? _ _ x4
    obtain ⟨q, eq⟩ : ∃ q, cntP F k p = q := ⟨_, rfl⟩
    rw [eq] at x4
    have lq : q ≤ k := eq ▸ cntP_le F k p
    have HQ : Hid _ := (show cntP F k p = q ∧ F (k + 1) 1 = (p : Int) from ⟨eq, ep⟩)
    clear eq ep hp0 hp1 e
    go_wp2_with fail
    go_roundw
    case rel =>
      refine ⟨k + 1, by omega, by go_num, ?_⟩
      have := HC1.out.set p lp (q + 1)
      have e2 : (fun i => if i = p then q + 1 else cntP F k i) = cntP F (k + 1) := by
        funext i
        rw [cntP, HQ.out.2]
        by_cases e : i = p
        · rw [if_pos e, e, HQ.out.1, if_pos rfl]
        rw [if_neg e, if_neg (by omega)]; rfl
      rw [e2, show ((q + 1 : Nat) : Int) = (q : Int) + 1 from by omega] at this
      exact this.go (bc_al (bel_refl _))
    case measure => simp [intOf]; omega
def firstE (F : Nat → Nat → Int) : Nat → Int
  | 0 => 0
  | k + 1 => if firstE F k = 0 then nodeE F k else firstE F k
theorem firstE_up {F : Nat → Nat → Int} {k : Nat} {e : Int} (h : firstE F k = e) (he : e ≠ 0) (d : Nat) : firstE F (k + d) = e := by
  induction d with
  | zero => exact h
  | succ d ih => rw [← Nat.add_assoc, firstE, if_neg (by rw [ih]; exact he), ih]
theorem firstE_at {F : Nat → Nat → Int} {k n : Nat} (h : firstE F k = 0) (he : nodeE F k ≠ 0) (hn : k < n) : firstE F n = nodeE F k := by
  have := firstE_up (F := F) (k := k + 1) (e := nodeE F k) (by rw [firstE, if_pos h]) he (n - (k + 1))
  rwa [show k + 1 + (n - (k + 1)) = n by omega] at this
theorem firstE_none {F : Nat → Nat → Int} {n : Nat} (h : firstE F n = 0) : ∀ i, i < n → nodeE F i = 0 := by
  intro i hi
  by_cases e : nodeE F i = 0
  · exact e
  exfalso
  have h0 : firstE F i = 0 := by
    by_cases q : firstE F i = 0
    · exact q
    have := firstE_up rfl q (n - i)
    rw [show i + (n - i) = n by omega, h] at this
    exact absurd this.symm q
  have := firstE_at h0 e hi
  omega
theorem kO_in {F : Nat → Nat → Int} {n : Nat} {x : Int} (h : kO F n x ≠ 0) : 0 ≤ x ∧ x < (n : Int) := by
  unfold kO at h
  split at h
  · assumption
  exact absurd rfl h
theorem nodeE_root {F : Nat → Nat → Int} (h : nodeE F 0 = 0) : F 0 0 = 6 ∧ F 0 1 = 0 ∧ F 0 2 = 0 ∧ F 0 3 = 0 := by
  unfold nodeE at h
  split at h
  · omega
  rw [if_pos rfl] at h
  split at h
  · omega
  split at h
  · omega
  split at h
  · omega
  split at h
  · omega
  rename_i h1 h2 h3 h4 h5
  have e6 : F 0 0 = 6 := by omega
  rw [e6] at h5
  have q1 : hld 0 0 (F 0 2) = true := by simpa using h4
  have q2 : hld 0 (fA1 6) (F 0 3) = true := by simpa using h5
  have q3 := hld_yes q1
  have q4 := hld_yes q2
  have : fA1 6 = 0 := rfl
  omega
theorem nodeE_other {F : Nat → Nat → Int} {i : Nat} (hi : i ≠ 0) (h : nodeE F i = 0) : 1 ≤ F i 0 ∧ F i 0 ≤ 6 ∧ kO F i (F i 1) = 6 ∧ 1 ≤ F i 2 ∧ F i 2 ≤ 1073741824 ∧ 0 ≤ F i 3 ∧ F i 3 ≤ fA1 (F i 0) := by
  unfold nodeE at h
  split at h
  · omega
  split at h
  · omega
  split at h
  · omega
  split at h
  · omega
  rename_i h1 h2 h3 h4
  have q0 : isK (F i 0) = true := by simpa using h1
  have q1 : hld 1 1073741824 (F i 2) = true := by simpa using h3
  have q2 : hld 0 (fA1 (F i 0)) (F i 3) = true := by simpa using h4
  have q3 := hld_yes q1
  have q4 := hld_yes q2
  unfold isK at q0
  have q5 : 1 ≤ F i 0 ∧ F i 0 ≤ 6 := by simpa using q0
  exact ⟨q5.1, q5.2, by omega, q3.1, q3.2, q4.1, q4.2⟩
theorem parents_in {F : Nat → Nat → Int} {n : Nat} (h2 : n ≤ 32) (h : firstE F n = 0) : ∀ i, 1 ≤ i → i < n → 0 ≤ F i 1 ∧ F i 1 < 32 := by
  intro i h1 hi
  have := kO_in (F := F) (n := i) (x := F i 1) (by rw [(nodeE_other (by omega) (firstE_none h i hi)).2.2.1]; decide)
  omega
def kids (F : Nat → Nat → Int) (n : Nat) : Bool := decide (∀ i, i < n → F i 0 = 6 → 0 < cntP F (n - 1) i)
def nodesE (F : Nat → Nat → Int) (n : Nat) : Int := if hld 1 32 (n : Int) = false then 1 else if ¬ firstE F n = 0 then firstE F n else if kids F n = false then 1 else 0
set_option maxHeartbeats 1000000 in
theorem checkNodes_any (a : Option Addr) (n cap : Nat) (F : Nat → Nat → Int) (w : World) (h : NSl w a n cap F) :
    Calls Tryz.prog 14 #[.slice a n cap] w fun e w' => e = .returned (.int .i64 (nodesE F n)) ∧ Below w.heap.size w w' := by
  obtain ⟨E, hE⟩ : ∃ E, nodesE F n = E := ⟨_, rfl⟩
  rw [hE]
  have HE : Hid _ := hE
  have HN : Hid _ := h
  have hl : n ≤ 9223372036854775807 := Nat.le_trans h.le h.lim
  clear hE h
  go_enter Tryz.func14, Tryz.ntmps14
  go_wp2_with fail
  refine (within_any (n : Int) 1 32 _).mono ?_
  rintro e w1 ⟨rfl, hw⟩
  rw [hw]
  clear hw w1
  rcases hn : hld 1 32 (n : Int) with _ | _
  · have HR : Hid (E = 1) := by
      show E = 1
      rw [← HE.out, nodesE, if_pos hn]
    clear HE hn
    go_wp2_with fail
    go_ret
    rw [HR.out]
    exact ⟨rfl, bel_refl _⟩
  obtain ⟨n1, n2⟩ := hld_yes hn
  have HF : Hid (E = if ¬ firstE F n = 0 then firstE F n else if kids F n = false then 1 else 0) := by
    show E = _
    rw [← HE.out, nodesE, if_neg (by rw [hn]; decide)]
  clear HE hn
  go_wp2_with fail
  go_loopw [11] (fun t wr => ∃ k : Nat, k ≤ n ∧ t = .int .i64 (k : Int) ∧ Hid (firstE F k = 0) ∧ Hid (Below w.heap.size w wr)) (fun t _ => n - (intOf t).toNat)
  case atStart => exact ⟨0, by omega, rfl, rfl, bel_refl _⟩
  case round =>
    obtain ⟨k, hk, rfl, H0, HB⟩ := hrel
    by_cases e : k = n
    · rw [e]
      rw [e] at H0
      clear e hk k
      go_wp2_with fail
      refine (allHave_any a n cap F _ (HN.out.go HB.out) (by omega) (by omega) (parents_in (by omega) H0.out)).mono ?_
      rintro e w2 ⟨rfl, hb⟩
      have HB2 : Hid _ := bc_go HB.out hb
      clear hb HB
      rcases hk : (decide (∀ i, i < n → F i 0 = 6 → 0 < cntP F (n - 1) i)) with _ | _
      · have HR : Hid (E = 1) := by
          show E = 1
          rw [HF.out, if_neg (by rw [H0.out]; decide), if_pos (show kids F n = false from hk)]
        clear hk HF
        go_wp2_with fail
        go_ret
        rw [HR.out]
        exact ⟨rfl, HB2.out⟩
      have HR : Hid (E = 0) := by
        show E = 0
        rw [HF.out, if_neg (by rw [H0.out]; decide), if_neg (by rw [kids, hk]; decide)]
      clear hk HF
      go_wp2_with fail
      go_ret
      rw [HR.out]
      exact ⟨rfl, HB2.out⟩
    have lk : k < n := by omega
    clear e
    go_wp2_with fail
    refine (checkNode_any a n cap F k _ (HN.out.go HB.out) lk).mono ?_
    rintro e w2 ⟨rfl, hb⟩
    have HB2 : Hid _ := bc_go HB.out hb
    clear hb HB
    obtain ⟨x, hx⟩ : ∃ x, nodeE F k = x := ⟨_, rfl⟩
    rw [hx]
    by_cases x0 : x = 0
    · have HG : Hid _ := hx.trans x0
      clear hx
      subst x0
      go_wp2_with fail
      go_roundw
      case rel =>
        refine ⟨k + 1, by omega, by go_num, ?_, HB2.out⟩
        show firstE F (k + 1) = 0
        rw [firstE, if_pos H0.out, HG.out]
      case measure => simp [intOf]; omega
    have HR : Hid (E = x) := by
      show E = x
      have q := firstE_at H0.out (by rw [hx]; exact x0) lk
      rw [HF.out, q, hx, if_pos x0]
    have d : (x != 0) = true := by simpa using x0
    clear hx x0 HF
    go_wp2_with fail
    go_ret
    rw [HR.out]
    exact ⟨rfl, HB2.out⟩
def checkE (K R M C Fl A : Int) (F : Nat → Nat → Int) (n : Nat) : Int := if isK K = false then 90 else if hld 1 65536 M = false then 92 else if hld M 1073741824 R = false then 91 else if hld 1 4096 C = false then 93 else if hld 1 256 Fl = false then 99 else if hld 0 (fA1 K) A = false then 95 else (if K = 6 then nodesE F n else if 0 < n then 1 else 0)
set_option maxHeartbeats 2000000 in
theorem check_any (K R M C Fl A : Int) (a : Option Addr) (n cap : Nat) (F : Nat → Nat → Int) (w : World) (h : NSl w a n cap F) :
    Calls Tryz.prog 12 #[.agg #[.int .i64 K, .int .i64 R, .int .i64 M, .int .i64 C, .int .i64 Fl, .int .i64 A, .slice a n cap]] w fun e w' => e = .returned (.int .i64 (checkE K R M C Fl A F n)) ∧ Below w.heap.size w w' := by
  obtain ⟨q0, f1⟩ : ∃ q0, fQ0 K = q0 := ⟨_, rfl⟩
  obtain ⟨q1, f2⟩ : ∃ q1, fQ1 K = q1 := ⟨_, rfl⟩
  obtain ⟨cl, f3⟩ : ∃ cl, fC1 K = cl := ⟨_, rfl⟩
  obtain ⟨sp, f4⟩ : ∃ sp, fS1 K = sp := ⟨_, rfl⟩
  obtain ⟨a1, f5⟩ : ∃ a1, fA1 K = a1 := ⟨_, rfl⟩
  have HFA : Hid _ := FAgg_at K f1 f2 f3 f4 f5
  obtain ⟨E, hE⟩ : ∃ E, checkE K R M C Fl A F n = E := ⟨_, rfl⟩
  rw [hE]
  have HE : Hid (E = if isK K = false then 90 else if hld 1 65536 M = false then 92 else if hld M 1073741824 R = false then 91 else if hld 1 4096 C = false then 93 else if hld 1 256 Fl = false then 99 else if hld 0 a1 A = false then 95 else (if K = 6 then nodesE F n else if 0 < n then 1 else 0)) := by
    show E = _
    rw [← hE, checkE, f5]
  have HN : Hid _ := h
  have hl0 : n ≤ 9223372036854775807 := Nat.le_trans h.le h.lim
  clear f1 f2 f3 f4 f5 hE h
  go_enter Tryz.func12, Tryz.ntmps12
  go_wp2_with fail
  have S0 : Hid _ := (ce_start w).box7 (.int .i64 K) (.int .i64 R) (.int .i64 M) (.int .i64 C) (.int .i64 Fl) (.int .i64 A) (.slice a n cap) 24 _ rfl
  refine (fieldsOf_any K _).mono ?_
  rintro e w1 ⟨rfl, hb⟩
  rw [HFA.out]
  obtain ⟨g, eg⟩ : ∃ g, g = w.heap.size := ⟨_, rfl⟩
  rw [← eg] at S0
  rw [← eg]
  clear eg
  have S1 : Hid _ := S0.out.go hb
  have x0 := S1.out.cel g 0 (.int .i64 K)
  have x1 := S1.out.cel g 1 (.int .i64 R)
  have x2 := S1.out.cel g 2 (.int .i64 M)
  have x3 := S1.out.cel g 3 (.int .i64 C)
  have x4 := S1.out.cel g 4 (.int .i64 Fl)
  have x5 := S1.out.cel g 5 (.int .i64 A)
  have x6 := S1.out.cel g 6 (.slice a n cap)
  have hl := S1.out.lt g 0 (.int .i64 K)
  have S2 : Hid _ := (S1.out.box8 (.int .i64 q0) (.int .i64 q1) (.int .i64 0) (.int .i64 cl) (.int .i64 0) (.int .i64 sp) (.int .i64 0) (.int .i64 a1) 84 _ rfl)
  clear hb S0 S1 HFA
  rcases hq : isK K with _ | _
  · have HR : Hid (E = 90) := by
      show E = 90
      rw [HE.out, if_pos hq]
    clear hq HE
    go_wp2_with fail
    go_ret
    rw [HR.out]
    exact ⟨rfl, S2.out.bel⟩
  have HX : Hid (E = if hld 1 65536 M = false then 92 else if hld M 1073741824 R = false then 91 else if hld 1 4096 C = false then 93 else if hld 1 256 Fl = false then 99 else if hld 0 a1 A = false then 95 else (if K = 6 then nodesE F n else if 0 < n then 1 else 0)) := by
    show E = _
    rw [HE.out, if_neg (by rw [hq]; decide)]
  clear hq HE
  rename Hid (E = _) => HE
  go_wp2_with fail
  refine (within_any M 1 65536 _).mono ?_
  rintro e w2 ⟨rfl, hw⟩
  rw [hw]
  clear hw w2
  rcases hq : hld 1 65536 M with _ | _
  · have HR : Hid (E = 92) := by
      show E = 92
      rw [HE.out, if_pos hq]
    clear hq HE
    go_wp2_with fail
    go_ret
    rw [HR.out]
    exact ⟨rfl, S2.out.bel⟩
  have HX : Hid (E = if hld M 1073741824 R = false then 91 else if hld 1 4096 C = false then 93 else if hld 1 256 Fl = false then 99 else if hld 0 a1 A = false then 95 else (if K = 6 then nodesE F n else if 0 < n then 1 else 0)) := by
    show E = _
    rw [HE.out, if_neg (by rw [hq]; decide)]
  clear hq HE
  rename Hid (E = _) => HE
  go_wp2_with fail
  refine (within_any R M 1073741824 _).mono ?_
  rintro e w2 ⟨rfl, hw⟩
  rw [hw]
  clear hw w2
  rcases hq : hld M 1073741824 R with _ | _
  · have HR : Hid (E = 91) := by
      show E = 91
      rw [HE.out, if_pos hq]
    clear hq HE
    go_wp2_with fail
    go_ret
    rw [HR.out]
    exact ⟨rfl, S2.out.bel⟩
  have HX : Hid (E = if hld 1 4096 C = false then 93 else if hld 1 256 Fl = false then 99 else if hld 0 a1 A = false then 95 else (if K = 6 then nodesE F n else if 0 < n then 1 else 0)) := by
    show E = _
    rw [HE.out, if_neg (by rw [hq]; decide)]
  clear hq HE
  rename Hid (E = _) => HE
  go_wp2_with fail
  refine (within_any C 1 4096 _).mono ?_
  rintro e w2 ⟨rfl, hw⟩
  rw [hw]
  clear hw w2
  rcases hq : hld 1 4096 C with _ | _
  · have HR : Hid (E = 93) := by
      show E = 93
      rw [HE.out, if_pos hq]
    clear hq HE
    go_wp2_with fail
    go_ret
    rw [HR.out]
    exact ⟨rfl, S2.out.bel⟩
  have HX : Hid (E = if hld 1 256 Fl = false then 99 else if hld 0 a1 A = false then 95 else (if K = 6 then nodesE F n else if 0 < n then 1 else 0)) := by
    show E = _
    rw [HE.out, if_neg (by rw [hq]; decide)]
  clear hq HE
  rename Hid (E = _) => HE
  go_wp2_with fail
  refine (within_any Fl 1 256 _).mono ?_
  rintro e w2 ⟨rfl, hw⟩
  rw [hw]
  clear hw w2
  rcases hq : hld 1 256 Fl with _ | _
  · have HR : Hid (E = 99) := by
      show E = 99
      rw [HE.out, if_pos hq]
    clear hq HE
    go_wp2_with fail
    go_ret
    rw [HR.out]
    exact ⟨rfl, S2.out.bel⟩
  have HX : Hid (E = if hld 0 a1 A = false then 95 else (if K = 6 then nodesE F n else if 0 < n then 1 else 0)) := by
    show E = _
    rw [HE.out, if_neg (by rw [hq]; decide)]
  clear hq HE
  rename Hid (E = _) => HE
  go_wp2_with fail
  refine (hold_any A 0 a1 _).mono ?_
  rintro e w8 ⟨rfl, hb⟩
  have S8 : Hid _ := S2.out.go hb
  clear hb S2
  rcases hq : hld 0 a1 A with _ | _
  · have HR : Hid (E = 95) := by
      show E = 95
      rw [HE.out, if_pos hq]
    clear hq HE
    go_wp2_with fail
    go_ret
    rw [HR.out]
    exact ⟨rfl, S8.out.bel⟩
  have HX : Hid (E = (if K = 6 then nodesE F n else if 0 < n then 1 else 0)) := by
    show E = _
    rw [HE.out, if_neg (by rw [hq]; decide)]
  clear hq HE
  rename Hid (E = _) => HE
  have y0 := S8.out.cel g 0 (.int .i64 K)
  have y6 := S8.out.cel g 6 (.slice a n cap)
  by_cases h6 : K = 6
  · have HR : Hid (E = nodesE F n) := by
      show E = _
      rw [HE.out, if_pos h6]
    rw [h6] at y0
    clear HE h6
    go_wp2_with fail
    refine (checkNodes_any a n cap F _ (HN.out.go S8.out.bel)).mono ?_
    rintro e w9 ⟨rfl, hb⟩
    have S9 : Hid _ := S8.out.go hb
    clear hb S8
    go_wp2_with fail
    go_ret
    rw [HR.out]
    exact ⟨rfl, S9.out.bel⟩
  have d : (K == 6) = false := by simpa using h6
  by_cases hn : 0 < n
  · have HR : Hid (E = 1) := by
      show E = _
      rw [HE.out, if_neg h6, if_pos hn]
    clear HE h6
    go_wp2_with fail
    go_ret
    rw [HR.out]
    exact ⟨rfl, S8.out.bel⟩
  have HR : Hid (E = 0) := by
    show E = _
    rw [HE.out, if_neg h6, if_neg hn]
  obtain rfl : n = 0 := by omega
  clear HE h6 hn
  go_wp2_with fail
  go_ret
  rw [HR.out]
  exact ⟨rfl, S8.out.bel⟩
def fle (x y : Nat) : Bool := FloatKind.f64.format.order x y == some .lt || FloatKind.f64.format.order x y == some .eq
def hldF (lo hi x : Nat) : Bool := fle lo x && fle x hi
set_option maxHeartbeats 400000 in
theorem withinF_any (x lo hi : Nat) (w : World) : Calls Tryz.prog 45 #[.float .f64 x, .float .f64 lo, .float .f64 hi] w fun e w' => e = .returned (.bool (hldF lo hi x)) ∧ w' = w := by
  rcases h : fle lo x with _ | _
  · have HV : Hid (hldF lo hi x = false) := by show _ = _; rw [hldF, h]; rfl
    have d : (FloatKind.f64.format.order lo x == some .lt || FloatKind.f64.format.order lo x == some .eq) = false := h
    clear h
    go_enter Tryz.func45, Tryz.ntmps45
    go_wp2_with fail
    go_ret
    rw [HV.out]
    exact ⟨rfl, rfl⟩
  have HV : Hid (hldF lo hi x = fle x hi) := by show _ = _; rw [hldF, h]; rfl
  have d : (FloatKind.f64.format.order lo x == some .lt || FloatKind.f64.format.order lo x == some .eq) = true := h
  clear h
  go_enter Tryz.func45, Tryz.ntmps45
  go_wp2_with fail
  go_ret
  rw [HV.out]
  exact ⟨rfl, rfl⟩
def kAt (K : Int) (F : Nat → Nat → Int) (n : Nat) (x : Int) : Int := if K = 6 then kO F n x else K
def okAt (K : Int) (F : Nat → Nat → Int) (n : Nat) (x : Int) : Bool := if K = 6 then (kO F n x != 0 && kO F n x != 6) else (x == 0)
set_option maxHeartbeats 1000000 in
theorem kindAt_any (K R M C Fl A : Int) (a : Option Addr) (n cap : Nat) (F : Nat → Nat → Int) (x : Int) (w : World) (h : NSl w a n cap F) :
    Calls Tryz.prog 44 #[.agg #[.int .i64 K, .int .i64 R, .int .i64 M, .int .i64 C, .int .i64 Fl, .int .i64 A, .slice a n cap], .int .i64 x] w fun e w' => e = .returned (.tuple #[.int .i64 (kAt K F n x), .bool (okAt K F n x)]) ∧ Below w.heap.size w w' := by
  have HN : Hid _ := h
  clear h
  by_cases h6 : K = 6
  · have HV : Hid (kAt K F n x = kO F n x ∧ okAt K F n x = (kO F n x != 0 && kO F n x != 6)) := ⟨if_pos h6, if_pos h6⟩
    rw [HV.out.1, HV.out.2]
    clear HV
    subst h6
    go_enter Tryz.func44, Tryz.ntmps44
    go_wp2_with fail
    refine (kindOf_any a n cap F x _ (HN.out.go (bc_al (bel_refl _)))).mono ?_
    rintro e w1 ⟨rfl, hw⟩
    rw [hw]
    clear hw w1
    obtain ⟨y, hy⟩ : ∃ y, kO F n x = y := ⟨_, rfl⟩
    rw [hy]
    have HY : Hid _ := hy
    clear hy
    by_cases y0 : y = 0
    · subst y0
      go_wp2_with fail
      exact bodyPost_ret (v := .tuple #[.int .i64 0, .bool false]) (by simp [results, Tryz.results44, go_sem]) rfl ⟨by rw [HY.out]; rfl, bc_al (bel_refl _)⟩
    have d : (y != 0) = true := by simpa using y0
    have HD : Hid _ := d
    clear y0
    go_wp2_with fail
    exact bodyPost_ret (v := .tuple #[.int .i64 y, .bool (y != 6)]) (by simp [results, Tryz.results44, go_sem]) rfl ⟨by rw [HY.out, HD.out]; rfl, bc_al (bel_refl _)⟩
  have HV : Hid (kAt K F n x = K ∧ okAt K F n x = (x == 0)) := ⟨if_neg h6, if_neg h6⟩
  rw [HV.out.1, HV.out.2]
  clear HV
  have d : (K != 6) = true := by simpa using h6
  clear h6
  go_enter Tryz.func44, Tryz.ntmps44
  go_wp2_with fail
  exact bodyPost_ret (v := .tuple #[.int .i64 K, .bool (x == 0)]) (by simp [results, Tryz.results44, go_sem]) rfl ⟨rfl, bc_al (bel_refl _)⟩
end Go.Proofs.YtchomkadekikdaaGreatDoor
