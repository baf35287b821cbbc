/- Contracts of the program's functions, part 14: own work, joined in build order. -/
import Derived.Test.YtdobjanhmllloaaDoorJ13
import Derived.Deep.LoopGhost
import Derived.Laws.EntriesVeiled
import Derived.OrdersIn
namespace Go.Proofs.YtdobjanhmllloaaDoor
open Go.RowKit Go.Shelf
set_option maxRecDepth 100000
set_option linter.unusedVariables false
attribute [local go_sem] Oper.semAt_some
theorem wp_then6 {P : Program} {c : Code} {Q : Exit → Act → World → Prop} {K K' : Act → World → Prop} {a : Act} {w : World} (h : c.wp P (Exit.then K' Q) a w) (hk : ∀ a w, K' a w → K a w) : c.wp P (Exit.then K Q) a w :=
  wp_mono h fun x a w hx => by
    cases x with
    | normal => exact hk a w hx
    | ret => exact hx
    | exit id => exact hx
    | goto t => exact hx
    | panic ch => exact hx
    | outgrown => exact hx
theorem list229 (f : Nat → Value) : (List.range 229).map f = [f 0, f 1, f 2, f 3, f 4, f 5, f 6, f 7, f 8, f 9, f 10, f 11, f 12, f 13, f 14, f 15, f 16, f 17, f 18, f 19, f 20, f 21, f 22, f 23, f 24, f 25, f 26, f 27, f 28, f 29, f 30, f 31, f 32, f 33, f 34, f 35, f 36, f 37, f 38, f 39, f 40, f 41, f 42, f 43, f 44, f 45, f 46, f 47, f 48, f 49, f 50, f 51, f 52, f 53, f 54, f 55, f 56, f 57, f 58, f 59, f 60, f 61, f 62, f 63, f 64, f 65, f 66, f 67, f 68, f 69, f 70, f 71, f 72, f 73, f 74, f 75, f 76, f 77, f 78, f 79, f 80, f 81, f 82, f 83, f 84, f 85, f 86, f 87, f 88, f 89, f 90, f 91, f 92, f 93, f 94, f 95, f 96, f 97, f 98, f 99, f 100, f 101, f 102, f 103, f 104, f 105, f 106, f 107, f 108, f 109, f 110, f 111, f 112, f 113, f 114, f 115, f 116, f 117, f 118, f 119, f 120, f 121, f 122, f 123, f 124, f 125, f 126, f 127, f 128, f 129, f 130, f 131, f 132, f 133, f 134, f 135, f 136, f 137, f 138, f 139, f 140, f 141, f 142, f 143, f 144, f 145, f 146, f 147, f 148, f 149, f 150, f 151, f 152, f 153, f 154, f 155, f 156, f 157, f 158, f 159, f 160, f 161, f 162, f 163, f 164, f 165, f 166, f 167, f 168, f 169, f 170, f 171, f 172, f 173, f 174, f 175, f 176, f 177, f 178, f 179, f 180, f 181, f 182, f 183, f 184, f 185, f 186, f 187, f 188, f 189, f 190, f 191, f 192, f 193, f 194, f 195, f 196, f 197, f 198, f 199, f 200, f 201, f 202, f 203, f 204, f 205, f 206, f 207, f 208, f 209, f 210, f 211, f 212, f 213, f 214, f 215, f 216, f 217, f 218, f 219, f 220, f 221, f 222, f 223, f 224, f 225, f 226, f 227, f 228] := rfl
theorem arr229 (t : Array Value) (h : t.size = 229) : ∃ jk : Nat → Value, t = #[jk 0, jk 1, jk 2, jk 3, jk 4, jk 5, jk 6, jk 7, jk 8, jk 9, jk 10, jk 11, jk 12, jk 13, jk 14, jk 15, jk 16, jk 17, jk 18, jk 19, jk 20, jk 21, jk 22, jk 23, jk 24, jk 25, jk 26, jk 27, jk 28, jk 29, jk 30, jk 31, jk 32, jk 33, jk 34, jk 35, jk 36, jk 37, jk 38, jk 39, jk 40, jk 41, jk 42, jk 43, jk 44, jk 45, jk 46, jk 47, jk 48, jk 49, jk 50, jk 51, jk 52, jk 53, jk 54, jk 55, jk 56, jk 57, jk 58, jk 59, jk 60, jk 61, jk 62, jk 63, jk 64, jk 65, jk 66, jk 67, jk 68, jk 69, jk 70, jk 71, jk 72, jk 73, jk 74, jk 75, jk 76, jk 77, jk 78, jk 79, jk 80, jk 81, jk 82, jk 83, jk 84, jk 85, jk 86, jk 87, jk 88, jk 89, jk 90, jk 91, jk 92, jk 93, jk 94, jk 95, jk 96, jk 97, jk 98, jk 99, jk 100, jk 101, jk 102, jk 103, jk 104, jk 105, jk 106, jk 107, jk 108, jk 109, jk 110, jk 111, jk 112, jk 113, jk 114, jk 115, jk 116, jk 117, jk 118, jk 119, jk 120, jk 121, jk 122, jk 123, jk 124, jk 125, jk 126, jk 127, jk 128, jk 129, jk 130, jk 131, jk 132, jk 133, jk 134, jk 135, jk 136, jk 137, jk 138, jk 139, jk 140, jk 141, jk 142, jk 143, jk 144, jk 145, jk 146, jk 147, jk 148, jk 149, jk 150, jk 151, jk 152, jk 153, jk 154, jk 155, jk 156, jk 157, jk 158, jk 159, jk 160, jk 161, jk 162, jk 163, jk 164, jk 165, jk 166, jk 167, jk 168, jk 169, jk 170, jk 171, jk 172, jk 173, jk 174, jk 175, jk 176, jk 177, jk 178, jk 179, jk 180, jk 181, jk 182, jk 183, jk 184, jk 185, jk 186, jk 187, jk 188, jk 189, jk 190, jk 191, jk 192, jk 193, jk 194, jk 195, jk 196, jk 197, jk 198, jk 199, jk 200, jk 201, jk 202, jk 203, jk 204, jk 205, jk 206, jk 207, jk 208, jk 209, jk 210, jk 211, jk 212, jk 213, jk 214, jk 215, jk 216, jk 217, jk 218, jk 219, jk 220, jk 221, jk 222, jk 223, jk 224, jk 225, jk 226, jk 227, jk 228] ∧ ∀ i, t.getD i undef = jk i := by
  refine ⟨fun i => t.getD i undef, ?_, fun i => rfl⟩
  have e : t = ((List.range 229).map fun i => t.getD i undef).toArray := by
    refine Array.ext (by simp [h]) fun i h1 h2 => ?_
    simp [h1]
  rw [list229] at e
  exact e
section
variable (w : World) (sb lb nn : Nat) (l0 : Int) (gw b : Nat) (a : Option Addr) (L0 cap0 : Nat)
def In6 (i : Nat) (ac : Act) (W : World) : Prop :=
  ∃ (xs : List (Option Int × Int)) (gs : List (Int × Int)) (vg vh : Value) (Ds : List Nat), ac.tmps.size = 229 ∧ ac.defers = mks6 Ds ∧ i ≤ L0 ∧ i ≤ 300 ∧ gs.length ≤ i ∧ ac.tmps.getD 0 undef = .int .i64 (nn : Int) ∧ ac.tmps.getD 1 undef = .int .i64 l0 ∧ ac.tmps.getD 2 undef = .slice a L0 cap0 ∧ ac.tmps.getD 6 undef = .bool false ∧ ac.tmps.getD 7 undef = .pointer (some ⟨sb, 0, none⟩) ∧ ac.tmps.getD 9 undef = .pointer (some ⟨gw, 0, none⟩) ∧ ac.tmps.getD 11 undef = vg ∧ ac.tmps.getD 12 undef = vh ∧ ac.tmps.getD 13 undef = .int .i64 (i : Int) ∧ Lp6 w W sb lb nn l0 xs xs gw b nn gs vg vh Ds
def Mt6 (i : Nat) (xs : List (Option Int × Int)) (gs : List (Int × Int)) (vg vh : Value) (Ds : List Nat) (y0 y1 y2 y3 y4 : Int) (ac : Act) (W : World) : Prop :=
  ∃ (p : Nat) (hs hg : Int), ac.tmps.size = 229 ∧ ac.defers = mks6 Ds ∧ ac.tmps.getD 0 undef = .int .i64 (nn : Int) ∧ ac.tmps.getD 1 undef = .int .i64 l0 ∧ ac.tmps.getD 2 undef = .slice a L0 cap0 ∧ ac.tmps.getD 6 undef = .bool false ∧ ac.tmps.getD 7 undef = .pointer (some ⟨sb, 0, none⟩) ∧ ac.tmps.getD 9 undef = .pointer (some ⟨gw, 0, none⟩) ∧ ac.tmps.getD 11 undef = vg ∧ ac.tmps.getD 12 undef = vh ∧ ac.tmps.getD 13 undef = .int .i64 (i : Int) ∧ ac.tmps.getD 14 undef = .pointer (some ⟨p, 0, none⟩) ∧ ac.tmps.getD 15 undef = .pointer (some ⟨(p + 1), 0, none⟩) ∧ Lp6 w W sb lb nn l0 xs xs gw b nn gs vg vh Ds ∧ W.heap[p]? = some (.cells #[.int .i64 y0, .int .i64 y1, .int .i64 y2, .int .i64 y3, .int .i64 y4] 40) ∧ W.heap[p + 1]? = some (.cells #[.int .i64 hs, .int .i64 hg] 38)
def Tl6 (i : Nat) (ac : Act) (W : World) : Prop :=
  ∃ (xs : List (Option Int × Int)) (gs : List (Int × Int)) (vg vh : Value) (Ds : List Nat), ac.tmps.size = 229 ∧ ac.defers = mks6 Ds ∧ gs.length ≤ i + 1 ∧ ac.tmps.getD 0 undef = .int .i64 (nn : Int) ∧ ac.tmps.getD 1 undef = .int .i64 l0 ∧ ac.tmps.getD 2 undef = .slice a L0 cap0 ∧ ac.tmps.getD 6 undef = .bool false ∧ ac.tmps.getD 7 undef = .pointer (some ⟨sb, 0, none⟩) ∧ ac.tmps.getD 9 undef = .pointer (some ⟨gw, 0, none⟩) ∧ ac.tmps.getD 11 undef = vg ∧ ac.tmps.getD 12 undef = vh ∧ ac.tmps.getD 13 undef = .int .i64 (i : Int) ∧ ac.tmps.getD 16 undef = .bool true ∧ Lp6 w W sb lb nn l0 xs xs gw b nn gs vg vh Ds
end
structure St32 (w : World) (sb lb nn : Nat) (l0 : Int) (xs xs1 : List (Option Int × Int)) (gw b : Nat) (gs : List (Int × Int)) (vg vh : Value) (Ds : List Nat) (p : Nat) (st : Array Value) (hs hg : Int) (L : Nat → Bool) (w' : World) : Prop where
  lp : Lp6 w w' sb lb nn l0 (if L 4 then xs1 else xs) (if L 8 then xs1 else xs) gw b nn gs vg vh Ds
  bx : w'.heap[p]? = some (.cells st 40)
  by' : w'.heap[p + 1]? = some (.cells #[.int .i64 hs, .int .i64 hg] 38)
  ch : L 8 = true → L 4 = true
theorem St32.step {w : World} {sb lb nn : Nat} {l0 : Int} {xs xs1 : List (Option Int × Int)} {gw b : Nat} {gs : List (Int × Int)} {vg vh : Value} {Ds : List Nat} {p : Nat} {st : Array Value} {hs hg : Int} {L : Nat → Bool} {w' : World} (h : St32 w sb lb nn l0 xs xs1 gw b gs vg vh Ds p st hs hg L w') {j : Nat} (h4 : j ≠ 4) (h8 : j ≠ 8) : St32 w sb lb nn l0 xs xs1 gw b gs vg vh Ds p st hs hg (updB L j) w' := by
  have e4 : updB L j 4 = L 4 := updB_ne (Ne.symm h4)
  have e8 : updB L j 8 = L 8 := updB_ne (Ne.symm h8)
  exact ⟨by rw [e4, e8]; exact h.lp, h.bx, h.by', by rw [e4, e8]; exact h.ch⟩
set_option maxHeartbeats 16000000 in
theorem plays6_any (w : World) (n0 l0 : Int) (a : Option Addr) (L0 cap0 : Nat) (F : Nat → Nat → Int) (hs : SSl w a L0 cap0 F) (hT : Tab w) :
    Calls Tryd.prog 3 #[.int .i64 n0, .int .i64 l0, .slice a L0 cap0] w fun e w' => e = .returned (.bool true) ∧ Below w.heap.size w w' := by
  have HSS : Hid (SSl w a L0 cap0 F ∧ Tab w) := ⟨hs, hT⟩
  have hle := hs.le
  have hlim := hs.lim
  clear hs hT
  refine (callsIn_wide (n := 9)).1 ?_
  refine callsIn_of_wp_marks Tryd.func3 rfl trivial ?_ rfl
  refine wpIn_wide.2 ?_
  simp only [Tryd.ntmps3, List.size_toArray, List.length_cons, List.length_nil, Nat.reduceAdd, Nat.reduceSub, Array.replicate_succ, Array.replicate_zero, List.push_toArray, List.append_toArray, List.nil_append, List.cons_append]
  go_wp2_with fail
  refine Calls.mono (told_any w HSS.out.2) ?_
  rintro e w1 ⟨rfl, hB1⟩
  have H1 : Hid (Below w.heap.size w w1) := hB1
  clear hB1
  by_cases hok : newOk6 n0 l0
  · obtain ⟨nn, rfl⟩ : ∃ nn : Nat, n0 = (nn : Int) := ⟨n0.toNat, by unfold newOk6 at hok; omega⟩
    have hok2 := hok
    unfold newOk6 at hok2
    go_wp2_with fail
    refine Calls.mono (newV_yes nn l0 w1 (by omega) (by omega) (by omega) (by omega)) ?_
    rintro e w2 ⟨sb, rfl, q1, q2⟩
    have H2 : Hid (SlV w2 sb w1.heap.size nn l0 0 [] ∧ Below w1.heap.size w1 w2) := ⟨q1, q2⟩
    clear q1 q2
    go_wp2_with fail
    refine Calls.mono (rnew6_yes nn l0 w2 hok) ?_
    rintro e w3 ⟨b, rfl, q1, q2, q3⟩
    obtain ⟨W4, hW4⟩ : ∃ W4, W4 = w3.alloc (.cells #[.slice (some ⟨b, 0, none⟩) nn nn, .int .i64 l0] 30) := ⟨_, rfl⟩
    obtain ⟨gw, egw⟩ : ∃ gw, gw = w3.heap.size := ⟨_, rfl⟩
    obtain ⟨lb, elb⟩ : ∃ lb, lb = w1.heap.size := ⟨_, rfl⟩
    have BQ : Bq W4 sb lb nn l0 [] [] gw b nn := by
      have B34 : Below w3.heap.size w3 W4 := by rw [hW4]; exact bx_al (Below.refl _ _)
      have B24 : Below w2.heap.size w2 W4 := bx_go q3 B34
      rw [elb]
      refine ⟨⟨0, H2.out.1.mono B24⟩, ?_, by rw [hW4, egw]; exact ax_at _ _, ⟨w1, rfl, HSS.out.2.go H1.out, bx_go H2.out.2 B24⟩, ?_⟩
      · have e : tbT [] = fun _ => ((0, false, 0) : Int × Bool × Int) := by funext i; simp [tbT]
        rw [e]
        exact q1.go B34
      have := H2.out.2.size
      have := q3.size
      omega
    have LB : Hid (w.heap.size ≤ lb ∧ Below w.heap.size w W4) := by
      refine ⟨by rw [elb]; exact H1.out.size, ?_⟩
      rw [hW4]
      exact bx_al (bx_go H1.out (bx_go H2.out.2 q3))
    have HQ : Hid (Bq W4 sb lb nn l0 [] [] gw b nn) := BQ
    have HW4 : Hid (w3.alloc (.cells #[.slice (some ⟨b, 0, none⟩) nn nn, .int .i64 l0] 30) = W4 ∧ w3.heap.size = gw) := ⟨hW4.symm, egw.symm⟩
    clear q1 q2 q3 BQ hW4 egw elb
    go_wp2_with fail
    rw [HW4.out.1, HW4.out.2]
    refine Calls.mono (sallV_any sb W4) ?_
    rintro e w5 ⟨rfl, rfl⟩
    have L5 : Lp6 w (W4.alloc (.cells #[.pointer (some ⟨sb, 0, none⟩)] 24)) sb lb nn l0 [] [] gw b nn [] (.slice none 0 0) (.func (.func 28) #[] #[.pointer (some ⟨W4.heap.size, 0, none⟩)]) [] := by
      have B45 : Below W4.heap.size W4 (W4.alloc (.cells #[.pointer (some ⟨sb, 0, none⟩)] 24)) := bx_al (Below.refl _ _)
      exact ⟨HQ.out.below B45, bx_go LB.out.2 B45, Hw.nil _ _, ⟨_, rfl, ax_at _ _⟩, ⟨List.nodup_nil, fun D hD => by cases hD⟩, LB.out.1⟩
    have HL5 : Hid _ := L5
    clear L5
    generalize W4.alloc (.cells #[.pointer (some ⟨sb, 0, none⟩)] 24) = W5 at HL5 ⊢
    generalize (Value.func (.func 28) #[] #[.pointer (some ⟨W4.heap.size, 0, none⟩)]) = vh at HL5 ⊢
    clear HQ LB HW4 H2
    go_wp2_with fail
    refine wp_loop (fun ac W => ∃ i, In6 w sb lb nn l0 gw b a L0 cap0 i ac W) (fun ac _ => 300 - (intOf (ac.tmps.getD 13 undef)).toNat) ⟨0, [], [], .slice none 0 0, vh, [], rfl, rfl, Nat.zero_le _, Nat.zero_le _, Nat.le_refl _, rfl, rfl, rfl, rfl, rfl, rfl, rfl, rfl, rfl, HL5.out⟩ ?_
    clear HL5
    rintro ac0 W6 ⟨i, hI⟩
    have hmu : (intOf (ac0.tmps.getD 13 undef)).toNat = i := by
      obtain ⟨xs, gs, vg, vh, Ds, hz, hdf, hi1, hi2, hi3, e0, e1, e2, e6, e7, e9, e11, e12, e13, hL⟩ := hI
      rw [e13]
      simp [intOf]
    refine wp_then6 (K' := fun ac W => In6 w sb lb nn l0 gw b a L0 cap0 (i + 1) ac W) ?_ (fun ac W h9 => ?_)
    rotate_left
    · refine ⟨⟨i + 1, h9⟩, ?_⟩
      obtain ⟨xs, gs, vg, vh, Ds, hz, hdf, hi1, hi2, hi3, e0, e1, e2, e6, e7, e9, e11, e12, e13, hL⟩ := h9
      rw [e13, hmu]
      simp [intOf]
      omega
    obtain ⟨xs, gs, vg, vh, Ds, hz, hdf, hi1, hi2, hi3, e0, e1, e2, e6, e7, e9, e11, e12, e13, hL⟩ := hI
    obtain ⟨tm, df⟩ := ac0
    obtain ⟨jk, ej, hj⟩ := arr229 tm hz
    simp only at hdf
    simp only [hj] at e0 e1 e2 e6 e7 e9 e11 e12 e13
    rw [ej, hdf]
    simp only [e0, e1, e2, e6, e7, e9, e11, e12, e13]
    clear ej hj hz e0 e1 e2 e6 e7 e9 e11 e12 e13 hdf hmu
    have hxn := hL.bq.facts.1
    have HL : Hid (Lp6 w W6 sb lb nn l0 xs xs gw b nn gs vg vh Ds ∧ gs.length ≤ i) := ⟨hL, hi3⟩
    clear hL
    by_cases hlt : i < L0 ∧ i < 300
    · have hb1 : (i : Int) < (L0 : Int) := by omega
      have hb2 : (i : Int) < 300 := by omega
      obtain ⟨s0, s1, rfl, hcs⟩ : ∃ b o, a = some ⟨b, o, none⟩ ∧ ∀ i j, i < L0 → j < 5 → w.cell? ⟨b, o + i * 5 + j, none⟩ = some (.int .i64 (F i j)) := by
        rcases HSS.out.1.at' with e | h
        · omega
        exact h
      obtain ⟨y0, ey0⟩ : ∃ y0, y0 = F i 0 := ⟨_, rfl⟩
      obtain ⟨y1, ey1⟩ : ∃ y1, y1 = F i 1 := ⟨_, rfl⟩
      obtain ⟨y2, ey2⟩ : ∃ y2, y2 = F i 2 := ⟨_, rfl⟩
      obtain ⟨y3, ey3⟩ : ∃ y3, y3 = F i 3 := ⟨_, rfl⟩
      obtain ⟨y4, ey4⟩ : ∃ y4, y4 = F i 4 := ⟨_, rfl⟩
      have hw6 := HL.out.1.bel
      have d0 : W6.cell? ⟨s0, s1 + i * 5, none⟩ = some (.int .i64 y0) := by rw [ey0]; exact bx_cell hw6 (hcs i 0 hlt.1 (by omega))
      have d1 : W6.cell? ⟨s0, s1 + i * 5 + 1, none⟩ = some (.int .i64 y1) := by rw [ey1]; exact bx_cell hw6 (hcs i 1 hlt.1 (by omega))
      have d2 : W6.cell? ⟨s0, s1 + i * 5 + 2, none⟩ = some (.int .i64 y2) := by rw [ey2]; exact bx_cell hw6 (hcs i 2 hlt.1 (by omega))
      have d3 : W6.cell? ⟨s0, s1 + i * 5 + 3, none⟩ = some (.int .i64 y3) := by rw [ey3]; exact bx_cell hw6 (hcs i 3 hlt.1 (by omega))
      have d4 : W6.cell? ⟨s0, s1 + i * 5 + 4, none⟩ = some (.int .i64 y4) := by rw [ey4]; exact bx_cell hw6 (hcs i 4 hlt.1 (by omega))
      have hwf : (-9223372036854775808 ≤ y1 ∧ y1 ≤ 9223372036854775807) := by rw [ey1]; exact HSS.out.1.wf i 1 hlt.1 (by omega)
      obtain ⟨p, ep⟩ : ∃ p, p = W6.heap.size := ⟨_, rfl⟩
      obtain ⟨W7, hW7⟩ : ∃ W7, W7 = (W6.alloc (.cells #[.int .i64 y0, .int .i64 y1, .int .i64 y2, .int .i64 y3, .int .i64 y4] 40)).alloc (.cells #[.int .i64 y2, .int .i64 y3] 38) := ⟨_, rfl⟩
      have HW7 : Hid ((W6.alloc (.cells #[.int .i64 y0, .int .i64 y1, .int .i64 y2, .int .i64 y3, .int .i64 y4] 40)).alloc (.cells #[.int .i64 y2, .int .i64 y3] 38) = W7 ∧ W6.heap.size = p) := ⟨hW7.symm, ep.symm⟩
      have B7 : Below W6.heap.size W6 W7 := by rw [hW7]; exact bx_al (bx_al (Below.refl _ _))
      have x14 : W7.heap[p]? = some (.cells #[.int .i64 y0, .int .i64 y1, .int .i64 y2, .int .i64 y3, .int .i64 y4] 40) := by rw [hW7, ep]; exact (Below.heap_alloc _ _ _ (by simp)).trans (ax_at _ _)
      have x15 : W7.heap[p + 1]? = some (.cells #[.int .i64 y2, .int .i64 y3] 38) := by
        rw [hW7, ep]
        have := ax_at (W6.alloc (.cells #[.int .i64 y0, .int .i64 y1, .int .i64 y2, .int .i64 y3, .int .i64 y4] 40)) (.cells #[.int .i64 y2, .int .i64 y3] 38)
        rw [World.size_alloc] at this
        exact this
      have HX : Hid (Lp6 w W7 sb lb nn l0 xs xs gw b nn gs vg vh Ds ∧ W7.heap[p]? = some (.cells #[.int .i64 y0, .int .i64 y1, .int .i64 y2, .int .i64 y3, .int .i64 y4] 40) ∧ W7.heap[p + 1]? = some (.cells #[.int .i64 y2, .int .i64 y3] 38) ∧ lb ≤ p) := ⟨HL.out.1.below B7, x14, x15, by rw [ep]; exact HL.out.1.bq.tb.le⟩
      have HVG : Hid (∀ k, vg.ownBlock = some k → k < p) := fun k hk => by
        obtain ⟨_, cs, e⟩ := HL.out.1.gv.own hk
        rw [ep]
        exact (Array.getElem?_eq_some_iff.1 e).1
      have k1 : W7.cell? ⟨p, 1, none⟩ = some (.int .i64 y1) := by simp [World.cell?, x14]
      clear hcs hw6 hW7 ep B7 x14 x15 ey0 ey1 ey2 ey3 ey4
      go_upto_region 16 with fail
      rw [HW7.out.1, HW7.out.2]
      clear d0 d1 d2 d3 d4
      rename_i Kr hKr Kc hKc
      have MEET : Hid (∀ ac W, Mt6 w sb lb nn l0 gw b (some ⟨s0, s1, none⟩) L0 cap0 i xs gs vg vh Ds y0 y1 y2 y3 y4 ac W → Kr ac W) := by
        clear hKc Kc k1 HX HW7
        rintro ⟨tm, df⟩ W8 ⟨p, hs, hg, hz, hdf, e0, e1, e2, e6, e7, e9, e11, e12, e13, e14, e15, hL, x14, x15⟩
        obtain ⟨jk, ej, hj⟩ := arr229 tm hz
        simp only at hdf
        simp only [hj] at e0 e1 e2 e6 e7 e9 e11 e12 e13 e14 e15
        rw [ej, hdf]
        simp only [e0, e1, e2, e6, e7, e9, e11, e12, e13, e14, e15]
        clear ej hj hz e0 e1 e2 e6 e7 e9 e11 e12 e13 e14 e15 hdf
        refine hKr _ _ ?_
        clear hKr
        have HM : Hid (Lp6 w W8 sb lb nn l0 xs xs gw b nn gs vg vh Ds ∧ W8.heap[p]? = some (.cells #[.int .i64 y0, .int .i64 y1, .int .i64 y2, .int .i64 y3, .int .i64 y4] 40) ∧ W8.heap[p + 1]? = some (.cells #[.int .i64 hs, .int .i64 hg] 38) ∧ gs.length ≤ i) := ⟨hL, x14, x15, HL.out.2⟩
        have k0 : W8.cell? ⟨p, 0, none⟩ = some (.int .i64 y0) := by simp [World.cell?, x14]
        clear HL hL x14 x15
        go_upto_region 19 with fail
        rename_i Kt hKt Ks hKs
        have hnn : nn ≤ 65536 := by omega
        have TAIL : Hid (∀ ac W, Tl6 w sb lb nn l0 gw b (some ⟨s0, s1, none⟩) L0 cap0 i ac W → Kt ac W) := by
          clear hKs Ks k0 HM
          rintro ⟨tm, df⟩ W9 ⟨xs, gs, vg, vh, Ds, hz, hdf, hgl, e0, e1, e2, e6, e7, e9, e11, e12, e13, e16, hL⟩
          obtain ⟨jk, ej, hj⟩ := arr229 tm hz
          simp only at hdf
          simp only [hj] at e0 e1 e2 e6 e7 e9 e11 e12 e13 e16
          rw [ej, hdf]
          simp only [e0, e1, e2, e6, e7, e9, e11, e12, e13, e16]
          clear ej hj hz e0 e1 e2 e6 e7 e9 e11 e12 e13 e16 hdf
          refine hKt _ _ ?_
          clear hKt
          have hxn := hL.bq.facts.1
          obtain ⟨cnt, hsl⟩ := hL.bq.sl
          obtain ⟨Lx, eL⟩ : ∃ Lx, Lx = allL (tbT xs) xs.length := ⟨_, rfl⟩
          obtain rfl : cnt = Lx.length := by rw [eL]; exact hsl.facts.2.2.2.1
          obtain ⟨c0, c1, cl⟩ := hL.bq.cells
          have HT : Hid (Lp6 w W9 sb lb nn l0 xs xs gw b nn gs vg vh Ds ∧ SlV W9 sb lb nn l0 Lx.length xs ∧ Lx = allL (tbT xs) nn) := ⟨hL, hsl, by rw [allL_n xs nn hxn]; exact eL⟩
          clear hL hsl eL
          go_upto_region 50 with fail
          refine (wpIn_wide (n := 9)).1 ?_
          refine wpIn_region_inv (Jm (fun _ w' => Below W9.heap.size W9 w') (Rk [.bool true, .bool false, .bool false, .pointer (some ⟨sb, 0, none⟩), .int .i64 (Lx.length : Int), .agg #[.slice (some ⟨b, 0, none⟩) nn nn, .int .i64 l0], undef, .int .i64 (Lx.length : Int), .bool false, .bool false] 6 W9.heap.size Lx)) 229 (by kernel_rfl) rfl (by kernel_rfl) ⟨bx_drew (Below.refl _ _) 1, fun _ h => by cases h⟩ (fun _ _ => ⟨?_, ?_, ?_, ?_, ?_, ?_, ?_, ?_, ?_, ?_, trivial⟩) ?_
          · intro L vs a9 w' hJ hF hP hL
            have q16 : (a9.tmps[16]?).getD undef = .bool true := hF.old 16 rfl
            exact run_valW (v := .bool true) rfl (fun c h => by cases h) (by simp [execOp, go_sem, q16]) ⟨_, rfl, hJ.step hJ.st (fun _ _ h => h) (Rk.mk (by decide) rfl)⟩
          · intro L vs a9 w' hJ hF hP hL
            have p0 : L 0 = true := hP ⟨0, .data⟩ (by simp) rfl
            have s215 := hF.slot 0 215 rfl p0
            rw [(hJ.val 0 p0).at (by decide)] at s215
            simp only [List.getD_cons_zero] at s215
            exact run_valW (v := .bool false) rfl (fun c h => by cases h) (by simp [execOp, go_sem, s215]) ⟨_, rfl, hJ.step hJ.st (fun _ _ h => h) (Rk.mk (by decide) rfl)⟩
          · intro L vs a9 w' hJ hF hP hL
            have p1 : L 1 = true := hP ⟨1, .data⟩ (by simp) rfl
            have s216 := hF.slot 1 216 rfl p1
            rw [(hJ.val 1 p1).at (by decide)] at s216
            simp only [List.getD_cons_zero, List.getD_cons_succ] at s216
            exact run_valW (v := .bool false) rfl (fun c h => by cases h) (by simp [execOp, go_sem, s216]) ⟨_, rfl, hJ.step hJ.st (fun _ _ h => h) (Rk.mk (by decide) rfl)⟩
          · intro L vs a9 w' hJ hF hP hL
            have q7 : (a9.tmps[7]?).getD undef = .pointer (some ⟨sb, 0, none⟩) := hF.old 7 rfl
            have pg : L 2 = true := hP ⟨2, .guard⟩ (by simp) rfl
            have sg := hF.slot 2 217 rfl pg
            rw [(hJ.val 2 pg).at (by decide)] at sg
            simp only [List.getD_cons_zero, List.getD_cons_succ] at sg
            exact run_valW (v := .pointer (some ⟨sb, 0, none⟩)) (wanted_of rfl rfl sg) (fun c h => by cases h) (by simp [execOp, go_sem, q7]) ⟨_, rfl, hJ.step hJ.st (fun _ _ h => h) (Rk.mk (by decide) rfl)⟩
          · intro L vs a9 w' hJ hF hP hL
            have p3 : L 3 = true := hP ⟨3, .data⟩ (by simp) rfl
            have s218 := hF.slot 3 218 rfl p3
            rw [(hJ.val 3 p3).at (by decide)] at s218
            simp only [List.getD_cons_zero, List.getD_cons_succ] at s218
            have pg : L 2 = true := hP ⟨2, .guard⟩ (by simp) rfl
            have sg := hF.slot 2 217 rfl pg
            rw [(hJ.val 2 pg).at (by decide)] at sg
            simp only [List.getD_cons_zero, List.getD_cons_succ] at sg
            refine run_callW (f := 21) (args := #[.pointer (some ⟨sb, 0, none⟩)]) (wanted_of rfl rfl sg) (fun c h => by cases h) (by simp [go_sem, s218]) (lenV_any (HT.out.2.1.mono hJ.st)) ?_
            rintro e w2 ⟨rfl, rfl⟩
            exact ⟨_, rfl, _, rfl, hJ.step hJ.st (fun _ _ h => h) (Rk.mk (by decide) rfl)⟩
          · intro L vs a9 w' hJ hF hP hL
            have q9 : (a9.tmps[9]?).getD undef = .pointer (some ⟨gw, 0, none⟩) := hF.old 9 rfl
            have pg : L 2 = true := hP ⟨2, .guard⟩ (by simp) rfl
            have sg := hF.slot 2 217 rfl pg
            rw [(hJ.val 2 pg).at (by decide)] at sg
            simp only [List.getD_cons_zero, List.getD_cons_succ] at sg
            have c0' := bx_cell hJ.st c0
            have c1' := bx_cell hJ.st c1
            exact run_valW (v := .agg #[.slice (some ⟨b, 0, none⟩) nn nn, .int .i64 l0]) (wanted_of rfl rfl sg) (fun c h => by cases h) (by simp [execOp, go_sem, q9, c0', c1']) ⟨_, rfl, hJ.step hJ.st (fun _ _ h => h) (Rk.mk (by decide) rfl)⟩
          · intro L vs a9 w' hJ hF hP hL
            have p5 : L 5 = true := hP ⟨5, .data⟩ (by simp) rfl
            have s220 := hF.slot 5 220 rfl p5
            rw [(hJ.val 5 p5).at (by decide)] at s220
            simp only [List.getD_cons_zero, List.getD_cons_succ] at s220
            have pg : L 2 = true := hP ⟨2, .guard⟩ (by simp) rfl
            have sg := hF.slot 2 217 rfl pg
            rw [(hJ.val 2 pg).at (by decide)] at sg
            simp only [List.getD_cons_zero, List.getD_cons_succ] at sg
            refine run_callW (f := 18) (args := #[.agg #[.slice (some ⟨b, 0, none⟩) nn nn, .int .i64 l0]]) (wanted_of rfl rfl sg) (fun c h => by cases h) (by simp [go_sem, s220]) (rall6_any b nn nn (tbT xs) l0 w' (HT.out.1.bq.dr.go hJ.st) hnn) ?_
            rintro e w2 ⟨v, rfl, hp, hB⟩
            rw [← HT.out.2.2] at hp
            exact ⟨_, rfl, _, rfl, hJ.step (bx_go hJ.st hB) (fun _ _ h => h.mono hB) (Rk.mkr (hp.low hJ.st.size))⟩
          · intro L vs a9 w' hJ hF hP hL
            have p6 : L 6 = true := hP ⟨6, .data⟩ (by simp) rfl
            have s221 := hF.slot 6 221 rfl p6
            obtain ⟨ar, cr, er, _⟩ := (hJ.val 6 p6).row.sl
            rw [er] at s221
            have pg : L 2 = true := hP ⟨2, .guard⟩ (by simp) rfl
            have sg := hF.slot 2 217 rfl pg
            rw [(hJ.val 2 pg).at (by decide)] at sg
            simp only [List.getD_cons_zero, List.getD_cons_succ] at sg
            exact run_valW (v := .int .i64 (Lx.length : Int)) (wanted_of rfl rfl sg) (fun c h => by cases h) (by simp [go_sem, s221]) ⟨_, rfl, hJ.step hJ.st (fun _ _ h => h) (Rk.mk (by decide) rfl)⟩
          · intro L vs a9 w' hJ hF hP hL
            have p4 : L 4 = true := hP ⟨4, .data⟩ (by simp) rfl
            have s219 := hF.slot 4 219 rfl p4
            rw [(hJ.val 4 p4).at (by decide)] at s219
            simp only [List.getD_cons_zero, List.getD_cons_succ] at s219
            have p7 : L 7 = true := hP ⟨7, .data⟩ (by simp) rfl
            have s222 := hF.slot 7 222 rfl p7
            rw [(hJ.val 7 p7).at (by decide)] at s222
            simp only [List.getD_cons_zero, List.getD_cons_succ] at s222
            have pg : L 2 = true := hP ⟨2, .guard⟩ (by simp) rfl
            have sg := hF.slot 2 217 rfl pg
            rw [(hJ.val 2 pg).at (by decide)] at sg
            simp only [List.getD_cons_zero, List.getD_cons_succ] at sg
            exact run_valW (v := .bool false) (wanted_of rfl rfl sg) (fun c h => by cases h) (by simp [execOp, go_sem, s219, s222]) ⟨_, rfl, hJ.step hJ.st (fun _ _ h => h) (Rk.mk (by decide) rfl)⟩
          · intro L vs a9 w' hJ hF hP hL
            have p2 : L 2 = true := hP ⟨2, .data⟩ (by simp) rfl
            have s217 := hF.slot 2 217 rfl p2
            rw [(hJ.val 2 p2).at (by decide)] at s217
            simp only [List.getD_cons_zero, List.getD_cons_succ] at s217
            have p8 : L 8 = true := hP ⟨8, .data⟩ (by simp) rfl
            have s223 := hF.slot 8 223 rfl p8
            rw [(hJ.val 8 p8).at (by decide)] at s223
            simp only [List.getD_cons_zero, List.getD_cons_succ] at s223
            exact run_valW (v := .bool false) rfl (fun c h => by cases h) (by simp [execOp, go_sem, s217, s223]) ⟨_, rfl, hJ.step hJ.st (fun _ _ h => h) (Rk.mk (by decide) rfl)⟩
          intro L vs w' hA hJ
          have u9 := (hJ.val 9 (hA 9 (by decide))).at (by decide)
          simp only [List.getD_cons_zero, List.getD_cons_succ] at u9
          have H9 : Hid (Lp6 w w' sb lb nn l0 xs xs gw b nn gs vg vh Ds) := HT.out.1.below hJ.st
          simp only [putL, Act.put, List.setIfInBounds_toArray, List.set_cons_zero, List.set_cons_succ, Nat.reduceAdd]
          simp only [u9]
          clear u9 hJ hA HT c0 c1 cl
          generalize vs = vs0
          have w5 : IntKind.i64.wrap ((i : Int) + 1) = (i : Int) + 1 := by rw [IntKind.wrap_i64]; omega
          go_wp2_with fail
          exact ⟨xs, gs, vg, vh, Ds, rfl, rfl, by omega, by omega, by omega, rfl, rfl, rfl, rfl, rfl, rfl, rfl, rfl, rfl, H9.out⟩
        clear hKt
        have k4 : W8.cell? ⟨p, 4, none⟩ = some (.int .i64 y4) := by simp [World.cell?, HM.out.2.1]
        have h0 : W8.cell? ⟨p + 1, 0, none⟩ = some (.int .i64 hs) := by simp [World.cell?, HM.out.2.2.1]
        have h1 : W8.cell? ⟨p + 1, 1, none⟩ = some (.int .i64 hg) := by simp [World.cell?, HM.out.2.2.1]
        have lp0 : p < W8.heap.size := (Array.getElem?_eq_some_iff.1 HM.out.2.1).1
        have lp1 : p + 1 < W8.heap.size := (Array.getElem?_eq_some_iff.1 HM.out.2.2.1).1
        have hgi := HM.out.2.2.2
        by_cases e0 : y0 = 0
        · subst e0
          obtain ⟨cnt, hsl⟩ := HM.out.1.bq.sl
          have PT : Hid _ := sput6 hsl HM.out.1.bq.tb.tab y4
          have GE : Hid (∀ i, i < nn → -9223372036854775808 ≤ (tbT xs i).1) := fun i _ => tb_ge _ hsl.gens i
          have hl1 : 1 ≤ l0 := by omega
          clear hsl
          go_wp2_with fail
          refine Calls.mono PT.out ?_
          rintro e w3 ⟨rfl, q1, q2⟩
          obtain ⟨pS, eS⟩ : ∃ pS, pS = putS6 (tbT xs) nn l0 := ⟨_, rfl⟩
          obtain ⟨pG, eG⟩ : ∃ pG, pG = putG6 (tbT xs) nn l0 := ⟨_, rfl⟩
          obtain ⟨pE, eE⟩ : ∃ pE, pE = putE6 (tbT xs) nn l0 := ⟨_, rfl⟩
          rw [← eS, ← eG, ← eE]
          have a3 := HM.out.1.ft q2.ft q1
          have x3 : w3.heap[p]? = _ := (q2.ft.blk HM.out.2.1 (by unfold isSV; decide)).trans HM.out.2.1
          have k4' : w3.cell? ⟨p, 4, none⟩ = some (.int .i64 y4) := by simp [World.cell?, x3]
          have l3 : p < w3.heap.size := (Array.getElem?_eq_some_iff.1 x3).1
          obtain ⟨W3, hW3⟩ : ∃ W3, W3 = w3.alloc (.cells #[.int .i64 pS, .int .i64 pG] 38) := ⟨_, rfl⟩
          obtain ⟨q3, eq3⟩ : ∃ q3, q3 = w3.heap.size := ⟨_, rfl⟩
          have B3 : Below w3.heap.size w3 W3 := by rw [hW3]; exact bx_al (Below.refl _ _)
          have xq : W3.heap[q3]? = some (.cells #[.int .i64 pS, .int .i64 pG] 38) := by rw [hW3, eq3]; exact ax_at _ _
          have A3 := a3.below B3
          have RP := rput6_any gw b nn nn (tbT xs) l0 y4 W3 A3.bq.dr A3.bq.cells.1 A3.bq.cells.2.1 A3.bq.ne hnn (by omega) GE.out
          rw [← eS, ← eG, ← eE] at RP
          have HRP : Hid _ := RP
          have HW3 : Hid (w3.alloc (.cells #[.int .i64 pS, .int .i64 pG] 38) = W3 ∧ w3.heap.size = q3) := ⟨hW3.symm, eq3.symm⟩
          have H3 : Hid (_ ∧ _) := ⟨A3, xq⟩
          clear q1 q2 a3 x3 B3 xq A3 RP PT hW3 eq3 k4 h0 h1 lp0 lp1 GE eS eG eE
          go_wp2_with fail
          rw [HW3.out.1, HW3.out.2]
          refine Calls.mono HRP.out ?_
          rintro e w4 ⟨rfl, q1, q2⟩
          rw [put_tb _ nn l0 y4 hl1] at q1
          have A4 := H3.out.1.od q2 q1
          have x4 : w4.heap[q3]? = some (.cells #[.int .i64 pS, .int .i64 pG] 38) := (q2.block q3 (Array.getElem?_eq_some_iff.1 H3.out.2).1 (H3.out.1.bq.neb H3.out.2 fun cs e => by cases e)).trans H3.out.2
          have m0 : w4.cell? ⟨q3, 0, none⟩ = some (.int .i64 pS) := by simp [World.cell?, x4]
          have m1 : w4.cell? ⟨q3, 1, none⟩ = some (.int .i64 pG) := by simp [World.cell?, x4]
          have l4 : q3 < w4.heap.size := (Array.getElem?_eq_some_iff.1 x4).1
          have B4 : Below w4.heap.size w4 (w4.alloc (.cells #[.int .i64 pS, .int .i64 pG] 38)) := bx_al (Below.refl _ _)
          have H4 : Hid (Lp6 w (w4.alloc (.cells #[.int .i64 pS, .int .i64 pG] 38)) sb lb nn l0 (putX6 xs nn l0 y4) (putX6 xs nn l0 y4) gw b nn gs vg vh Ds) := A4.below B4
          clear q1 q2 A4 x4 H3 HRP HW3 B4 k4' l3
          by_cases hE : pE = 0
          · subst hE
            obtain ⟨W5, hW5⟩ : ∃ W5, W5 = (w4.alloc (.cells #[.int .i64 pS, .int .i64 pG] 38)).alloc (.cells #[.int .i64 pS, .int .i64 pG] 38) := ⟨_, rfl⟩
            obtain ⟨q5, eq5⟩ : ∃ q5, q5 = w4.heap.size + 1 := ⟨_, rfl⟩
            have B5 : Below (w4.alloc (.cells #[.int .i64 pS, .int .i64 pG] 38)).heap.size (w4.alloc (.cells #[.int .i64 pS, .int .i64 pG] 38)) W5 := by rw [hW5]; exact bx_al (Below.refl _ _)
            have x5 : W5.heap[q5]? = some (.cells #[.int .i64 pS, .int .i64 pG] 38) := by
              rw [hW5, eq5]
              have := ax_at (w4.alloc (.cells #[.int .i64 pS, .int .i64 pG] 38)) (.cells #[.int .i64 pS, .int .i64 pG] 38)
              rw [World.size_alloc] at this
              exact this
            have A5 := H4.out.below B5
            have c50 : W5.cell? ⟨q5, 0, none⟩ = some (.int .i64 pS) := by simp [World.cell?, x5]
            have c51 : W5.cell? ⟨q5, 1, none⟩ = some (.int .i64 pG) := by simp [World.cell?, x5]
            have HC5 : Hid (W5.cell? ⟨q5, 0, none⟩ = some (.int .i64 pS) ∧ W5.cell? ⟨q5, 1, none⟩ = some (.int .i64 pG)) := ⟨c50, c51⟩
            have H5 : Hid (Lp6 w W5 sb lb nn l0 (putX6 xs nn l0 y4) (putX6 xs nn l0 y4) gw b nn gs vg vh Ds) := A5
            have HW5 : Hid ((w4.alloc (.cells #[.int .i64 pS, .int .i64 pG] 38)).alloc (.cells #[.int .i64 pS, .int .i64 pG] 38) = W5 ∧ w4.heap.size + 1 = q5) := ⟨hW5.symm, eq5.symm⟩
            clear B5 x5 A5 hW5 eq5 c50 c51
            go_wp2_with (rw [HW5.out.1]; refine (id ?_ : wpList Tryd.prog _ _ (⟨some 128, _, _, _, _, _⟩ :: _) _ _); refine wp_appH6 rfl _ _ rfl lb vg gs rfl H5.out.gv q5 (pS, pG) (by rw [← HW5.out.2]; simp [Act.eval]) HC5.out.1 HC5.out.2 (by omega) H5.out.bq.tb.le ?_; intro v6 w6 h6)
            have H6 : Hid (Lp6 w w6 sb lb nn l0 (putX6 xs nn l0 y4) (putX6 xs nn l0 y4) gw b nn (gs ++ [(pS, pG)]) v6 vh Ds) := H5.out.given (row := none) h6.out.2 h6.out.1
            refine TAIL.out _ _ ⟨putX6 xs nn l0 y4, gs ++ [(pS, pG)], v6, vh, Ds, rfl, rfl, ?_, rfl, rfl, rfl, rfl, rfl, rfl, rfl, rfl, rfl, rfl, H6.out⟩
            rw [List.length_append]
            simp
            omega
          have hE2 : (pE == 0) = false := by simpa using hE
          go_wp2_with fail
          exact TAIL.out _ _ ⟨_, _, _, _, Ds, rfl, rfl, by omega, rfl, rfl, rfl, rfl, rfl, rfl, rfl, rfl, rfl, rfl, H4.out⟩
        by_cases e1 : y0 = 1
        · subst e1
          obtain ⟨cnt, hsl⟩ := HM.out.1.bq.sl
          have GT : Hid _ := sget6 hsl hs hg
          clear hsl
          go_wp2_with fail
          refine Calls.mono GT.out ?_
          rintro e w3 ⟨rfl, q1⟩
          have A3 := HM.out.1.below q1
          obtain ⟨c0, c1, cl⟩ := A3.bq.cells
          have h0' := bx_cell q1 h0
          have h1' := bx_cell q1 h1
          have RG : Hid _ := rget6_any b nn nn (tbT xs) l0 hs hg w3 A3.bq.dr hnn
          have H3 : Hid (Lp6 w w3 sb lb nn l0 xs xs gw b nn gs vg vh Ds) := A3
          obtain ⟨gT, eT⟩ : ∃ gT, gT = getT (tbT xs) nn hs hg := ⟨_, rfl⟩
          obtain ⟨gE, eE⟩ : ∃ gE, gE = getE (tbT xs) nn hs hg := ⟨_, rfl⟩
          rw [← eT, ← eE] at RG ⊢
          clear q1 A3 GT k4 h0 h1 lp0 lp1 eT eE
          go_wp2_with fail
          refine Calls.mono RG.out ?_
          rintro e w4 ⟨rfl, q1⟩
          have H4 : Hid (Lp6 w w4 sb lb nn l0 xs xs gw b nn gs vg vh Ds) := H3.out.below q1
          clear q1 RG H3 c0 c1 cl h0' h1'
          go_wp2_with fail
          exact TAIL.out _ _ ⟨_, _, _, _, Ds, rfl, rfl, by omega, rfl, rfl, rfl, rfl, rfl, rfl, rfl, rfl, rfl, rfl, H4.out⟩
        by_cases e2 : y0 = 2
        · subst e2
          obtain ⟨gE, eE⟩ : ∃ gE, gE = getE (tbT xs) nn hs hg := ⟨_, rfl⟩
          have EE : Hid (gE = getE (tbT xs) nn hs hg) := eE
          clear eE k4 h0 h1 lp0 lp1
          go_upto_region 32 with fail
          refine (wpIn_wide (n := 9)).1 ?_
          refine wpIn_region_inv (Jm (St32 w sb lb nn l0 xs (setX xs hs hg y4) gw b gs vg vh Ds p #[.int .i64 2, .int .i64 y1, .int .i64 y2, .int .i64 y3, .int .i64 y4] hs hg) (fun j v _ => v = [.pointer (some ⟨sb, 0, none⟩), .agg #[.int .i64 hs, .int .i64 hg], .pointer (some ⟨p, 4, none⟩), .int .i64 y4, .int .i64 gE, .agg #[.int .i64 hs, .int .i64 hg], .pointer (some ⟨p, 4, none⟩), .int .i64 y4, .int .i64 gE, .bool true, .bool true].getD j undef)) 229 (by kernel_rfl) rfl (by kernel_rfl) ⟨⟨HM.out.1.below (bx_drew (Below.refl _ _) 1), HM.out.2.1, HM.out.2.2.1, fun h => by cases h⟩, fun _ h => by cases h⟩ (fun _ _ => ⟨?_, ?_, ?_, ?_, ?_, ?_, ?_, ?_, ?_, ?_, ?_, trivial⟩) ?_
          · intro L vs a9 w' hJ hF hP hL
            have q7 : (a9.tmps[7]?).getD undef = .pointer (some ⟨sb, 0, none⟩) := hF.old 7 rfl
            exact run_valW (v := .pointer (some ⟨sb, 0, none⟩)) rfl (fun c h => by cases h) (by simp [execOp, go_sem, q7]) ⟨_, rfl, hJ.step (hJ.st.step (by decide) (by decide)) (fun _ _ h => h) rfl⟩
          · intro L vs a9 w' hJ hF hP hL
            have q15 : (a9.tmps[15]?).getD undef = .pointer (some ⟨(p + 1), 0, none⟩) := hF.old 15 rfl
            have z0 : w'.cell? ⟨p + 1, 0, none⟩ = some (.int .i64 hs) := by simp [World.cell?, hJ.st.by']
            have z1 : w'.cell? ⟨p + 1, 1, none⟩ = some (.int .i64 hg) := by simp [World.cell?, hJ.st.by']
            exact run_valW (v := .agg #[.int .i64 hs, .int .i64 hg]) rfl (fun c h => by cases h) (by simp [execOp, go_sem, q15, z0, z1]) ⟨_, rfl, hJ.step (hJ.st.step (by decide) (by decide)) (fun _ _ h => h) rfl⟩
          · intro L vs a9 w' hJ hF hP hL
            have q14 : (a9.tmps[14]?).getD undef = .pointer (some ⟨p, 0, none⟩) := hF.old 14 rfl
            exact run_valW (v := .pointer (some ⟨p, 4, none⟩)) rfl (fun c h => by cases h) (by simp [execOp, go_sem, q14]) ⟨_, rfl, hJ.step (hJ.st.step (by decide) (by decide)) (fun _ _ h => h) rfl⟩
          · intro L vs a9 w' hJ hF hP hL
            have p2 : L 2 = true := hP ⟨2, .data⟩ (by simp) rfl
            have s155 := hF.slot 2 155 rfl p2
            rw [(hJ.val 2 p2)] at s155
            simp only [List.getD_cons_zero, List.getD_cons_succ] at s155
            have z4 : w'.cell? ⟨p, 4, none⟩ = some (.int .i64 y4) := by simp [World.cell?, hJ.st.bx]
            exact run_valW (v := .int .i64 y4) rfl (fun c h => by cases h) (by simp [execOp, go_sem, s155, z4]) ⟨_, rfl, hJ.step (hJ.st.step (by decide) (by decide)) (fun _ _ h => h) rfl⟩
          · intro L vs a9 w' hJ hF hP hL
            have p0 : L 0 = true := hP ⟨0, .data⟩ (by simp) rfl
            have s153 := hF.slot 0 153 rfl p0
            rw [(hJ.val 0 p0)] at s153
            simp only [List.getD_cons_zero] at s153
            have p1 : L 1 = true := hP ⟨1, .data⟩ (by simp) rfl
            have s154 := hF.slot 1 154 rfl p1
            rw [(hJ.val 1 p1)] at s154
            simp only [List.getD_cons_zero, List.getD_cons_succ] at s154
            have p3 : L 3 = true := hP ⟨3, .data⟩ (by simp) rfl
            have s156 := hF.slot 3 156 rfl p3
            rw [(hJ.val 3 p3)] at s156
            simp only [List.getD_cons_zero, List.getD_cons_succ] at s156
            have l8 : L 8 = false := by
              cases e : L 8 with
              | false => rfl
              | true =>
                have h9 := hJ.st.ch e
                rw [hL] at h9
                cases h9
            have lp := hJ.st.lp
            rw [hL, l8] at lp
            simp only [Bool.false_eq_true, if_false] at lp
            obtain ⟨cnt, hsl⟩ := lp.bq.sl
            have SS := sset6 hsl hs hg y4
            rw [← EE.out] at SS
            refine run_callW (f := 12) (args := #[.pointer (some ⟨sb, 0, none⟩), .agg #[.int .i64 hs, .int .i64 hg], .int .i64 y4]) rfl (fun c h => by cases h) (by simp [go_sem, s153, s154, s156]) SS ?_
            rintro e w2 ⟨rfl, q1, q2⟩
            have e4 : updB L 4 4 = true := updB_eq
            have e8 : updB L 4 8 = false := (updB_ne (by decide)).trans l8
            refine ⟨_, rfl, _, rfl, hJ.step ⟨?_, (q2.blk hJ.st.bx (by unfold isSV; decide)).trans hJ.st.bx, (q2.blk hJ.st.by' (by unfold isSV; decide)).trans hJ.st.by', fun h => by rw [e8] at h; cases h⟩ (fun _ _ h => h) rfl⟩
            rw [e4, e8]
            simp only [Bool.false_eq_true, if_false, if_true]
            exact lp.ft q2 q1
          · intro L vs a9 w' hJ hF hP hL
            have q15 : (a9.tmps[15]?).getD undef = .pointer (some ⟨(p + 1), 0, none⟩) := hF.old 15 rfl
            have z0 : w'.cell? ⟨p + 1, 0, none⟩ = some (.int .i64 hs) := by simp [World.cell?, hJ.st.by']
            have z1 : w'.cell? ⟨p + 1, 1, none⟩ = some (.int .i64 hg) := by simp [World.cell?, hJ.st.by']
            exact run_valW (v := .agg #[.int .i64 hs, .int .i64 hg]) rfl (fun c h => by cases h) (by simp [execOp, go_sem, q15, z0, z1]) ⟨_, rfl, hJ.step (hJ.st.step (by decide) (by decide)) (fun _ _ h => h) rfl⟩
          · intro L vs a9 w' hJ hF hP hL
            have q14 : (a9.tmps[14]?).getD undef = .pointer (some ⟨p, 0, none⟩) := hF.old 14 rfl
            exact run_valW (v := .pointer (some ⟨p, 4, none⟩)) rfl (fun c h => by cases h) (by simp [execOp, go_sem, q14]) ⟨_, rfl, hJ.step (hJ.st.step (by decide) (by decide)) (fun _ _ h => h) rfl⟩
          · intro L vs a9 w' hJ hF hP hL
            have p6 : L 6 = true := hP ⟨6, .data⟩ (by simp) rfl
            have s159 := hF.slot 6 159 rfl p6
            rw [(hJ.val 6 p6)] at s159
            simp only [List.getD_cons_zero, List.getD_cons_succ] at s159
            have z4 : w'.cell? ⟨p, 4, none⟩ = some (.int .i64 y4) := by simp [World.cell?, hJ.st.bx]
            exact run_valW (v := .int .i64 y4) rfl (fun c h => by cases h) (by simp [execOp, go_sem, s159, z4]) ⟨_, rfl, hJ.step (hJ.st.step (by decide) (by decide)) (fun _ _ h => h) rfl⟩
          · intro L vs a9 w' hJ hF hP hL
            have q9 : (a9.tmps[9]?).getD undef = .pointer (some ⟨gw, 0, none⟩) := hF.old 9 rfl
            have p5 : L 5 = true := hP ⟨5, .data⟩ (by simp) rfl
            have s158 := hF.slot 5 158 rfl p5
            rw [(hJ.val 5 p5)] at s158
            simp only [List.getD_cons_zero, List.getD_cons_succ] at s158
            have p7 : L 7 = true := hP ⟨7, .data⟩ (by simp) rfl
            have s160 := hF.slot 7 160 rfl p7
            rw [(hJ.val 7 p7)] at s160
            simp only [List.getD_cons_zero, List.getD_cons_succ] at s160
            have p4 : L 4 = true := hP ⟨4, .chain⟩ (by simp) rfl
            have lp := hJ.st.lp
            rw [hL, p4] at lp
            simp only [Bool.false_eq_true, if_false, if_true] at lp
            have RS := rset6_any gw b nn nn (tbT xs) l0 hs hg y4 w' lp.bq.dr lp.bq.cells.1 lp.bq.cells.2.1 lp.bq.ne hnn
            rw [← EE.out] at RS
            refine run_callW (f := 13) (args := #[.pointer (some ⟨gw, 0, none⟩), .agg #[.int .i64 hs, .int .i64 hg], .int .i64 y4]) rfl (fun c h => by cases h) (by simp [go_sem, q9, s158, s160]) RS ?_
            rintro e w2 ⟨rfl, q1, q2⟩
            rw [set_tb xs nn hxn] at q1
            have e4 : updB L 8 4 = true := (updB_ne (by decide)).trans p4
            have e8 : updB L 8 8 = true := updB_eq
            refine ⟨_, rfl, _, rfl, hJ.step ⟨?_, (q2.block p (Array.getElem?_eq_some_iff.1 hJ.st.bx).1 (lp.bq.neb hJ.st.bx fun cs e => by cases e)).trans hJ.st.bx, (q2.block (p + 1) (Array.getElem?_eq_some_iff.1 hJ.st.by').1 (lp.bq.neb hJ.st.by' fun cs e => by cases e)).trans hJ.st.by', fun _ => e4⟩ (fun _ _ h => h) rfl⟩
            rw [e4, e8]
            simp only [if_true]
            exact lp.od q2 q1
          · intro L vs a9 w' hJ hF hP hL
            have p4 : L 4 = true := hP ⟨4, .data⟩ (by simp) rfl
            have s157 := hF.slot 4 157 rfl p4
            rw [(hJ.val 4 p4)] at s157
            simp only [List.getD_cons_zero, List.getD_cons_succ] at s157
            have p8 : L 8 = true := hP ⟨8, .data⟩ (by simp) rfl
            have s161 := hF.slot 8 161 rfl p8
            rw [(hJ.val 8 p8)] at s161
            simp only [List.getD_cons_zero, List.getD_cons_succ] at s161
            exact run_valW (v := .bool true) rfl (fun c h => by cases h) (by simp [execOp, go_sem, s157, s161]) ⟨_, rfl, hJ.step (hJ.st.step (by decide) (by decide)) (fun _ _ h => h) rfl⟩
          · intro L vs a9 w' hJ hF hP hL
            have p9 : L 9 = true := hP ⟨9, .data⟩ (by simp) rfl
            have s162 := hF.slot 9 162 rfl p9
            rw [(hJ.val 9 p9)] at s162
            simp only [List.getD_cons_zero, List.getD_cons_succ] at s162
            exact run_valW (v := .bool true) rfl (fun c h => by cases h) (by simp [execOp, go_sem, s162]) ⟨_, rfl, hJ.step (hJ.st.step (by decide) (by decide)) (fun _ _ h => h) rfl⟩
          intro L vs w' hA hJ
          have u10 := hJ.val 10 (hA 10 (by decide))
          simp only [List.getD_cons_zero, List.getD_cons_succ] at u10
          have lp := hJ.st.lp
          rw [hA 4 (by decide), hA 8 (by decide)] at lp
          simp only [if_true] at lp
          have H9 : Hid (Lp6 w w' sb lb nn l0 (setX xs hs hg y4) (setX xs hs hg y4) gw b nn gs vg vh Ds) := lp
          simp only [putL, Act.put, List.setIfInBounds_toArray, List.set_cons_zero, List.set_cons_succ, Nat.reduceAdd]
          simp only [u10]
          clear u10 hJ hA lp
          generalize vs = vs0
          go_wp2_with fail
          exact TAIL.out _ _ ⟨_, _, _, _, Ds, rfl, rfl, by omega, rfl, rfl, rfl, rfl, rfl, rfl, rfl, rfl, rfl, rfl, H9.out⟩
        by_cases e3 : y0 = 3
        · subst e3
          obtain ⟨cnt, hsl⟩ := HM.out.1.bq.sl
          have GT : Hid _ := sdrop6 hsl hs hg
          clear hsl
          go_wp2_with fail
          refine Calls.mono GT.out ?_
          rintro e w3 ⟨rfl, q1, q2⟩
          have A3 := HM.out.1.ft q2.ft q1
          have x3 : w3.heap[p + 1]? = _ := (q2.ft.blk HM.out.2.2.1 (by unfold isSV; decide)).trans HM.out.2.2.1
          have h0' : w3.cell? ⟨p + 1, 0, none⟩ = some (.int .i64 hs) := by simp [World.cell?, x3]
          have h1' : w3.cell? ⟨p + 1, 1, none⟩ = some (.int .i64 hg) := by simp [World.cell?, x3]
          have RG : Hid _ := rdrop6_any gw b nn nn (tbT xs) l0 hs hg w3 A3.bq.dr A3.bq.cells.1 A3.bq.cells.2.1 A3.bq.ne hnn
          have H3 : Hid (Lp6 w w3 sb lb nn l0 (dropX xs hs hg) xs gw b nn gs vg vh Ds) := A3
          obtain ⟨gT, eT⟩ : ∃ gT, gT = getT (tbT xs) nn hs hg := ⟨_, rfl⟩
          obtain ⟨gE, eE⟩ : ∃ gE, gE = getE (tbT xs) nn hs hg := ⟨_, rfl⟩
          rw [← eT, ← eE] at RG ⊢
          clear q1 q2 A3 GT k4 h0 h1 lp0 lp1 eT eE x3
          go_wp2_with fail
          refine Calls.mono RG.out ?_
          rintro e w4 ⟨rfl, q1, q2⟩
          rw [drop_tb xs nn hxn] at q1
          have H4 : Hid (Lp6 w w4 sb lb nn l0 (dropX xs hs hg) (dropX xs hs hg) gw b nn gs vg vh Ds) := H3.out.od q2 q1
          clear q1 q2 RG H3 h0' h1'
          go_wp2_with fail
          exact TAIL.out _ _ ⟨_, _, _, _, Ds, rfl, rfl, by omega, rfl, rfl, rfl, rfl, rfl, rfl, rfl, rfl, rfl, rfl, H4.out⟩
        by_cases e5 : y0 = 5
        · subst e5
          have k1 : W8.cell? ⟨p, 1, none⟩ = some (.int .i64 y1) := by simp [World.cell?, HM.out.2.1]
          have k2 : W8.cell? ⟨p, 2, none⟩ = some (.int .i64 y2) := by simp [World.cell?, HM.out.2.1]
          have k3 : W8.cell? ⟨p, 3, none⟩ = some (.int .i64 y3) := by simp [World.cell?, HM.out.2.1]
          have GT : Hid _ := inner6_any HM.out.1.bq 5 y1 y2 y3 y4 hs hg
          go_wp2_with fail
          refine Calls.mono GT.out ?_
          rintro e w3 ⟨rfl, q1, q2⟩
          have H3 : Hid (Lp6 w w3 sb lb nn l0 _ _ gw b nn gs vg vh Ds) := HM.out.1.fv q2 q1
          clear q1 q2 GT
          go_wp2_with fail
          exact TAIL.out _ _ ⟨_, _, _, _, Ds, rfl, rfl, by omega, rfl, rfl, rfl, rfl, rfl, rfl, rfl, rfl, rfl, rfl, H3.out⟩
        by_cases e6 : y0 = 6
        · subst e6
          obtain ⟨c0, c1, cl⟩ := HM.out.1.bq.cells
          have AL : Hid _ := rall6_any b nn nn (tbT xs) l0 W8 HM.out.1.bq.dr hnn
          go_wp2_with fail
          refine Calls.mono AL.out ?_
          rintro e w3 ⟨v, rfl, hp, hB⟩
          rw [allL_n xs nn hxn] at hp
          have A3 := HM.out.1.below hB
          obtain ⟨cnt, hsl⟩ := A3.bq.sl
          have NE : Hid _ := nested6_any hsl _ v hp (by omega)
          have H3 : Hid (Lp6 w w3 sb lb nn l0 xs xs gw b nn gs vg vh Ds) := A3
          clear hp hB A3 hsl AL c0 c1 cl k4 h0 h1 lp0 lp1
          go_wp2_with fail
          refine Calls.mono NE.out ?_
          rintro e w4 ⟨rfl, hB⟩
          have H4 : Hid (Lp6 w w4 sb lb nn l0 xs xs gw b nn gs vg vh Ds) := H3.out.below hB
          clear hB NE H3
          go_wp2_with fail
          exact TAIL.out _ _ ⟨_, _, _, _, Ds, rfl, rfl, by omega, rfl, rfl, rfl, rfl, rfl, rfl, rfl, rfl, rfl, rfl, H4.out⟩
        by_cases e7 : y0 = 7
        · subst e7
          go_wp2_with fail
          refine Calls.mono (sallV_any sb W8) ?_
          rintro e w3 ⟨rfl, rfl⟩
          have H3 : Hid _ := HM.out.1.hold
          go_wp2_with fail
          exact TAIL.out _ _ ⟨_, _, _, _, Ds, rfl, rfl, by omega, rfl, rfl, rfl, rfl, rfl, rfl, rfl, rfl, rfl, rfl, H3.out⟩
        by_cases e8 : y0 = 8
        · subst e8
          obtain ⟨cnt, hsl⟩ := HM.out.1.bq.sl
          obtain ⟨hb, ehb, xhb⟩ := HM.out.1.vh
          subst ehb
          obtain ⟨Lx, eL⟩ : ∃ Lx, Lx = allL (tbT xs) xs.length := ⟨_, rfl⟩
          have hLl : Lx.length ≤ 65536 := by rw [eL]; exact Nat.le_trans (allL_len _ _) (by omega)
          obtain ⟨z, ez⟩ : ∃ z, z = W8.heap.size := ⟨_, rfl⟩
          obtain ⟨A8, hA8⟩ : ∃ A8, A8 = W8.alloc (.cells #[.slice none 0 0] 55) := ⟨_, rfl⟩
          have B8 : Below W8.heap.size W8 A8 := by rw [hA8]; exact bx_al (Below.refl _ _)
          have xz : Bx A8 z 55 (.slice none 0 0) := by rw [hA8, ez]; exact ax_at _ _
          have s8 : A8.heap.size = z + 1 := by rw [hA8, ez]; simp
          have HA : Hid (Lp6 w A8 sb lb nn l0 xs xs gw b nn gs vg (.func (.func 28) #[] #[.pointer (some ⟨hb, 0, none⟩)]) Ds ∧ Bx A8 z 55 (.slice none 0 0) ∧ A8.heap.size = z + 1 ∧ (∀ D ∈ Ds, D < z) ∧ lb ≤ z ∧ Lx = allL (tbT xs) xs.length) := ⟨HM.out.1.below B8, xz, s8, fun D hD => by rw [ez]; exact (Array.getElem?_eq_some_iff.1 (HM.out.1.ds.2 D hD).2).1, by rw [ez]; exact HM.out.1.bq.tb.le, eL⟩
          have cBs : A8.cell? ⟨hb, 0, none⟩ = some (.pointer (some ⟨sb, 0, none⟩)) := (xhb.go B8).cell
          have SQ := sall_at hb (A8.heap.size + 2) A8 cBs (hsl.mono B8)
          rw [← eL] at SQ
          have HSQ : Hid _ := SQ
          have HE8 : Hid (W8.alloc (.cells #[.slice none 0 0] 55) = A8 ∧ W8.heap.size = z) := ⟨hA8.symm, ez.symm⟩
          clear hsl xhb eL ez hA8 B8 xz s8 cBs SQ k4 h0 h1 lp0 lp1
          go_wp2_with fail
          rw [HE8.out.1, HE8.out.2]
          refine (wpIn_wide (n := 9)).1 ?_
          have hlz := HA.out.2.2.2.2.1
          have hsz := HA.out.2.2.1
          have hds := HA.out.2.2.2.1
          refine range_atA (n := 9) (P := Tryd.prog) rfl (by omega) (gf := 28) (lb := #[.pointer (some ⟨hb, 0, none⟩)]) rfl trivial (enters_of Tryd.func28 (by kernel_rfl) rfl)
            (SeqC.wide HSQ.out) (fun h k => h.trans k) (fun A o o' h1 h2 => Ksl.put A _ o o' (by omega) h1 h2) (Below.refl _ _) (fun _ => rfl)
            (fun k A => Lp6 w A sb lb nn l0 xs xs gw b nn gs vg (.func (.func 28) #[] #[.pointer (some ⟨hb, 0, none⟩)]) Ds ∧ ∃ vt, Bx A z 55 vt ∧ Pw lb A vt (Lx.take k)) (fun c A => False)
            (fun k A B ⟨h1, vt, h2, h3⟩ hB => ⟨h1.below hB, vt, h2.go hB, h3.below hB⟩)
            (fun k A l o o' ⟨h1, vt, h2, h3⟩ hl ho hc hw => ⟨h1.put o' ho hc (by omega) (fun D hD => by have := hds D hD; omega), vt, h2.put o' ho hc, h3.kept fun x hx => by
              obtain ⟨_, cs, e⟩ := h3.own hx
              exact (put_cells ho hc e).trans e.symm⟩)
            (fun c A l o o' h1 _ _ _ _ => h1)
            ⟨HA.out.1, _, HA.out.2.1, Pw.nil _ _⟩
            (fun A B hB => Ksl.of_below hB)
            (fun k a' A => ∃ q, a'.tmps.size = 229 ∧ a'.defers = [] ∧ a'.tmps.getD 29 undef = .pointer (some ⟨z, 0, none⟩) ∧ a'.tmps.getD 30 undef = .pointer (some ⟨q, 0, none⟩) ∧ a'.tmps.getD 31 undef = .int .i64 (Lx.getD k p60).2.2 ∧ A.heap[q]? = some (.cells #[.int .i64 (Lx.getD k p60).1, .int .i64 (Lx.getD k p60).2.1] 38))
            (fun k a' A l o o' ⟨q, h1, h2, h3, h4, h5, h6⟩ hl ho hc hw => ⟨q, h1, h2, h3, h4, h5, put_cells ho hc h6⟩) ?assign ?body ?done ?stop
          case assign =>
            intro l' k A K hk hi hK
            have HK : Hid _ := hK
            clear hK hi
            unfold encS
            generalize Lx.getD k p60 = x at HK ⊢
            obtain ⟨x1, x2, x3⟩ := x
            simp only at HK ⊢
            gi_wp2_with fail
            exact HK.out _ _ ((Below.refl _ _).alloc (Nat.le_refl _) _) ⟨A.heap.size, rfl, rfl, rfl, rfl, rfl, ax_at _ _⟩
          case body =>
            rintro l' k ⟨tm, df⟩ A hk hl' hlr ⟨hi, vt, hbz, hpw⟩ ⟨q, hz, hdf, e29, e30, e31, hq⟩
            obtain ⟨jk, ej, hj⟩ := arr229 tm hz
            simp only at hdf
            simp only [hj] at e29 e30 e31
            have hsnoc := take_succ6 Lx k hk
            generalize Lx.getD k p60 = x at e31 hq hsnoc
            obtain ⟨x1, x2, x3⟩ := x
            simp only at e31 hq
            rw [ej, hdf]
            simp only [e29, e30, e31]
            clear ej hj hz hdf e29 e30 e31
            have kz := hbz.cell
            have kh0 : A.cell? ⟨q, 0, none⟩ = some (.int .i64 x1) := by simp [World.cell?, hq]
            have kh1 : A.cell? ⟨q, 1, none⟩ = some (.int .i64 x2) := by simp [World.cell?, hq]
            have hzl := hbz.lt
            obtain ⟨A1, hA1⟩ : ∃ A1, A1 = A.alloc (.cells #[.int .i64 x1, .int .i64 x2, .int .i64 x3] 58) := ⟨_, rfl⟩
            obtain ⟨q1, eq1⟩ : ∃ q1, q1 = A.heap.size := ⟨_, rfl⟩
            have BA : Below A.heap.size A A1 := by rw [hA1]; exact bx_al (Below.refl _ _)
            have xq : A1.heap[q1]? = some (.cells #[.int .i64 x1, .int .i64 x2, .int .i64 x3] 58) := by rw [hA1, eq1]; exact ax_at _ _
            have HC : Hid (A1.cell? ⟨q1, 0, none⟩ = some (.int .i64 x1) ∧ A1.cell? ⟨q1, 1, none⟩ = some (.int .i64 x2) ∧ A1.cell? ⟨q1, 2, none⟩ = some (.int .i64 x3)) := ⟨by simp [World.cell?, xq], by simp [World.cell?, xq], by simp [World.cell?, xq]⟩
            have HI : Hid (Lp6 w A1 sb lb nn l0 xs xs gw b nn gs vg (.func (.func 28) #[] #[.pointer (some ⟨hb, 0, none⟩)]) Ds ∧ Bx A1 z 55 vt ∧ Pw lb A1 vt (Lx.take k) ∧ Below A.heap.size A A1 ∧ Lx.take (k + 1) = Lx.take k ++ [(x1, x2, x3)]) := ⟨hi.below BA, hbz.go BA, hpw.below BA, BA, hsnoc⟩
            have HE : Hid (A.alloc (.cells #[.int .i64 x1, .int .i64 x2, .int .i64 x3] 58) = A1 ∧ A.heap.size = q1) := ⟨hA1.symm, eq1.symm⟩
            clear hi hbz hpw hq BA xq hA1 eq1 hsnoc
            gi_wp2_with (gi_at_builtin; rw [HE.out.1, HE.out.2]; refine wpi_app6 rfl (.tmp 205) (.tmp 209) rfl lb vt (Lx.take k) rfl HI.out.2.2.1 q1 (x1, x2, x3) rfl HC.out.1 HC.out.2.1 HC.out.2.2 (by rw [List.length_take]; omega) HI.out.1.bq.tb.le ?_; intro v6 w6 h6; obtain ⟨a6, n6, c6, rfl⟩ := pw_slice h6.out.1; have hz6 := bx_grown HI.out.2.2.1 h6.out.2 HI.out.2.1 (by decide); have hc6 := hz6.cell; have hf6 := hz6.fr)
            have L6 := HI.out.1.grown HI.out.2.2.1 h6.out.2
            have K6 : Ksl sb 0 A w6 := (Ksl.of_below HI.out.2.2.2.1).trans (Ksl.grownP HI.out.2.2.1 h6.out.2)
            have K7 : Ksl sb 0 A (w6.setCell ⟨z, 0, none⟩ (.slice a6 n6 c6)) := K6.trans (Ksl.box hz6 (by decide) 0 _)
            refine ⟨K7.keeps (Nat.zero_le _), K7.up (Nat.zero_le _), L6.set hz6 ⟨by decide, not_mv (by decide), by decide, by decide⟩ (fun x hx e => ?_) hlz 0 _, _, hz6.set _, ?_⟩
            · obtain ⟨_, cs, e3⟩ := L6.gv.own hx
              rw [e, show w6.heap[z]? = _ from hz6] at e3
              cases e3
            rw [HI.out.2.2.2.2]
            exact pw_set h6.out.1 hz6 (by decide)
          case done =>
            rintro D A hD ⟨hi, vt, hbz, hpw⟩ hm
            rw [List.take_length] at hpw
            obtain ⟨gp0, gc0, rfl, _⟩ := hpw.sl
            have g0 := hbz.cell
            obtain ⟨c0, c1, cl⟩ := hi.bq.cells
            have HT : Hid (Lp6 w A sb lb nn l0 xs xs gw b nn gs vg (.func (.func 28) #[] #[.pointer (some ⟨hb, 0, none⟩)]) (D :: Ds) ∧ True ∧ Lx = allL (tbT xs) nn) := ⟨hi.mark hm (by have := hi.le; omega) (fun hmem => by have := hds D hmem; omega), trivial, by rw [HA.out.2.2.2.2.2, allL_n xs nn hxn]⟩
            have HG9 : Hid (Bx A z 55 (.slice gp0 Lx.length gc0) ∧ Pw lb A (.slice gp0 Lx.length gc0) Lx) := ⟨hbz, hpw⟩
            clear hi hbz hpw hm
            go_upto_region 49 with fail
            refine (wpIn_wide (n := 9)).1 ?_
            refine wpIn_region_inv (Jm (fun _ w' => Below A.heap.size A w') (Rk [.slice gp0 Lx.length gc0, .agg #[.slice (some ⟨b, 0, none⟩) nn nn, .int .i64 l0], undef, .bool true, .bool true] 2 A.heap.size Lx)) 229 (by kernel_rfl) rfl (by kernel_rfl) ⟨bx_drew (Below.refl _ _) 1, fun _ h => by cases h⟩ (fun _ _ => ⟨?_, ?_, ?_, ?_, ?_, trivial⟩) ?_
            · intro L vs a9 w' hJ hF hP hL
              have q29 : (a9.tmps[29]?).getD undef = .pointer (some ⟨z, 0, none⟩) := hF.old 29 rfl
              have g0' := bx_cell hJ.st g0
              exact run_valW (v := .slice gp0 Lx.length gc0) rfl (fun c h => by cases h) (by simp [execOp, go_sem, q29, g0']) ⟨_, rfl, hJ.step hJ.st (fun _ _ h => h) (Rk.mk (by decide) rfl)⟩
            · intro L vs a9 w' hJ hF hP hL
              have q9 : (a9.tmps[9]?).getD undef = .pointer (some ⟨gw, 0, none⟩) := hF.old 9 rfl
              have c0' := bx_cell hJ.st c0
              have c1' := bx_cell hJ.st c1
              exact run_valW (v := .agg #[.slice (some ⟨b, 0, none⟩) nn nn, .int .i64 l0]) rfl (fun c h => by cases h) (by simp [execOp, go_sem, q9, c0', c1']) ⟨_, rfl, hJ.step hJ.st (fun _ _ h => h) (Rk.mk (by decide) rfl)⟩
            · intro L vs a9 w' hJ hF hP hL
              have p1 : L 1 = true := hP ⟨1, .data⟩ (by simp) rfl
              have s212 := hF.slot 1 212 rfl p1
              rw [(hJ.val 1 p1).at (by decide)] at s212
              simp only [List.getD_cons_zero, List.getD_cons_succ] at s212
              refine run_callW (f := 18) (args := #[.agg #[.slice (some ⟨b, 0, none⟩) nn nn, .int .i64 l0]]) rfl (fun c h => by cases h) (by simp [go_sem, s212]) (rall6_any b nn nn (tbT xs) l0 w' (HT.out.1.bq.dr.go hJ.st) hnn) ?_
              rintro e w2 ⟨v, rfl, hp, hB⟩
              rw [← HT.out.2.2] at hp
              exact ⟨_, rfl, _, rfl, hJ.step (bx_go hJ.st hB) (fun _ _ h => h.mono hB) (Rk.mkr (hp.low hJ.st.size))⟩
            · intro L vs a9 w' hJ hF hP hL
              have p0 : L 0 = true := hP ⟨0, .data⟩ (by simp) rfl
              have s211 := hF.slot 0 211 rfl p0
              rw [(hJ.val 0 p0).at (by decide)] at s211
              simp only [List.getD_cons_zero] at s211
              have p2 : L 2 = true := hP ⟨2, .data⟩ (by simp) rfl
              have s213 := hF.slot 2 213 rfl p2
              obtain ⟨ar, cr, er, _⟩ := (hJ.val 2 p2).row.sl
              rw [er] at s213
              have hp := (hJ.val 2 p2).row
              rw [er] at hp
              refine run_callW (f := 19) (args := #[.slice gp0 Lx.length gc0, .slice ar Lx.length cr]) rfl (fun c h => by cases h) (by simp [go_sem, s211, s213]) (lsame6_true _ _ _ _ Lx w' (HG9.out.2.below hJ.st) hp) ?_
              rintro e w2 ⟨rfl, hB⟩
              exact ⟨_, rfl, _, rfl, hJ.step (bx_go hJ.st hB) (fun _ _ h => h.mono hB) (Rk.mk (by decide) rfl)⟩
            · intro L vs a9 w' hJ hF hP hL
              have p3 : L 3 = true := hP ⟨3, .data⟩ (by simp) rfl
              have s214 := hF.slot 3 214 rfl p3
              rw [(hJ.val 3 p3).at (by decide)] at s214
              simp only [List.getD_cons_zero, List.getD_cons_succ] at s214
              exact run_valW (v := .bool true) rfl (fun c h => by cases h) (by simp [execOp, go_sem, s214]) ⟨_, rfl, hJ.step hJ.st (fun _ _ h => h) (Rk.mk (by decide) rfl)⟩
            intro L vs w' hA hJ
            have u4 := (hJ.val 4 (hA 4 (by decide))).at (by decide)
            simp only [List.getD_cons_zero, List.getD_cons_succ] at u4
            have H9 : Hid (Lp6 w w' sb lb nn l0 xs xs gw b nn gs vg (.func (.func 28) #[] #[.pointer (some ⟨hb, 0, none⟩)]) (D :: Ds)) := HT.out.1.below hJ.st
            simp only [putL, Act.put, List.setIfInBounds_toArray, List.set_cons_zero, List.set_cons_succ, Nat.reduceAdd]
            simp only [u4]
            clear u4 hJ hA HT c0 c1 cl
            generalize vs = vs0
            go_wp2_with fail
            exact TAIL.out _ _ ⟨_, _, _, _, D :: Ds, rfl, rfl, by omega, rfl, rfl, rfl, rfl, rfl, rfl, rfl, rfl, rfl, rfl, H9.out⟩
          case stop =>
            rintro D c A hD hx hm
            exact hx.elim
        have b0 : (y0 == 0) = false := by simpa using e0
        have b1 : (y0 == 1) = false := by simpa using e1
        have b2 : (y0 == 2) = false := by simpa using e2
        have b3 : (y0 == 3) = false := by simpa using e3
        have b5 : (y0 == 5) = false := by simpa using e5
        have b6 : (y0 == 6) = false := by simpa using e6
        have b7 : (y0 == 7) = false := by simpa using e7
        have b8 : (y0 == 8) = false := by simpa using e8
        obtain ⟨cnt, hsl⟩ := HM.out.1.bq.sl
        obtain ⟨Lx, eL⟩ : ∃ Lx, Lx = allL (tbT xs) nn := ⟨_, rfl⟩
        obtain ⟨c0, c1, cl⟩ := HM.out.1.bq.cells
        have HT : Hid (Lp6 w W8 sb lb nn l0 xs xs gw b nn gs vg vh Ds ∧ SlV W8 sb lb nn l0 cnt xs ∧ Lx = allL (tbT xs) nn) := ⟨HM.out.1, hsl, eL⟩
        clear hsl eL h0 h1
        go_upto_region 20 with fail
        refine (wpIn_wide (n := 9)).1 ?_
        refine wpIn_region_inv (Jm (fun _ w' => Below W8.heap.size W8 w') (Rk [.pointer (some ⟨sb, 0, none⟩), .agg #[.slice (some ⟨b, 0, none⟩) nn nn, .int .i64 l0], undef, .pointer (some ⟨p, 4, none⟩), .int .i64 y4, .bool true, .bool true] 2 W8.heap.size Lx)) 229 (by kernel_rfl) rfl (by kernel_rfl) ⟨bx_drew (Below.refl _ _) 1, fun _ h => by cases h⟩ (fun _ _ => ⟨?_, ?_, ?_, ?_, ?_, ?_, ?_, trivial⟩) ?_
        · intro L vs a9 w' hJ hF hP hL
          have q7 : (a9.tmps[7]?).getD undef = .pointer (some ⟨sb, 0, none⟩) := hF.old 7 rfl
          exact run_valW (v := .pointer (some ⟨sb, 0, none⟩)) rfl (fun c h => by cases h) (by simp [execOp, go_sem, q7]) ⟨_, rfl, hJ.step hJ.st (fun _ _ h => h) (Rk.mk (by decide) rfl)⟩
        · intro L vs a9 w' hJ hF hP hL
          have q9 : (a9.tmps[9]?).getD undef = .pointer (some ⟨gw, 0, none⟩) := hF.old 9 rfl
          have c0' := bx_cell hJ.st c0
          have c1' := bx_cell hJ.st c1
          exact run_valW (v := .agg #[.slice (some ⟨b, 0, none⟩) nn nn, .int .i64 l0]) rfl (fun c h => by cases h) (by simp [execOp, go_sem, q9, c0', c1']) ⟨_, rfl, hJ.step hJ.st (fun _ _ h => h) (Rk.mk (by decide) rfl)⟩
        · intro L vs a9 w' hJ hF hP hL
          have p1 : L 1 = true := hP ⟨1, .data⟩ (by simp) rfl
          have s95 := hF.slot 1 95 rfl p1
          rw [(hJ.val 1 p1).at (by decide)] at s95
          simp only [List.getD_cons_zero, List.getD_cons_succ] at s95
          refine run_callW (f := 18) (args := #[.agg #[.slice (some ⟨b, 0, none⟩) nn nn, .int .i64 l0]]) rfl (fun c h => by cases h) (by simp [go_sem, s95]) (rall6_any b nn nn (tbT xs) l0 w' (HT.out.1.bq.dr.go hJ.st) hnn) ?_
          rintro e w2 ⟨v, rfl, hp, hB⟩
          rw [← HT.out.2.2] at hp
          exact ⟨_, rfl, _, rfl, hJ.step (bx_go hJ.st hB) (fun _ _ h => h.mono hB) (Rk.mkr (hp.low hJ.st.size))⟩
        · intro L vs a9 w' hJ hF hP hL
          have q14 : (a9.tmps[14]?).getD undef = .pointer (some ⟨p, 0, none⟩) := hF.old 14 rfl
          exact run_valW (v := .pointer (some ⟨p, 4, none⟩)) rfl (fun c h => by cases h) (by simp [execOp, go_sem, q14]) ⟨_, rfl, hJ.step hJ.st (fun _ _ h => h) (Rk.mk (by decide) rfl)⟩
        · intro L vs a9 w' hJ hF hP hL
          have p3 : L 3 = true := hP ⟨3, .data⟩ (by simp) rfl
          have s97 := hF.slot 3 97 rfl p3
          rw [(hJ.val 3 p3).at (by decide)] at s97
          simp only [List.getD_cons_zero, List.getD_cons_succ] at s97
          have k4' := bx_cell hJ.st k4
          exact run_valW (v := .int .i64 y4) rfl (fun c h => by cases h) (by simp [execOp, go_sem, s97, k4']) ⟨_, rfl, hJ.step hJ.st (fun _ _ h => h) (Rk.mk (by decide) rfl)⟩
        · intro L vs a9 w' hJ hF hP hL
          have p0 : L 0 = true := hP ⟨0, .data⟩ (by simp) rfl
          have s94 := hF.slot 0 94 rfl p0
          rw [(hJ.val 0 p0).at (by decide)] at s94
          simp only [List.getD_cons_zero] at s94
          have p2 : L 2 = true := hP ⟨2, .data⟩ (by simp) rfl
          have s96 := hF.slot 2 96 rfl p2
          obtain ⟨ar, cr, er, _⟩ := (hJ.val 2 p2).row.sl
          rw [er] at s96
          have p4 : L 4 = true := hP ⟨4, .data⟩ (by simp) rfl
          have s98 := hF.slot 4 98 rfl p4
          rw [(hJ.val 4 p4).at (by decide)] at s98
          simp only [List.getD_cons_zero, List.getD_cons_succ] at s98
          have hp := (hJ.val 2 p2).row
          rw [er] at hp
          have hL2 : Lx = allL (tbT xs) xs.length := HT.out.2.2.trans (allL_n xs nn hxn)
          refine run_callW (f := 20) (args := #[.pointer (some ⟨sb, 0, none⟩), .slice ar Lx.length cr, .int .i64 y4]) rfl (fun c h => by cases h) (by simp [go_sem, s94, s96, s98]) (goes6_any (HT.out.2.1.mono hJ.st) _ _ (by rw [← hL2]; exact hp) y4 (by omega)) ?_
          rintro e w2 ⟨rfl, hB⟩
          exact ⟨_, rfl, _, rfl, hJ.step (bx_go hJ.st hB) (fun _ _ h => h.mono hB) (Rk.mk (by decide) rfl)⟩
        · intro L vs a9 w' hJ hF hP hL
          have p5 : L 5 = true := hP ⟨5, .data⟩ (by simp) rfl
          have s99 := hF.slot 5 99 rfl p5
          rw [(hJ.val 5 p5).at (by decide)] at s99
          simp only [List.getD_cons_zero, List.getD_cons_succ] at s99
          exact run_valW (v := .bool true) rfl (fun c h => by cases h) (by simp [execOp, go_sem, s99]) ⟨_, rfl, hJ.step hJ.st (fun _ _ h => h) (Rk.mk (by decide) rfl)⟩
        intro L vs w' hA hJ
        have u6 := (hJ.val 6 (hA 6 (by decide))).at (by decide)
        simp only [List.getD_cons_zero, List.getD_cons_succ] at u6
        have H9 : Hid (Lp6 w w' sb lb nn l0 xs xs gw b nn gs vg vh Ds) := HT.out.1.below hJ.st
        simp only [putL, Act.put, List.setIfInBounds_toArray, List.set_cons_zero, List.set_cons_succ, Nat.reduceAdd]
        simp only [u6]
        clear u6 hJ hA HT c0 c1 cl
        generalize vs = vs0
        go_wp2_with fail
        exact TAIL.out _ _ ⟨_, _, _, _, Ds, rfl, rfl, by omega, rfl, rfl, rfl, rfl, rfl, rfl, rfl, rfl, rfl, rfl, H9.out⟩
      clear hKr
      obtain ⟨ga, cg, eg, hg1, hg2, hg3⟩ := HX.out.1.gv.at
      by_cases hpk : 0 ≤ y1
      · by_cases hgl : 0 < gs.length
        · obtain ⟨gb, rfl, hgb, hgc⟩ := hg3 hgl
          obtain ⟨r, er⟩ : ∃ r, r = y1.toNat % gs.length := ⟨_, rfl⟩
          have hr : r < gs.length := by rw [er]; exact Nat.mod_lt _ hgl
          have hrem : y1.tmod (gs.length : Int) = (r : Int) := by
            obtain ⟨m, rfl⟩ : ∃ m : Nat, y1 = (m : Int) := ⟨y1.toNat, by omega⟩
            rw [er, Int.toNat_natCast]
            rfl
          obtain ⟨g0, g1⟩ := hgc r hr
          generalize gs.getD r (0, 0) = gx at g0 g1
          obtain ⟨gx1, gx2⟩ := gx
          simp only at g0 g1
          have z0 : W7.cell? ⟨p + 1, 0, none⟩ = some (.int .i64 y2) := by simp [World.cell?, HX.out.2.2.1]
          have z1 : W7.cell? ⟨p + 1, 1, none⟩ = some (.int .i64 y3) := by simp [World.cell?, HX.out.2.2.1]
          have f0 : W7.frozen? ⟨p + 1, 0, none⟩ = false := by simp [World.frozen?, HX.out.2.2.1]
          have f1 : W7.frozen? ⟨p + 1, 1, none⟩ = false := by simp [World.frozen?, HX.out.2.2.1]
          have hgn : ¬ (gs.length : Int) = 0 := by omega
          have hrr : (r : Int) < (gs.length : Int) := by omega
          have hgl2 : (0 : Int) < (gs.length : Int) := by omega
          subst eg
          clear hg3 hgc er
          go_wp2_with fail
          have t1 : (W7.setCell ⟨p + 1, 0, none⟩ (.int .i64 gx1)).heap[p + 1]? = some (.cells #[.int .i64 gx1, .int .i64 y3] 38) := (heap_setCell_same W7 (p + 1) 0 _ _ _ HX.out.2.2.1).trans (by simp)
          have t2 : ((W7.setCell ⟨p + 1, 0, none⟩ (.int .i64 gx1)).setCell ⟨p + 1, 1, none⟩ (.int .i64 gx2)).heap[p + 1]? = some (.cells #[.int .i64 gx1, .int .i64 gx2] 38) := (heap_setCell_same _ (p + 1) 1 _ _ _ t1).trans (by simp)
          have t3 : ((W7.setCell ⟨p + 1, 0, none⟩ (.int .i64 gx1)).setCell ⟨p + 1, 1, none⟩ (.int .i64 gx2)).heap[p]? = some (.cells #[.int .i64 y0, .int .i64 y1, .int .i64 y2, .int .i64 y3, .int .i64 y4] 40) := (Below.heap_setCell _ _ _ _ (show p ≠ p + 1 by omega)).trans ((Below.heap_setCell _ _ _ _ (show p ≠ p + 1 by omega)).trans HX.out.2.1)
          have hty : 38 ≠ 24 ∧ ¬ isMV 38 ∧ 38 ≠ 92 ∧ 38 ≠ 30 := ⟨by decide, not_mv (by decide), by decide, by decide⟩
          have hvn := HVG.out
          have hlp := HX.out.2.2.2
          exact MEET.out _ _ ⟨p, gx1, gx2, rfl, rfl, rfl, rfl, rfl, rfl, rfl, rfl, rfl, rfl, rfl, rfl, rfl, (HX.out.1.set HX.out.2.2.1 hty (fun k hk => by have := hvn k hk; omega) (by omega) 0 _).set t1 hty (fun k hk => by have := hvn k hk; omega) (by omega) 1 _, t3, t2⟩
        have hgl2 : gs.length = 0 := by omega
        rw [hgl2] at eg
        subst eg
        go_wp2_with fail
        exact MEET.out _ _ ⟨p, y2, y3, rfl, rfl, rfl, rfl, rfl, rfl, rfl, rfl, rfl, rfl, rfl, rfl, rfl, HX.out.1, HX.out.2.1, HX.out.2.2.1⟩
      have hpk2 : ¬ 0 ≤ y1 := hpk
      subst eg
      go_wp2_with fail
      exact MEET.out _ _ ⟨p, y2, y3, rfl, rfl, rfl, rfl, rfl, rfl, rfl, rfl, rfl, rfl, rfl, rfl, rfl, HX.out.1, HX.out.2.1, HX.out.2.2.1⟩
    by_cases hb : i < L0
    · have hb1 : (i : Int) < (L0 : Int) := by omega
      have hb2 : ¬ (i : Int) < 300 := by omega
      obtain ⟨c0, c1, cl⟩ := HL.out.1.bq.cells
      have AL : Hid _ := rall6_any b nn nn (tbT xs) l0 W6 HL.out.1.bq.dr (by omega)
      go_wp2_with fail
      refine Calls.mono AL.out ?_
      rintro e w7 ⟨v, rfl, hp, hB⟩
      rw [allL_n xs nn hxn] at hp
      have L7 := HL.out.1.below hB
      obtain ⟨cnt, hsl⟩ := L7.bq.sl
      have GO : Hid _ := goes6_any hsl _ v hp (-1) (by omega)
      have H7 : Hid (Lp6 w w7 sb lb nn l0 xs xs gw b nn gs vg vh Ds) := L7
      clear AL hp hB L7 hsl c0 c1 cl
      go_wp2_with fail
      refine Calls.mono GO.out ?_
      rintro e w8 ⟨rfl, hB8⟩
      have H8 : Hid (Lp6 w w8 sb lb nn l0 xs xs gw b nn gs vg vh Ds) := H7.out.below hB8
      clear hB8 GO H7
      go_wp2_with fail
      refine leaves6 Ds _ H8.out.ds.1 (fun D hD => (H8.out.ds.2 D hD).2) fun w9 g1 g2 g3 g4 g5 => ?_
      refine ⟨.bool true, ?_, rfl, ?_⟩
      · simp [results, Tryd.results3, go_sem]
      have hb9 := H8.out.bel
      exact ⟨g2.trans hb9.os, g3.trans hb9.tape, g4.trans hb9.output, by rw [g5]; exact hb9.size, fun k hk => (g1 k (fun hm => by have := (H8.out.ds.2 k hm).1; omega)).trans (hb9.block k hk)⟩
    have hb1 : ¬ (i : Int) < (L0 : Int) := by omega
    obtain ⟨c0, c1, cl⟩ := HL.out.1.bq.cells
    have AL : Hid _ := rall6_any b nn nn (tbT xs) l0 W6 HL.out.1.bq.dr (by omega)
    go_wp2_with fail
    refine Calls.mono AL.out ?_
    rintro e w7 ⟨v, rfl, hp, hB⟩
    rw [allL_n xs nn hxn] at hp
    have L7 := HL.out.1.below hB
    obtain ⟨cnt, hsl⟩ := L7.bq.sl
    have GO : Hid _ := goes6_any hsl _ v hp (-1) (by omega)
    have H7 : Hid (Lp6 w w7 sb lb nn l0 xs xs gw b nn gs vg vh Ds) := L7
    clear AL hp hB L7 hsl c0 c1 cl
    go_wp2_with fail
    refine Calls.mono GO.out ?_
    rintro e w8 ⟨rfl, hB8⟩
    have H8 : Hid (Lp6 w w8 sb lb nn l0 xs xs gw b nn gs vg vh Ds) := H7.out.below hB8
    clear hB8 GO H7
    go_wp2_with fail
    refine leaves6 Ds _ H8.out.ds.1 (fun D hD => (H8.out.ds.2 D hD).2) fun w9 g1 g2 g3 g4 g5 => ?_
    refine ⟨.bool true, ?_, rfl, ?_⟩
    · simp [results, Tryd.results3, go_sem]
    have hb9 := H8.out.bel
    exact ⟨g2.trans hb9.os, g3.trans hb9.tape, g4.trans hb9.output, by rw [g5]; exact hb9.size, fun k hk => (g1 k (fun hm => by have := (H8.out.ds.2 k hm).1; omega)).trans (hb9.block k hk)⟩
  have hno : n0 < 1 ∨ 65536 < n0 ∨ l0 < 1 ∨ 2147483647 < l0 := by unfold newOk6 at hok; omega
  go_wp2_with fail
  refine Calls.mono (newV_no n0 l0 w1 hno) ?_
  rintro e w2 ⟨rfl, rfl⟩
  go_wp2_with fail
  refine Calls.mono (rnew6_no n0 l0 w2 hok) ?_
  rintro e w3 ⟨rfl, q⟩
  have H3 : Hid (Below w.heap.size w (w3.alloc (.cells #[.slice none 0 0, .int .i64 0] 30))) := bx_al (bx_go H1.out q)
  clear q
  go_wp2_with fail
  refine ⟨.bool true, ?_, rfl, H3.out⟩
  simp [results, Tryd.results3, go_sem]
end Go.Proofs.YtdobjanhmllloaaDoor
