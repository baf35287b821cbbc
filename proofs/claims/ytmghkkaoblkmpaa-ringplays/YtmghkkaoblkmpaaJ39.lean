/- Contracts of the program's functions, part 39: own work, joined in build order. -/
import Derived.Test.YtmghkkaoblkmpaaJ38
namespace Go.Proofs.Ytmghkkaoblkmpaa
open Go.RowKit Go.Shelf
set_option maxRecDepth 100000
set_option linter.unusedVariables false
attribute [local go_sem] Oper.semAt_some
/-- The loop's frame. -/
def FR (s : Option Addr) (n cap bR bL hb of : Nat) (vl : Value) (i : Nat) (u : Nat → Value) (Ds : List Nat) : Act :=
  { tmps := #[.slice s n cap, u 1, .bool false, .pointer (some ⟨bR, 0, none⟩), .pointer (some ⟨bL, 0, none⟩), .func (.func 36) #[] #[.pointer (some ⟨hb, 0, none⟩)], .int .i64 (of : Int), vl, .int .i64 (i : Int), u 9, u 10, u 11, u 12, u 13, u 14, u 15, u 16, u 17, u 18, u 19, u 20, u 21, u 22, u 23, u 24, u 25, u 26, u 27, u 28, u 29, u 30, u 31, u 32, u 33, u 34, u 35, u 36, u 37, u 38, u 39, u 40, u 41, u 42, u 43, u 44, u 45, u 46, u 47, u 48, u 49, u 50, u 51, u 52, u 53, u 54, u 55, u 56, u 57, u 58, u 59, u 60, u 61, u 62, u 63, u 64, u 65, u 66, u 67, u 68, u 69, u 70, u 71, u 72, u 73, u 74, u 75, u 76, u 77, u 78, u 79, u 80, u 81, u 82, u 83, u 84, u 85, u 86, u 87, u 88, u 89, u 90, u 91, u 92, u 93, u 94, u 95, u 96, u 97, u 98, u 99, u 100, u 101, u 102, u 103, u 104, u 105, u 106, u 107, u 108, u 109, u 110, u 111, u 112, u 113, u 114, u 115, u 116, u 117, u 118, u 119, u 120, u 121, u 122, u 123, u 124, u 125, u 126, u 127, u 128, u 129, u 130, u 131, u 132, u 133, u 134, u 135, u 136, u 137, u 138, u 139, u 140, u 141, u 142, u 143, u 144, u 145, u 146, u 147, u 148, u 149, u 150, u 151, u 152, u 153, u 154, u 155, u 156, u 157, u 158, u 159, u 160, u 161, u 162, u 163, u 164, u 165, u 166, u 167, u 168, u 169, u 170, u 171, u 172, u 173, u 174, u 175, u 176, u 177, u 178, u 179, u 180, u 181, u 182, u 183, u 184, u 185, u 186, u 187, u 188, u 189, u 190, u 191, u 192, u 193, u 194, u 195, u 196, u 197, u 198, u 199, u 200], defers := Ds.map markOf }
/-- The state between two rounds. -/
structure St9 (w : World) (s : Option Addr) (n cap bR bL : Nat) (r : Nat → Nat) (a : Act) (W : World) (i : Nat) : Prop where
  ex : ∃ g v ys hb of al nl cl Vs Ds, (∃ u, a = FR s n cap bR bL hb of (.slice al nl cl) i u Ds) ∧ Pl w W bR bL r g v ys hb of (.slice al nl cl) Vs (3 * i) ∧ Mk w.heap.size W Ds ∧ Vs.length ≤ 2 * i ∧ i ≤ n ∧ i ≤ 300
theorem fr_ex {s : Option Addr} {n cap bR bL hb of : Nat} {vl : Value} {i : Nat} {Ds : List Nat} (a : Act) (h : a = FR s n cap bR bL hb of vl i (fun j => a.tmps.getD j undef) Ds) : ∃ u, a = FR s n cap bR bL hb of vl i u Ds := ⟨_, h⟩
set_option maxHeartbeats 4000000 in
theorem plays_any (s : Option Addr) (n cap : Nat) (F : Nat → Nat → Int) (w : World) (h : StSl w s n cap F) :
    Calls Try.prog 3 #[.slice s n cap] w fun e w' => e = .returned (.bool true) ∧ Below w.heap.size w w' := by
  have HS : Hid (StSl w s n cap F) := h
  clear h
  refine (callsIn_wide (n := 9)).1 ?_
  refine callsIn_of_wp_marks Try.func3 rfl trivial ?_ rfl
  simp only [Try.ntmps3, List.size_toArray, List.length_cons, List.length_nil, Nat.reduceAdd, Nat.reduceSub, Array.replicate_succ, Array.replicate_zero, List.push_toArray, List.append_toArray, List.nil_append, List.cons_append]
  gi_wp2_with (refine ⟨trivial, ?_⟩; refine (callsIn_wide.2 (told_any w)).mono ?_; rintro e w1 ⟨rfl, B1⟩)
  have H1 : Hid (Below w.heap.size w w1) := B1
  clear B1
  gi_wp2_with (refine ⟨trivial, ?_⟩; refine (callsIn_wide.2 (newI_any w1)).mono ?_; rintro e w2 ⟨rfl, R2, B2⟩)
  have H2 : Hid (RI w2 w1.heap.size w1.heap.size 0 0 0 [] ∧ Below w1.heap.size w1 w2) := ⟨R2, B2⟩
  clear R2 B2
  refine ⟨trivial, ?_⟩
  refine (callsIn_wide.2 (newI_any w2)).mono ?_
  rintro e w3 ⟨rfl, R3, B3⟩
  have H3 : Hid (RI w3 w2.heap.size w2.heap.size 0 0 0 [] ∧ Below w2.heap.size w2 w3) := ⟨R3, B3⟩
  clear R3 B3
  gi_wp2_with (refine ⟨trivial, ?_⟩; refine (callsIn_wide.2 (allI_any w1.heap.size _)).mono ?_; rintro e w4 ⟨rfl, rfl⟩)
  obtain ⟨W0, hW0⟩ : ∃ W0, W0 = ((w3.alloc (.cells #[.pointer (some ⟨w1.heap.size, 0, none⟩), .pointer (some ⟨w2.heap.size, 0, none⟩)] 26)).alloc (.cells #[.slice none 0 0, .slice none 0 0] 28)).alloc (.cells #[.pointer (some ⟨w1.heap.size, 0, none⟩)] 24) := ⟨_, rfl⟩
  have P0 : Hid (Pl w W0 w3.heap.size (w3.heap.size + 1) (twoF w1.heap.size w2.heap.size) (twoF w1.heap.size w2.heap.size) (fun _ => .slice none 0 0) (fun _ => []) (w3.heap.size + 1 + 1) 0 (.slice none 0 0) [] 0) := by
    rw [hW0]
    exact Pl.start H1.out H2.out.1 H2.out.2 H3.out.1 H3.out.2
  rw [← hW0]
  clear hW0
  obtain ⟨bR, ebR⟩ : ∃ bR, bR = w3.heap.size := ⟨_, rfl⟩
  rw [← ebR] at P0 ⊢
  obtain ⟨bL, ebL⟩ : ∃ bL, bL = bR + 1 := ⟨_, rfl⟩
  rw [← ebL] at P0 ⊢
  obtain ⟨r, er⟩ : ∃ r, r = twoF w1.heap.size w2.heap.size := ⟨_, rfl⟩
  rw [← er] at P0
  clear ebR ebL er H1 H2 H3
  refine wpIn_loop (fun a W => ∃ i, St9 w s n cap bR bL r a W i) (fun a _ => 301 - (intOf (a.tmps.getD 8 undef)).toNat) ?_ ?_
  · exact ⟨0, ⟨_, _, _, _, _, _, _, _, _, [], fr_ex _ rfl, P0.out, ⟨List.nodup_nil, fun D h => (by cases h), fun D h => (by cases h)⟩, Nat.zero_le _, Nat.zero_le _, Nat.zero_le _⟩⟩
  clear P0
  rintro a W ⟨i, g, v, ys, hb, of, al, nl, cl, Vs, Ds, ⟨u, rfl⟩, hP, hM, hV, hin, hi3⟩
  by_cases hc : i < n ∧ i < 300
  · obtain ⟨hc1, hc2⟩ := hc
    obtain ⟨b, o, rfl, hcell⟩ := (HS.out.mono hP.bel).at (by omega)
    have x0 := hcell i 0 hc1 (by omega)
    have x1 := hcell i 1 hc1 (by omega)
    have x2 := hcell i 2 hc1 (by omega)
    have x3 := hcell i 3 hc1 (by omega)
    rw [Nat.add_zero] at x0
    obtain ⟨K, eK⟩ : ∃ K, K = F i 0 := ⟨_, rfl⟩
    obtain ⟨O, eO⟩ : ∃ O, O = F i 1 := ⟨_, rfl⟩
    obtain ⟨N, eN⟩ : ∃ N, N = F i 2 := ⟨_, rfl⟩
    obtain ⟨V, eV⟩ : ∃ V, V = F i 3 := ⟨_, rfl⟩
    rw [← eK] at x0
    rw [← eO] at x1
    rw [← eN] at x2
    rw [← eV] at x3
    have HN : Hid (-9223372036854775808 ≤ N ∧ N ≤ 9223372036854775807) := by rw [eN]; exact HS.out.wf i 2 hc1 (by omega)
    have HP : Hid (Pl w W bR bL r g v ys hb of (.slice al nl cl) Vs (3 * i) ∧ Mk w.heap.size W Ds ∧ Vs.length ≤ 2 * i) := ⟨hP, hM, hV⟩
    clear hP hM hV hcell eK eO eN eV
    have hn0 := HS.out.le
    have hn1 := HS.out.lim
    obtain ⟨o1, eo1, hlo⟩ := bit_of O
    obtain ⟨sb, esb⟩ : ∃ sb, sb = W.heap.size := ⟨_, rfl⟩
    obtain ⟨W1, hW1⟩ : ∃ W1, W1 = W.alloc (.cells #[.int .i64 K, .int .i64 O, .int .i64 N, .int .i64 V] 34) := ⟨_, rfl⟩
    have B1 : Below W.heap.size W W1 := by rw [hW1]; exact (Below.refl _ _).alloc (Nat.le_refl _) _
    have BD : Below W.heap.size W W1.drew := bel_drew B1
    have PD := HP.out.1.mono BD
    have hst : W1.drew.rowIs sb 34 4 (step4 K O N V) := by
      rw [hW1, esb]
      refine ⟨#[.int .i64 K, .int .i64 O, .int .i64 N, .int .i64 V], World.alloc_heap_new _ _, rfl, fun j hj => ?_⟩
      rcases j with _ | _ | _ | _ | j
      · rfl
      · rfl
      · rfl
      · rfl
      · omega
    have hns : ∀ o, o < 2 → sb ≠ r o ∧ sb ≠ g o := fun o ho => by
      obtain ⟨N, f, hR⟩ := HP.out.1.ring o ho
      have h1 := hR.rlt
      have h2 := hR.glt
      omega
    have hnl : sb ≠ bL := by have := HP.out.1.okL.1; omega
    have HLim : Hid ((ys o1).length ≤ 3 * i) := HP.out.1.lim o1 hlo
    obtain ⟨a, cap2, N0, f0, ev, hdo⟩ := PD.doing hlo (by omega)
    have HDo : Hid (Doing W1.drew (r o1) (g o1) N0 f0 a (ys o1).length cap2 (ys o1)) := hdo
    have DD : Hid (∀ u w1, Stp W1.drew w1 (r o1) (g o1) (.slice a (ys o1).length cap2) (ys o1) u → Dd15 w bR bL r hb of (.slice al nl cl) Vs (3 * i + 3) sb (step4 K O N V) Ds o1 u w1) := fun u w1 hS => PD.called hlo (HP.out.2.1.mono BD) hst hns hnl (by rw [ev]; exact hS)
    have cR : W1.drew.cell? ⟨bR, o1, none⟩ = some (.pointer (some ⟨r o1, 0, none⟩)) := PD.rows.cell hlo
    have cL : W1.drew.cell? ⟨bL, o1, none⟩ = some (.slice a (ys o1).length cap2) := by rw [← ev]; exact PD.lsts.cell hlo
    have y0 : W1.drew.cell? ⟨sb, 0, none⟩ = some (.int .i64 K) := hst.cell (i := 0) (by omega)
    have y1 : W1.drew.cell? ⟨sb, 1, none⟩ = some (.int .i64 O) := hst.cell (i := 1) (by omega)
    have y2 : W1.drew.cell? ⟨sb, 2, none⟩ = some (.int .i64 N) := hst.cell (i := 2) (by omega)
    have y3 : W1.drew.cell? ⟨sb, 3, none⟩ = some (.int .i64 V) := hst.cell (i := 3) (by omega)
    have hlo2 : (o1 : Int) < 2 := by omega
    have HW1 : Hid (W1 = W.alloc (.cells #[.int .i64 K, .int .i64 O, .int .i64 N, .int .i64 V] 34) ∧ sb = W.heap.size) := ⟨hW1, esb⟩
    have HST : Hid (W1.rowIs sb 34 4 (step4 K O N V) ∧ Below W.heap.size W W1 ∧ W1.heap.size = sb + 1) := ⟨hst.of_block rfl, B1, by rw [hW1, esb]; simp⟩
    clear hW1 esb B1 BD PD hst ev hdo
    simp only [FR]
    by_cases k8 : K = 8
    · subst k8
      gi_wp2_with fail
      rw [← HW1.out.1, ← HW1.out.2]
      refine wpIn_region_inv (J15 W1.drew (Dd15 w bR bL r hb of (.slice al nl cl) Vs (3 * i + 3) sb (step4 8 O N V) Ds o1) [.int .i64 (o1 : Int), .int .i64 (o1 : Int), .pointer (some ⟨bR, o1, none⟩), .pointer (some ⟨(r o1), 0, none⟩), .int .i64 (o1 : Int), .pointer (some ⟨bL, o1, none⟩), .slice a (ys o1).length cap2, .agg #[.int .i64 8, .int .i64 O, .int .i64 N, .int .i64 V], undef, undef, undef, undef, .pointer (some ⟨bL, o1, none⟩)] ⟨bL, o1, none⟩) 201 (by kernel_rfl) rfl (by kernel_rfl) J15.start (fun HG0 HN0 => ⟨?_, ?_, ?_, ?_, ?_, ?_, ?_, ?_, ?_, ?_, ?_, ?_, ?_, ?_, ?_, trivial⟩) ?_
      · intro L vs a9 w' hJ hF hP hL
        have q10 : (a9.tmps[10]?).getD undef = .int .i64 (o1 : Int) := hF.old 10 rfl
        exact run_valW (v := .int .i64 (o1 : Int)) rfl (fun c h => by cases h) (by simp [execOp, go_sem, q10]) ⟨_, rfl, hJ.early (by omega) rfl ⟨fun h => (by omega), fun h => (by omega), fun h => (by omega), fun h => (by omega)⟩⟩
      · intro L vs a9 w' hJ hF hP hL
        have q10 : (a9.tmps[10]?).getD undef = .int .i64 (o1 : Int) := hF.old 10 rfl
        exact run_valW (v := .int .i64 (o1 : Int)) rfl (fun c h => by cases h) (by simp [execOp, go_sem, q10]) ⟨_, rfl, hJ.early (by omega) rfl ⟨fun h => (by omega), fun h => (by omega), fun h => (by omega), fun h => (by omega)⟩⟩
      · intro L vs a9 w' hJ hF hP hL
        have q3 : (a9.tmps[3]?).getD undef = .pointer (some ⟨bR, 0, none⟩) := hF.old 3 rfl
        have p1 : L 1 = true := hP ⟨1, .data⟩ (by simp) rfl
        have s1 := hJ.pre 1 (by omega) p1
        simp only [List.getD_cons_zero, List.getD_cons_succ] at s1
        have q65 := hF.slot 1 65 rfl p1
        exact run_valW (v := .pointer (some ⟨bR, o1, none⟩)) rfl (fun c h => by cases h) (by simp [execOp, go_sem, q3, q65, s1, hlo2]) ⟨_, rfl, hJ.early (by omega) rfl ⟨fun _ => p1, fun h => (by omega), fun h => (by omega), fun h => (by omega)⟩⟩
      · intro L vs a9 w' hJ hF hP hL
        obtain rfl := hJ.ahead (j := 3) (by omega) hL
        have p2 : L 2 = true := hP ⟨2, .data⟩ (by simp) rfl
        have s2 := hJ.pre 2 (by omega) p2
        simp only [List.getD_cons_zero, List.getD_cons_succ] at s2
        have q66 := hF.slot 2 66 rfl p2
        exact run_valW (v := .pointer (some ⟨(r o1), 0, none⟩)) rfl (fun c h => by cases h) (by simp [execOp, go_sem, q66, s2, cR]) ⟨_, rfl, hJ.early (by omega) rfl ⟨fun h => (by omega), fun _ => p2, fun h => (by omega), fun h => (by omega)⟩⟩
      · intro L vs a9 w' hJ hF hP hL
        have q10 : (a9.tmps[10]?).getD undef = .int .i64 (o1 : Int) := hF.old 10 rfl
        exact run_valW (v := .int .i64 (o1 : Int)) rfl (fun c h => by cases h) (by simp [execOp, go_sem, q10]) ⟨_, rfl, hJ.early (by omega) rfl ⟨fun h => (by omega), fun h => (by omega), fun h => (by omega), fun h => (by omega)⟩⟩
      · intro L vs a9 w' hJ hF hP hL
        have q4 : (a9.tmps[4]?).getD undef = .pointer (some ⟨bL, 0, none⟩) := hF.old 4 rfl
        have p4 : L 4 = true := hP ⟨4, .data⟩ (by simp) rfl
        have s4 := hJ.pre 4 (by omega) p4
        simp only [List.getD_cons_zero, List.getD_cons_succ] at s4
        have q68 := hF.slot 4 68 rfl p4
        exact run_valW (v := .pointer (some ⟨bL, o1, none⟩)) rfl (fun c h => by cases h) (by simp [execOp, go_sem, q4, q68, s4, hlo2]) ⟨_, rfl, hJ.early (by omega) rfl ⟨fun h => (by omega), fun h => (by omega), fun _ => p4, fun h => (by omega)⟩⟩
      · intro L vs a9 w' hJ hF hP hL
        obtain rfl := hJ.ahead (j := 6) (by omega) hL
        have p5 : L 5 = true := hP ⟨5, .data⟩ (by simp) rfl
        have s5 := hJ.pre 5 (by omega) p5
        simp only [List.getD_cons_zero, List.getD_cons_succ] at s5
        have q69 := hF.slot 5 69 rfl p5
        exact run_valW (v := .slice a (ys o1).length cap2) rfl (fun c h => by cases h) (by simp [execOp, go_sem, q69, s5, cL]) ⟨_, rfl, hJ.early (by omega) rfl ⟨fun h => (by omega), fun h => (by omega), fun h => (by omega), fun _ => p5⟩⟩
      · intro L vs a9 w' hJ hF hP hL
        obtain rfl := hJ.ahead (j := 7) (by omega) hL
        have q9 : (a9.tmps[9]?).getD undef = .pointer (some ⟨sb, 0, none⟩) := hF.old 9 rfl
        exact run_valW (v := .agg #[.int .i64 8, .int .i64 O, .int .i64 N, .int .i64 V]) rfl (fun c h => by cases h) (by simp [execOp, go_sem, q9, y0, y1, y2, y3]) ⟨_, rfl, hJ.early (by omega) rfl ⟨fun h => (by omega), fun h => (by omega), fun h => (by omega), fun h => (by omega)⟩⟩
      · intro L vs a9 w' hJ hF hP hL
        have p3 : L 3 = true := hP ⟨3, .data⟩ (by simp) rfl
        have s3 := hJ.pre 3 (by omega) p3
        simp only [List.getD_cons_zero, List.getD_cons_succ] at s3
        have q67 := hF.slot 3 67 rfl p3
        have p6 : L 6 = true := hP ⟨6, .data⟩ (by simp) rfl
        have s6 := hJ.pre 6 (by omega) p6
        simp only [List.getD_cons_zero, List.getD_cons_succ] at s6
        have q70 := hF.slot 6 70 rfl p6
        have p7 : L 7 = true := hP ⟨7, .data⟩ (by simp) rfl
        have s7 := hJ.pre 7 (by omega) p7
        simp only [List.getD_cons_zero, List.getD_cons_succ] at s7
        have q71 := hF.slot 7 71 rfl p7
        obtain rfl := (hJ.no hL).1
        refine run_callW (f := 10) (args := #[.pointer (some ⟨(r o1), 0, none⟩), .slice a (ys o1).length cap2, .agg #[.int .i64 8, .int .i64 O, .int .i64 N, .int .i64 V]]) rfl (fun c h => by cases h) (by simp [go_sem, q67, s3, q70, s6, q71, s7]) (ranged_any (r o1) (g o1) N0 f0 a (ys o1).length cap2 (ys o1) 8 O N V _ HDo.out (by have := HLim.out; omega)) ?_
        rintro e w2 ⟨v2, rfl, hv2⟩
        exact ⟨_, rfl, _, rfl, hJ.call hL p3 p6 p7 (DD.out v2 w2 (by exact hv2.stp))⟩
      · intro L vs a9 w' hJ hF hP hL
        have p8 : L 8 = true := hP ⟨8, .data⟩ (by simp) rfl
        have q72 := hF.slot 8 72 rfl p8
        obtain ⟨v2, e, hJ'⟩ := hJ.m9 p8
        exact run_valW (v := .tuple #[v2, .bool true]) rfl (fun c h => by cases h) (by simp [execOp, go_sem, q72, e]) ⟨_, rfl, hJ'⟩
      · intro L vs a9 w' hJ hF hP hL
        have p9 : L 9 = true := hP ⟨9, .data⟩ (by simp) rfl
        have q63 := hF.slot 9 63 rfl p9
        obtain ⟨v2, e, hJ'⟩ := hJ.m10 p9
        exact run_valW (v := v2) rfl (fun c h => by cases h) (by simp [execOp, go_sem, q63, e]) ⟨_, rfl, hJ'⟩
      · intro L vs a9 w' hJ hF hP hL
        have p9 : L 9 = true := hP ⟨9, .data⟩ (by simp) rfl
        have q63 := hF.slot 9 63 rfl p9
        obtain ⟨v2, e, hJ'⟩ := hJ.m11 p9
        exact run_valW (v := .bool true) rfl (fun c h => by cases h) (by simp [execOp, go_sem, q63, e]) ⟨_, rfl, hJ'⟩
      · intro L vs a9 w' hJ hF hP hL
        have q4 : (a9.tmps[4]?).getD undef = .pointer (some ⟨bL, 0, none⟩) := hF.old 4 rfl
        have p0 : L 0 = true := hP ⟨0, .data⟩ (by simp) rfl
        have s0 := hJ.pre 0 (by omega) p0
        simp only [List.getD_cons_zero] at s0
        have q64 := hF.slot 0 64 rfl p0
        exact run_valW (v := .pointer (some ⟨bL, o1, none⟩)) rfl (fun c h => by cases h) (by simp [execOp, go_sem, q4, q64, s0, hlo2]) ⟨_, rfl, hJ.early (by omega) rfl ⟨fun h => (by omega), fun h => (by omega), fun h => (by omega), fun h => (by omega)⟩⟩
      · intro L vs a9 w' hJ hF hP hL
        have p12 : L 12 = true := hP ⟨12, .data⟩ (by simp) rfl
        have s12 := hJ.pre 12 (by omega) p12
        simp only [List.getD_cons_zero, List.getD_cons_succ] at s12
        have q75 := hF.slot 12 75 rfl p12
        have p10 : L 10 = true := hP ⟨10, .data⟩ (by simp) rfl
        have q73 := hF.slot 10 73 rfl p10
        obtain ⟨v2, w2, hD2, rfl, e, hJ'⟩ := hJ.m13 p10 hL
        obtain ⟨⟨x9, hx9⟩, hf9, ⟨a7, n7, c7, rfl⟩, _⟩ := hD2
        exact run_unitW rfl (fun c h => by cases h) (by simp [execOp, go_sem, q75, s12, q73, e, hx9, hf9]) ⟨_, rfl, hJ' _⟩
      · intro L vs a9 w' hJ hF hP hL
        have p11 : L 11 = true := hP ⟨11, .data⟩ (by simp) rfl
        have q74 := hF.slot 11 74 rfl p11
        obtain ⟨e, hJ'⟩ := hJ.m14 p11
        exact run_valW (v := .bool true) rfl (fun c h => by cases h) (by simp [execOp, go_sem, q74, e]) ⟨_, rfl, hJ'⟩
      intro L vs w' hA hJ
      obtain ⟨v2, w2, ⟨_, _, _, hNx⟩, rfl, e14⟩ := hJ.fin hA
      have NX : Hid _ := hNx
      simp only [putL, Act.put, List.setIfInBounds_toArray, List.set_cons_zero, List.set_cons_succ, Nat.reduceAdd]
      simp only [e14]
      obtain ⟨W2, hW2⟩ : ∃ W2, W2 = w2.setCell ⟨bL, o1, none⟩ v2 := ⟨_, rfl⟩
      rw [← hW2] at NX ⊢
      clear hW2 hNx e14 hJ hA cR cL y0 y1 y2 y3 DD
      generalize vs = vs0
      gi_wp2_with fail
      refine wpIn_wide.2 ?_
      rename_i K10 hk10 K35 hk35
      obtain ⟨o2, eo2, hlo3⟩ : ∃ o2 : Nat, (1 : Int) - (o1 : Int) = (o2 : Int) ∧ o2 < 2 := ⟨1 - o1, by omega, by omega⟩
      obtain ⟨g3, v3, ys3, hP3⟩ := NX.out.pl
      obtain ⟨aA, nA, cA, cR1, cL1, EA⟩ := hP3.ends hlo N
      obtain ⟨aB, nB, cB, cR2, cL2, EB⟩ := hP3.ends hlo3 0
      have cN : W2.cell? ⟨sb, 2, none⟩ = some (.int .i64 N) := NX.out.st.cell (i := 2) (by omega)
      have EA' : Hid (∀ k, Calls Try.prog 15 #[.pointer (some ⟨r o1, 0, none⟩), .slice aA nA cA, .int .i64 N] (W2.drewN k) fun e w' => e = .returned (.bool true) ∧ ∃ m, w' = (W2.drewN k).drewN m) := EA
      have EB' : Hid (∀ k, Calls Try.prog 15 #[.pointer (some ⟨r o2, 0, none⟩), .slice aB nB cB, .int .i64 0] (W2.drewN k) fun e w' => e = .returned (.bool true) ∧ ∃ m, w' = (W2.drewN k).drewN m) := EB
      have hlo4 : (o2 : Int) < 2 := by omega
      have hwo : IntKind.i64.wrap ((1 : Int) - (o1 : Int)) = (o2 : Int) := by rw [IntKind.wrap_i64]; omega
      have HP3 : Hid (Pl w W2 bR bL r g3 v3 ys3 hb of (.slice al nl cl) Vs (3 * i + 3)) := hP3
      clear hP3 EA EB
      go_quiet (first | (go_at_call_of 15 (Value.int IntKind.i64 N); exact Calls.quiet_of (EA'.out _)) | (go_at_call 15; exact Calls.quiet_of (EB'.out _)))
      refine hk35 _ _ ?_
      have NX3 : Hid (Nx w bR bL r hb of (.slice al nl cl) Vs (3 * i + 3) sb (step4 8 O N V) Ds (W2.drewN nq)) := ⟨⟨g3, v3, ys3, HP3.out.mono (bel_drewN (Below.refl _ _) nq)⟩, NX.out.marks.mono (bel_drewN (Below.refl _ _) nq), NX.out.st⟩
      clear NX HP3 EA' EB' cR1 cL1 cR2 cL2 cN
      gi_wp2_with fail
      have e1 : (i : Int) + 1 = ((i + 1 : Nat) : Int) := by omega
      rw [e1]
      obtain ⟨g4, v4, ys4, hP4⟩ := NX3.out.pl
      refine ⟨⟨i + 1, ⟨g4, v4, ys4, hb, of, _, _, _, Vs, Ds, fr_ex _ rfl, by rw [show 3 * (i + 1) = 3 * i + 3 by omega]; exact hP4, NX3.out.marks, by have := HP.out.2.2; omega, by omega, by omega⟩⟩, ?_⟩
      simp [intOf]
      omega
    by_cases k9 : K = 9
    · subst k9
      gi_wp2_with fail
      rw [← HW1.out.1, ← HW1.out.2]
      refine wpIn_region_inv (J15 W1.drew (Dd15 w bR bL r hb of (.slice al nl cl) Vs (3 * i + 3) sb (step4 9 O N V) Ds o1) [.int .i64 (o1 : Int), .int .i64 (o1 : Int), .pointer (some ⟨bR, o1, none⟩), .pointer (some ⟨(r o1), 0, none⟩), .int .i64 (o1 : Int), .pointer (some ⟨bL, o1, none⟩), .slice a (ys o1).length cap2, .agg #[.int .i64 9, .int .i64 O, .int .i64 N, .int .i64 V], undef, undef, undef, undef, .pointer (some ⟨bL, o1, none⟩)] ⟨bL, o1, none⟩) 201 (by kernel_rfl) rfl (by kernel_rfl) J15.start (fun HG0 HN0 => ⟨?_, ?_, ?_, ?_, ?_, ?_, ?_, ?_, ?_, ?_, ?_, ?_, ?_, ?_, ?_, trivial⟩) ?_
      · intro L vs a9 w' hJ hF hP hL
        have q10 : (a9.tmps[10]?).getD undef = .int .i64 (o1 : Int) := hF.old 10 rfl
        exact run_valW (v := .int .i64 (o1 : Int)) rfl (fun c h => by cases h) (by simp [execOp, go_sem, q10]) ⟨_, rfl, hJ.early (by omega) rfl ⟨fun h => (by omega), fun h => (by omega), fun h => (by omega), fun h => (by omega)⟩⟩
      · intro L vs a9 w' hJ hF hP hL
        have q10 : (a9.tmps[10]?).getD undef = .int .i64 (o1 : Int) := hF.old 10 rfl
        exact run_valW (v := .int .i64 (o1 : Int)) rfl (fun c h => by cases h) (by simp [execOp, go_sem, q10]) ⟨_, rfl, hJ.early (by omega) rfl ⟨fun h => (by omega), fun h => (by omega), fun h => (by omega), fun h => (by omega)⟩⟩
      · intro L vs a9 w' hJ hF hP hL
        have q3 : (a9.tmps[3]?).getD undef = .pointer (some ⟨bR, 0, none⟩) := hF.old 3 rfl
        have p1 : L 1 = true := hP ⟨1, .data⟩ (by simp) rfl
        have s1 := hJ.pre 1 (by omega) p1
        simp only [List.getD_cons_zero, List.getD_cons_succ] at s1
        have q65 := hF.slot 1 65 rfl p1
        exact run_valW (v := .pointer (some ⟨bR, o1, none⟩)) rfl (fun c h => by cases h) (by simp [execOp, go_sem, q3, q65, s1, hlo2]) ⟨_, rfl, hJ.early (by omega) rfl ⟨fun _ => p1, fun h => (by omega), fun h => (by omega), fun h => (by omega)⟩⟩
      · intro L vs a9 w' hJ hF hP hL
        obtain rfl := hJ.ahead (j := 3) (by omega) hL
        have p2 : L 2 = true := hP ⟨2, .data⟩ (by simp) rfl
        have s2 := hJ.pre 2 (by omega) p2
        simp only [List.getD_cons_zero, List.getD_cons_succ] at s2
        have q66 := hF.slot 2 66 rfl p2
        exact run_valW (v := .pointer (some ⟨(r o1), 0, none⟩)) rfl (fun c h => by cases h) (by simp [execOp, go_sem, q66, s2, cR]) ⟨_, rfl, hJ.early (by omega) rfl ⟨fun h => (by omega), fun _ => p2, fun h => (by omega), fun h => (by omega)⟩⟩
      · intro L vs a9 w' hJ hF hP hL
        have q10 : (a9.tmps[10]?).getD undef = .int .i64 (o1 : Int) := hF.old 10 rfl
        exact run_valW (v := .int .i64 (o1 : Int)) rfl (fun c h => by cases h) (by simp [execOp, go_sem, q10]) ⟨_, rfl, hJ.early (by omega) rfl ⟨fun h => (by omega), fun h => (by omega), fun h => (by omega), fun h => (by omega)⟩⟩
      · intro L vs a9 w' hJ hF hP hL
        have q4 : (a9.tmps[4]?).getD undef = .pointer (some ⟨bL, 0, none⟩) := hF.old 4 rfl
        have p4 : L 4 = true := hP ⟨4, .data⟩ (by simp) rfl
        have s4 := hJ.pre 4 (by omega) p4
        simp only [List.getD_cons_zero, List.getD_cons_succ] at s4
        have q68 := hF.slot 4 68 rfl p4
        exact run_valW (v := .pointer (some ⟨bL, o1, none⟩)) rfl (fun c h => by cases h) (by simp [execOp, go_sem, q4, q68, s4, hlo2]) ⟨_, rfl, hJ.early (by omega) rfl ⟨fun h => (by omega), fun h => (by omega), fun _ => p4, fun h => (by omega)⟩⟩
      · intro L vs a9 w' hJ hF hP hL
        obtain rfl := hJ.ahead (j := 6) (by omega) hL
        have p5 : L 5 = true := hP ⟨5, .data⟩ (by simp) rfl
        have s5 := hJ.pre 5 (by omega) p5
        simp only [List.getD_cons_zero, List.getD_cons_succ] at s5
        have q69 := hF.slot 5 69 rfl p5
        exact run_valW (v := .slice a (ys o1).length cap2) rfl (fun c h => by cases h) (by simp [execOp, go_sem, q69, s5, cL]) ⟨_, rfl, hJ.early (by omega) rfl ⟨fun h => (by omega), fun h => (by omega), fun h => (by omega), fun _ => p5⟩⟩
      · intro L vs a9 w' hJ hF hP hL
        obtain rfl := hJ.ahead (j := 7) (by omega) hL
        have q9 : (a9.tmps[9]?).getD undef = .pointer (some ⟨sb, 0, none⟩) := hF.old 9 rfl
        exact run_valW (v := .agg #[.int .i64 9, .int .i64 O, .int .i64 N, .int .i64 V]) rfl (fun c h => by cases h) (by simp [execOp, go_sem, q9, y0, y1, y2, y3]) ⟨_, rfl, hJ.early (by omega) rfl ⟨fun h => (by omega), fun h => (by omega), fun h => (by omega), fun h => (by omega)⟩⟩
      · intro L vs a9 w' hJ hF hP hL
        have p3 : L 3 = true := hP ⟨3, .data⟩ (by simp) rfl
        have s3 := hJ.pre 3 (by omega) p3
        simp only [List.getD_cons_zero, List.getD_cons_succ] at s3
        have q67 := hF.slot 3 67 rfl p3
        have p6 : L 6 = true := hP ⟨6, .data⟩ (by simp) rfl
        have s6 := hJ.pre 6 (by omega) p6
        simp only [List.getD_cons_zero, List.getD_cons_succ] at s6
        have q70 := hF.slot 6 70 rfl p6
        have p7 : L 7 = true := hP ⟨7, .data⟩ (by simp) rfl
        have s7 := hJ.pre 7 (by omega) p7
        simp only [List.getD_cons_zero, List.getD_cons_succ] at s7
        have q71 := hF.slot 7 71 rfl p7
        obtain rfl := (hJ.no hL).1
        refine run_callW (f := 10) (args := #[.pointer (some ⟨(r o1), 0, none⟩), .slice a (ys o1).length cap2, .agg #[.int .i64 9, .int .i64 O, .int .i64 N, .int .i64 V]]) rfl (fun c h => by cases h) (by simp [go_sem, q67, s3, q70, s6, q71, s7]) (ranged_any (r o1) (g o1) N0 f0 a (ys o1).length cap2 (ys o1) 9 O N V _ HDo.out (by have := HLim.out; omega)) ?_
        rintro e w2 ⟨v2, rfl, hv2⟩
        exact ⟨_, rfl, _, rfl, hJ.call hL p3 p6 p7 (DD.out v2 w2 (by exact hv2.stp))⟩
      · intro L vs a9 w' hJ hF hP hL
        have p8 : L 8 = true := hP ⟨8, .data⟩ (by simp) rfl
        have q72 := hF.slot 8 72 rfl p8
        obtain ⟨v2, e, hJ'⟩ := hJ.m9 p8
        exact run_valW (v := .tuple #[v2, .bool true]) rfl (fun c h => by cases h) (by simp [execOp, go_sem, q72, e]) ⟨_, rfl, hJ'⟩
      · intro L vs a9 w' hJ hF hP hL
        have p9 : L 9 = true := hP ⟨9, .data⟩ (by simp) rfl
        have q63 := hF.slot 9 63 rfl p9
        obtain ⟨v2, e, hJ'⟩ := hJ.m10 p9
        exact run_valW (v := v2) rfl (fun c h => by cases h) (by simp [execOp, go_sem, q63, e]) ⟨_, rfl, hJ'⟩
      · intro L vs a9 w' hJ hF hP hL
        have p9 : L 9 = true := hP ⟨9, .data⟩ (by simp) rfl
        have q63 := hF.slot 9 63 rfl p9
        obtain ⟨v2, e, hJ'⟩ := hJ.m11 p9
        exact run_valW (v := .bool true) rfl (fun c h => by cases h) (by simp [execOp, go_sem, q63, e]) ⟨_, rfl, hJ'⟩
      · intro L vs a9 w' hJ hF hP hL
        have q4 : (a9.tmps[4]?).getD undef = .pointer (some ⟨bL, 0, none⟩) := hF.old 4 rfl
        have p0 : L 0 = true := hP ⟨0, .data⟩ (by simp) rfl
        have s0 := hJ.pre 0 (by omega) p0
        simp only [List.getD_cons_zero] at s0
        have q64 := hF.slot 0 64 rfl p0
        exact run_valW (v := .pointer (some ⟨bL, o1, none⟩)) rfl (fun c h => by cases h) (by simp [execOp, go_sem, q4, q64, s0, hlo2]) ⟨_, rfl, hJ.early (by omega) rfl ⟨fun h => (by omega), fun h => (by omega), fun h => (by omega), fun h => (by omega)⟩⟩
      · intro L vs a9 w' hJ hF hP hL
        have p12 : L 12 = true := hP ⟨12, .data⟩ (by simp) rfl
        have s12 := hJ.pre 12 (by omega) p12
        simp only [List.getD_cons_zero, List.getD_cons_succ] at s12
        have q75 := hF.slot 12 75 rfl p12
        have p10 : L 10 = true := hP ⟨10, .data⟩ (by simp) rfl
        have q73 := hF.slot 10 73 rfl p10
        obtain ⟨v2, w2, hD2, rfl, e, hJ'⟩ := hJ.m13 p10 hL
        obtain ⟨⟨x9, hx9⟩, hf9, ⟨a7, n7, c7, rfl⟩, _⟩ := hD2
        exact run_unitW rfl (fun c h => by cases h) (by simp [execOp, go_sem, q75, s12, q73, e, hx9, hf9]) ⟨_, rfl, hJ' _⟩
      · intro L vs a9 w' hJ hF hP hL
        have p11 : L 11 = true := hP ⟨11, .data⟩ (by simp) rfl
        have q74 := hF.slot 11 74 rfl p11
        obtain ⟨e, hJ'⟩ := hJ.m14 p11
        exact run_valW (v := .bool true) rfl (fun c h => by cases h) (by simp [execOp, go_sem, q74, e]) ⟨_, rfl, hJ'⟩
      intro L vs w' hA hJ
      obtain ⟨v2, w2, ⟨_, _, _, hNx⟩, rfl, e14⟩ := hJ.fin hA
      have NX : Hid _ := hNx
      simp only [putL, Act.put, List.setIfInBounds_toArray, List.set_cons_zero, List.set_cons_succ, Nat.reduceAdd]
      simp only [e14]
      obtain ⟨W2, hW2⟩ : ∃ W2, W2 = w2.setCell ⟨bL, o1, none⟩ v2 := ⟨_, rfl⟩
      rw [← hW2] at NX ⊢
      clear hW2 hNx e14 hJ hA cR cL y0 y1 y2 y3 DD
      generalize vs = vs0
      gi_wp2_with fail
      refine wpIn_wide.2 ?_
      rename_i K10 hk10 K35 hk35
      obtain ⟨o2, eo2, hlo3⟩ : ∃ o2 : Nat, (1 : Int) - (o1 : Int) = (o2 : Int) ∧ o2 < 2 := ⟨1 - o1, by omega, by omega⟩
      obtain ⟨g3, v3, ys3, hP3⟩ := NX.out.pl
      obtain ⟨aA, nA, cA, cR1, cL1, EA⟩ := hP3.ends hlo N
      obtain ⟨aB, nB, cB, cR2, cL2, EB⟩ := hP3.ends hlo3 0
      have cN : W2.cell? ⟨sb, 2, none⟩ = some (.int .i64 N) := NX.out.st.cell (i := 2) (by omega)
      have EA' : Hid (∀ k, Calls Try.prog 15 #[.pointer (some ⟨r o1, 0, none⟩), .slice aA nA cA, .int .i64 N] (W2.drewN k) fun e w' => e = .returned (.bool true) ∧ ∃ m, w' = (W2.drewN k).drewN m) := EA
      have EB' : Hid (∀ k, Calls Try.prog 15 #[.pointer (some ⟨r o2, 0, none⟩), .slice aB nB cB, .int .i64 0] (W2.drewN k) fun e w' => e = .returned (.bool true) ∧ ∃ m, w' = (W2.drewN k).drewN m) := EB
      have hlo4 : (o2 : Int) < 2 := by omega
      have hwo : IntKind.i64.wrap ((1 : Int) - (o1 : Int)) = (o2 : Int) := by rw [IntKind.wrap_i64]; omega
      have HP3 : Hid (Pl w W2 bR bL r g3 v3 ys3 hb of (.slice al nl cl) Vs (3 * i + 3)) := hP3
      clear hP3 EA EB
      go_quiet (first | (go_at_call_of 15 (Value.int IntKind.i64 N); exact Calls.quiet_of (EA'.out _)) | (go_at_call 15; exact Calls.quiet_of (EB'.out _)))
      refine hk35 _ _ ?_
      have NX3 : Hid (Nx w bR bL r hb of (.slice al nl cl) Vs (3 * i + 3) sb (step4 9 O N V) Ds (W2.drewN nq)) := ⟨⟨g3, v3, ys3, HP3.out.mono (bel_drewN (Below.refl _ _) nq)⟩, NX.out.marks.mono (bel_drewN (Below.refl _ _) nq), NX.out.st⟩
      clear NX HP3 EA' EB' cR1 cL1 cR2 cL2 cN
      gi_wp2_with fail
      have e1 : (i : Int) + 1 = ((i + 1 : Nat) : Int) := by omega
      rw [e1]
      obtain ⟨g4, v4, ys4, hP4⟩ := NX3.out.pl
      refine ⟨⟨i + 1, ⟨g4, v4, ys4, hb, of, _, _, _, Vs, Ds, fr_ex _ rfl, by rw [show 3 * (i + 1) = 3 * i + 3 by omega]; exact hP4, NX3.out.marks, by have := HP.out.2.2; omega, by omega, by omega⟩⟩, ?_⟩
      simp [intOf]
      omega
    by_cases k10 : K = 10
    · subst k10
      gi_wp2_with fail
      rw [← HW1.out.1, ← HW1.out.2]
      refine wpIn_region_inv (J15 W1.drew (Dd15 w bR bL r hb of (.slice al nl cl) Vs (3 * i + 3) sb (step4 10 O N V) Ds o1) [.int .i64 (o1 : Int), .int .i64 (o1 : Int), .pointer (some ⟨bR, o1, none⟩), .pointer (some ⟨(r o1), 0, none⟩), .int .i64 (o1 : Int), .pointer (some ⟨bL, o1, none⟩), .slice a (ys o1).length cap2, .agg #[.int .i64 10, .int .i64 O, .int .i64 N, .int .i64 V], undef, undef, undef, undef, .pointer (some ⟨bL, o1, none⟩)] ⟨bL, o1, none⟩) 201 (by kernel_rfl) rfl (by kernel_rfl) J15.start (fun HG0 HN0 => ⟨?_, ?_, ?_, ?_, ?_, ?_, ?_, ?_, ?_, ?_, ?_, ?_, ?_, ?_, ?_, trivial⟩) ?_
      · intro L vs a9 w' hJ hF hP hL
        have q10 : (a9.tmps[10]?).getD undef = .int .i64 (o1 : Int) := hF.old 10 rfl
        exact run_valW (v := .int .i64 (o1 : Int)) rfl (fun c h => by cases h) (by simp [execOp, go_sem, q10]) ⟨_, rfl, hJ.early (by omega) rfl ⟨fun h => (by omega), fun h => (by omega), fun h => (by omega), fun h => (by omega)⟩⟩
      · intro L vs a9 w' hJ hF hP hL
        have q10 : (a9.tmps[10]?).getD undef = .int .i64 (o1 : Int) := hF.old 10 rfl
        exact run_valW (v := .int .i64 (o1 : Int)) rfl (fun c h => by cases h) (by simp [execOp, go_sem, q10]) ⟨_, rfl, hJ.early (by omega) rfl ⟨fun h => (by omega), fun h => (by omega), fun h => (by omega), fun h => (by omega)⟩⟩
      · intro L vs a9 w' hJ hF hP hL
        have q3 : (a9.tmps[3]?).getD undef = .pointer (some ⟨bR, 0, none⟩) := hF.old 3 rfl
        have p1 : L 1 = true := hP ⟨1, .data⟩ (by simp) rfl
        have s1 := hJ.pre 1 (by omega) p1
        simp only [List.getD_cons_zero, List.getD_cons_succ] at s1
        have q65 := hF.slot 1 65 rfl p1
        exact run_valW (v := .pointer (some ⟨bR, o1, none⟩)) rfl (fun c h => by cases h) (by simp [execOp, go_sem, q3, q65, s1, hlo2]) ⟨_, rfl, hJ.early (by omega) rfl ⟨fun _ => p1, fun h => (by omega), fun h => (by omega), fun h => (by omega)⟩⟩
      · intro L vs a9 w' hJ hF hP hL
        obtain rfl := hJ.ahead (j := 3) (by omega) hL
        have p2 : L 2 = true := hP ⟨2, .data⟩ (by simp) rfl
        have s2 := hJ.pre 2 (by omega) p2
        simp only [List.getD_cons_zero, List.getD_cons_succ] at s2
        have q66 := hF.slot 2 66 rfl p2
        exact run_valW (v := .pointer (some ⟨(r o1), 0, none⟩)) rfl (fun c h => by cases h) (by simp [execOp, go_sem, q66, s2, cR]) ⟨_, rfl, hJ.early (by omega) rfl ⟨fun h => (by omega), fun _ => p2, fun h => (by omega), fun h => (by omega)⟩⟩
      · intro L vs a9 w' hJ hF hP hL
        have q10 : (a9.tmps[10]?).getD undef = .int .i64 (o1 : Int) := hF.old 10 rfl
        exact run_valW (v := .int .i64 (o1 : Int)) rfl (fun c h => by cases h) (by simp [execOp, go_sem, q10]) ⟨_, rfl, hJ.early (by omega) rfl ⟨fun h => (by omega), fun h => (by omega), fun h => (by omega), fun h => (by omega)⟩⟩
      · intro L vs a9 w' hJ hF hP hL
        have q4 : (a9.tmps[4]?).getD undef = .pointer (some ⟨bL, 0, none⟩) := hF.old 4 rfl
        have p4 : L 4 = true := hP ⟨4, .data⟩ (by simp) rfl
        have s4 := hJ.pre 4 (by omega) p4
        simp only [List.getD_cons_zero, List.getD_cons_succ] at s4
        have q68 := hF.slot 4 68 rfl p4
        exact run_valW (v := .pointer (some ⟨bL, o1, none⟩)) rfl (fun c h => by cases h) (by simp [execOp, go_sem, q4, q68, s4, hlo2]) ⟨_, rfl, hJ.early (by omega) rfl ⟨fun h => (by omega), fun h => (by omega), fun _ => p4, fun h => (by omega)⟩⟩
      · intro L vs a9 w' hJ hF hP hL
        obtain rfl := hJ.ahead (j := 6) (by omega) hL
        have p5 : L 5 = true := hP ⟨5, .data⟩ (by simp) rfl
        have s5 := hJ.pre 5 (by omega) p5
        simp only [List.getD_cons_zero, List.getD_cons_succ] at s5
        have q69 := hF.slot 5 69 rfl p5
        exact run_valW (v := .slice a (ys o1).length cap2) rfl (fun c h => by cases h) (by simp [execOp, go_sem, q69, s5, cL]) ⟨_, rfl, hJ.early (by omega) rfl ⟨fun h => (by omega), fun h => (by omega), fun h => (by omega), fun _ => p5⟩⟩
      · intro L vs a9 w' hJ hF hP hL
        obtain rfl := hJ.ahead (j := 7) (by omega) hL
        have q9 : (a9.tmps[9]?).getD undef = .pointer (some ⟨sb, 0, none⟩) := hF.old 9 rfl
        exact run_valW (v := .agg #[.int .i64 10, .int .i64 O, .int .i64 N, .int .i64 V]) rfl (fun c h => by cases h) (by simp [execOp, go_sem, q9, y0, y1, y2, y3]) ⟨_, rfl, hJ.early (by omega) rfl ⟨fun h => (by omega), fun h => (by omega), fun h => (by omega), fun h => (by omega)⟩⟩
      · intro L vs a9 w' hJ hF hP hL
        have p3 : L 3 = true := hP ⟨3, .data⟩ (by simp) rfl
        have s3 := hJ.pre 3 (by omega) p3
        simp only [List.getD_cons_zero, List.getD_cons_succ] at s3
        have q67 := hF.slot 3 67 rfl p3
        have p6 : L 6 = true := hP ⟨6, .data⟩ (by simp) rfl
        have s6 := hJ.pre 6 (by omega) p6
        simp only [List.getD_cons_zero, List.getD_cons_succ] at s6
        have q70 := hF.slot 6 70 rfl p6
        have p7 : L 7 = true := hP ⟨7, .data⟩ (by simp) rfl
        have s7 := hJ.pre 7 (by omega) p7
        simp only [List.getD_cons_zero, List.getD_cons_succ] at s7
        have q71 := hF.slot 7 71 rfl p7
        obtain rfl := (hJ.no hL).1
        refine run_callW (f := 10) (args := #[.pointer (some ⟨(r o1), 0, none⟩), .slice a (ys o1).length cap2, .agg #[.int .i64 10, .int .i64 O, .int .i64 N, .int .i64 V]]) rfl (fun c h => by cases h) (by simp [go_sem, q67, s3, q70, s6, q71, s7]) (ranged_any (r o1) (g o1) N0 f0 a (ys o1).length cap2 (ys o1) 10 O N V _ HDo.out (by have := HLim.out; omega)) ?_
        rintro e w2 ⟨v2, rfl, hv2⟩
        exact ⟨_, rfl, _, rfl, hJ.call hL p3 p6 p7 (DD.out v2 w2 (by exact hv2.stp))⟩
      · intro L vs a9 w' hJ hF hP hL
        have p8 : L 8 = true := hP ⟨8, .data⟩ (by simp) rfl
        have q72 := hF.slot 8 72 rfl p8
        obtain ⟨v2, e, hJ'⟩ := hJ.m9 p8
        exact run_valW (v := .tuple #[v2, .bool true]) rfl (fun c h => by cases h) (by simp [execOp, go_sem, q72, e]) ⟨_, rfl, hJ'⟩
      · intro L vs a9 w' hJ hF hP hL
        have p9 : L 9 = true := hP ⟨9, .data⟩ (by simp) rfl
        have q63 := hF.slot 9 63 rfl p9
        obtain ⟨v2, e, hJ'⟩ := hJ.m10 p9
        exact run_valW (v := v2) rfl (fun c h => by cases h) (by simp [execOp, go_sem, q63, e]) ⟨_, rfl, hJ'⟩
      · intro L vs a9 w' hJ hF hP hL
        have p9 : L 9 = true := hP ⟨9, .data⟩ (by simp) rfl
        have q63 := hF.slot 9 63 rfl p9
        obtain ⟨v2, e, hJ'⟩ := hJ.m11 p9
        exact run_valW (v := .bool true) rfl (fun c h => by cases h) (by simp [execOp, go_sem, q63, e]) ⟨_, rfl, hJ'⟩
      · intro L vs a9 w' hJ hF hP hL
        have q4 : (a9.tmps[4]?).getD undef = .pointer (some ⟨bL, 0, none⟩) := hF.old 4 rfl
        have p0 : L 0 = true := hP ⟨0, .data⟩ (by simp) rfl
        have s0 := hJ.pre 0 (by omega) p0
        simp only [List.getD_cons_zero] at s0
        have q64 := hF.slot 0 64 rfl p0
        exact run_valW (v := .pointer (some ⟨bL, o1, none⟩)) rfl (fun c h => by cases h) (by simp [execOp, go_sem, q4, q64, s0, hlo2]) ⟨_, rfl, hJ.early (by omega) rfl ⟨fun h => (by omega), fun h => (by omega), fun h => (by omega), fun h => (by omega)⟩⟩
      · intro L vs a9 w' hJ hF hP hL
        have p12 : L 12 = true := hP ⟨12, .data⟩ (by simp) rfl
        have s12 := hJ.pre 12 (by omega) p12
        simp only [List.getD_cons_zero, List.getD_cons_succ] at s12
        have q75 := hF.slot 12 75 rfl p12
        have p10 : L 10 = true := hP ⟨10, .data⟩ (by simp) rfl
        have q73 := hF.slot 10 73 rfl p10
        obtain ⟨v2, w2, hD2, rfl, e, hJ'⟩ := hJ.m13 p10 hL
        obtain ⟨⟨x9, hx9⟩, hf9, ⟨a7, n7, c7, rfl⟩, _⟩ := hD2
        exact run_unitW rfl (fun c h => by cases h) (by simp [execOp, go_sem, q75, s12, q73, e, hx9, hf9]) ⟨_, rfl, hJ' _⟩
      · intro L vs a9 w' hJ hF hP hL
        have p11 : L 11 = true := hP ⟨11, .data⟩ (by simp) rfl
        have q74 := hF.slot 11 74 rfl p11
        obtain ⟨e, hJ'⟩ := hJ.m14 p11
        exact run_valW (v := .bool true) rfl (fun c h => by cases h) (by simp [execOp, go_sem, q74, e]) ⟨_, rfl, hJ'⟩
      intro L vs w' hA hJ
      obtain ⟨v2, w2, ⟨_, _, _, hNx⟩, rfl, e14⟩ := hJ.fin hA
      have NX : Hid _ := hNx
      simp only [putL, Act.put, List.setIfInBounds_toArray, List.set_cons_zero, List.set_cons_succ, Nat.reduceAdd]
      simp only [e14]
      obtain ⟨W2, hW2⟩ : ∃ W2, W2 = w2.setCell ⟨bL, o1, none⟩ v2 := ⟨_, rfl⟩
      rw [← hW2] at NX ⊢
      clear hW2 hNx e14 hJ hA cR cL y0 y1 y2 y3 DD
      generalize vs = vs0
      gi_wp2_with fail
      refine wpIn_wide.2 ?_
      rename_i K10 hk10 K35 hk35
      obtain ⟨o2, eo2, hlo3⟩ : ∃ o2 : Nat, (1 : Int) - (o1 : Int) = (o2 : Int) ∧ o2 < 2 := ⟨1 - o1, by omega, by omega⟩
      obtain ⟨g3, v3, ys3, hP3⟩ := NX.out.pl
      obtain ⟨aA, nA, cA, cR1, cL1, EA⟩ := hP3.ends hlo N
      obtain ⟨aB, nB, cB, cR2, cL2, EB⟩ := hP3.ends hlo3 0
      have cN : W2.cell? ⟨sb, 2, none⟩ = some (.int .i64 N) := NX.out.st.cell (i := 2) (by omega)
      have EA' : Hid (∀ k, Calls Try.prog 15 #[.pointer (some ⟨r o1, 0, none⟩), .slice aA nA cA, .int .i64 N] (W2.drewN k) fun e w' => e = .returned (.bool true) ∧ ∃ m, w' = (W2.drewN k).drewN m) := EA
      have EB' : Hid (∀ k, Calls Try.prog 15 #[.pointer (some ⟨r o2, 0, none⟩), .slice aB nB cB, .int .i64 0] (W2.drewN k) fun e w' => e = .returned (.bool true) ∧ ∃ m, w' = (W2.drewN k).drewN m) := EB
      have hlo4 : (o2 : Int) < 2 := by omega
      have hwo : IntKind.i64.wrap ((1 : Int) - (o1 : Int)) = (o2 : Int) := by rw [IntKind.wrap_i64]; omega
      have HP3 : Hid (Pl w W2 bR bL r g3 v3 ys3 hb of (.slice al nl cl) Vs (3 * i + 3)) := hP3
      clear hP3 EA EB
      go_quiet (first | (go_at_call_of 15 (Value.int IntKind.i64 N); exact Calls.quiet_of (EA'.out _)) | (go_at_call 15; exact Calls.quiet_of (EB'.out _)))
      refine hk35 _ _ ?_
      have NX3 : Hid (Nx w bR bL r hb of (.slice al nl cl) Vs (3 * i + 3) sb (step4 10 O N V) Ds (W2.drewN nq)) := ⟨⟨g3, v3, ys3, HP3.out.mono (bel_drewN (Below.refl _ _) nq)⟩, NX.out.marks.mono (bel_drewN (Below.refl _ _) nq), NX.out.st⟩
      clear NX HP3 EA' EB' cR1 cL1 cR2 cL2 cN
      gi_wp2_with fail
      have e1 : (i : Int) + 1 = ((i + 1 : Nat) : Int) := by omega
      rw [e1]
      obtain ⟨g4, v4, ys4, hP4⟩ := NX3.out.pl
      refine ⟨⟨i + 1, ⟨g4, v4, ys4, hb, of, _, _, _, Vs, Ds, fr_ex _ rfl, by rw [show 3 * (i + 1) = 3 * i + 3 by omega]; exact hP4, NX3.out.marks, by have := HP.out.2.2; omega, by omega, by omega⟩⟩, ?_⟩
      simp [intOf]
      omega
    have t8 : (K == 8) = false := beq_eq_false_iff_ne.2 k8
    have t9 : (K == 9) = false := beq_eq_false_iff_ne.2 k9
    have t10 : (K == 10) = false := beq_eq_false_iff_ne.2 k10
    by_cases k11 : K = 11
    · subst k11
      have cR2 : W1.cell? ⟨bR, o1, none⟩ = some (.pointer (some ⟨r o1, 0, none⟩)) := cR
      clear cR cL y0 y1 y2 y3 DD HDo
      have HL : Hid (W1.heap.size = W.heap.size + 1) := by show W1.heap.size = W.heap.size + 1; rw [HW1.out.1]; simp
      rw [HW1.out.1] at cR2
      gi_wp2_with (refine ⟨trivial, ?_⟩; refine (callsIn_wide.2 (allI_any (r o1) _)).mono ?_; rintro e w5 ⟨rfl, rfl⟩)
      rw [← HW1.out.1, ← HW1.out.2]
      obtain ⟨W2, hW2⟩ : ∃ W2, W2 = W1.alloc (.cells #[.pointer (some ⟨r o1, 0, none⟩)] 24) := ⟨_, rfl⟩
      have B2 : Below W1.heap.size W1 W2 := by rw [hW2]; exact (Below.refl _ _).alloc (Nat.le_refl _) _
      have NX : Hid (Nx w bR bL r (sb + 1) o1 (.slice al nl cl) Vs (3 * i + 3) sb (step4 11 O N V) Ds W2) := by
        have h1 := ((HP.out.1.mono HST.out.2.1).hold hlo).weak (M' := 3 * i + 3) (by omega)
        rw [← hW2, HST.out.2.2] at h1
        exact ⟨⟨_, _, _, h1⟩, (HP.out.2.1.mono HST.out.2.1).mono B2, HST.out.1.of_block (B2.block _ HST.out.1.lt)⟩
      rw [← hW2]
      clear hW2 B2 HL cR2
      refine wpIn_wide.2 ?_
      rename_i K10 hk10 K35 hk35
      obtain ⟨o2, eo2, hlo3⟩ : ∃ o2 : Nat, (1 : Int) - (o1 : Int) = (o2 : Int) ∧ o2 < 2 := ⟨1 - o1, by omega, by omega⟩
      obtain ⟨g3, v3, ys3, hP3⟩ := NX.out.pl
      obtain ⟨aA, nA, cA, cR1, cL1, EA⟩ := hP3.ends hlo N
      obtain ⟨aB, nB, cB, cR2, cL2, EB⟩ := hP3.ends hlo3 0
      have cN : W2.cell? ⟨sb, 2, none⟩ = some (.int .i64 N) := NX.out.st.cell (i := 2) (by omega)
      have EA' : Hid (∀ k, Calls Try.prog 15 #[.pointer (some ⟨r o1, 0, none⟩), .slice aA nA cA, .int .i64 N] (W2.drewN k) fun e w' => e = .returned (.bool true) ∧ ∃ m, w' = (W2.drewN k).drewN m) := EA
      have EB' : Hid (∀ k, Calls Try.prog 15 #[.pointer (some ⟨r o2, 0, none⟩), .slice aB nB cB, .int .i64 0] (W2.drewN k) fun e w' => e = .returned (.bool true) ∧ ∃ m, w' = (W2.drewN k).drewN m) := EB
      have hlo4 : (o2 : Int) < 2 := by omega
      have hwo : IntKind.i64.wrap ((1 : Int) - (o1 : Int)) = (o2 : Int) := by rw [IntKind.wrap_i64]; omega
      have HP3 : Hid (Pl w W2 bR bL r g3 v3 ys3 (sb + 1) o1 (.slice al nl cl) Vs (3 * i + 3)) := hP3
      clear hP3 EA EB
      go_quiet (first | (go_at_call_of 15 (Value.int IntKind.i64 N); exact Calls.quiet_of (EA'.out _)) | (go_at_call 15; exact Calls.quiet_of (EB'.out _)))
      refine hk35 _ _ ?_
      have NX3 : Hid (Nx w bR bL r (sb + 1) o1 (.slice al nl cl) Vs (3 * i + 3) sb (step4 11 O N V) Ds (W2.drewN nq)) := ⟨⟨g3, v3, ys3, HP3.out.mono (bel_drewN (Below.refl _ _) nq)⟩, NX.out.marks.mono (bel_drewN (Below.refl _ _) nq), NX.out.st⟩
      clear NX HP3 EA' EB' cR1 cL1 cR2 cL2 cN
      gi_wp2_with fail
      have e1 : (i : Int) + 1 = ((i + 1 : Nat) : Int) := by omega
      rw [e1]
      obtain ⟨g4, v4, ys4, hP4⟩ := NX3.out.pl
      refine ⟨⟨i + 1, ⟨g4, v4, ys4, (sb + 1), o1, _, _, _, Vs, Ds, fr_ex _ rfl, by rw [show 3 * (i + 1) = 3 * i + 3 by omega]; exact hP4, NX3.out.marks, by have := HP.out.2.2; omega, by omega, by omega⟩⟩, ?_⟩
      simp [intOf]
      omega
    by_cases k12 : K = 12
    · subst k12
      have t300 : decide ((i : Int) < 300) = true := decide_eq_true (by omega)
      have t301 : decide (i < 300) = true := decide_eq_true (by omega)
      obtain ⟨N9, f9, hR9⟩ := HP.out.1.ring of HP.out.1.ofl
      obtain ⟨W9, hW9⟩ : ∃ W9, W9 = W1.alloc (.cells #[.slice none 0 0] 27) := ⟨_, rfl⟩
      have B9 : Below W1.heap.size W1 W9 := by rw [hW9]; exact (Below.refl _ _).alloc (Nat.le_refl _) _
      have z9 : W9.heap.size = sb + 1 + 1 := by rw [hW9]; simp [HST.out.2.2]
      have b9 : Boxed W9 (sb + 1) 27 (.slice none 0 0) := by rw [hW9, ← HST.out.2.2]; exact boxed_new _ _ _
      have P9 := (HP.out.1.mono HST.out.2.1).mono B9
      have R9 : Hid (RI W9 (r of) (g of) N9 f9 (ys of).length (ys of)) := (hR9.mono HST.out.2.1).mono B9
      have H9 : Hid (Pl w W9 bR bL r g v ys hb of (.slice al nl cl) Vs (3 * i) ∧ Boxed W9 (sb + 1) 27 (.slice none 0 0) ∧ Below W1.heap.size W1 W9 ∧ W9.heap.size = sb + 1 + 1) := ⟨P9, b9, B9, z9⟩
      have HW9 : Hid (W9 = W1.alloc (.cells #[.slice none 0 0] 27)) := hW9
      clear P9 b9 B9 z9 hW9 hR9 cR cL y0 y1 y2 y3 DD HDo
      gi_wp2_with fail
      rw [← HW1.out.1, ← HW1.out.2, ← HW9.out]
      refine range_valH 86 87 14 (gf := 36) (lb := #[.pointer (some ⟨hb, 0, none⟩)]) rfl (enters_of Try.func36 (by kernel_rfl) rfl)
        (allQ_stops 8 (by omega) hb (sb + 1) W9.heap.size (r of) (g of) N9 f9 (ys of).length (ys of) rfl W9 H9.out.1.held.cell R9.out (Nat.le_refl _) (by have := H9.out.2.2.2; omega) (fun k hk => by obtain ⟨o9, n9, c9, e9⟩ := hk; rw [H9.out.2.1.cell] at e9; cases e9)) (Kq.refl _ _ _ _ _) (fun h k => h.trans k) (fun W l o o9 hl h1 h2 _ => Kq.putObj _ _ _ _ _ W l o o9 (by have := H9.out.2.2.2; omega) h1 h2)
        (fun pre Wp => (∃ u, Boxed Wp (sb + 1) 27 u ∧ Ow (sb + 1 + 1) Wp u (pre.map fun x => x.2)) ∧ Below W1.heap.size W1 Wp)
        (fun _ _ _ => False)
        ?own (fun _ _ _ _ _ hs _ _ => hs) ⟨⟨_, H9.out.2.1, Ow.nil _ _⟩, H9.out.2.2.1⟩ ?assign ?body ?done ?stop
      case own =>
        intro pre A B9 row hs hg hr
        obtain ⟨⟨u9, h1, h2⟩, h3⟩ := hs
        refine ⟨⟨u9, boxed_keep h1 hg hr, ow_own h2 hg hr⟩, hg.os.trans h3.os, hg.tape.trans h3.tape, hg.output.trans h3.output, Nat.le_trans h3.size hg.size, fun k hk => (hg.block k (Nat.lt_of_lt_of_le hk h3.size) fun e => ?_).trans (h3.block k hk)⟩
        have q1 := (hr k e.symm).1
        have q2 := H9.out.2.2.2
        have q3 := HST.out.2.2
        omega
      case assign =>
        intro l x W7 K hK
        simp only [av, List.setIfInBounds_toArray, List.set_cons_zero, List.set_cons_succ] at hK
        gi_wp2_with fail
        exact hK
      case stop =>
        intro D cd pre W7 hD hsp hf _
        exact hf.elim
      case body =>
        rintro l pre x W7 hlB hlr ⟨⟨u9, hb9, hO⟩, hB⟩ hlt
        simp only [av, List.setIfInBounds_toArray, List.set_cons_zero, List.set_cons_succ]
        obtain ⟨a7, c7, eu, hx7, ha7⟩ := hO.isx
        rw [List.length_map] at eu
        subst eu
        have hlp : pre.length ≤ 900 := by have h1 := HP.out.1.lim of HP.out.1.ofl; omega
        have hlt7 := hb9.lt
        have hnb : (Value.slice a7 pre.length c7).ownBlock ≠ some (sb + 1) := by
          rcases ha7 with rfl | ⟨g9, rfl, h1, _⟩
          · intro e; cases e
          · intro e; injection e with e; simp at e; omega
        have H7 : Hid (Boxed W7 (sb + 1) 27 (.slice a7 pre.length c7) ∧ Ow (sb + 1 + 1) W7 (.slice a7 pre.length c7) (pre.map fun x => x.2) ∧ Below W1.heap.size W1 W7 ∧ (Value.slice a7 pre.length c7).ownBlock ≠ some (sb + 1)) := ⟨hb9, hO, hB, hnb⟩
        have k12 : W7.cell? ⟨sb + 1, 0, none⟩ = some (.slice a7 pre.length c7) := hb9.cell
        have k12f : W7.frozen? ⟨sb + 1, 0, none⟩ = false := hb9.frozen
        clear hb9 hO hB hnb hx7 ha7 eo1
        gi_wp2_with (refine (id ?_ : wpListIn _ _ Try.prog _ _ (⟨some 91, _, _, _, _, _⟩ :: _) _ _); refine hold ?_)
        intro _
        refine wp_app2In rfl (.tmp 88) (.tmp 90) rfl (sb + 1 + 1) (.slice a7 pre.length c7) (pre.map fun x => x.2) rfl (H7.out.2.1.below (b2 := 0) ((Below.refl _ _).alloc (Nat.le_refl _) _)) _ 1 1 [x.2] rfl (isx_one W7 x.2) (by rw [List.length_map]; omega) (by simp; omega) ?_
        intro v7 w7 H8
        obtain ⟨a8, c8, e8, _, _⟩ := H8.out.1.isx
        rw [List.length_append, List.length_map, List.length_singleton] at e8
        subst e8
        have bx : Boxed w7 (sb + 1) 27 (.slice a7 pre.length c7) := ((H8.out.2.1.block (sb + 1) (by simp; omega) (fun e => H7.out.2.2.2 e.symm)).trans (Below.heap_alloc _ _ _ hlt7)).trans H7.out.1
        have m12 : w7.cell? ⟨sb + 1, 0, none⟩ = some (.slice a7 pre.length c7) := bx.cell
        have m12f : w7.frozen? ⟨sb + 1, 0, none⟩ = false := bx.frozen
        clear bx k12 k12f
        gi_wp2_with fail
        obtain ⟨G1, G2, G3, G4, G5⟩ := got_step (t := 3) (m := (ys of).length) (f := fun j => Value.int .i64 ((ys of).getD j (0 : Int))) HST.out.2.2 H7.out.1 H7.out.2.1 H7.out.2.2.1 H8.out.2.1 H8.out.2.2 H8.out.1
        rw [← H9.out.2.2.2] at G1 G2
        exact ⟨G1, G2, ⟨_, G3, by rw [List.map_append]; exact G4⟩, G5⟩
      case done =>
        rintro D ys5 Wp hD rfl ⟨⟨u9, hb9, hO⟩, hB⟩ hK
        rename_i hk28
        rw [pairs_snd] at hO
        obtain ⟨a7, c7, eu, hx7, _⟩ := hO.isx
        subst eu
        have PW := (HP.out.1.mono HST.out.2.1).mono hB
        obtain ⟨aL, cL9, eL, hxL, _⟩ := PW.lst of PW.ofl
        have cLo : Wp.cell? ⟨bL, of, none⟩ = some (.slice aL (ys of).length cL9) := by rw [← eL]; exact PW.lsts.cell PW.ofl
        have c12 : Wp.cell? ⟨sb + 1, 0, none⟩ = some (.slice a7 (ys of).length c7) := hb9.cell
        have hof : (of : Int) < 2 := by have := PW.ofl; omega
        have SM : Hid (∀ k, Calls Try.prog 11 #[.slice a7 (ys of).length c7, .slice aL (ys of).length cL9] (Wp.drewN k) fun e w9 => e = .returned (.bool true) ∧ ∃ m, w9 = (Wp.drewN k).drewN m) := fun k => same_yes a7 aL (ys of).length c7 cL9 (ys of) (Wp.drewN k) (hx7.mono (bel_drewN (Below.refl _ _) k)).sl (hxL.mono (bel_drewN (Below.refl _ _) k)).sl
        have NXk : Hid (∀ k, Nx w bR bL r hb of (.slice al nl cl) Vs (3 * i + 3) sb (step4 12 O N V) (D :: Ds) (Wp.drewN k)) := fun k => by
          have h1 := (HP.out.2.1.mono HST.out.2.1).mono hB
          have h2 := HP.out.2.1.mono HST.out.2.1
          have q1 := H9.out.2.2.2
          have q2 := HST.out.2.2
          have q3 := PW.bel.size
          have q4 := HP.out.1.bel.size
          have q5 := HST.out.2.1.size
          exact ⟨⟨_, _, _, (PW.mono (bel_drewN (Below.refl _ _) k)).weak (by omega)⟩, (h1.cons (by omega) hK (fun E hE => by have := h2.lt E hE; omega)).mono (bel_drewN (Below.refl _ _) k), HST.out.1.of_block (hB.block _ HST.out.1.lt)⟩
        clear PW eL hxL hx7 hO hb9 hB hK
        refine hk28 _ _ (wpIn_wide.2 ?_)
        go_quiet (first | (go_at_call 11; exact Calls.quiet_of (SM.out _)))
        have NX := NXk.out nq
        obtain ⟨W2, hW2⟩ : ∃ W2, W2 = Wp.drewN nq := ⟨_, rfl⟩
        rw [← hW2] at NX ⊢
        replace NX : Hid _ := NX
        clear hW2 NXk SM c12 cLo
        gi_wp2_with fail
        refine wpIn_wide.2 ?_
        rename_i K10 hk10 K35 hk35
        obtain ⟨o2, eo2, hlo3⟩ : ∃ o2 : Nat, (1 : Int) - (o1 : Int) = (o2 : Int) ∧ o2 < 2 := ⟨1 - o1, by omega, by omega⟩
        obtain ⟨g3, v3, ys3, hP3⟩ := NX.out.pl
        obtain ⟨aA, nA, cA, cR1, cL1, EA⟩ := hP3.ends hlo N
        obtain ⟨aB, nB, cB, cR2, cL2, EB⟩ := hP3.ends hlo3 0
        have cN : W2.cell? ⟨sb, 2, none⟩ = some (.int .i64 N) := NX.out.st.cell (i := 2) (by omega)
        have EA' : Hid (∀ k, Calls Try.prog 15 #[.pointer (some ⟨r o1, 0, none⟩), .slice aA nA cA, .int .i64 N] (W2.drewN k) fun e w' => e = .returned (.bool true) ∧ ∃ m, w' = (W2.drewN k).drewN m) := EA
        have EB' : Hid (∀ k, Calls Try.prog 15 #[.pointer (some ⟨r o2, 0, none⟩), .slice aB nB cB, .int .i64 0] (W2.drewN k) fun e w' => e = .returned (.bool true) ∧ ∃ m, w' = (W2.drewN k).drewN m) := EB
        have hlo4 : (o2 : Int) < 2 := by omega
        have hwo : IntKind.i64.wrap ((1 : Int) - (o1 : Int)) = (o2 : Int) := by rw [IntKind.wrap_i64]; omega
        have HP3 : Hid (Pl w W2 bR bL r g3 v3 ys3 hb of (.slice al nl cl) Vs (3 * i + 3)) := hP3
        clear hP3 EA EB
        go_quiet (first | (go_at_call_of 15 (Value.int IntKind.i64 N); exact Calls.quiet_of (EA'.out _)) | (go_at_call 15; exact Calls.quiet_of (EB'.out _)))
        refine hk35 _ _ ?_
        have NX3 : Hid (Nx w bR bL r hb of (.slice al nl cl) Vs (3 * i + 3) sb (step4 12 O N V) (D :: Ds) (W2.drewN nq)) := ⟨⟨g3, v3, ys3, HP3.out.mono (bel_drewN (Below.refl _ _) nq)⟩, NX.out.marks.mono (bel_drewN (Below.refl _ _) nq), NX.out.st⟩
        clear NX HP3 EA' EB' cR1 cL1 cR2 cL2 cN
        gi_wp2_with fail
        have e1 : (i : Int) + 1 = ((i + 1 : Nat) : Int) := by omega
        rw [e1]
        obtain ⟨g4, v4, ys4, hP4⟩ := NX3.out.pl
        refine ⟨⟨i + 1, ⟨g4, v4, ys4, hb, of, _, _, _, Vs, (D :: Ds), fr_ex _ rfl, by rw [show 3 * (i + 1) = 3 * i + 3 by omega]; exact hP4, NX3.out.marks, by have := HP.out.2.2; omega, by omega, by omega⟩⟩, ?_⟩
        simp [intOf]
        omega
    by_cases k13 : K = 13
    · subst k13
      have t300 : decide ((i : Int) < 300) = true := decide_eq_true (by omega)
      have t301 : decide (i < 300) = true := decide_eq_true (by omega)
      have cR2 : W1.cell? ⟨bR, o1, none⟩ = some (.pointer (some ⟨r o1, 0, none⟩)) := cR
      clear cR cL y0 y1 y2 y3 DD HDo
      obtain ⟨N9, f9, hR9⟩ := HP.out.1.ring o1 hlo
      obtain ⟨aL, cL9, eL, _, _⟩ := HP.out.1.lst o1 hlo
      obtain rfl : nl = Vs.length := by
        rcases HP.out.1.lists.2 with ⟨e, e0⟩ | ⟨g9, cap9, cur9, e, _⟩
        · injection e with _ e2
          omega
        · injection e with _ e2
      have L0 : Hid (Ly w W1 bR bL r g v ys hb of (.slice al Vs.length cl) Vs (3 * i) sb (step4 13 O N V) Ds) := ⟨HP.out.1.mono HST.out.2.1, HP.out.2.1.mono HST.out.2.1, HST.out.1, fun e => by have h1 := (HP.out.1.okV _ e).1; have h2 := HW1.out.2; omega⟩
      have HR9 : Hid (RI W1 (r o1) (g o1) N9 f9 (ys o1).length (ys o1)) := hR9.mono HST.out.2.1
      have HE : Hid (v o1 = .slice aL (ys o1).length cL9 ∧ Vs.length ≤ 600 ∧ (ys o1).length ≤ 900 ∧ w.heap.size ≤ W1.heap.size) := ⟨eL, by have := HP.out.2.2; omega, by have := HLim.out; omega, L0.out.pl.bel.size⟩
      have hw7 := wrap7 Vs.length (by have := HE.out; omega)
      clear hR9 eL
      rw [HW1.out.1] at cR2
      gi_wp2_with fail
      rw [← HW1.out.1, ← HW1.out.2]
      rw [← HW1.out.1] at cR2
      rename_i hk30
      refine wpIn_wide.2 ?_
      go_region_held3 (fun w9 => w9.cell? ⟨bR, o1, none⟩ = some (.pointer (some ⟨r o1, 0, none⟩))) (first | (simp [go_sem, *]; done) | (trace_state; fail))
        (first
          | (go_at_call_of 12 (r o1); refine Calls.mono (listI_any (r o1) (g o1) N9 f9 (ys o1).length (ys o1) W1.drew (HR9.out.mono (bel_drew (Below.refl _ _))) rfl) ?_; rintro e w5 ⟨rfl, hI, hB⟩; have H5 : Hid (w5.rowIs W1.heap.size 3 (ys o1).length (fun j => Value.int .i64 ((ys o1).getD j (0 : Int))) ∧ Below W1.heap.size W1 w5) := ⟨hI, (bel_drew (Below.refl _ _)).trans hB⟩; have m0 := cell_later H5.out.2 cR2; clear hI hB)
          | (go_at_call_of 12 (r o1); refine Calls.mono (listI_any (r o1) (g o1) N9 f9 (ys o1).length (ys o1) w5 (HR9.out.mono H5.out.2) rfl) ?_; rintro e w6 ⟨rfl, hI, hB⟩; have H6 : Hid (w6.rowIs w5.heap.size 3 (ys o1).length (fun j => Value.int .i64 ((ys o1).getD j (0 : Int))) ∧ Below w5.heap.size w5 w6) := ⟨hI, hB⟩; have m1 := cell_later hB m0; clear hI hB))
      refine hk30 _ _ ?_
      obtain ⟨G1, eG1⟩ : ∃ G1, G1 = W1.heap.size := ⟨_, rfl⟩
      obtain ⟨G2, eG2⟩ : ∃ G2, G2 = w5.heap.size := ⟨_, rfl⟩
      rw [← eG1, ← eG2]
      have H7 : Hid (Ly w w6 bR bL r g v ys hb of (.slice al Vs.length cl) Vs (3 * i) sb (step4 13 O N V) Ds ∧ Ow w.heap.size w6 (.slice (some ⟨G1, 0, none⟩) (ys o1).length (ys o1).length) (ys o1) ∧ Ow w.heap.size w6 (.slice (some ⟨G2, 0, none⟩) (ys o1).length (ys o1).length) (ys o1) ∧ Out bR bL r g v hb (.slice al Vs.length cl) Vs sb G1 ∧ Out bR bL r g v hb (.slice al Vs.length cl) Vs sb G2 ∧ G2 ≠ G1) := by
        have h1 : G1 = W1.heap.size := eG1
        have h2 := H5.out.2.size
        have h3 := H5.out.1.lt
        have h4 := HE.out
        refine ⟨(L0.out.mono H5.out.2).mono H6.out.2, ?_, Ow.of_row (eG2 ▸ H6.out.1) rfl (by omega) (by omega), L0.out.out (by omega), L0.out.out (by omega), by omega⟩
        rw [h1]
        exact Ow.of_row (H5.out.1.of_block (H6.out.2.block _ h3)) rfl (by omega) (by omega)
      clear L0 HR9 H5 H6 m0 m1 cR2 eG1 eG2
      have b6 := (H7.out.1.beside hlo HE.out.1).1
      gi_wp2_with (refine ⟨trivial, ?_⟩; refine (callsIn_wide.2 (same_yes (some ⟨G1, 0, none⟩) aL (ys o1).length (ys o1).length cL9 (ys o1) w6 (ow_isl H7.out.2.1) (H7.out.1.beside hlo HE.out.1).2)).mono ?_; rintro e w7 ⟨rfl, m7, rfl⟩)
      obtain ⟨w7, e7⟩ : ∃ w7, w7 = w6.drewN m7 := ⟨_, rfl⟩
      rw [← e7]
      have H8 : Hid (Ly w w7 bR bL r g v ys hb of (.slice al Vs.length cl) Vs (3 * i) sb (step4 13 O N V) Ds ∧ Ow w.heap.size w7 (.slice (some ⟨G1, 0, none⟩) (ys o1).length (ys o1).length) (ys o1) ∧ Ow w.heap.size w7 (.slice (some ⟨G2, 0, none⟩) (ys o1).length (ys o1).length) (ys o1) ∧ Out bR bL r g v hb (.slice al Vs.length cl) Vs sb G1 ∧ Out bR bL r g v hb (.slice al Vs.length cl) Vs sb G2 ∧ G2 ≠ G1) := by
        rw [e7]
        exact ⟨H7.out.1.mono (bel_drewN (Below.refl _ _) m7), H7.out.2⟩
      clear H7 e7 b6
      refine ⟨trivial, ?_⟩
      refine (callsIn_wide.2 (filled_any w.heap.size (.slice (some ⟨G1, 0, none⟩) (ys o1).length (ys o1).length) (ys o1) (-7 - (Vs.length : Int)) w7 H8.out.2.1 H8.out.1.pl.bel.size (by have := HE.out; omega))).mono ?_
      intro e w8 hF
      obtain ⟨ua, un, uc, rfl, z8, own8, nx8⟩ := H8.out.1.one H8.out.2.2.2.1 H8.out.2.1 hF
      have H9 : Hid (w.heap.size ≤ (w8.alloc (.cells #[.slice ua un uc] 27)).heap.size ∧ (w8.alloc (.cells #[.slice ua un uc] 27)).ownsRow w.heap.size 27 1 (.slice al Vs.length cl) Vs.length Vs) := ⟨z8, own8⟩
      have H10 : Hid (∀ vl' W9, W9.ownsRow w.heap.size 27 1 vl' (Vs.length + 1) (Vs ++ [.slice ua un uc]) → (w8.alloc (.cells #[.slice ua un uc] 27)).grownBy W9 (Value.slice al Vs.length cl).ownBlock → (vl'.ownBlock = (Value.slice al Vs.length cl).ownBlock ∨ vl'.ownBlock = some (w8.alloc (.cells #[.slice ua un uc] 27)).heap.size) → Ly w W9 bR bL r g v ys hb of vl' (Vs ++ [.slice ua un uc]) (3 * i) sb (step4 13 O N V) Ds ∧ (∃ G c, vl' = .slice (some ⟨G, 0, none⟩) (Vs ++ [Value.slice ua un uc]).length c) ∧ Out bR bL r g v hb vl' (Vs ++ [.slice ua un uc]) sb G2 ∧ Ow w.heap.size W9 (.slice (some ⟨G2, 0, none⟩) (ys o1).length (ys o1).length) (ys o1)) := fun vl' W9 h1 h2 h3 => by
        obtain ⟨q1, q2, q3⟩ := nx8 vl' W9 h1 h2 h3
        exact ⟨q1, q2, q3 G2 _ _ _ H8.out.2.2.2.2.2 H8.out.2.2.2.2.1 H8.out.2.2.1⟩
      clear z8 own8 nx8 hF H8
      gi_wp2_with (refine (id ?_ : wpListIn _ _ Try.prog _ _ (⟨some 119, _, _, _, _, _⟩ :: _) _ _); refine hold ?_)
      intro _
      refine wp_appL rfl (.tmp 112) (.tmp 118) rfl w.heap.size (.slice al Vs.length cl) Vs rfl H9.out.2 (.slice ua un uc) ⟨_, _, _, rfl⟩ w8.heap.size rfl (boxed_new _ _ _).cell (by have := HE.out; omega) H9.out.1 ?_
      intro vl1 w9 H11
      have H12 := H10.out vl1 w9 H11.out.1 H11.out.2.1 H11.out.2.2
      obtain ⟨V1, eV1⟩ : ∃ V1, V1 = Vs ++ [Value.slice ua un uc] := ⟨_, rfl⟩
      rw [← eV1] at H12
      have hV1 : V1.length = Vs.length + 1 := by rw [eV1]; simp
      obtain ⟨L9, ⟨G9, c9, rfl⟩, X9, O9⟩ := H12
      have H13 : Hid (Ly w w9 bR bL r g v ys hb of (.slice (some ⟨G9, 0, none⟩) V1.length c9) V1 (3 * i) sb (step4 13 O N V) Ds ∧ Out bR bL r g v hb (.slice (some ⟨G9, 0, none⟩) V1.length c9) V1 sb G2 ∧ Ow w.heap.size w9 (.slice (some ⟨G2, 0, none⟩) (ys o1).length (ys o1).length) (ys o1) ∧ V1.length = Vs.length + 1) := ⟨L9, X9, O9, hV1⟩
      have hw8 := wrap7 V1.length (by have := HE.out; omega)
      clear L9 X9 O9 H9 H10 H11 eV1 hV1 hw7
      have b9 := (H13.out.1.beside hlo HE.out.1).1
      gi_wp2_with (refine ⟨trivial, ?_⟩; refine (callsIn_wide.2 (same_yes (some ⟨G2, 0, none⟩) aL (ys o1).length (ys o1).length cL9 (ys o1) w9 (ow_isl H13.out.2.2.1) (H13.out.1.beside hlo HE.out.1).2)).mono ?_; rintro e w10 ⟨rfl, m10, rfl⟩)
      obtain ⟨w10, e10⟩ : ∃ w10, w10 = w9.drewN m10 := ⟨_, rfl⟩
      rw [← e10]
      have H14 : Hid (Ly w w10 bR bL r g v ys hb of (.slice (some ⟨G9, 0, none⟩) V1.length c9) V1 (3 * i) sb (step4 13 O N V) Ds ∧ Out bR bL r g v hb (.slice (some ⟨G9, 0, none⟩) V1.length c9) V1 sb G2 ∧ Ow w.heap.size w10 (.slice (some ⟨G2, 0, none⟩) (ys o1).length (ys o1).length) (ys o1) ∧ V1.length = Vs.length + 1) := by
        rw [e10]
        exact ⟨H13.out.1.mono (bel_drewN (Below.refl _ _) m10), H13.out.2⟩
      clear H13 e10 b9
      refine ⟨trivial, ?_⟩
      refine (callsIn_wide.2 (filled_any w.heap.size (.slice (some ⟨G2, 0, none⟩) (ys o1).length (ys o1).length) (ys o1) (-7 - (V1.length : Int)) w10 H14.out.2.2.1 H14.out.1.pl.bel.size (by have := HE.out; omega))).mono ?_
      intro e w11 hF
      obtain ⟨ub, vn, uc2, rfl, z8, own8, nx8⟩ := H14.out.1.one H14.out.2.1 H14.out.2.2.1 hF
      have H15 : Hid (w.heap.size ≤ (w11.alloc (.cells #[.slice ub vn uc2] 27)).heap.size ∧ (w11.alloc (.cells #[.slice ub vn uc2] 27)).ownsRow w.heap.size 27 1 (.slice (some ⟨G9, 0, none⟩) V1.length c9) V1.length V1 ∧ V1.length = Vs.length + 1) := ⟨z8, own8, H14.out.2.2.2⟩
      have H16 : Hid (∀ vl' W9, W9.ownsRow w.heap.size 27 1 vl' (V1.length + 1) (V1 ++ [.slice ub vn uc2]) → (w11.alloc (.cells #[.slice ub vn uc2] 27)).grownBy W9 (Value.slice (some ⟨G9, 0, none⟩) V1.length c9).ownBlock → (vl'.ownBlock = (Value.slice (some ⟨G9, 0, none⟩) V1.length c9).ownBlock ∨ vl'.ownBlock = some (w11.alloc (.cells #[.slice ub vn uc2] 27)).heap.size) → Ly w W9 bR bL r g v ys hb of vl' (V1 ++ [.slice ub vn uc2]) (3 * i) sb (step4 13 O N V) Ds ∧ (∃ G c, vl' = .slice (some ⟨G, 0, none⟩) (V1 ++ [Value.slice ub vn uc2]).length c)) := fun vl' W9 h1 h2 h3 => by
        obtain ⟨q1, q2, q3⟩ := nx8 vl' W9 h1 h2 h3
        exact ⟨q1, q2⟩
      clear z8 own8 nx8 hF H14
      gi_wp2_with (refine (id ?_ : wpListIn _ _ Try.prog _ _ (⟨some 135, _, _, _, _, _⟩ :: _) _ _); refine hold ?_)
      intro _
      refine wp_appL rfl (.tmp 128) (.tmp 134) rfl w.heap.size (.slice (some ⟨G9, 0, none⟩) V1.length c9) V1 rfl H15.out.2.1 (.slice ub vn uc2) ⟨_, _, _, rfl⟩ w11.heap.size rfl (boxed_new _ _ _).cell (by have := HE.out; have := H15.out.2.2; omega) H15.out.1 ?_
      intro vl2 W2 H17
      have H18 := H16.out vl2 W2 H17.out.1 H17.out.2.1 H17.out.2.2
      obtain ⟨V2, eV2⟩ : ∃ V2, V2 = V1 ++ [Value.slice ub vn uc2] := ⟨_, rfl⟩
      rw [← eV2] at H18
      have hV2 : V2.length = Vs.length + 2 := by rw [eV2]; simp [H15.out.2.2]
      obtain ⟨L18, G18, c18, rfl⟩ := H18
      have NX : Hid (Nx w bR bL r hb of (.slice (some ⟨G18, 0, none⟩) V2.length c18) V2 (3 * i + 3) sb (step4 13 O N V) Ds W2) := L18.nx
      have HV2 : Hid (V2.length = Vs.length + 2) := hV2
      clear L18 H15 H16 H17 eV2 hV2 hw8 HE
      gi_wp2_with fail
      refine wpIn_wide.2 ?_
      rename_i K10 hk10 K35 hk35
      obtain ⟨o2, eo2, hlo3⟩ : ∃ o2 : Nat, (1 : Int) - (o1 : Int) = (o2 : Int) ∧ o2 < 2 := ⟨1 - o1, by omega, by omega⟩
      obtain ⟨g3, v3, ys3, hP3⟩ := NX.out.pl
      obtain ⟨aA, nA, cA, cR1, cL1, EA⟩ := hP3.ends hlo N
      obtain ⟨aB, nB, cB, cR2, cL2, EB⟩ := hP3.ends hlo3 0
      have cN : W2.cell? ⟨sb, 2, none⟩ = some (.int .i64 N) := NX.out.st.cell (i := 2) (by omega)
      have EA' : Hid (∀ k, Calls Try.prog 15 #[.pointer (some ⟨r o1, 0, none⟩), .slice aA nA cA, .int .i64 N] (W2.drewN k) fun e w' => e = .returned (.bool true) ∧ ∃ m, w' = (W2.drewN k).drewN m) := EA
      have EB' : Hid (∀ k, Calls Try.prog 15 #[.pointer (some ⟨r o2, 0, none⟩), .slice aB nB cB, .int .i64 0] (W2.drewN k) fun e w' => e = .returned (.bool true) ∧ ∃ m, w' = (W2.drewN k).drewN m) := EB
      have hlo4 : (o2 : Int) < 2 := by omega
      have hwo : IntKind.i64.wrap ((1 : Int) - (o1 : Int)) = (o2 : Int) := by rw [IntKind.wrap_i64]; omega
      have HP3 : Hid (Pl w W2 bR bL r g3 v3 ys3 hb of (.slice (some ⟨G18, 0, none⟩) V2.length c18) V2 (3 * i + 3)) := hP3
      clear hP3 EA EB
      go_quiet (first | (go_at_call_of 15 (Value.int IntKind.i64 N); exact Calls.quiet_of (EA'.out _)) | (go_at_call 15; exact Calls.quiet_of (EB'.out _)))
      refine hk35 _ _ ?_
      have NX3 : Hid (Nx w bR bL r hb of (.slice (some ⟨G18, 0, none⟩) V2.length c18) V2 (3 * i + 3) sb (step4 13 O N V) Ds (W2.drewN nq)) := ⟨⟨g3, v3, ys3, HP3.out.mono (bel_drewN (Below.refl _ _) nq)⟩, NX.out.marks.mono (bel_drewN (Below.refl _ _) nq), NX.out.st⟩
      clear NX HP3 EA' EB' cR1 cL1 cR2 cL2 cN
      gi_wp2_with fail
      have e1 : (i : Int) + 1 = ((i + 1 : Nat) : Int) := by omega
      rw [e1]
      obtain ⟨g4, v4, ys4, hP4⟩ := NX3.out.pl
      refine ⟨⟨i + 1, ⟨g4, v4, ys4, hb, of, _, _, _, V2, Ds, fr_ex _ rfl, by rw [show 3 * (i + 1) = 3 * i + 3 by omega]; exact hP4, NX3.out.marks, by have := HP.out.2.2; have := HV2.out; omega, by omega, by omega⟩⟩, ?_⟩
      simp [intOf]
      omega
    have t11 : (K == 11) = false := beq_eq_false_iff_ne.2 k11
    have t12 : (K == 12) = false := beq_eq_false_iff_ne.2 k12
    have t13 : (K == 13) = false := beq_eq_false_iff_ne.2 k13
    gi_wp2_with fail
    rw [← HW1.out.1, ← HW1.out.2]
    refine wpIn_region_inv (J15 W1.drew (Dd15 w bR bL r hb of (.slice al nl cl) Vs (3 * i + 3) sb (step4 K O N V) Ds o1) [.int .i64 (o1 : Int), .int .i64 (o1 : Int), .pointer (some ⟨bR, o1, none⟩), .pointer (some ⟨(r o1), 0, none⟩), .int .i64 (o1 : Int), .pointer (some ⟨bL, o1, none⟩), .slice a (ys o1).length cap2, .agg #[.int .i64 K, .int .i64 O, .int .i64 N, .int .i64 V], undef, undef, undef, undef, .pointer (some ⟨bL, o1, none⟩)] ⟨bL, o1, none⟩) 201 (by kernel_rfl) rfl (by kernel_rfl) J15.start (fun HG0 HN0 => ⟨?_, ?_, ?_, ?_, ?_, ?_, ?_, ?_, ?_, ?_, ?_, ?_, ?_, ?_, ?_, trivial⟩) ?_
    · intro L vs a9 w' hJ hF hP hL
      have q10 : (a9.tmps[10]?).getD undef = .int .i64 (o1 : Int) := hF.old 10 rfl
      exact run_valW (v := .int .i64 (o1 : Int)) rfl (fun c h => by cases h) (by simp [execOp, go_sem, q10]) ⟨_, rfl, hJ.early (by omega) rfl ⟨fun h => (by omega), fun h => (by omega), fun h => (by omega), fun h => (by omega)⟩⟩
    · intro L vs a9 w' hJ hF hP hL
      have q10 : (a9.tmps[10]?).getD undef = .int .i64 (o1 : Int) := hF.old 10 rfl
      exact run_valW (v := .int .i64 (o1 : Int)) rfl (fun c h => by cases h) (by simp [execOp, go_sem, q10]) ⟨_, rfl, hJ.early (by omega) rfl ⟨fun h => (by omega), fun h => (by omega), fun h => (by omega), fun h => (by omega)⟩⟩
    · intro L vs a9 w' hJ hF hP hL
      have q3 : (a9.tmps[3]?).getD undef = .pointer (some ⟨bR, 0, none⟩) := hF.old 3 rfl
      have p1 : L 1 = true := hP ⟨1, .data⟩ (by simp) rfl
      have s1 := hJ.pre 1 (by omega) p1
      simp only [List.getD_cons_zero, List.getD_cons_succ] at s1
      have q48 := hF.slot 1 48 rfl p1
      exact run_valW (v := .pointer (some ⟨bR, o1, none⟩)) rfl (fun c h => by cases h) (by simp [execOp, go_sem, q3, q48, s1, hlo2]) ⟨_, rfl, hJ.early (by omega) rfl ⟨fun _ => p1, fun h => (by omega), fun h => (by omega), fun h => (by omega)⟩⟩
    · intro L vs a9 w' hJ hF hP hL
      obtain rfl := hJ.ahead (j := 3) (by omega) hL
      have p2 : L 2 = true := hP ⟨2, .data⟩ (by simp) rfl
      have s2 := hJ.pre 2 (by omega) p2
      simp only [List.getD_cons_zero, List.getD_cons_succ] at s2
      have q49 := hF.slot 2 49 rfl p2
      exact run_valW (v := .pointer (some ⟨(r o1), 0, none⟩)) rfl (fun c h => by cases h) (by simp [execOp, go_sem, q49, s2, cR]) ⟨_, rfl, hJ.early (by omega) rfl ⟨fun h => (by omega), fun _ => p2, fun h => (by omega), fun h => (by omega)⟩⟩
    · intro L vs a9 w' hJ hF hP hL
      have q10 : (a9.tmps[10]?).getD undef = .int .i64 (o1 : Int) := hF.old 10 rfl
      exact run_valW (v := .int .i64 (o1 : Int)) rfl (fun c h => by cases h) (by simp [execOp, go_sem, q10]) ⟨_, rfl, hJ.early (by omega) rfl ⟨fun h => (by omega), fun h => (by omega), fun h => (by omega), fun h => (by omega)⟩⟩
    · intro L vs a9 w' hJ hF hP hL
      have q4 : (a9.tmps[4]?).getD undef = .pointer (some ⟨bL, 0, none⟩) := hF.old 4 rfl
      have p4 : L 4 = true := hP ⟨4, .data⟩ (by simp) rfl
      have s4 := hJ.pre 4 (by omega) p4
      simp only [List.getD_cons_zero, List.getD_cons_succ] at s4
      have q51 := hF.slot 4 51 rfl p4
      exact run_valW (v := .pointer (some ⟨bL, o1, none⟩)) rfl (fun c h => by cases h) (by simp [execOp, go_sem, q4, q51, s4, hlo2]) ⟨_, rfl, hJ.early (by omega) rfl ⟨fun h => (by omega), fun h => (by omega), fun _ => p4, fun h => (by omega)⟩⟩
    · intro L vs a9 w' hJ hF hP hL
      obtain rfl := hJ.ahead (j := 6) (by omega) hL
      have p5 : L 5 = true := hP ⟨5, .data⟩ (by simp) rfl
      have s5 := hJ.pre 5 (by omega) p5
      simp only [List.getD_cons_zero, List.getD_cons_succ] at s5
      have q52 := hF.slot 5 52 rfl p5
      exact run_valW (v := .slice a (ys o1).length cap2) rfl (fun c h => by cases h) (by simp [execOp, go_sem, q52, s5, cL]) ⟨_, rfl, hJ.early (by omega) rfl ⟨fun h => (by omega), fun h => (by omega), fun h => (by omega), fun _ => p5⟩⟩
    · intro L vs a9 w' hJ hF hP hL
      obtain rfl := hJ.ahead (j := 7) (by omega) hL
      have q9 : (a9.tmps[9]?).getD undef = .pointer (some ⟨sb, 0, none⟩) := hF.old 9 rfl
      exact run_valW (v := .agg #[.int .i64 K, .int .i64 O, .int .i64 N, .int .i64 V]) rfl (fun c h => by cases h) (by simp [execOp, go_sem, q9, y0, y1, y2, y3]) ⟨_, rfl, hJ.early (by omega) rfl ⟨fun h => (by omega), fun h => (by omega), fun h => (by omega), fun h => (by omega)⟩⟩
    · intro L vs a9 w' hJ hF hP hL
      have p3 : L 3 = true := hP ⟨3, .data⟩ (by simp) rfl
      have s3 := hJ.pre 3 (by omega) p3
      simp only [List.getD_cons_zero, List.getD_cons_succ] at s3
      have q50 := hF.slot 3 50 rfl p3
      have p6 : L 6 = true := hP ⟨6, .data⟩ (by simp) rfl
      have s6 := hJ.pre 6 (by omega) p6
      simp only [List.getD_cons_zero, List.getD_cons_succ] at s6
      have q53 := hF.slot 6 53 rfl p6
      have p7 : L 7 = true := hP ⟨7, .data⟩ (by simp) rfl
      have s7 := hJ.pre 7 (by omega) p7
      simp only [List.getD_cons_zero, List.getD_cons_succ] at s7
      have q54 := hF.slot 7 54 rfl p7
      obtain rfl := (hJ.no hL).1
      refine run_callW (f := 14) (args := #[.pointer (some ⟨(r o1), 0, none⟩), .slice a (ys o1).length cap2, .agg #[.int .i64 K, .int .i64 O, .int .i64 N, .int .i64 V]]) rfl (fun c h => by cases h) (by simp [go_sem, q50, s3, q53, s6, q54, s7]) (do_any (r o1) (g o1) N0 f0 a (ys o1).length cap2 (ys o1) K O N V _ HDo.out HN.out.1 HN.out.2) ?_
      rintro e w2 ⟨v2, rfl, hv2⟩
      exact ⟨_, rfl, _, rfl, hJ.call hL p3 p6 p7 (DD.out v2 w2 (by exact hv2.stp))⟩
    · intro L vs a9 w' hJ hF hP hL
      have p8 : L 8 = true := hP ⟨8, .data⟩ (by simp) rfl
      have q55 := hF.slot 8 55 rfl p8
      obtain ⟨v2, e, hJ'⟩ := hJ.m9 p8
      exact run_valW (v := .tuple #[v2, .bool true]) rfl (fun c h => by cases h) (by simp [execOp, go_sem, q55, e]) ⟨_, rfl, hJ'⟩
    · intro L vs a9 w' hJ hF hP hL
      have p9 : L 9 = true := hP ⟨9, .data⟩ (by simp) rfl
      have q46 := hF.slot 9 46 rfl p9
      obtain ⟨v2, e, hJ'⟩ := hJ.m10 p9
      exact run_valW (v := v2) rfl (fun c h => by cases h) (by simp [execOp, go_sem, q46, e]) ⟨_, rfl, hJ'⟩
    · intro L vs a9 w' hJ hF hP hL
      have p9 : L 9 = true := hP ⟨9, .data⟩ (by simp) rfl
      have q46 := hF.slot 9 46 rfl p9
      obtain ⟨v2, e, hJ'⟩ := hJ.m11 p9
      exact run_valW (v := .bool true) rfl (fun c h => by cases h) (by simp [execOp, go_sem, q46, e]) ⟨_, rfl, hJ'⟩
    · intro L vs a9 w' hJ hF hP hL
      have q4 : (a9.tmps[4]?).getD undef = .pointer (some ⟨bL, 0, none⟩) := hF.old 4 rfl
      have p0 : L 0 = true := hP ⟨0, .data⟩ (by simp) rfl
      have s0 := hJ.pre 0 (by omega) p0
      simp only [List.getD_cons_zero] at s0
      have q47 := hF.slot 0 47 rfl p0
      exact run_valW (v := .pointer (some ⟨bL, o1, none⟩)) rfl (fun c h => by cases h) (by simp [execOp, go_sem, q4, q47, s0, hlo2]) ⟨_, rfl, hJ.early (by omega) rfl ⟨fun h => (by omega), fun h => (by omega), fun h => (by omega), fun h => (by omega)⟩⟩
    · intro L vs a9 w' hJ hF hP hL
      have p12 : L 12 = true := hP ⟨12, .data⟩ (by simp) rfl
      have s12 := hJ.pre 12 (by omega) p12
      simp only [List.getD_cons_zero, List.getD_cons_succ] at s12
      have q58 := hF.slot 12 58 rfl p12
      have p10 : L 10 = true := hP ⟨10, .data⟩ (by simp) rfl
      have q56 := hF.slot 10 56 rfl p10
      obtain ⟨v2, w2, hD2, rfl, e, hJ'⟩ := hJ.m13 p10 hL
      obtain ⟨⟨x9, hx9⟩, hf9, ⟨a7, n7, c7, rfl⟩, _⟩ := hD2
      exact run_unitW rfl (fun c h => by cases h) (by simp [execOp, go_sem, q58, s12, q56, e, hx9, hf9]) ⟨_, rfl, hJ' _⟩
    · intro L vs a9 w' hJ hF hP hL
      have p11 : L 11 = true := hP ⟨11, .data⟩ (by simp) rfl
      have q57 := hF.slot 11 57 rfl p11
      obtain ⟨e, hJ'⟩ := hJ.m14 p11
      exact run_valW (v := .bool true) rfl (fun c h => by cases h) (by simp [execOp, go_sem, q57, e]) ⟨_, rfl, hJ'⟩
    intro L vs w' hA hJ
    obtain ⟨v2, w2, ⟨_, _, _, hNx⟩, rfl, e14⟩ := hJ.fin hA
    have NX : Hid _ := hNx
    simp only [putL, Act.put, List.setIfInBounds_toArray, List.set_cons_zero, List.set_cons_succ, Nat.reduceAdd]
    simp only [e14]
    obtain ⟨W2, hW2⟩ : ∃ W2, W2 = w2.setCell ⟨bL, o1, none⟩ v2 := ⟨_, rfl⟩
    rw [← hW2] at NX ⊢
    clear hW2 hNx e14 hJ hA cR cL y0 y1 y2 y3 DD
    generalize vs = vs0
    gi_wp2_with fail
    refine wpIn_wide.2 ?_
    rename_i K10 hk10 K35 hk35
    obtain ⟨o2, eo2, hlo3⟩ : ∃ o2 : Nat, (1 : Int) - (o1 : Int) = (o2 : Int) ∧ o2 < 2 := ⟨1 - o1, by omega, by omega⟩
    obtain ⟨g3, v3, ys3, hP3⟩ := NX.out.pl
    obtain ⟨aA, nA, cA, cR1, cL1, EA⟩ := hP3.ends hlo N
    obtain ⟨aB, nB, cB, cR2, cL2, EB⟩ := hP3.ends hlo3 0
    have cN : W2.cell? ⟨sb, 2, none⟩ = some (.int .i64 N) := NX.out.st.cell (i := 2) (by omega)
    have EA' : Hid (∀ k, Calls Try.prog 15 #[.pointer (some ⟨r o1, 0, none⟩), .slice aA nA cA, .int .i64 N] (W2.drewN k) fun e w' => e = .returned (.bool true) ∧ ∃ m, w' = (W2.drewN k).drewN m) := EA
    have EB' : Hid (∀ k, Calls Try.prog 15 #[.pointer (some ⟨r o2, 0, none⟩), .slice aB nB cB, .int .i64 0] (W2.drewN k) fun e w' => e = .returned (.bool true) ∧ ∃ m, w' = (W2.drewN k).drewN m) := EB
    have hlo4 : (o2 : Int) < 2 := by omega
    have hwo : IntKind.i64.wrap ((1 : Int) - (o1 : Int)) = (o2 : Int) := by rw [IntKind.wrap_i64]; omega
    have HP3 : Hid (Pl w W2 bR bL r g3 v3 ys3 hb of (.slice al nl cl) Vs (3 * i + 3)) := hP3
    clear hP3 EA EB
    go_quiet (first | (go_at_call_of 15 (Value.int IntKind.i64 N); exact Calls.quiet_of (EA'.out _)) | (go_at_call 15; exact Calls.quiet_of (EB'.out _)))
    refine hk35 _ _ ?_
    have NX3 : Hid (Nx w bR bL r hb of (.slice al nl cl) Vs (3 * i + 3) sb (step4 K O N V) Ds (W2.drewN nq)) := ⟨⟨g3, v3, ys3, HP3.out.mono (bel_drewN (Below.refl _ _) nq)⟩, NX.out.marks.mono (bel_drewN (Below.refl _ _) nq), NX.out.st⟩
    clear NX HP3 EA' EB' cR1 cL1 cR2 cL2 cN
    gi_wp2_with fail
    have e1 : (i : Int) + 1 = ((i + 1 : Nat) : Int) := by omega
    rw [e1]
    obtain ⟨g4, v4, ys4, hP4⟩ := NX3.out.pl
    refine ⟨⟨i + 1, ⟨g4, v4, ys4, hb, of, _, _, _, Vs, Ds, fr_ex _ rfl, by rw [show 3 * (i + 1) = 3 * i + 3 by omega]; exact hP4, NX3.out.marks, by have := HP.out.2.2; omega, by omega, by omega⟩⟩, ?_⟩
    simp [intOf]
    omega
  · have ways : i = n ∨ (i = 300 ∧ 300 < n) := by omega
    have HP : Hid (Pl w W bR bL r g v ys hb of (.slice al nl cl) Vs (3 * i) ∧ Mk w.heap.size W Ds) := ⟨hP, hM⟩
    have hnl : nl = Vs.length := by
      rcases hP.lists.2 with ⟨e, e0⟩ | ⟨g9, cap9, cur9, e, _⟩
      · injection e with _ e2
        omega
      · injection e with _ e2
    have HV : Hid (nl = Vs.length ∧ nl ≤ 600) := ⟨hnl, by omega⟩
    clear hP hM hnl hV
    simp only [FR]
    have hnL : (n : Int) < 9223372036854775808 := by have h1 := HS.out.le; have h2 := HS.out.lim; omega
    rcases ways with rfl | ⟨e3, d1⟩
    · gi_wp2_with fail
      have hnl := HV.out.2
      gi_loopw [17] (fun t wr => ∃ (j : Nat), j ≤ nl ∧ t = .int .i64 (j : Int) ∧ wr = W) (fun t _ => nl - (intOf t).toNat)
      case atStart => exact ⟨0, by omega, rfl, rfl⟩
      case round =>
        obtain ⟨j, hj, rfl, rfl⟩ := hrel
        by_cases hjn : j < nl
        · obtain ⟨G, aj, nj, cj, eal, q1, q2, cj1, q3, q4, hcl⟩ := HP.out.1.told (j := j) (by have := HV.out.1; omega)
          subst eal
          simp only [maxLen] at q2
          have HC : Hid (0 < nj → ∃ b o, aj = some ⟨b, o, none⟩ ∧ ∀ k, k < nj → wr.cell? ⟨b, o + k, none⟩ = some (.int .i64 (-7 - (j : Int)))) := hcl
          clear hcl
          have hw7 : IntKind.i64.wrap (-7 - (j : Int)) = -7 - (j : Int) := by rw [IntKind.wrap_i64]; omega
          gi_wp2_with fail
          gi_loopw [18] (fun t wr2 => ∃ (k : Nat), k ≤ nj ∧ t = .int .i64 (k : Int) ∧ wr2 = wr) (fun t _ => nj - (intOf t).toNat)
          case atStart => exact ⟨0, by omega, rfl, rfl⟩
          case round =>
            obtain ⟨k, hk, rfl, rfl⟩ := hrel
            by_cases hkn : k < nj
            · obtain ⟨b, o, eaj, hcell⟩ := HC.out (by omega)
              subst eaj
              have ck := hcell k hkn
              clear hcell
              gi_wp2_with fail
              go_roundw
              case rel => exact ⟨k + 1, by omega, by go_num, by first | rfl | trivial⟩
              case measure => simp [intOf]; omega
            · obtain rfl : k = nj := by omega
              gi_wp2_with fail
              go_roundw
              case rel => exact ⟨j + 1, by omega, by go_num, by first | rfl | trivial⟩
              case measure => simp [intOf]; omega
        · obtain rfl : j = nl := by omega
          gi_wp2_with fail
          rename_i hz
          obtain ⟨a0, n0, c0, z0, y0, L0, S0⟩ := HP.out.1.tells (o := 0) (by omega) (by omega)
          obtain ⟨a1, n1, c1, z1, y1, L1, S1⟩ := HP.out.1.tells (o := 1) (by omega) (by omega)
          have HT : Hid ((∀ W9, Below wr.heap.size wr W9 → Calls Try.prog 12 #[.pointer (some ⟨r 0, 0, none⟩)] W9 fun e w9 => e = .returned (.slice (some ⟨W9.heap.size, 0, none⟩) n0 n0) ∧ ISl w9 (some ⟨W9.heap.size, 0, none⟩) n0 n0 (ys 0) ∧ Below wr.heap.size wr w9) ∧ (∀ W9, Below wr.heap.size wr W9 → Calls Try.prog 12 #[.pointer (some ⟨r 1, 0, none⟩)] W9 fun e w9 => e = .returned (.slice (some ⟨W9.heap.size, 0, none⟩) n1 n1) ∧ ISl w9 (some ⟨W9.heap.size, 0, none⟩) n1 n1 (ys 1) ∧ Below wr.heap.size wr w9)) := ⟨L0, L1⟩
          have HQ : Hid ((∀ W9 b, Below wr.heap.size wr W9 → ISl W9 (some ⟨b, 0, none⟩) n0 n0 (ys 0) → Calls Try.prog 11 #[.slice (some ⟨b, 0, none⟩) n0 n0, .slice a0 n0 c0] W9 fun e w9 => e = .returned (.bool true) ∧ Below wr.heap.size wr w9) ∧ (∀ W9 b, Below wr.heap.size wr W9 → ISl W9 (some ⟨b, 0, none⟩) n1 n1 (ys 1) → Calls Try.prog 11 #[.slice (some ⟨b, 0, none⟩) n1 n1, .slice a1 n1 c1] W9 fun e w9 => e = .returned (.bool true) ∧ Below wr.heap.size wr w9)) := ⟨S0, S1⟩
          clear L0 L1 S0 S1
          refine wpIn_wide.2 ?_
          go_region_held3 (fun w9 => w9.cell? ⟨bR, 0, none⟩ = some (.pointer (some ⟨r 0, 0, none⟩)) ∧ w9.cell? ⟨bR, 1, none⟩ = some (.pointer (some ⟨r 1, 0, none⟩)) ∧ w9.cell? ⟨bL, 0, none⟩ = some (.slice a0 n0 c0) ∧ w9.cell? ⟨bL, 1, none⟩ = some (.slice a1 n1 c1)) (first | (simp [go_sem, *]; done) | (trace_state; fail))
            (first
              | (go_at_call_of 12 (r 0); refine Calls.mono (HT.out.1 wr.drew (bel_drew (Below.refl _ _))) ?_; rintro e w5 ⟨rfl, hI, hB⟩; have H5 : Hid (ISl w5 (some ⟨wr.drew.heap.size, 0, none⟩) n0 n0 (ys 0) ∧ Below wr.heap.size wr w5) := ⟨hI, hB⟩; have m0 := cell_later hB z0; have m1 := cell_later hB z1; have m2 := cell_later hB y0; have m3 := cell_later hB y1; clear hI hB)
              | (go_at_call_of 11 (n0); refine Calls.mono (HQ.out.1 w5 _ H5.out.2 H5.out.1) ?_; rintro e w6 ⟨rfl, hB⟩; have H6 : Hid (Below wr.heap.size wr w6) := hB; have p0 := cell_later hB z0; have p1 := cell_later hB z1; have p2 := cell_later hB y0; have p3 := cell_later hB y1; clear hB)
              | (go_at_call_of 12 (r 1); refine Calls.mono (HT.out.2 w6 H6.out) ?_; rintro e w7 ⟨rfl, hI, hB⟩; have H7 : Hid (ISl w7 (some ⟨w6.heap.size, 0, none⟩) n1 n1 (ys 1) ∧ Below wr.heap.size wr w7) := ⟨hI, hB⟩; have s0 := cell_later hB z0; have s1 := cell_later hB z1; have s2 := cell_later hB y0; have s3 := cell_later hB y1; clear hI hB)
              | (go_at_call 11; refine Calls.mono (HQ.out.2 w7 _ H7.out.2 H7.out.1) ?_; rintro e w8 ⟨rfl, hB⟩; have H8 : Hid (Below wr.heap.size wr w8) := hB; have v0 := cell_later hB z0; have v1 := cell_later hB z1; have v2 := cell_later hB y0; have v3 := cell_later hB y1; clear hB))
          refine hz _ _ ?_
          gi_wp2_with fail
          have hM9 := HP.out.2.mono H8.out
          have hB9 := HP.out.1.bel.trans (H8.out.mono HP.out.1.bel.size)
          refine leaves_marks Ds w8 hM9.nodup hM9.at' fun w9 h1 h2 h3 h4 h5 => ?_
          refine ⟨_, results_tmp rfl _ _ _, rfl, ⟨h2.trans hB9.os, h3.trans hB9.tape, h4.trans hB9.output, by have := hB9.size; omega, fun k hk => (h1 k fun hm => by have := hM9.ge k hm; omega).trans (hB9.block k hk)⟩⟩
    · have t1 : (i : Int) < (n : Int) := by omega
      have t2 : decide ((i : Int) < 300) = false := decide_eq_false (by omega)
      have t3 : decide (i < 300) = false := decide_eq_false (by omega)
      clear e3 d1
      gi_wp2_with fail
      have hnl := HV.out.2
      gi_loopw [17] (fun t wr => ∃ (j : Nat), j ≤ nl ∧ t = .int .i64 (j : Int) ∧ wr = W) (fun t _ => nl - (intOf t).toNat)
      case atStart => exact ⟨0, by omega, rfl, rfl⟩
      case round =>
        obtain ⟨j, hj, rfl, rfl⟩ := hrel
        by_cases hjn : j < nl
        · obtain ⟨G, aj, nj, cj, eal, q1, q2, cj1, q3, q4, hcl⟩ := HP.out.1.told (j := j) (by have := HV.out.1; omega)
          subst eal
          simp only [maxLen] at q2
          have HC : Hid (0 < nj → ∃ b o, aj = some ⟨b, o, none⟩ ∧ ∀ k, k < nj → wr.cell? ⟨b, o + k, none⟩ = some (.int .i64 (-7 - (j : Int)))) := hcl
          clear hcl
          have hw7 : IntKind.i64.wrap (-7 - (j : Int)) = -7 - (j : Int) := by rw [IntKind.wrap_i64]; omega
          gi_wp2_with fail
          gi_loopw [18] (fun t wr2 => ∃ (k : Nat), k ≤ nj ∧ t = .int .i64 (k : Int) ∧ wr2 = wr) (fun t _ => nj - (intOf t).toNat)
          case atStart => exact ⟨0, by omega, rfl, rfl⟩
          case round =>
            obtain ⟨k, hk, rfl, rfl⟩ := hrel
            by_cases hkn : k < nj
            · obtain ⟨b, o, eaj, hcell⟩ := HC.out (by omega)
              subst eaj
              have ck := hcell k hkn
              clear hcell
              gi_wp2_with fail
              go_roundw
              case rel => exact ⟨k + 1, by omega, by go_num, by first | rfl | trivial⟩
              case measure => simp [intOf]; omega
            · obtain rfl : k = nj := by omega
              gi_wp2_with fail
              go_roundw
              case rel => exact ⟨j + 1, by omega, by go_num, by first | rfl | trivial⟩
              case measure => simp [intOf]; omega
        · obtain rfl : j = nl := by omega
          gi_wp2_with fail
          rename_i hz
          obtain ⟨a0, n0, c0, z0, y0, L0, S0⟩ := HP.out.1.tells (o := 0) (by omega) (by omega)
          obtain ⟨a1, n1, c1, z1, y1, L1, S1⟩ := HP.out.1.tells (o := 1) (by omega) (by omega)
          have HT : Hid ((∀ W9, Below wr.heap.size wr W9 → Calls Try.prog 12 #[.pointer (some ⟨r 0, 0, none⟩)] W9 fun e w9 => e = .returned (.slice (some ⟨W9.heap.size, 0, none⟩) n0 n0) ∧ ISl w9 (some ⟨W9.heap.size, 0, none⟩) n0 n0 (ys 0) ∧ Below wr.heap.size wr w9) ∧ (∀ W9, Below wr.heap.size wr W9 → Calls Try.prog 12 #[.pointer (some ⟨r 1, 0, none⟩)] W9 fun e w9 => e = .returned (.slice (some ⟨W9.heap.size, 0, none⟩) n1 n1) ∧ ISl w9 (some ⟨W9.heap.size, 0, none⟩) n1 n1 (ys 1) ∧ Below wr.heap.size wr w9)) := ⟨L0, L1⟩
          have HQ : Hid ((∀ W9 b, Below wr.heap.size wr W9 → ISl W9 (some ⟨b, 0, none⟩) n0 n0 (ys 0) → Calls Try.prog 11 #[.slice (some ⟨b, 0, none⟩) n0 n0, .slice a0 n0 c0] W9 fun e w9 => e = .returned (.bool true) ∧ Below wr.heap.size wr w9) ∧ (∀ W9 b, Below wr.heap.size wr W9 → ISl W9 (some ⟨b, 0, none⟩) n1 n1 (ys 1) → Calls Try.prog 11 #[.slice (some ⟨b, 0, none⟩) n1 n1, .slice a1 n1 c1] W9 fun e w9 => e = .returned (.bool true) ∧ Below wr.heap.size wr w9)) := ⟨S0, S1⟩
          clear L0 L1 S0 S1
          refine wpIn_wide.2 ?_
          go_region_held3 (fun w9 => w9.cell? ⟨bR, 0, none⟩ = some (.pointer (some ⟨r 0, 0, none⟩)) ∧ w9.cell? ⟨bR, 1, none⟩ = some (.pointer (some ⟨r 1, 0, none⟩)) ∧ w9.cell? ⟨bL, 0, none⟩ = some (.slice a0 n0 c0) ∧ w9.cell? ⟨bL, 1, none⟩ = some (.slice a1 n1 c1)) (first | (simp [go_sem, *]; done) | (trace_state; fail))
            (first
              | (go_at_call_of 12 (r 0); refine Calls.mono (HT.out.1 wr.drew (bel_drew (Below.refl _ _))) ?_; rintro e w5 ⟨rfl, hI, hB⟩; have H5 : Hid (ISl w5 (some ⟨wr.drew.heap.size, 0, none⟩) n0 n0 (ys 0) ∧ Below wr.heap.size wr w5) := ⟨hI, hB⟩; have m0 := cell_later hB z0; have m1 := cell_later hB z1; have m2 := cell_later hB y0; have m3 := cell_later hB y1; clear hI hB)
              | (go_at_call_of 11 (n0); refine Calls.mono (HQ.out.1 w5 _ H5.out.2 H5.out.1) ?_; rintro e w6 ⟨rfl, hB⟩; have H6 : Hid (Below wr.heap.size wr w6) := hB; have p0 := cell_later hB z0; have p1 := cell_later hB z1; have p2 := cell_later hB y0; have p3 := cell_later hB y1; clear hB)
              | (go_at_call_of 12 (r 1); refine Calls.mono (HT.out.2 w6 H6.out) ?_; rintro e w7 ⟨rfl, hI, hB⟩; have H7 : Hid (ISl w7 (some ⟨w6.heap.size, 0, none⟩) n1 n1 (ys 1) ∧ Below wr.heap.size wr w7) := ⟨hI, hB⟩; have s0 := cell_later hB z0; have s1 := cell_later hB z1; have s2 := cell_later hB y0; have s3 := cell_later hB y1; clear hI hB)
              | (go_at_call 11; refine Calls.mono (HQ.out.2 w7 _ H7.out.2 H7.out.1) ?_; rintro e w8 ⟨rfl, hB⟩; have H8 : Hid (Below wr.heap.size wr w8) := hB; have v0 := cell_later hB z0; have v1 := cell_later hB z1; have v2 := cell_later hB y0; have v3 := cell_later hB y1; clear hB))
          refine hz _ _ ?_
          gi_wp2_with fail
          have hM9 := HP.out.2.mono H8.out
          have hB9 := HP.out.1.bel.trans (H8.out.mono HP.out.1.bel.size)
          refine leaves_marks Ds w8 hM9.nodup hM9.at' fun w9 h1 h2 h3 h4 h5 => ?_
          refine ⟨_, results_tmp rfl _ _ _, rfl, ⟨h2.trans hB9.os, h3.trans hB9.tape, h4.trans hB9.output, by have := hB9.size; omega, fun k hk => (h1 k fun hm => by have := hM9.ge k hm; omega).trans (hB9.block k hk)⟩⟩
end Go.Proofs.Ytmghkkaoblkmpaa
