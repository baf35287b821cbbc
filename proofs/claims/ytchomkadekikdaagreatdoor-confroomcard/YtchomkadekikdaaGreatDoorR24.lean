/- Contracts of the program's functions, part 24: own work, joined in build order. -/
import Derived.Test.YtchomkadekikdaaGreatDoorR23
import Derived.BigQuiet
import Derived.Laws.FloatArith
import Derived.Deep.Cut
import Derived.Deep.CutRange
namespace Go.Proofs.YtchomkadekikdaaGreatDoor
open Go.RowKit
set_option maxRecDepth 100000
set_option linter.unusedVariables false
set_option maxHeartbeats 2000000 in
theorem cparse_any (s : ByteArray) (w : World) (hs : s.size ≤ 9223372036854775807) (he : EV w) (hk : KN w) :
    Calls Tryz.prog 19 #[.string s] w fun e w' => ∃ v, e = .returned (.tuple #[.agg #[.int .i64 (prI s 0), .int .i64 (prI s 1), .int .i64 (prI s 2), .int .i64 (prI s 3), .int .i64 (prI s 4), .int .i64 (prI s 5), v], .int .i64 (prE s)]) ∧ Nr w.heap.size w' v (prN s) ∧ Below w.heap.size w w' := by
  have HE : Hid _ := he
  have HK : Hid (KN w) := hk
  have HZ : Hid (prE s ≠ 0 → (∀ i, prI s i = 0) ∧ prN s = []) := fun h => ⟨fun i => by unfold prI; rw [if_neg h], by unfold prN; rw [if_neg h]⟩
  have HGD : Hid (prE s = 0 → (∀ i, prI s i = setV (wordsL s, false) i) ∧ prN s = suN (wordsL s, false)) := fun h => ⟨fun i => by unfold prI; rw [if_pos h], by unfold prN; rw [if_pos h]⟩
  obtain ⟨gR, egR⟩ : ∃ g, g = w.heap.size := ⟨_, rfl⟩
  have HEQ : Hid _ := egR
  clear he hk
  by_cases c0 : 4096 < s.size
  · have d0 : (4096 : Int) < (s.size : Int) := by omega
    have HPE : Hid (prE s = 2) := by show _ = _; unfold prE; rw [if_pos c0]
    clear c0
    have HAL : Hid ((w.alloc (.cells #[.int .i64 0, .int .i64 0, .int .i64 0, .int .i64 0, .int .i64 0, .int .i64 0, .slice none 0 0] 24)).heap[gR]? = some (.cells #[.int .i64 0, .int .i64 0, .int .i64 0, .int .i64 0, .int .i64 0, .int .i64 0, .slice none 0 0] 24)) := by show _ = _; rw [egR]; exact al_at _ _
    have HB0 : Hid (Below w.heap.size w (w.alloc (.cells #[.int .i64 0, .int .i64 0, .int .i64 0, .int .i64 0, .int .i64 0, .int .i64 0, .slice none 0 0] 24))) := bc_al (bel_refl w)
    go_enter Tryz.func19, Tryz.ntmps19
    go_wp2_with fail
    have WZ : Hid (Below w.heap.size w (w.alloc (.cells #[.int .i64 0, .int .i64 0, .int .i64 0, .int .i64 0, .int .i64 0, .int .i64 0, .slice none 0 0] 24))) := bc_al (bel_refl w)
    refine bodyPost_ret (v := .tuple #[.agg #[.int .i64 0, .int .i64 0, .int .i64 0, .int .i64 0, .int .i64 0, .int .i64 0, .slice none 0 0], .int .i64 2]) (by simp [results, Tryz.results19, go_sem]) rfl ?_
    have q := HZ.out (by rw [HPE.out]; decide)
    exact ⟨.slice none 0 0, by rw [q.1 0, q.1 1, q.1 2, q.1 3, q.1 4, q.1 5, HPE.out], by rw [q.2]; exact Nr.nil _ _, WZ.out⟩
  have hs2 : s.size ≤ 4096 := by omega
  have HS : Hid _ := hs2
  have d0 : ¬ (4096 : Int) < (s.size : Int) := by omega
  have HP1 : Hid (prE s = if (!(suS (wordsL s, false)).2 && (suS (wordsL s, false)).1.isEmpty) = false then 201 else prC s) := by show _ = _; unfold prE; rw [if_neg c0]
  clear c0 egR
  go_enter Tryz.func19, Tryz.ntmps19
  go_wp2_with fail
  refine (words_any s _ (by omega)).mono ?_
  rintro e w1 ⟨v1, rfl, hO, hb1⟩
  have B1 : Hid (Below w.heap.size w w1) := bc_go (bc_al (bel_refl w)) hb1
  have BA : Hid (Below (w.alloc (.cells #[.int .i64 0, .int .i64 0, .int .i64 0, .int .i64 0, .int .i64 0, .int .i64 0, .slice none 0 0] 24)).heap.size (w.alloc (.cells #[.int .i64 0, .int .i64 0, .int .i64 0, .int .i64 0, .int .i64 0, .int .i64 0, .slice none 0 0] 24)) w1) := hb1
  have R1 : Hid _ := rp_start (W0 := w) hs2 hO (HE.out.go B1.out) (HK.out.go B1.out)
  have hsz1 := hb1.size
  rw [World.size_alloc] at hsz1
  have e1 : ∃ a n c, v1 = .slice a n c := by
    rcases hO with ⟨q, _⟩ | ⟨g, cap, f, q, _⟩
    · exact ⟨_, _, _, q⟩
    exact ⟨_, _, _, q⟩
  obtain ⟨a1, m1, c1, rfl⟩ := e1
  clear hO hb1
  obtain ⟨KD, hKD⟩ : ∃ KD, setV (wordsL s, false) 0 = KD := ⟨_, rfl⟩
  obtain ⟨n0, hn0⟩ : ∃ n, setV (wordsL s, false) 1 = n := ⟨_, rfl⟩
  obtain ⟨n1, hn1⟩ : ∃ n, setV (wordsL s, false) 2 = n := ⟨_, rfl⟩
  obtain ⟨n2, hn2⟩ : ∃ n, setV (wordsL s, false) 3 = n := ⟨_, rfl⟩
  obtain ⟨n3, hn3⟩ : ∃ n, setV (wordsL s, false) 4 = n := ⟨_, rfl⟩
  obtain ⟨n4, hn4⟩ : ∃ n, setV (wordsL s, false) 5 = n := ⟨_, rfl⟩
  have HVAL : Hid (setV (wordsL s, false) 0 = KD ∧ setV (wordsL s, false) 1 = n0 ∧ setV (wordsL s, false) 2 = n1 ∧ setV (wordsL s, false) 3 = n2 ∧ setV (wordsL s, false) 4 = n3 ∧ setV (wordsL s, false) 5 = n4) := ⟨hKD, hn0, hn1, hn2, hn3, hn4⟩
  clear hKD hn0 hn1 hn2 hn3 hn4
  go_wp2_with fail
  refine (setup_any w1.heap.size (wordsL s, false) _ R1.out (by have := words_len s; show (wordsL s).length ≤ _; omega)).mono ?_
  rintro e w2 ⟨v2, rfl, hN2, ⟨lm2, hr2⟩, ho2⟩
  obtain ⟨j0, j1, j2, j3, j4, j5⟩ := HVAL.out
  rw [j0, j1, j2, j3, j4, j5]
  clear j0 j1 j2 j3 j4 j5
  obtain ⟨a, cap, ev2, _, _⟩ := Nr.sl hN2
  subst ev2
  obtain ⟨n, hn⟩ : ∃ n, (suN (wordsL s, false)).length = n := ⟨_, rfl⟩
  have N2 : Hid (Nr (w1.alloc (.cells #[.slice a1 m1 c1, .bool false] 102)).heap.size w2 (.slice a n cap) (suN (wordsL s, false))) := by rw [← hn]; exact hN2
  rw [hn]
  have HLN : Hid _ := hn
  have R2 : Hid _ := hr2
  have O2 : Hid _ := ho2
  clear hN2 hr2 ho2 hn
  go_wp2_with fail
  refine (done_any w1.heap.size (suS (wordsL s, false)).1 (suS (wordsL s, false)).2 _ (R2.out.rd.go (bc_al (bel_refl w2)))).mono ?_
  rintro e w3 ⟨rfl, rfl⟩
  obtain ⟨D, hD⟩ : ∃ D, (!(suS (wordsL s, false)).2 && (suS (wordsL s, false)).1.isEmpty) = D := ⟨_, rfl⟩
  rw [hD]
  rw [hD] at HP1
  clear hD
  obtain ⟨gC, eC⟩ : ∃ g, g = w2.heap.size := ⟨_, rfl⟩
  have eR := HEQ.out
  obtain ⟨w4, hw4⟩ : ∃ w4, w4 = w2.alloc (.cells #[.int .i64 KD, .int .i64 n0, .int .i64 n1, .int .i64 n2, .int .i64 n3, .int .i64 n4, .slice a n cap] 24) := ⟨_, rfl⟩
  have hsz2 := O2.out.size
  rw [World.size_alloc] at hsz2
  have hC : w4.heap[gC]? = some (.cells #[.int .i64 KD, .int .i64 n0, .int .i64 n1, .int .i64 n2, .int .i64 n3, .int .i64 n4, .slice a n cap] 24) := by rw [hw4, eC]; exact al_at _ _
  have hR : w4.heap[gR]? = some (.cells #[.int .i64 0, .int .i64 0, .int .i64 0, .int .i64 0, .int .i64 0, .int .i64 0, .slice none 0 0] 24) := by
    rw [hw4]
    refine ((bc_al (bel_refl w2)).block gR (by omega)).trans ((O2.out.block gR (by rw [World.size_alloc]; omega) (by omega)).trans (((bc_al (bel_refl w1)).block gR (by omega)).trans ((BA.out.block gR (by rw [World.size_alloc]; omega)).trans ?_)))
    rw [eR]
    exact al_at _ _
  have W4 : Hid (Below w.heap.size w w4) := by
    have q : Below w.heap.size (w1.alloc (.cells #[.slice a1 m1 c1, .bool false] 102)) w2 := O2.out.below (by rw [World.size_alloc]; omega) (by omega)
    rw [hw4]
    exact bc_al ((bc_al B1.out).trans q)
  have N4 : Hid (Nr (w1.heap.size + 1) w4 (.slice a n cap) (suN (wordsL s, false))) := by
    have q := Nr.below N2.out (bc_al (o := .cells #[.int .i64 KD, .int .i64 n0, .int .i64 n1, .int .i64 n2, .int .i64 n3, .int .i64 n4, .slice a n cap] 24) (bel_refl w2))
    rw [World.size_alloc] at q
    rw [hw4]
    exact q
  rw [← hw4, ← eC, ← eR]
  have x0 : w4.cell? ⟨gC, 0, none⟩ = some (.int .i64 KD) := by simp [World.cell?, hC]
  have x1 : w4.cell? ⟨gC, 1, none⟩ = some (.int .i64 n0) := by simp [World.cell?, hC]
  have x2 : w4.cell? ⟨gC, 2, none⟩ = some (.int .i64 n1) := by simp [World.cell?, hC]
  have x3 : w4.cell? ⟨gC, 3, none⟩ = some (.int .i64 n2) := by simp [World.cell?, hC]
  have x4 : w4.cell? ⟨gC, 4, none⟩ = some (.int .i64 n3) := by simp [World.cell?, hC]
  have x5 : w4.cell? ⟨gC, 5, none⟩ = some (.int .i64 n4) := by simp [World.cell?, hC]
  have x6 : w4.cell? ⟨gC, 6, none⟩ = some (.slice a n cap) := by simp [World.cell?, hC]
  have G4 : Hid _ := hR
  have lC : gC < w4.heap.size := World.block_lt_of_cell? _ _ x0
  have LR : Hid (gR < w1.heap.size) := by show gR < w1.heap.size; omega
  clear hC hR hw4 eC eR hsz2
  cases D
  · have HPE : Hid (prE s = 201) := by show _ = _; rw [HP1.out, if_pos rfl]
    have hRz := G4.out
    have y0 : w4.cell? ⟨gR, 0, none⟩ = some (.int .i64 0) := by simp [World.cell?, hRz]
    have y1 : w4.cell? ⟨gR, 1, none⟩ = some (.int .i64 0) := by simp [World.cell?, hRz]
    have y2 : w4.cell? ⟨gR, 2, none⟩ = some (.int .i64 0) := by simp [World.cell?, hRz]
    have y3 : w4.cell? ⟨gR, 3, none⟩ = some (.int .i64 0) := by simp [World.cell?, hRz]
    have y4 : w4.cell? ⟨gR, 4, none⟩ = some (.int .i64 0) := by simp [World.cell?, hRz]
    have y5 : w4.cell? ⟨gR, 5, none⟩ = some (.int .i64 0) := by simp [World.cell?, hRz]
    have y6 : w4.cell? ⟨gR, 6, none⟩ = some (.slice none 0 0) := by simp [World.cell?, hRz]
    have fr0 : w4.frozen? ⟨gR, 0, none⟩ = false := by simp [World.frozen?, hRz]
    have fr1 : w4.frozen? ⟨gR, 1, none⟩ = false := by simp [World.frozen?, hRz]
    have fr2 : w4.frozen? ⟨gR, 2, none⟩ = false := by simp [World.frozen?, hRz]
    have fr3 : w4.frozen? ⟨gR, 3, none⟩ = false := by simp [World.frozen?, hRz]
    have fr4 : w4.frozen? ⟨gR, 4, none⟩ = false := by simp [World.frozen?, hRz]
    have fr5 : w4.frozen? ⟨gR, 5, none⟩ = false := by simp [World.frozen?, hRz]
    have fr6 : w4.frozen? ⟨gR, 6, none⟩ = false := by simp [World.frozen?, hRz]
    have BB : Hid (Bx1 w4 w4 gR 24 #[.int .i64 0, .int .i64 0, .int .i64 0, .int .i64 0, .int .i64 0, .int .i64 0, .slice none 0 0]) := ⟨hRz, fun _ _ => rfl, rfl, rfl, rfl, rfl⟩
    clear hRz
    go_wp2_with fail
    refine bodyPost_as (fun W => Bx1 w4 W gR 24 #[.int .i64 0, .int .i64 0, .int .i64 0, .int .i64 0, .int .i64 0, .int .i64 0, .slice none 0 0]) ((((((((BB.out.set 0 (.int .i64 0)).set 1 (.int .i64 0)).set 2 (.int .i64 0)).set 3 (.int .i64 0)).set 4 (.int .i64 0)).set 5 (.int .i64 0)).set 6 (.slice none 0 0))) ?_
    intro wz BZ
    have hR := BZ.hc
    clear y0 fr0
    clear y1 fr1
    clear y2 fr2
    clear y3 fr3
    clear y4 fr4
    clear y5 fr5
    clear y6 fr6
    have u0 : wz.cell? ⟨gR, 0, none⟩ = some (.int .i64 0) := by simp [World.cell?, hR]
    have u1 : wz.cell? ⟨gR, 1, none⟩ = some (.int .i64 0) := by simp [World.cell?, hR]
    have u2 : wz.cell? ⟨gR, 2, none⟩ = some (.int .i64 0) := by simp [World.cell?, hR]
    have u3 : wz.cell? ⟨gR, 3, none⟩ = some (.int .i64 0) := by simp [World.cell?, hR]
    have u4 : wz.cell? ⟨gR, 4, none⟩ = some (.int .i64 0) := by simp [World.cell?, hR]
    have u5 : wz.cell? ⟨gR, 5, none⟩ = some (.int .i64 0) := by simp [World.cell?, hR]
    have u6 : wz.cell? ⟨gR, 6, none⟩ = some (.slice none 0 0) := by simp [World.cell?, hR]
    have WZ : Hid (Below w.heap.size w wz) := ⟨BZ.os.trans W4.out.os, BZ.tape.trans W4.out.tape, BZ.output.trans W4.out.output, by rw [BZ.size]; exact W4.out.size, fun k hk => (BZ.ot k (by have := HEQ.out; omega)).trans (W4.out.block k hk)⟩
    refine bodyPost_ret (v := .tuple #[.agg #[.int .i64 0, .int .i64 0, .int .i64 0, .int .i64 0, .int .i64 0, .int .i64 0, .slice none 0 0], .int .i64 201]) (by simp [results, Tryz.results19, go_sem, u0, u1, u2, u3, u4, u5, u6]) rfl ?_
    have q := HZ.out (by rw [HPE.out]; decide)
    exact ⟨.slice none 0 0, by rw [q.1 0, q.1 1, q.1 2, q.1 3, q.1 4, q.1 5, HPE.out], by rw [q.2]; exact Nr.nil _ _, WZ.out⟩
  have HP2 : Hid (prE s = prC s) := by show _ = _; rw [HP1.out, if_neg (by decide)]
  have hns := (nsl_nr N4.out (suN_in (wordsL s, false))).2
  obtain ⟨ce, hce⟩ : ∃ ce, checkE KD n0 n1 n2 n3 n4 (gOf (suN (wordsL s, false))) n = ce := ⟨_, rfl⟩
  have HPC : Hid (prE s = ce) := by
    show _ = _
    obtain ⟨j0, j1, j2, j3, j4, j5⟩ := HVAL.out
    rw [HP2.out, prC, j0, j1, j2, j3, j4, j5, HLN.out, hce]
  have HNS : Hid _ := hns
  clear hns
  go_wp2_with fail
  refine (check_any KD n0 n1 n2 n3 n4 a n cap (gOf (suN (wordsL s, false))) _ HNS.out).mono ?_
  rintro e w5 ⟨rfl, hb5⟩
  rw [hce]
  replace x0 := bc_cell hb5 x0
  replace x1 := bc_cell hb5 x1
  replace x2 := bc_cell hb5 x2
  replace x3 := bc_cell hb5 x3
  replace x4 := bc_cell hb5 x4
  replace x5 := bc_cell hb5 x5
  replace x6 := bc_cell hb5 x6
  have G5 : Hid (w5.heap[gR]? = some (.cells #[.int .i64 0, .int .i64 0, .int .i64 0, .int .i64 0, .int .i64 0, .int .i64 0, .slice none 0 0] 24)) := (hb5.block gR (Array.getElem?_eq_some_iff.1 G4.out).1).trans G4.out
  have W5 : Hid _ := bc_go W4.out hb5
  have N5 : Hid (Nr (w1.heap.size + 1) w5 (.slice a n cap) (suN (wordsL s, false))) := Nr.below N4.out hb5
  clear hb5 hce HNS
  by_cases c1 : ce = 0
  · subst c1
    go_wp2_with (refine (id ?_ : wpList Tryz.prog _ _ (⟨none, .store 24 (.tmp 2) (.tmp 24), _, _, _, _⟩ :: _) _ _); refine wpList_store_row rfl 24 (.tmp 2) (.tmp 24) rfl gR #[.int .i64 KD, .int .i64 n0, .int .i64 n1, .int .i64 n2, .int .i64 n3, .int .i64 n4, .slice a n cap] rfl rfl 24 #[.int .i64 0, .int .i64 0, .int .i64 0, .int .i64 0, .int .i64 0, .int .i64 0, .slice none 0 0] G5.out (by kernel_rfl) (by kernel_rfl) (by kernel_rfl) ?_; refine wpList_as (fun W => W.heap[gR]? = some (.cells #[.int .i64 KD, .int .i64 n0, .int .i64 n1, .int .i64 n2, .int .i64 n3, .int .i64 n4, .slice a n cap] 24) ∧ Below w.heap.size w W ∧ ∀ k, k ≠ gR → W.heap[k]? = w5.heap[k]?) ⟨setRow_heap _ _ _ _ _ _ G5.out, ?_, fun k hk => setRow_other _ _ _ _ hk⟩ ?_)
    · exact ⟨W5.out.os, W5.out.tape, W5.out.output, by rw [size_setRow]; exact W5.out.size, fun k hk => (setRow_other _ _ _ _ (by have := HEQ.out; omega)).trans (W5.out.block k hk)⟩
    intro wz hR hB hO
    have WZ : Hid _ := hB
    have OZ : Hid _ := hO
    have u0 : wz.cell? ⟨gR, 0, none⟩ = some (.int .i64 KD) := by simp [World.cell?, hR]
    have u1 : wz.cell? ⟨gR, 1, none⟩ = some (.int .i64 n0) := by simp [World.cell?, hR]
    have u2 : wz.cell? ⟨gR, 2, none⟩ = some (.int .i64 n1) := by simp [World.cell?, hR]
    have u3 : wz.cell? ⟨gR, 3, none⟩ = some (.int .i64 n2) := by simp [World.cell?, hR]
    have u4 : wz.cell? ⟨gR, 4, none⟩ = some (.int .i64 n3) := by simp [World.cell?, hR]
    have u5 : wz.cell? ⟨gR, 5, none⟩ = some (.int .i64 n4) := by simp [World.cell?, hR]
    have u6 : wz.cell? ⟨gR, 6, none⟩ = some (.slice a n cap) := by simp [World.cell?, hR]
    clear hB hR hO
    go_wp2_with fail
    refine bodyPost_ret (v := .tuple #[.agg #[.int .i64 KD, .int .i64 n0, .int .i64 n1, .int .i64 n2, .int .i64 n3, .int .i64 n4, .slice a n cap], .int .i64 0]) (by simp [results, Tryz.results19, go_sem, u0, u1, u2, u3, u4, u5, u6]) rfl ?_
    have q := HGD.out HPC.out
    obtain ⟨j0, j1, j2, j3, j4, j5⟩ := HVAL.out
    refine ⟨.slice a n cap, by rw [q.1 0, q.1 1, q.1 2, q.1 3, q.1 4, q.1 5, HPC.out, j0, j1, j2, j3, j4, j5], ?_, WZ.out⟩
    rw [q.2]
    refine Nr.weak (Nr.kept N5.out fun k hk => ?_) (by have := B1.out.size; omega)
    obtain ⟨hb, _, _⟩ := Nr.own N5.out hk
    exact OZ.out k (by have := LR.out; omega)
  have d1 : (ce != 0) = true := by simpa using c1
  have HPE : Hid _ := HPC.out
  have HC1 : Hid _ := c1
  clear c1
  have hRz := G5.out
  have y0 : w5.cell? ⟨gR, 0, none⟩ = some (.int .i64 0) := by simp [World.cell?, hRz]
  have y1 : w5.cell? ⟨gR, 1, none⟩ = some (.int .i64 0) := by simp [World.cell?, hRz]
  have y2 : w5.cell? ⟨gR, 2, none⟩ = some (.int .i64 0) := by simp [World.cell?, hRz]
  have y3 : w5.cell? ⟨gR, 3, none⟩ = some (.int .i64 0) := by simp [World.cell?, hRz]
  have y4 : w5.cell? ⟨gR, 4, none⟩ = some (.int .i64 0) := by simp [World.cell?, hRz]
  have y5 : w5.cell? ⟨gR, 5, none⟩ = some (.int .i64 0) := by simp [World.cell?, hRz]
  have y6 : w5.cell? ⟨gR, 6, none⟩ = some (.slice none 0 0) := by simp [World.cell?, hRz]
  have fr0 : w5.frozen? ⟨gR, 0, none⟩ = false := by simp [World.frozen?, hRz]
  have fr1 : w5.frozen? ⟨gR, 1, none⟩ = false := by simp [World.frozen?, hRz]
  have fr2 : w5.frozen? ⟨gR, 2, none⟩ = false := by simp [World.frozen?, hRz]
  have fr3 : w5.frozen? ⟨gR, 3, none⟩ = false := by simp [World.frozen?, hRz]
  have fr4 : w5.frozen? ⟨gR, 4, none⟩ = false := by simp [World.frozen?, hRz]
  have fr5 : w5.frozen? ⟨gR, 5, none⟩ = false := by simp [World.frozen?, hRz]
  have fr6 : w5.frozen? ⟨gR, 6, none⟩ = false := by simp [World.frozen?, hRz]
  have BB : Hid (Bx1 w5 w5 gR 24 #[.int .i64 0, .int .i64 0, .int .i64 0, .int .i64 0, .int .i64 0, .int .i64 0, .slice none 0 0]) := ⟨hRz, fun _ _ => rfl, rfl, rfl, rfl, rfl⟩
  clear hRz
  go_wp2_with fail
  refine bodyPost_as (fun W => Bx1 w5 W gR 24 #[.int .i64 0, .int .i64 0, .int .i64 0, .int .i64 0, .int .i64 0, .int .i64 0, .slice none 0 0]) ((((((((BB.out.set 0 (.int .i64 0)).set 1 (.int .i64 0)).set 2 (.int .i64 0)).set 3 (.int .i64 0)).set 4 (.int .i64 0)).set 5 (.int .i64 0)).set 6 (.slice none 0 0))) ?_
  intro wz BZ
  have hR := BZ.hc
  clear y0 fr0
  clear y1 fr1
  clear y2 fr2
  clear y3 fr3
  clear y4 fr4
  clear y5 fr5
  clear y6 fr6
  have u0 : wz.cell? ⟨gR, 0, none⟩ = some (.int .i64 0) := by simp [World.cell?, hR]
  have u1 : wz.cell? ⟨gR, 1, none⟩ = some (.int .i64 0) := by simp [World.cell?, hR]
  have u2 : wz.cell? ⟨gR, 2, none⟩ = some (.int .i64 0) := by simp [World.cell?, hR]
  have u3 : wz.cell? ⟨gR, 3, none⟩ = some (.int .i64 0) := by simp [World.cell?, hR]
  have u4 : wz.cell? ⟨gR, 4, none⟩ = some (.int .i64 0) := by simp [World.cell?, hR]
  have u5 : wz.cell? ⟨gR, 5, none⟩ = some (.int .i64 0) := by simp [World.cell?, hR]
  have u6 : wz.cell? ⟨gR, 6, none⟩ = some (.slice none 0 0) := by simp [World.cell?, hR]
  have WZ : Hid (Below w.heap.size w wz) := ⟨BZ.os.trans W5.out.os, BZ.tape.trans W5.out.tape, BZ.output.trans W5.out.output, by rw [BZ.size]; exact W5.out.size, fun k hk => (BZ.ot k (by have := HEQ.out; omega)).trans (W5.out.block k hk)⟩
  refine bodyPost_ret (v := .tuple #[.agg #[.int .i64 0, .int .i64 0, .int .i64 0, .int .i64 0, .int .i64 0, .int .i64 0, .slice none 0 0], .int .i64 ce]) (by simp [results, Tryz.results19, go_sem, u0, u1, u2, u3, u4, u5, u6]) rfl ?_
  have q := HZ.out (by rw [HPE.out]; exact HC1.out)
  exact ⟨.slice none 0 0, by rw [q.1 0, q.1 1, q.1 2, q.1 3, q.1 4, q.1 5, HPE.out], by rw [q.2]; exact Nr.nil _ _, WZ.out⟩
structure BW (w : World) where
  W : World
  bel : Below w.heap.size w W
theorem BW.size {w : World} (p : BW w) : w.heap.size ≤ p.W.heap.size := p.bel.size
theorem BW.cel {w : World} (p : BW w) {a : Addr} {v : Value} (h : w.cell? a = some v) : p.W.cell? a = some v := bc_cell p.bel h
theorem wp_region_quiet_bel {P : Program} {id : Nat} {Q : Exit → Act → World → Prop} {a : Act} {w : World} {l : List Oper} (hm : P.follows .mixedOrders = true) (hB : Region.lexB .any l.toArray = true)
    (h : wpQuiet P l.toArray (fun w' => ∃ p : BW w, w' = p.W) (fun a' => ∀ w', (∃ p : BW w, w' = p.W) → Q .normal a' w') l a) : (Code.region id l.toArray true).wp P Q a w :=
  wp_region_quiet (C := fun w' => ∃ p : BW w, w' = p.W) hm hB ⟨⟨w.drewN 1, bc_drew (bel_refl w) 1⟩, rfl⟩ (by simpa using h)
theorem calls_bel {P : Program} {f : FuncId} {args : Array Value} {w : World} {p : BW w} {v : Value} (h : Calls P f args p.W fun e w' => e = .returned v ∧ Below p.W.heap.size p.W w') : Calls P f args p.W fun e w'' => e = .returned v ∧ ∃ q : BW w, w'' = q.W :=
  h.mono fun _ w2 ⟨he, hb⟩ => ⟨he, ⟨w2, bc_go p.bel hb⟩, rfl⟩
set_option maxHeartbeats 1000000 in
theorem print_bad (K R M C Fl A : Int) (a : Option Addr) (n cap : Nat) (G : Nat → Nat → Int) (ce : Int) (w : World) (h : NSl w a n cap G) (hf : checkE K R M C Fl A G n = ce) (h0 : ce ≠ 0) :
    Calls Tryz.prog 7 #[.agg #[.int .i64 K, .int .i64 R, .int .i64 M, .int .i64 C, .int .i64 Fl, .int .i64 A, .slice a n cap]] w fun e w' => e = .returned (.tuple #[.string ⟨#[]⟩, .int .i64 ce]) ∧ Below w.heap.size w w' := by
  have HN : Hid _ := h
  have hl0 : n ≤ 9223372036854775807 := Nat.le_trans h.le h.lim
  have HF : Hid _ := hf
  have d0 : (ce != 0) = true := by simpa using h0
  clear h hf h0
  go_enter Tryz.func7, Tryz.ntmps7
  go_wp2_with fail
  have S0 : Hid _ := (ce_start w).box7 (.int .i64 K) (.int .i64 R) (.int .i64 M) (.int .i64 C) (.int .i64 Fl) (.int .i64 A) (.slice a n cap) 24 _ rfl
  refine (check_any K R M C Fl A a n cap G _ (HN.out.go S0.out.bel)).mono ?_
  rintro e w1 ⟨rfl, hb⟩
  rw [HF.out]
  have W1 : Hid (Below w.heap.size w w1) := bc_go S0.out.bel hb
  clear hb S0
  go_wp2_with fail
  exact bodyPost_ret (v := .tuple #[.string ⟨#[]⟩, .int .i64 ce]) (by simp [results, Tryz.results7, go_sem]) rfl ⟨rfl, W1.out⟩
def priS (K R M C Fl A : Int) (G : Nat → Nat → Int) (n : Nat) : ByteArray := if checkE K R M C Fl A G n = 0 then confS K R M C Fl A G n else ⟨#[]⟩
theorem print_any (K R M C Fl A : Int) (a : Option Addr) (n cap : Nat) (G : Nat → Nat → Int) (w : World) (h : NSl w a n cap G) (hV : Vs9 w) :
    Calls Tryz.prog 7 #[.agg #[.int .i64 K, .int .i64 R, .int .i64 M, .int .i64 C, .int .i64 Fl, .int .i64 A, .slice a n cap]] w fun e w' => e = .returned (.tuple #[.string (priS K R M C Fl A G n), .int .i64 (checkE K R M C Fl A G n)]) ∧ Below w.heap.size w w' := by
  by_cases c0 : checkE K R M C Fl A G n = 0
  · unfold priS
    rw [if_pos c0]
    by_cases c6 : K = 6
    · subst c6
      have tr := tre_of ((checkE_zero c0).2.2.2.2.2.2.1 rfl)
      have lo := tr.lo
      have hle := h.le
      obtain ⟨b, o, rfl, _⟩ := h.at (by omega)
      obtain ⟨m, rfl⟩ : ∃ m, n = m + 1 := ⟨n - 1, by omega⟩
      obtain ⟨c, rfl⟩ : ∃ c, cap = c + 1 := ⟨cap - 1, by omega⟩
      refine (print_tree R M C Fl A b o m c G w h hV.kn hV.pow).mono ?_
      rintro e w' ⟨s, rfl, hb, hs⟩
      rw [hs c0]
      exact ⟨rfl, hb⟩
    refine (print_flat K R M C Fl A a n cap G w h hV.kn hV.pow c6).mono ?_
    rintro e w' ⟨s, rfl, hb, hs⟩
    rw [hs c0]
    refine ⟨?_, hb⟩
    unfold confS confT
    rw [if_neg c6, List.append_nil]
  unfold priS
  rw [if_neg c0]
  exact print_bad K R M C Fl A a n cap G _ w h rfl c0
theorem prN_in (s : ByteArray) : ∀ x ∈ prN s, NdIn x := by
  unfold prN
  split
  · exact suN_in _
  intro x hx; cases hx
theorem set5 {a b c d e : Int} (h0 : In64p a) (h1 : In64p b) (h2 : In64p c) (h3 : In64p d) (h4 : In64p e) : ∀ i, i < 5 → -9223372036854775808 ≤ setI a b c d e i ∧ setI a b c d e i ≤ 9223372036854775807 := fun i hi => by
  match i, hi with
  | 0, _ => exact h0
  | 1, _ => exact h1
  | 2, _ => exact h2
  | 3, _ => exact h3
  | 4, _ => exact h4
theorem set2 {a b : Int} (h0 : In64p a) (h1 : In64p b) : ∀ i, i < 2 → -9223372036854775808 ≤ pair2 a b i ∧ pair2 a b i ≤ 9223372036854775807 := fun i hi => by
  match i, hi with
  | 0, _ => exact h0
  | 1, _ => exact h1
theorem hold9 {p : Prop} (h : True → p) : p := h trivial
theorem confS_sz (K R M C Fl A : Int) (G : Nat → Nat → Int) (n : Nat) (hz : checkE K R M C Fl A G n = 0) (hw : ∀ i j, i < n → j < 4 → In64p (G i j)) : (confS K R M C Fl A G n).size ≤ 9223372036854775807 := by
  have q := (pr_back K R M C Fl A G n hz hw).1
  unfold prE at q
  split at q
  · omega
  omega
theorem flowS_sz (K R M C Fl A : Int) (G : Nat → Nat → Int) (n : Nat) (pw pq pc ps pb : Int) (u : Nat) (pp pn : Int) (k l : Nat) (hu : u < 18446744073709551616) (hz : flowE K R M C Fl A G n pw pq pc ps pb u pp pn = 0) (hn : In64p pn) (hk : DecLen (ffP u) k) (hl : DecLen (ffQ u) l) : (⟨(Lib.join ((flowT pw pq pc ps pb pp pn (fmtT (ffP u) (ffQ u) k l)).map (·.data.toList)) [32]).toArray⟩ : ByteArray).size ≤ 9223372036854775807 := by
  have q := (pf_back K R M C Fl A G n pw pq pc ps pb u pp pn k l _ hu hz hn hk hl rfl).1
  unfold pfE at q
  split at q
  · rename_i c; exact absurd q c
  split at q
  · omega
  omega
structure PIn (pw pq pc ps pb : Int) (pr : Nat) (pp pn : Int) : Prop where
  w0 : In64p pw
  w1 : In64p pq
  w2 : In64p pc
  w3 : In64p ps
  w4 : In64p pb
  u : pr < 18446744073709551616
  w5 : In64p pp
  w6 : In64p pn
theorem slice_nh (g cap len c : Nat) (hc : c ≤ cap) (w : World) :
    (Instr.slice 22 (.slice (some ⟨g, 0, none⟩) len cap) none (some (.int .i64 (c : Int))) none).run Tryz.prog w = .ok (.slice (some ⟨g, 0, none⟩) c cap) w := by
  rw [run_slice_h (P := Tryz.prog) (kh := .i64) (h := (c : Int)) (ht := by kernel_rfl) (h0 := by omega) (h2 := by omega)]
  have hz : (sizeOf (Tryz.prog.elem 22)).run Tryz.prog w = .ok 4 w := by kernel_rfl
  rw [hz]
  simp [Result.andThen, sliced]
  intro _
  simp [Addr.add]
structure Ky (W W' : World) (S : Nat → Prop) : Prop where
  os : W'.os = W.os
  tape : W'.tape = W.tape
  output : W'.output = W.output
  size : W.heap.size ≤ W'.heap.size
  block : ∀ k, k < W.heap.size → ¬ S k → W'.heap[k]? = W.heap[k]?
theorem ky_refl (W : World) (S : Nat → Prop) : Ky W W S := ⟨rfl, rfl, rfl, Nat.le_refl _, fun _ _ _ => rfl⟩
theorem Ky.trans {W W1 W2 : World} {S : Nat → Prop} (h : Ky W W1 S) (k : Ky W1 W2 S) : Ky W W2 S :=
  ⟨k.os.trans h.os, k.tape.trans h.tape, k.output.trans h.output, Nat.le_trans h.size k.size, fun i hi hs => (k.block i (Nat.lt_of_lt_of_le hi h.size) hs).trans (h.block i hi hs)⟩
theorem Ky.of_below {W W' : World} {S : Nat → Prop} (h : Below W.heap.size W W') : Ky W W' S := ⟨h.os, h.tape, h.output, h.size, fun i hi _ => h.block i hi⟩
theorem Ky.of_grown {W W' : World} {S : Nat → Prop} {r : Option Nat} (h : W.grownBy W' r) (hr : ∀ g, r = some g → S g) : Ky W W' S := ⟨h.os, h.tape, h.output, h.size, fun i hi hs => h.block i hi (fun e => hs (hr i e.symm))⟩
theorem Ky.set {W W1 : World} {S : Nat → Prop} (h : Ky W W1 S) {g i : Nat} (hg : S g) (v : Value) : Ky W (W1.setCell ⟨g, i, none⟩ v) S :=
  ⟨h.os, h.tape, h.output, by simpa [World.setCell] using h.size, fun k hk hs => (Below.heap_setCell _ _ _ _ (by show k ≠ g; rintro rfl; exact hs hg)).trans (h.block k hk hs)⟩
theorem Ky.cel {W W' : World} {S : Nat → Prop} (h : Ky W W' S) {b i : Nat} {v : Value} (hs : ¬ S b) (hc : W.cell? ⟨b, i, none⟩ = some v) : W'.cell? ⟨b, i, none⟩ = some v :=
  (World.cell?_of_block (h.block b (World.block_lt_of_cell? _ _ hc) hs)).trans hc
theorem Ky.below {w W W' : World} {S : Nat → Prop} (h : Ky W W' S) (hb : Below w.heap.size w W) (hS : ∀ k, S k → w.heap.size ≤ k) : Below w.heap.size w W' :=
  ⟨h.os.trans hb.os, h.tape.trans hb.tape, h.output.trans hb.output, Nat.le_trans hb.size h.size, fun k hk => (h.block k (Nat.lt_of_lt_of_le hk hb.size) (fun q => by have := hS k q; omega)).trans (hb.block k hk)⟩
theorem Ky.ce {w W W' : World} {S : Nat → Prop} {C : List (Nat × Nat × Value)} (h : Ky W W' S) (hc : Ce w W C) (hS : ∀ k, S k → w.heap.size ≤ k) (hd : ∀ p ∈ C, ¬ S p.1) : Ce w W' C :=
  ⟨fun p hp => h.cel (hd p hp) (hc.cells p hp), h.below hc.bel hS⟩
def mk9 : Nd := (-1, -2, -3, -4)
theorem Nr.go {base : Nat} {W W' : World} {v : Value} {L : List Nd} (h : Nr base W v L) (hk : ∀ k, v.ownBlock = some k → W'.heap[k]? = W.heap[k]?) : Nr base W' v L := nr_own_kept h hk
theorem Nr.lt {base : Nat} {W : World} {v : Value} {L : List Nd} (h : Nr base W v L) {k : Nat} (hk : v.ownBlock = some k) : k < W.heap.size := by
  obtain ⟨_, cs, hc⟩ := h.own hk
  exact (Array.getElem?_eq_some_iff.1 hc).1
theorem own_set {W : World} {base n g : Nat} {e : TypeId} {v : Value} {xs : List Value} (h : W.ownsRow base e 4 v n xs) (hg : v.ownBlock = some g) (j : Nat) (hj : j < n * 4) (u : Value) : (W.setCell ⟨g, j, none⟩ u).ownsRow base e 4 v n (xs.set j u) := by
  refine ⟨by rw [List.length_set]; exact h.1, ?_⟩
  rcases h.2 with ⟨e0, _⟩ | ⟨g', cap, cur, e0, hb, hh, h1, h2, h3, h4⟩
  · rw [e0] at hg; cases hg
  have eg : g' = g := by rw [e0] at hg; exact Option.some.inj hg
  subst eg
  refine .inr ⟨g', cap, cur.setIfInBounds j u, e0, hb, (heap_setCell_same W g' j cur e u hh).trans (by simp), h1, h2, by simpa using h3, ?_⟩
  rw [Array.toList_setIfInBounds, List.take_set, h4]
theorem ndcs_set : ∀ (L : List Nd) (k : Nat) (x : Nd), k < L.length → ndcs (L.set k x) = ((((ndcs L).set (k * 4) (.int .i64 x.1)).set (k * 4 + 1) (.int .i64 x.2.1)).set (k * 4 + 2) (.int .i64 x.2.2.1)).set (k * 4 + 3) (.int .i64 x.2.2.2)
  | [], _, _, h => by simp at h
  | y :: L, 0, x, _ => rfl
  | y :: L, k + 1, x, h => by
    have ih := ndcs_set L k x (by simpa using h)
    have e : ∀ (z : Nd) (M : List Nd), ndcs (z :: M) = .int .i64 z.1 :: .int .i64 z.2.1 :: .int .i64 z.2.2.1 :: .int .i64 z.2.2.2 :: ndcs M := fun _ _ => rfl
    rw [List.set_cons_succ, e, e, ih]
    have q : ∀ j, (k + 1) * 4 + j = k * 4 + j + 1 + 1 + 1 + 1 := fun j => by omega
    have q0 : (k + 1) * 4 = k * 4 + 1 + 1 + 1 + 1 := by omega
    rw [q 1, q 2, q 3, q0]
    simp only [List.set_cons_succ]
theorem Nr.set {base g : Nat} {W : World} {v : Value} {L : List Nd} (h : Nr base W v L) (hg : v.ownBlock = some g) (k : Nat) (hk : k < L.length) (x : Nd) : Nr base ((((W.setCell ⟨g, k * 4, none⟩ (.int .i64 x.1)).setCell ⟨g, k * 4 + 1, none⟩ (.int .i64 x.2.1)).setCell ⟨g, k * 4 + 2, none⟩ (.int .i64 x.2.2.1)).setCell ⟨g, k * 4 + 3, none⟩ (.int .i64 x.2.2.2)) v (L.set k x) := by
  show World.ownsRow _ _ _ _ _ _ _
  rw [List.length_set, ndcs_set L k x hk]
  exact own_set (own_set (own_set (own_set h hg _ (by omega) _) hg _ (by omega) _) hg _ (by omega) _) hg _ (by omega) _
theorem Nr.soft {base g : Nat} {W : World} {v : Value} {L : List Nd} (h : Nr base W v L) (hg : v.ownBlock = some g) (j : Nat) : W.frozen? ⟨g, j, none⟩ = false := by
  rcases h.2 with ⟨e0, _⟩ | ⟨g', cap, cur, e0, hb, hh, _⟩
  · rw [e0] at hg; cases hg
  have eg : g' = g := by rw [e0] at hg; exact Option.some.inj hg
  subst eg
  simp [World.frozen?, hh]
def lstG (G : Nat → Nat → Int) (n : Nat) : List Nd := (List.range n).map fun i => (G i 0, G i 1, G i 2, G i 3)
theorem lstG_len (G : Nat → Nat → Int) (n : Nat) : (lstG G n).length = n := by simp [lstG]
theorem lstG_at (G : Nat → Nat → Int) (n i : Nat) (h : i < n) : (lstG G n).getD i nd0 = (G i 0, G i 1, G i 2, G i 3) := by
  unfold lstG
  rw [List.getD, List.getElem?_map, List.getElem?_range h]
  rfl
theorem ndcs_cell {w : World} {b o : Nat} (L : List Nd) (h : ∀ i, i < L.length → w.cell? ⟨b, o + i * 4, none⟩ = some (.int .i64 (L.getD i nd0).1) ∧ w.cell? ⟨b, o + i * 4 + 1, none⟩ = some (.int .i64 (L.getD i nd0).2.1) ∧ w.cell? ⟨b, o + i * 4 + 2, none⟩ = some (.int .i64 (L.getD i nd0).2.2.1) ∧ w.cell? ⟨b, o + i * 4 + 3, none⟩ = some (.int .i64 (L.getD i nd0).2.2.2)) :
    ∀ j u, (ndcs L)[j]? = some u → w.cell? ((⟨b, o, none⟩ : Addr).add j) = some u := by
  intro j u hj
  have hl : j < L.length * 4 := by
    have := (List.getElem?_eq_some_iff.1 hj).1
    rw [ndcs_len] at this
    exact this
  obtain ⟨i, r, rfl, hr⟩ : ∃ i r, j = i * 4 + r ∧ r < 4 := ⟨j / 4, j % 4, by omega, by omega⟩
  obtain ⟨c0, c1, c2, c3⟩ := h i (by omega)
  obtain ⟨t0, t1, t2, t3⟩ := ndcs_at L i (by omega)
  rw [nr_addr, ← Nat.add_assoc]
  match r, hr with
  | 0, _ => rw [Nat.add_zero] at hj ⊢; rw [t0] at hj; rw [c0]; exact hj
  | 1, _ => rw [t1] at hj; rw [c1]; exact hj
  | 2, _ => rw [t2] at hj; rw [c2]; exact hj
  | 3, _ => rw [t3] at hj; rw [c3]; exact hj
theorem app_run (w : World) (ty : TypeId) (base : Nat) (v : Value) (xs : List Nd) (hown : Nr base w v xs) (ad : Addr) (c : Nat) (ys : List Nd) (hc : ∀ j u, (ndcs ys)[j]? = some u → w.cell? (ad.add j) = some u) (hlim : xs.length + ys.length ≤ 1000000) (hb : base ≤ w.heap.size) :
    ∃ v' w', (Builtin.append_ #[22, 22] ty #[v, .slice (some ad) ys.length c]).run Tryz.prog w = .ok v' w' ∧ Nr base w' v' (xs ++ ys) ∧ w.grownBy w' v.ownBlock ∧ (v'.ownBlock = v.ownBlock ∨ v'.ownBlock = some w.heap.size) := by
  obtain ⟨i, hi, hz, hsz, hby⟩ := info_parts Tryz.infoN
  obtain ⟨v', w', h1, h2, h3, _, h5⟩ := run_append_own_at (P := Tryz.prog) w base 22 ty 57 i _ 4 32 Tryz.underlying22 hi hz hsz hby rfl (by omega) v _ _ hown ad ys.length c (ndcs ys) (ndcs_len ys) hc (fun u' hu' => by
    simp only [ndcs, List.mem_flatMap, ndc] at hu'
    obtain ⟨y, _, hy⟩ := hu'
    simp at hy
    rcases hy with rfl | rfl | rfl | rfl <;> rfl) (by simp only [maxLen]; omega) (by omega) hb
  refine ⟨v', w', h1, ?_, h3, h5⟩
  show World.ownsRow _ _ _ _ _ _ _
  rw [List.length_append, ndcs_app]
  exact h2
theorem app_in (w : World) (ty : TypeId) (base : Nat) (a : Option Addr) (n cap : Nat) (G : Nat → Nat → Int) (h : NSl w a n cap G) (ha : a = none → cap = 0) (hn : n ≤ 1000) (hb : base ≤ w.heap.size) :
    ∃ v' w', (Builtin.append_ #[22, 22] ty #[.slice none 0 0, .slice a n cap]).run Tryz.prog w = .ok v' w' ∧ Nr base w' v' (lstG G n) ∧ w.grownBy w' none ∧ (v'.ownBlock = none ∨ v'.ownBlock = some w.heap.size) := by
  cases a with
  | none =>
    have e0 : n = 0 := by
      rcases h.at' with e | ⟨b, o, e, _⟩
      · exact e
      cases e
    have e1 := ha rfl
    subst e0 e1
    obtain ⟨i, hi, hz, hsz, hby⟩ := info_parts Tryz.infoN
    exact ⟨_, _, run_append_owned_none (P := Tryz.prog) (w := w) base 22 ty 57 i 4 Tryz.underlying22 hi _ _ _ (Nr.nil base w), Nr.nil base w, ⟨rfl, rfl, rfl, Nat.le_refl _, fun _ _ _ => rfl⟩, .inl rfl⟩
  | some p =>
    have hl := lstG_len G n
    have key : ∀ j u, (ndcs (lstG G n))[j]? = some u → w.cell? (p.add j) = some u := by
      rcases Nat.eq_zero_or_pos n with e | e
      · subst e
        intro j u hj
        simp [lstG, ndcs] at hj
      obtain ⟨b, o, ep, hc⟩ := h.at e
      cases ep
      refine ndcs_cell _ fun i hi => ?_
      rw [hl] at hi
      rw [lstG_at G n i hi]
      exact ⟨by simpa using hc i 0 hi (by omega), hc i 1 hi (by omega), hc i 2 hi (by omega), hc i 3 hi (by omega)⟩
    obtain ⟨v', w', h1, h2, h3, h4⟩ := app_run w ty base (.slice none 0 0) [] (Nr.nil base w) p cap (lstG G n) key (by rw [hl]; simp; omega) hb
    rw [hl] at h1
    exact ⟨v', w', h1, h2, h3, h4⟩
theorem Nr.cap {base : Nat} {W : World} {a : Option Addr} {m c : Nat} {L : List Nd} (h : Nr base W (.slice a m c) L) : m ≤ c ∧ c ≤ 9223372036854775807 := by
  rcases h.2 with ⟨q, q0⟩ | ⟨g, c2, cur, q, _, _, q1, q2, _, _⟩
  · cases q; exact ⟨by omega, by omega⟩
  cases q; exact ⟨q1, by simp only [maxLen] at q2; omega⟩
theorem lst_app_at (G : Nat → Nat → Int) (n i : Nat) (M : List Nd) (h : i < n) : (lstG G n ++ M).getD i nd0 = (G i 0, G i 1, G i 2, G i 3) := by
  rw [← lstG_at G n i h, List.getD, List.getD, List.getElem?_append_left (by rw [lstG_len]; exact h)]
theorem lst_app_mk (G : Nat → Nat → Int) (n j : Nat) (h : j < 3) : (lstG G n ++ [mk9, mk9, mk9]).getD (n + j) nd0 = mk9 := by
  rw [List.getD, List.getElem?_append_right (by rw [lstG_len]; omega), lstG_len, Nat.add_sub_cancel_left]
  match j, h with
  | 0, _ => rfl
  | 1, _ => rfl
  | 2, _ => rfl
theorem Ce.ot {w W W' : World} {C : List (Nat × Nat × Value)} {g : Nat} {t : TypeId} {c : Array Value} (h : Ce w W C) (B : Bx1 W W' g t c) (hg : w.heap.size ≤ g) (hd : ∀ p ∈ C, p.1 ≠ g) : Ce w W' C :=
  ⟨fun p hp => (World.cell?_of_block (w := W) (B.ot p.1 (hd p hp))).trans (h.cells p hp), ⟨B.os.trans h.bel.os, B.tape.trans h.bel.tape, B.output.trans h.bel.output, by rw [B.size]; exact h.bel.size, fun k hk => (B.ot k (by omega)).trans (h.bel.block k hk)⟩⟩
theorem Ce.add7 {w W : World} {C : List (Nat × Nat × Value)} (h : Ce w W C) {g : Nat} {u0 u1 u2 u3 u4 u5 u6 : Value} {t : TypeId} (hg : W.heap[g]? = some (.cells #[u0, u1, u2, u3, u4, u5, u6] t)) : Ce w W ((g, 0, u0) :: (g, 1, u1) :: (g, 2, u2) :: (g, 3, u3) :: (g, 4, u4) :: (g, 5, u5) :: (g, 6, u6) :: C) := by
  refine ⟨fun p hp => ?_, h.bel⟩
  simp only [List.mem_cons] at hp
  rcases hp with rfl | rfl | rfl | rfl | rfl | rfl | rfl | hp
  · simp [World.cell?, hg]
  · simp [World.cell?, hg]
  · simp [World.cell?, hg]
  · simp [World.cell?, hg]
  · simp [World.cell?, hg]
  · simp [World.cell?, hg]
  · simp [World.cell?, hg]
  exact h.cells p hp
def Mks (W : World) (g n : Nat) : Prop := ∀ j, j < 3 → W.cell? ⟨g, (n + j) * 4, none⟩ = some (.int .i64 (-1)) ∧ W.cell? ⟨g, (n + j) * 4 + 1, none⟩ = some (.int .i64 (-2)) ∧ W.cell? ⟨g, (n + j) * 4 + 2, none⟩ = some (.int .i64 (-3)) ∧ W.cell? ⟨g, (n + j) * 4 + 3, none⟩ = some (.int .i64 (-4))
theorem Mks.go {W W' : World} {g n : Nat} (h : Mks W g n) (k : Below W.heap.size W W') : Mks W' g n := fun j hj => ⟨bc_cell k (h j hj).1, bc_cell k (h j hj).2.1, bc_cell k (h j hj).2.2.1, bc_cell k (h j hj).2.2.2⟩
theorem Nr.down {base : Nat} {W W' : World} {v : Value} {L : List Nd} (h : Nr base W v L) (k : Below W.heap.size W W') : Nr base W' v L := h.go fun b hb => k.block b (h.lt hb)
theorem wp_appN2 {w : World} {ops : Array Oper} {rest : List Oper} {o : Oper} {a : Act} {Q : Exit → Act → World → Prop} (hgd : o.guard = none) (s x : Operand)
    (ho : o.op = .call { callee := .builtin .append, args := #[s, x], argTypes := #[22, 22] }) (base : Nat) (v : Value) (xs : List Nd) (hs : a.eval s = v) (hown : Nr base w v xs)
    (ad : Addr) (c m : Nat) (ys : List Nd) (hm : ys.length = m) (hx : a.eval x = .slice (some ad) m c) (hc : ∀ j u, (ndcs ys)[j]? = some u → w.cell? (ad.add j) = some u) (hlim : xs.length + ys.length ≤ 1000000) (hb : base ≤ w.heap.size)
    (h : ∀ v' w', Hid (Nr base w' v' (xs ++ ys)) → Hid (w.grownBy w' v.ownBlock) → Hid (v'.ownBlock = v.ownBlock ∨ v'.ownBlock = some w.heap.size) → wpList Tryz.prog ops Q rest (a.put o.dst v') w') : wpList Tryz.prog ops Q (o :: rest) a w := by
  subst hm
  refine wpList_plain hgd fun K hK => ?_
  obtain ⟨v', w', hr, h2, h3, h5⟩ := app_run w o.type base v xs hown ad c ys hc hlim hb
  unfold Oper.wp execOp
  simp only [ho, resolve, invoke, builtin, Sem.run_bind, Sem.run_pure, Result.andThen_ok, List.map_toArray, List.map_cons, List.map_nil, hs, hx, hr]
  exact hK _ _ (h v' w' h2 h3 h5)
end Go.Proofs.YtchomkadekikdaaGreatDoor
