/- Contracts of the program's functions, part 24: own work, joined in build order. -/
import Derived.Test.YtchomkadekikdaaGreatDoorJ23
import Derived.BigQuiet
import Derived.Laws.FloatArith
import Derived.Deep.Cut
namespace Go.Proofs.YtchomkadekikdaaGreatDoor
open Go.RowKit
set_option maxRecDepth 100000
set_option linter.unusedVariables false
set_option maxHeartbeats 2000000 in
theorem cparse_any (s : ByteArray) (w : World) (hs : s.size ≤ 9223372036854775807) (he : EV w) (hk : KN w) :
    Calls Tryz.prog 19 #[.string s] w fun e w' => ∃ v, e = .returned (.tuple #[.agg #[.int .i64 (prI s 0), .int .i64 (prI s 1), .int .i64 (prI s 2), .int .i64 (prI s 3), .int .i64 (prI s 4), .int .i64 (prI s 5), v], .int .i64 (prE s)]) ∧ Nr w.heap.size w' v (prN s) ∧ Below w.heap.size w w' := by
  have HE : Hid _ := he
  have HK : Hid (KN w) := hk
  have HZ : Hid (prE s ≠ 0 → (∀ i, prI s i = 0) ∧ prN s = []) := fun h => ⟨fun i => by unfold prI; rw [if_neg h], by unfold prN; rw [if_neg h]⟩
  have HGD : Hid (prE s = 0 → (∀ i, prI s i = setV (wordsL s, false) i) ∧ prN s = suN (wordsL s, false)) := fun h => ⟨fun i => by unfold prI; rw [if_pos h], by unfold prN; rw [if_pos h]⟩
  obtain ⟨gR, egR⟩ : ∃ g, g = w.heap.size := ⟨_, rfl⟩
  have HEQ : Hid _ := egR
  clear he hk
  by_cases c0 : 4096 < s.size
  · have d0 : (4096 : Int) < (s.size : Int) := by omega
    have HPE : Hid (prE s = 2) := by show _ = _; unfold prE; rw [if_pos c0]
    clear c0
    have HAL : Hid ((w.alloc (.cells #[.int .i64 0, .int .i64 0, .int .i64 0, .int .i64 0, .int .i64 0, .int .i64 0, .slice none 0 0] 24)).heap[gR]? = some (.cells #[.int .i64 0, .int .i64 0, .int .i64 0, .int .i64 0, .int .i64 0, .int .i64 0, .slice none 0 0] 24)) := by show _ = _; rw [egR]; exact al_at _ _
    have HB0 : Hid (Below w.heap.size w (w.alloc (.cells #[.int .i64 0, .int .i64 0, .int .i64 0, .int .i64 0, .int .i64 0, .int .i64 0, .slice none 0 0] 24))) := bc_al (bel_refl w)
    go_enter Tryz.func19, Tryz.ntmps19
    go_wp2_with fail
    have WZ : Hid (Below w.heap.size w (w.alloc (.cells #[.int .i64 0, .int .i64 0, .int .i64 0, .int .i64 0, .int .i64 0, .int .i64 0, .slice none 0 0] 24))) := bc_al (bel_refl w)
    refine bodyPost_ret (v := .tuple #[.agg #[.int .i64 0, .int .i64 0, .int .i64 0, .int .i64 0, .int .i64 0, .int .i64 0, .slice none 0 0], .int .i64 2]) (by simp [results, Tryz.results19, go_sem]) rfl ?_
    have q := HZ.out (by rw [HPE.out]; decide)
    exact ⟨.slice none 0 0, by rw [q.1 0, q.1 1, q.1 2, q.1 3, q.1 4, q.1 5, HPE.out], by rw [q.2]; exact Nr.nil _ _, WZ.out⟩
  · have hs2 : s.size ≤ 4096 := by omega
    have HS : Hid _ := hs2
    have d0 : ¬ (4096 : Int) < (s.size : Int) := by omega
    have HP1 : Hid (prE s = if (!(suS (wordsL s, false)).2 && (suS (wordsL s, false)).1.isEmpty) = false then 201 else prC s) := by show _ = _; unfold prE; rw [if_neg c0]
    clear c0 egR
    go_enter Tryz.func19, Tryz.ntmps19
    go_wp2_with fail
    refine (words_any s _ (by omega)).mono ?_
    rintro e w1 ⟨v1, rfl, hO, hb1⟩
    have B1 : Hid (Below w.heap.size w w1) := bc_go (bc_al (bel_refl w)) hb1
    have BA : Hid (Below (w.alloc (.cells #[.int .i64 0, .int .i64 0, .int .i64 0, .int .i64 0, .int .i64 0, .int .i64 0, .slice none 0 0] 24)).heap.size (w.alloc (.cells #[.int .i64 0, .int .i64 0, .int .i64 0, .int .i64 0, .int .i64 0, .int .i64 0, .slice none 0 0] 24)) w1) := hb1
    have R1 : Hid _ := rp_start (W0 := w) hs2 hO (HE.out.go B1.out) (HK.out.go B1.out)
    have hsz1 := hb1.size
    rw [World.size_alloc] at hsz1
    have e1 : ∃ a n c, v1 = .slice a n c := by
      rcases hO with ⟨q, _⟩ | ⟨g, cap, f, q, _⟩
      · exact ⟨_, _, _, q⟩
      · exact ⟨_, _, _, q⟩
    obtain ⟨a1, m1, c1, rfl⟩ := e1
    clear hO hb1
    obtain ⟨KD, hKD⟩ : ∃ KD, setV (wordsL s, false) 0 = KD := ⟨_, rfl⟩
    obtain ⟨n0, hn0⟩ : ∃ n, setV (wordsL s, false) 1 = n := ⟨_, rfl⟩
    obtain ⟨n1, hn1⟩ : ∃ n, setV (wordsL s, false) 2 = n := ⟨_, rfl⟩
    obtain ⟨n2, hn2⟩ : ∃ n, setV (wordsL s, false) 3 = n := ⟨_, rfl⟩
    obtain ⟨n3, hn3⟩ : ∃ n, setV (wordsL s, false) 4 = n := ⟨_, rfl⟩
    obtain ⟨n4, hn4⟩ : ∃ n, setV (wordsL s, false) 5 = n := ⟨_, rfl⟩
    have HVAL : Hid (setV (wordsL s, false) 0 = KD ∧ setV (wordsL s, false) 1 = n0 ∧ setV (wordsL s, false) 2 = n1 ∧ setV (wordsL s, false) 3 = n2 ∧ setV (wordsL s, false) 4 = n3 ∧ setV (wordsL s, false) 5 = n4) := ⟨hKD, hn0, hn1, hn2, hn3, hn4⟩
    clear hKD hn0 hn1 hn2 hn3 hn4
    go_wp2_with fail
    refine (setup_any w1.heap.size (wordsL s, false) _ R1.out (by have := words_len s; show (wordsL s).length ≤ _; omega)).mono ?_
    rintro e w2 ⟨v2, rfl, hN2, ⟨lm2, hr2⟩, ho2⟩
    obtain ⟨j0, j1, j2, j3, j4, j5⟩ := HVAL.out
    rw [j0, j1, j2, j3, j4, j5]
    clear j0 j1 j2 j3 j4 j5
    obtain ⟨a, cap, ev2, _, _⟩ := Nr.sl hN2
    subst ev2
    obtain ⟨n, hn⟩ : ∃ n, (suN (wordsL s, false)).length = n := ⟨_, rfl⟩
    have N2 : Hid (Nr (w1.alloc (.cells #[.slice a1 m1 c1, .bool false] 102)).heap.size w2 (.slice a n cap) (suN (wordsL s, false))) := by rw [← hn]; exact hN2
    rw [hn]
    have HLN : Hid _ := hn
    have R2 : Hid _ := hr2
    have O2 : Hid _ := ho2
    clear hN2 hr2 ho2 hn
    go_wp2_with fail
    refine (done_any w1.heap.size (suS (wordsL s, false)).1 (suS (wordsL s, false)).2 _ (R2.out.rd.go (bc_al (bel_refl w2)))).mono ?_
    rintro e w3 ⟨rfl, rfl⟩
    obtain ⟨D, hD⟩ : ∃ D, (!(suS (wordsL s, false)).2 && (suS (wordsL s, false)).1.isEmpty) = D := ⟨_, rfl⟩
    rw [hD]
    rw [hD] at HP1
    clear hD
    obtain ⟨gC, eC⟩ : ∃ g, g = w2.heap.size := ⟨_, rfl⟩
    have eR := HEQ.out
    obtain ⟨w4, hw4⟩ : ∃ w4, w4 = w2.alloc (.cells #[.int .i64 KD, .int .i64 n0, .int .i64 n1, .int .i64 n2, .int .i64 n3, .int .i64 n4, .slice a n cap] 24) := ⟨_, rfl⟩
    have hsz2 := O2.out.size
    rw [World.size_alloc] at hsz2
    have hC : w4.heap[gC]? = some (.cells #[.int .i64 KD, .int .i64 n0, .int .i64 n1, .int .i64 n2, .int .i64 n3, .int .i64 n4, .slice a n cap] 24) := by rw [hw4, eC]; exact al_at _ _
    have hR : w4.heap[gR]? = some (.cells #[.int .i64 0, .int .i64 0, .int .i64 0, .int .i64 0, .int .i64 0, .int .i64 0, .slice none 0 0] 24) := by
      rw [hw4]
      refine ((bc_al (bel_refl w2)).block gR (by omega)).trans ((O2.out.block gR (by rw [World.size_alloc]; omega) (by omega)).trans (((bc_al (bel_refl w1)).block gR (by omega)).trans ((BA.out.block gR (by rw [World.size_alloc]; omega)).trans ?_)))
      rw [eR]
      exact al_at _ _
    have W4 : Hid (Below w.heap.size w w4) := by
      have q : Below w.heap.size (w1.alloc (.cells #[.slice a1 m1 c1, .bool false] 102)) w2 := O2.out.below (by rw [World.size_alloc]; omega) (by omega)
      rw [hw4]
      exact bc_al ((bc_al B1.out).trans q)
    have N4 : Hid (Nr (w1.heap.size + 1) w4 (.slice a n cap) (suN (wordsL s, false))) := by
      have q := Nr.below N2.out (bc_al (o := .cells #[.int .i64 KD, .int .i64 n0, .int .i64 n1, .int .i64 n2, .int .i64 n3, .int .i64 n4, .slice a n cap] 24) (bel_refl w2))
      rw [World.size_alloc] at q
      rw [hw4]
      exact q
    rw [← hw4, ← eC, ← eR]
    have x0 : w4.cell? ⟨gC, 0, none⟩ = some (.int .i64 KD) := by simp [World.cell?, hC]
    have x1 : w4.cell? ⟨gC, 1, none⟩ = some (.int .i64 n0) := by simp [World.cell?, hC]
    have x2 : w4.cell? ⟨gC, 2, none⟩ = some (.int .i64 n1) := by simp [World.cell?, hC]
    have x3 : w4.cell? ⟨gC, 3, none⟩ = some (.int .i64 n2) := by simp [World.cell?, hC]
    have x4 : w4.cell? ⟨gC, 4, none⟩ = some (.int .i64 n3) := by simp [World.cell?, hC]
    have x5 : w4.cell? ⟨gC, 5, none⟩ = some (.int .i64 n4) := by simp [World.cell?, hC]
    have x6 : w4.cell? ⟨gC, 6, none⟩ = some (.slice a n cap) := by simp [World.cell?, hC]
    have G4 : Hid _ := hR
    have lC : gC < w4.heap.size := World.block_lt_of_cell? _ _ x0
    have LR : Hid (gR < w1.heap.size) := by show gR < w1.heap.size; omega
    clear hC hR hw4 eC eR hsz2
    cases D
    · have HPE : Hid (prE s = 201) := by show _ = _; rw [HP1.out, if_pos rfl]
      have hRz := G4.out
      have y0 : w4.cell? ⟨gR, 0, none⟩ = some (.int .i64 0) := by simp [World.cell?, hRz]
      have y1 : w4.cell? ⟨gR, 1, none⟩ = some (.int .i64 0) := by simp [World.cell?, hRz]
      have y2 : w4.cell? ⟨gR, 2, none⟩ = some (.int .i64 0) := by simp [World.cell?, hRz]
      have y3 : w4.cell? ⟨gR, 3, none⟩ = some (.int .i64 0) := by simp [World.cell?, hRz]
      have y4 : w4.cell? ⟨gR, 4, none⟩ = some (.int .i64 0) := by simp [World.cell?, hRz]
      have y5 : w4.cell? ⟨gR, 5, none⟩ = some (.int .i64 0) := by simp [World.cell?, hRz]
      have y6 : w4.cell? ⟨gR, 6, none⟩ = some (.slice none 0 0) := by simp [World.cell?, hRz]
      have fr0 : w4.frozen? ⟨gR, 0, none⟩ = false := by simp [World.frozen?, hRz]
      have fr1 : w4.frozen? ⟨gR, 1, none⟩ = false := by simp [World.frozen?, hRz]
      have fr2 : w4.frozen? ⟨gR, 2, none⟩ = false := by simp [World.frozen?, hRz]
      have fr3 : w4.frozen? ⟨gR, 3, none⟩ = false := by simp [World.frozen?, hRz]
      have fr4 : w4.frozen? ⟨gR, 4, none⟩ = false := by simp [World.frozen?, hRz]
      have fr5 : w4.frozen? ⟨gR, 5, none⟩ = false := by simp [World.frozen?, hRz]
      have fr6 : w4.frozen? ⟨gR, 6, none⟩ = false := by simp [World.frozen?, hRz]
      have BB : Hid (Bx1 w4 w4 gR 24 #[.int .i64 0, .int .i64 0, .int .i64 0, .int .i64 0, .int .i64 0, .int .i64 0, .slice none 0 0]) := ⟨hRz, fun _ _ => rfl, rfl, rfl, rfl, rfl⟩
      clear hRz
      go_wp2_with fail
      refine bodyPost_as (fun W => Bx1 w4 W gR 24 #[.int .i64 0, .int .i64 0, .int .i64 0, .int .i64 0, .int .i64 0, .int .i64 0, .slice none 0 0]) ((((((((BB.out.set 0 (.int .i64 0)).set 1 (.int .i64 0)).set 2 (.int .i64 0)).set 3 (.int .i64 0)).set 4 (.int .i64 0)).set 5 (.int .i64 0)).set 6 (.slice none 0 0))) ?_
      intro wz BZ
      have hR := BZ.hc
      clear y0 fr0
      clear y1 fr1
      clear y2 fr2
      clear y3 fr3
      clear y4 fr4
      clear y5 fr5
      clear y6 fr6
      have u0 : wz.cell? ⟨gR, 0, none⟩ = some (.int .i64 0) := by simp [World.cell?, hR]
      have u1 : wz.cell? ⟨gR, 1, none⟩ = some (.int .i64 0) := by simp [World.cell?, hR]
      have u2 : wz.cell? ⟨gR, 2, none⟩ = some (.int .i64 0) := by simp [World.cell?, hR]
      have u3 : wz.cell? ⟨gR, 3, none⟩ = some (.int .i64 0) := by simp [World.cell?, hR]
      have u4 : wz.cell? ⟨gR, 4, none⟩ = some (.int .i64 0) := by simp [World.cell?, hR]
      have u5 : wz.cell? ⟨gR, 5, none⟩ = some (.int .i64 0) := by simp [World.cell?, hR]
      have u6 : wz.cell? ⟨gR, 6, none⟩ = some (.slice none 0 0) := by simp [World.cell?, hR]
      have WZ : Hid (Below w.heap.size w wz) := ⟨BZ.os.trans W4.out.os, BZ.tape.trans W4.out.tape, BZ.output.trans W4.out.output, by rw [BZ.size]; exact W4.out.size, fun k hk => (BZ.ot k (by have := HEQ.out; omega)).trans (W4.out.block k hk)⟩
      refine bodyPost_ret (v := .tuple #[.agg #[.int .i64 0, .int .i64 0, .int .i64 0, .int .i64 0, .int .i64 0, .int .i64 0, .slice none 0 0], .int .i64 201]) (by simp [results, Tryz.results19, go_sem, u0, u1, u2, u3, u4, u5, u6]) rfl ?_
      have q := HZ.out (by rw [HPE.out]; decide)
      exact ⟨.slice none 0 0, by rw [q.1 0, q.1 1, q.1 2, q.1 3, q.1 4, q.1 5, HPE.out], by rw [q.2]; exact Nr.nil _ _, WZ.out⟩
    · have HP2 : Hid (prE s = prC s) := by show _ = _; rw [HP1.out, if_neg (by decide)]
      have hns := (nsl_nr N4.out (suN_in (wordsL s, false))).2
      obtain ⟨ce, hce⟩ : ∃ ce, checkE KD n0 n1 n2 n3 n4 (gOf (suN (wordsL s, false))) n = ce := ⟨_, rfl⟩
      have HPC : Hid (prE s = ce) := by
        show _ = _
        obtain ⟨j0, j1, j2, j3, j4, j5⟩ := HVAL.out
        rw [HP2.out, prC, j0, j1, j2, j3, j4, j5, HLN.out, hce]
      have HNS : Hid _ := hns
      clear hns
      go_wp2_with fail
      refine (check_any KD n0 n1 n2 n3 n4 a n cap (gOf (suN (wordsL s, false))) _ HNS.out).mono ?_
      rintro e w5 ⟨rfl, hb5⟩
      rw [hce]
      replace x0 := bc_cell hb5 x0
      replace x1 := bc_cell hb5 x1
      replace x2 := bc_cell hb5 x2
      replace x3 := bc_cell hb5 x3
      replace x4 := bc_cell hb5 x4
      replace x5 := bc_cell hb5 x5
      replace x6 := bc_cell hb5 x6
      have G5 : Hid (w5.heap[gR]? = some (.cells #[.int .i64 0, .int .i64 0, .int .i64 0, .int .i64 0, .int .i64 0, .int .i64 0, .slice none 0 0] 24)) := (hb5.block gR (Array.getElem?_eq_some_iff.1 G4.out).1).trans G4.out
      have W5 : Hid _ := bc_go W4.out hb5
      have N5 : Hid (Nr (w1.heap.size + 1) w5 (.slice a n cap) (suN (wordsL s, false))) := Nr.below N4.out hb5
      clear hb5 hce HNS
      by_cases c1 : ce = 0
      · subst c1
        go_wp2_with (refine (id ?_ : wpList Tryz.prog _ _ (⟨none, .store 24 (.tmp 2) (.tmp 24), _, _, _, _⟩ :: _) _ _); refine wpList_store_row rfl 24 (.tmp 2) (.tmp 24) rfl gR #[.int .i64 KD, .int .i64 n0, .int .i64 n1, .int .i64 n2, .int .i64 n3, .int .i64 n4, .slice a n cap] rfl rfl 24 #[.int .i64 0, .int .i64 0, .int .i64 0, .int .i64 0, .int .i64 0, .int .i64 0, .slice none 0 0] G5.out (by kernel_rfl) (by kernel_rfl) (by kernel_rfl) ?_; refine wpList_as (fun W => W.heap[gR]? = some (.cells #[.int .i64 KD, .int .i64 n0, .int .i64 n1, .int .i64 n2, .int .i64 n3, .int .i64 n4, .slice a n cap] 24) ∧ Below w.heap.size w W ∧ ∀ k, k ≠ gR → W.heap[k]? = w5.heap[k]?) ⟨setRow_heap _ _ _ _ _ _ G5.out, ?_, fun k hk => setRow_other _ _ _ _ hk⟩ ?_)
        · exact ⟨W5.out.os, W5.out.tape, W5.out.output, by rw [size_setRow]; exact W5.out.size, fun k hk => (setRow_other _ _ _ _ (by have := HEQ.out; omega)).trans (W5.out.block k hk)⟩
        intro wz hR hB hO
        have WZ : Hid _ := hB
        have OZ : Hid _ := hO
        have u0 : wz.cell? ⟨gR, 0, none⟩ = some (.int .i64 KD) := by simp [World.cell?, hR]
        have u1 : wz.cell? ⟨gR, 1, none⟩ = some (.int .i64 n0) := by simp [World.cell?, hR]
        have u2 : wz.cell? ⟨gR, 2, none⟩ = some (.int .i64 n1) := by simp [World.cell?, hR]
        have u3 : wz.cell? ⟨gR, 3, none⟩ = some (.int .i64 n2) := by simp [World.cell?, hR]
        have u4 : wz.cell? ⟨gR, 4, none⟩ = some (.int .i64 n3) := by simp [World.cell?, hR]
        have u5 : wz.cell? ⟨gR, 5, none⟩ = some (.int .i64 n4) := by simp [World.cell?, hR]
        have u6 : wz.cell? ⟨gR, 6, none⟩ = some (.slice a n cap) := by simp [World.cell?, hR]
        clear hB hR hO
        go_wp2_with fail
        refine bodyPost_ret (v := .tuple #[.agg #[.int .i64 KD, .int .i64 n0, .int .i64 n1, .int .i64 n2, .int .i64 n3, .int .i64 n4, .slice a n cap], .int .i64 0]) (by simp [results, Tryz.results19, go_sem, u0, u1, u2, u3, u4, u5, u6]) rfl ?_
        have q := HGD.out HPC.out
        obtain ⟨j0, j1, j2, j3, j4, j5⟩ := HVAL.out
        refine ⟨.slice a n cap, by rw [q.1 0, q.1 1, q.1 2, q.1 3, q.1 4, q.1 5, HPC.out, j0, j1, j2, j3, j4, j5], ?_, WZ.out⟩
        rw [q.2]
        refine Nr.weak (Nr.kept N5.out fun k hk => ?_) (by have := B1.out.size; omega)
        obtain ⟨hb, _, _⟩ := Nr.own N5.out hk
        exact OZ.out k (by have := LR.out; omega)
      · have d1 : (ce != 0) = true := by simpa using c1
        have HPE : Hid _ := HPC.out
        have HC1 : Hid _ := c1
        clear c1
        have hRz := G5.out
        have y0 : w5.cell? ⟨gR, 0, none⟩ = some (.int .i64 0) := by simp [World.cell?, hRz]
        have y1 : w5.cell? ⟨gR, 1, none⟩ = some (.int .i64 0) := by simp [World.cell?, hRz]
        have y2 : w5.cell? ⟨gR, 2, none⟩ = some (.int .i64 0) := by simp [World.cell?, hRz]
        have y3 : w5.cell? ⟨gR, 3, none⟩ = some (.int .i64 0) := by simp [World.cell?, hRz]
        have y4 : w5.cell? ⟨gR, 4, none⟩ = some (.int .i64 0) := by simp [World.cell?, hRz]
        have y5 : w5.cell? ⟨gR, 5, none⟩ = some (.int .i64 0) := by simp [World.cell?, hRz]
        have y6 : w5.cell? ⟨gR, 6, none⟩ = some (.slice none 0 0) := by simp [World.cell?, hRz]
        have fr0 : w5.frozen? ⟨gR, 0, none⟩ = false := by simp [World.frozen?, hRz]
        have fr1 : w5.frozen? ⟨gR, 1, none⟩ = false := by simp [World.frozen?, hRz]
        have fr2 : w5.frozen? ⟨gR, 2, none⟩ = false := by simp [World.frozen?, hRz]
        have fr3 : w5.frozen? ⟨gR, 3, none⟩ = false := by simp [World.frozen?, hRz]
        have fr4 : w5.frozen? ⟨gR, 4, none⟩ = false := by simp [World.frozen?, hRz]
        have fr5 : w5.frozen? ⟨gR, 5, none⟩ = false := by simp [World.frozen?, hRz]
        have fr6 : w5.frozen? ⟨gR, 6, none⟩ = false := by simp [World.frozen?, hRz]
        have BB : Hid (Bx1 w5 w5 gR 24 #[.int .i64 0, .int .i64 0, .int .i64 0, .int .i64 0, .int .i64 0, .int .i64 0, .slice none 0 0]) := ⟨hRz, fun _ _ => rfl, rfl, rfl, rfl, rfl⟩
        clear hRz
        go_wp2_with fail
        refine bodyPost_as (fun W => Bx1 w5 W gR 24 #[.int .i64 0, .int .i64 0, .int .i64 0, .int .i64 0, .int .i64 0, .int .i64 0, .slice none 0 0]) ((((((((BB.out.set 0 (.int .i64 0)).set 1 (.int .i64 0)).set 2 (.int .i64 0)).set 3 (.int .i64 0)).set 4 (.int .i64 0)).set 5 (.int .i64 0)).set 6 (.slice none 0 0))) ?_
        intro wz BZ
        have hR := BZ.hc
        clear y0 fr0
        clear y1 fr1
        clear y2 fr2
        clear y3 fr3
        clear y4 fr4
        clear y5 fr5
        clear y6 fr6
        have u0 : wz.cell? ⟨gR, 0, none⟩ = some (.int .i64 0) := by simp [World.cell?, hR]
        have u1 : wz.cell? ⟨gR, 1, none⟩ = some (.int .i64 0) := by simp [World.cell?, hR]
        have u2 : wz.cell? ⟨gR, 2, none⟩ = some (.int .i64 0) := by simp [World.cell?, hR]
        have u3 : wz.cell? ⟨gR, 3, none⟩ = some (.int .i64 0) := by simp [World.cell?, hR]
        have u4 : wz.cell? ⟨gR, 4, none⟩ = some (.int .i64 0) := by simp [World.cell?, hR]
        have u5 : wz.cell? ⟨gR, 5, none⟩ = some (.int .i64 0) := by simp [World.cell?, hR]
        have u6 : wz.cell? ⟨gR, 6, none⟩ = some (.slice none 0 0) := by simp [World.cell?, hR]
        have WZ : Hid (Below w.heap.size w wz) := ⟨BZ.os.trans W5.out.os, BZ.tape.trans W5.out.tape, BZ.output.trans W5.out.output, by rw [BZ.size]; exact W5.out.size, fun k hk => (BZ.ot k (by have := HEQ.out; omega)).trans (W5.out.block k hk)⟩
        refine bodyPost_ret (v := .tuple #[.agg #[.int .i64 0, .int .i64 0, .int .i64 0, .int .i64 0, .int .i64 0, .int .i64 0, .slice none 0 0], .int .i64 ce]) (by simp [results, Tryz.results19, go_sem, u0, u1, u2, u3, u4, u5, u6]) rfl ?_
        have q := HZ.out (by rw [HPE.out]; exact HC1.out)
        exact ⟨.slice none 0 0, by rw [q.1 0, q.1 1, q.1 2, q.1 3, q.1 4, q.1 5, HPE.out], by rw [q.2]; exact Nr.nil _ _, WZ.out⟩
theorem cut_whole (m e : Nat) : Ieee.Toward.even.cut false (m * 2 ^ e) e = m := by
  have h0 : 0 < 2 ^ e := Nat.two_pow_pos e
  have key : ∀ g, (1 <<< min e ((m * 2 ^ e).log2 + 2) = g) → Ieee.Toward.even.cut false (m * 2 ^ e) e = m := by
    intro g hg
    rcases Nat.eq_zero_or_pos m with z | z
    · subst z
      unfold Ieee.Toward.cut
      simp
    · have hl : e ≤ (m * 2 ^ e).log2 := by
        rw [Nat.le_log2 (by have := Nat.mul_pos z h0; omega)]
        exact Nat.le_mul_of_pos_left _ z
      have hmin : min e ((m * 2 ^ e).log2 + 2) = e := by omega
      unfold Ieee.Toward.cut
      rw [hmin, Nat.shiftLeft_eq, Nat.one_mul]
      simp only [Nat.mul_div_cancel _ h0, Nat.mul_mod_left]
      have h1 : (2 ^ e == 2 * 0) = false := by simp
      simp [h1]
  exact key _ rfl
theorem near_word (m e : Nat) (h1 : 4503599627370496 ≤ m) (h2 : m < 9007199254740992) (h3 : e ≤ 2045) : Ieee.double.nearest false (m * 2 ^ e) (-1074) = e * 4503599627370496 + m := by
  have h0 : 0 < 2 ^ e := Nat.two_pow_pos e
  have hp : 0 < m * 2 ^ e := Nat.mul_pos (by omega) h0
  have hl : (m * 2 ^ e).log2 = 52 + e := by
    rw [Nat.log2_eq_iff (by omega)]
    have a1 : 2 ^ (52 + e) = 4503599627370496 * 2 ^ e := by rw [Nat.pow_add]
    have a2 : 2 ^ (52 + e + 1) = 9007199254740992 * 2 ^ e := by rw [show 52 + e + 1 = 53 + e by omega, Nat.pow_add]
    rw [a1, a2]
    exact ⟨Nat.mul_le_mul_right _ h1, Nat.mul_lt_mul_of_pos_right h2 h0⟩
  have hlp : Ieee.double.leastPlace = -1074 := by decide +kernel
  have hfb : (Ieee.double.fractionBits : Int) = 52 := rfl
  have hbn : Ieee.double.binade = 4503599627370496 := by decide +kernel
  have hin : Ieee.double.infRung = 9218868437227405312 := by decide +kernel
  have hlast : max ((-1074 : Int) + ((52 + e : Nat) : Int) - 52) (-1074) = -1074 + (e : Int) := by omega
  unfold Ieee.Format.nearest
  rw [if_neg (by omega), hl, hlp, hfb, hbn, hin]
  simp only [hlast]
  have q1 : ((-1074 : Int) - (-1074 + (e : Int))).toNat = 0 := by omega
  have q2 : ((-1074 : Int) + (e : Int) - (-1074)).toNat = e := by omega
  rw [q1, q2, Nat.shiftLeft_zero, cut_whole]
  have hI : e * 4503599627370496 + m ≤ 9218868437227405312 := by omega
  unfold Ieee.Format.word
  rw [if_neg (by decide)]
  exact Nat.min_eq_left hI
theorem near_sub (u : Nat) (h : u < 4503599627370496) : Ieee.double.nearest false u (-1074) = u := by
  rcases Nat.eq_zero_or_pos u with z | z
  · subst z; decide +kernel
  · have hl : u.log2 < 52 := (Nat.log2_lt (by omega)).2 h
    have hlp : Ieee.double.leastPlace = -1074 := by decide +kernel
    have hfb : (Ieee.double.fractionBits : Int) = 52 := rfl
    have hbn : Ieee.double.binade = 4503599627370496 := by decide +kernel
    have hin : Ieee.double.infRung = 9218868437227405312 := by decide +kernel
    have hlast : max ((-1074 : Int) + (u.log2 : Int) - 52) (-1074) = -1074 := by omega
    unfold Ieee.Format.nearest
    rw [if_neg (by omega), hlp, hfb, hbn, hin]
    simp only [hlast]
    have := cut_whole u 0
    rw [Nat.pow_zero, Nat.mul_one] at this
    rw [show ((-1074 : Int) - (-1074)).toNat = 0 by omega, Nat.shiftLeft_zero, this]
    have hI : 0 * 4503599627370496 + u ≤ 9218868437227405312 := by omega
    exact (Nat.min_eq_left hI).trans (by rw [Nat.zero_mul, Nat.zero_add])
theorem add_nought {u : Nat} (h : u ≤ 4697254411347427328 ∨ u = 9223372036854775808) : Ieee.double.add u 0 = some (u % 9223372036854775808) := by
  unfold Ieee.Format.add
  rw [rd_zero]
  rcases h with h | h
  · have e1 : u % 9223372036854775808 = u := Nat.mod_eq_of_lt (by omega)
    have e2 : (u / 9223372036854775808 % 2 == 1) = false := by rw [Nat.div_eq_of_lt (by omega)]; rfl
    rw [rd_word, e1, e2]
    split
    · rename_i q
      have key : (Ieee.Datum.number false u (-1074)).sum (.number false 0 (-1074)) = some (.number false u (-1074)) := by
        unfold Ieee.Datum.sum Ieee.signed
        simp
      rw [key]
      exact congrArg some (near_sub u q)
    · rename_i q
      rw [if_pos (by omega)]
      obtain ⟨m, hm⟩ : ∃ m, 4503599627370496 + u % 4503599627370496 = m := ⟨_, rfl⟩
      obtain ⟨e, he⟩ : ∃ e, u / 4503599627370496 - 1 = e := ⟨_, rfl⟩
      rw [hm, he]
      have key : (Ieee.Datum.number false m (-1074 + (e : Int))).sum (.number false 0 (-1074)) = some (.number false (m * 2 ^ e) (-1074)) := by
        have hmin : min (-1074 + (e : Int)) (-1074) = -1074 := by omega
        unfold Ieee.Datum.sum Ieee.signed
        simp only [hmin]
        rw [show (-1074 + (e : Int) - (-1074)).toNat = e by omega]
        simp [Nat.shiftLeft_eq]
        refine ⟨fun hz => ?_, ?_⟩
        · exact fun _ => Int.mul_nonneg (Int.natCast_nonneg m) (Int.le_of_lt (Int.pow_pos (by decide : (0:Int) < 2)))
        · exact_mod_cast Int.natAbs_natCast (m * 2 ^ e)
      rw [key]
      have := near_word m e (by omega) (by omega) (by omega)
      refine congrArg some (this.trans ?_)
      omega
  · subst h
    decide +kernel
theorem fadd_run (pr : Nat) (w : World) : ∃ r k, (binOp .add 25 (.float .f64 pr) (.float .f64 0)).run Tryz.prog w = .ok (.float .f64 r) (w.drewN k) ∧ ∀ x, Ieee.double.add pr 0 = some x → r = x ∧ k = 0 := by
  cases h : Ieee.double.add pr 0 with
  | some x => exact ⟨x, 0, run_float_arith w .add _ .f64 pr 0 x h, fun y hy => ⟨Option.some.inj hy, rfl⟩⟩
  | none =>
    have h2 : FloatKind.f64.format.add pr 0 = none := h
    have e : (binOp .add 25 (.float .f64 pr) (.float .f64 0)).run Tryz.prog w = .ok (.float .f64 ((Question.nanBits .f64 pr 0).cut (w.tape w.drawn (.nanBits .f64 pr 0)))) w.drew := by
      simp [binOp, Op.floatArith, h2, Question.forced]
    exact ⟨_, 1, e, fun y hy => by cases hy⟩
structure BW (w : World) where
  W : World
  bel : Below w.heap.size w W
theorem BW.size {w : World} (p : BW w) : w.heap.size ≤ p.W.heap.size := p.bel.size
theorem BW.cel {w : World} (p : BW w) {a : Addr} {v : Value} (h : w.cell? a = some v) : p.W.cell? a = some v := bc_cell p.bel h
theorem wp_region_quiet_bel {P : Program} {id : Nat} {Q : Exit → Act → World → Prop} {a : Act} {w : World} {l : List Oper} (hm : P.follows .mixedOrders = true) (hB : Region.lexB .any l.toArray = true)
    (h : wpQuiet P l.toArray (fun w' => ∃ p : BW w, w' = p.W) (fun a' => ∀ w', (∃ p : BW w, w' = p.W) → Q .normal a' w') l a) : (Code.region id l.toArray true).wp P Q a w :=
  wp_region_quiet (C := fun w' => ∃ p : BW w, w' = p.W) hm hB ⟨⟨w.drewN 1, bc_drew (bel_refl w) 1⟩, rfl⟩ (by simpa using h)
theorem calls_bel {P : Program} {f : FuncId} {args : Array Value} {w : World} {p : BW w} {v : Value} (h : Calls P f args p.W fun e w' => e = .returned v ∧ Below p.W.heap.size p.W w') : Calls P f args p.W fun e w'' => e = .returned v ∧ ∃ q : BW w, w'' = q.W :=
  h.mono fun _ w2 ⟨he, hb⟩ => ⟨he, ⟨w2, bc_go p.bel hb⟩, rfl⟩
theorem calls_still {P : Program} {f : FuncId} {args : Array Value} {w : World} {p : BW w} {v : Value} (h : Calls P f args p.W fun e w' => e = .returned v ∧ w' = p.W) : Calls P f args p.W fun e w'' => e = .returned v ∧ ∃ q : BW w, w'' = q.W :=
  h.mono fun _ w2 ⟨he, hb⟩ => ⟨he, p, hb⟩
set_option maxHeartbeats 1000000 in
theorem print_bad (K R M C Fl A : Int) (a : Option Addr) (n cap : Nat) (G : Nat → Nat → Int) (ce : Int) (w : World) (h : NSl w a n cap G) (hf : checkE K R M C Fl A G n = ce) (h0 : ce ≠ 0) :
    Calls Tryz.prog 7 #[.agg #[.int .i64 K, .int .i64 R, .int .i64 M, .int .i64 C, .int .i64 Fl, .int .i64 A, .slice a n cap]] w fun e w' => e = .returned (.tuple #[.string ⟨#[]⟩, .int .i64 ce]) ∧ Below w.heap.size w w' := by
  have HN : Hid _ := h
  have hl0 : n ≤ 9223372036854775807 := Nat.le_trans h.le h.lim
  have HF : Hid _ := hf
  have d0 : (ce != 0) = true := by simpa using h0
  clear h hf h0
  go_enter Tryz.func7, Tryz.ntmps7
  go_wp2_with fail
  have S0 : Hid _ := (ce_start w).box7 (.int .i64 K) (.int .i64 R) (.int .i64 M) (.int .i64 C) (.int .i64 Fl) (.int .i64 A) (.slice a n cap) 24 _ rfl
  refine (check_any K R M C Fl A a n cap G _ (HN.out.go S0.out.bel)).mono ?_
  rintro e w1 ⟨rfl, hb⟩
  rw [HF.out]
  have W1 : Hid (Below w.heap.size w w1) := bc_go S0.out.bel hb
  clear hb S0
  go_wp2_with fail
  exact bodyPost_ret (v := .tuple #[.string ⟨#[]⟩, .int .i64 ce]) (by simp [results, Tryz.results7, go_sem]) rfl ⟨rfl, W1.out⟩
def priS (K R M C Fl A : Int) (G : Nat → Nat → Int) (n : Nat) : ByteArray := if checkE K R M C Fl A G n = 0 then confS K R M C Fl A G n else ⟨#[]⟩
theorem print_any (K R M C Fl A : Int) (a : Option Addr) (n cap : Nat) (G : Nat → Nat → Int) (w : World) (h : NSl w a n cap G) (hV : Vs9 w) :
    Calls Tryz.prog 7 #[.agg #[.int .i64 K, .int .i64 R, .int .i64 M, .int .i64 C, .int .i64 Fl, .int .i64 A, .slice a n cap]] w fun e w' => e = .returned (.tuple #[.string (priS K R M C Fl A G n), .int .i64 (checkE K R M C Fl A G n)]) ∧ Below w.heap.size w w' := by
  by_cases c0 : checkE K R M C Fl A G n = 0
  · unfold priS
    rw [if_pos c0]
    by_cases c6 : K = 6
    · subst c6
      have tr := tre_of ((checkE_zero c0).2.2.2.2.2.2.1 rfl)
      have lo := tr.lo
      have hle := h.le
      obtain ⟨b, o, rfl, _⟩ := h.at (by omega)
      obtain ⟨m, rfl⟩ : ∃ m, n = m + 1 := ⟨n - 1, by omega⟩
      obtain ⟨c, rfl⟩ : ∃ c, cap = c + 1 := ⟨cap - 1, by omega⟩
      refine (print_tree R M C Fl A b o m c G w h hV.kn hV.pow).mono ?_
      rintro e w' ⟨s, rfl, hb, hs⟩
      rw [hs c0]
      exact ⟨rfl, hb⟩
    · refine (print_flat K R M C Fl A a n cap G w h hV.kn hV.pow c6).mono ?_
      rintro e w' ⟨s, rfl, hb, hs⟩
      rw [hs c0]
      refine ⟨?_, hb⟩
      unfold confS confT
      rw [if_neg c6, List.append_nil]
  · unfold priS
    rw [if_neg c0]
    exact print_bad K R M C Fl A a n cap G _ w h rfl c0
theorem prN_in (s : ByteArray) : ∀ x ∈ prN s, NdIn x := by
  unfold prN
  split
  · exact suN_in _
  · intro x hx; cases hx
theorem pr_may {s : ByteArray} (h : prE s = 0) : checkE (prI s 0) (prI s 1) (prI s 2) (prI s 3) (prI s 4) (prI s 5) (gOf (prN s)) (prN s).length = 0 := by
  have h2 : prC s = 0 := by
    have q := h
    unfold prE at q
    split at q
    · omega
    split at q
    · omega
    exact q
  unfold prI prN
  rw [if_pos h, if_pos h, if_pos h, if_pos h, if_pos h, if_pos h, if_pos h]
  exact h2
theorem gOf_in {L : List Nd} (hi : ∀ x ∈ L, NdIn x) : ∀ i j, i < L.length → j < 4 → In64p (gOf L i j) := fun i j h1 h2 => by
  have q := hi (L.getD i nd0) (by rw [List.getD, List.getElem?_eq_getElem h1]; exact List.getElem_mem _)
  unfold gOf
  match j, h2 with
  | 0, _ => exact q.1
  | 1, _ => exact q.2.1
  | 2, _ => exact q.2.2.1
  | 3, _ => exact q.2.2.2
theorem exU_lt (s : ByteArray) : exU s < 9223372036854775808 := by
  unfold exU
  split
  · unfold tfV
    split
    · omega
    · split <;> omega
  · omega
theorem flV_in (p : List ByteArray × Bool) (i : Nat) : In64p (flV p i) := by
  unfold flV
  split <;> first | exact nmI_in _ | exact ⟨by decide, by decide⟩
theorem pf_may {ce : Int} {FE : Int → Int → Int → Int → Int → Nat → Int → Int → Int} {s : ByteArray} (h : pfE ce FE s = 0) : FE (pfV 0 s 0) (pfV 0 s 1) (pfV 0 s 2) (pfV 0 s 3) (pfV 0 s 4) (pfU 0 s) (pfV 0 s 5) (pfV 0 s 6) = 0 := by
  unfold pfE at h
  split at h
  · rename_i q; exact absurd h q
  split at h
  · omega
  split at h
  · omega
  split at h
  · rename_i q; exact absurd h q
  unfold pfV pfU
  simp only [if_true]
  exact h
theorem pfV_in (e : Int) (s : ByteArray) (i : Nat) : In64p (pfV e s i) := by
  unfold pfV
  split
  · exact flV_in _ _
  · exact ⟨by decide, by decide⟩
theorem pfU_lt (e : Int) (s : ByteArray) : pfU e s < 9223372036854775808 := by
  unfold pfU
  split
  · exact exU_lt _
  · omega
theorem set5 {a b c d e : Int} (h0 : In64p a) (h1 : In64p b) (h2 : In64p c) (h3 : In64p d) (h4 : In64p e) : ∀ i, i < 5 → -9223372036854775808 ≤ setI a b c d e i ∧ setI a b c d e i ≤ 9223372036854775807 := fun i hi => by
  match i, hi with
  | 0, _ => exact h0
  | 1, _ => exact h1
  | 2, _ => exact h2
  | 3, _ => exact h3
  | 4, _ => exact h4
theorem set2 {a b : Int} (h0 : In64p a) (h1 : In64p b) : ∀ i, i < 2 → -9223372036854775808 ≤ pair2 a b i ∧ pair2 a b i ≤ 9223372036854775807 := fun i hi => by
  match i, hi with
  | 0, _ => exact h0
  | 1, _ => exact h1
theorem flow_zero (K R M C Fl A : Int) (G : Nat → Nat → Int) (n : Nat) (pq pc ps pb : Int) (pr : Nat) (pp pn : Int) : flowE K R M C Fl A G n 0 pq pc ps pb pr pp pn ≠ 0 := fun h => by
  have := (flowE_zero h).2.2.1
  omega
set_option maxHeartbeats 1000000 in
theorem lsame_true (pw pq pc ps pb : Int) (pr : Nat) (pp pn : Int) (w : World) :
    Calls Tryz.prog 24 #[.agg #[.int .i64 pw, .int .i64 pq, .int .i64 pc, .int .i64 ps, .int .i64 pb, .float .f64 pr, .int .i64 pp, .int .i64 pn], .agg #[.int .i64 pw, .int .i64 pq, .int .i64 pc, .int .i64 ps, .int .i64 pb, .float .f64 pr, .int .i64 pp, .int .i64 pn]] w fun e w' => e = .returned (.bool true) ∧ Below w.heap.size w w' := by
  have sf := fun (w : World) (a : Addr) (x : Nat) => run_store Tryz.prog w a (.float .f64 x) .plain rfl
  have ef : ∀ w : World, (Op.equalIn 9999 25 (.float .f64 0) (.float .f64 0)).run Tryz.prog w = .ok true w := fun _ => by kernel_rfl
  go_enter Tryz.func24, Tryz.ntmps24
  go_wp2_with fail
  go_quiet ((go_at_call 33; exact Calls.quiet_of_same (bits_any _ _)))
  go_wp2_with fail
  go_ret
  refine ⟨rfl, ?_⟩
  exact bc_st (bc_st (bc_drew (bc_al (bc_al (bel_refl w))) _) (by simp)) (by simp)
theorem hold9 {p : Prop} (h : True → p) : p := h trivial
theorem confS_sz (K R M C Fl A : Int) (G : Nat → Nat → Int) (n : Nat) (hz : checkE K R M C Fl A G n = 0) (hw : ∀ i j, i < n → j < 4 → In64p (G i j)) : (confS K R M C Fl A G n).size ≤ 9223372036854775807 := by
  have q := (pr_back K R M C Fl A G n hz hw).1
  unfold prE at q
  split at q
  · omega
  · omega
theorem flowS_sz (K R M C Fl A : Int) (G : Nat → Nat → Int) (n : Nat) (pw pq pc ps pb : Int) (u : Nat) (pp pn : Int) (k l : Nat) (hu : u < 18446744073709551616) (hz : flowE K R M C Fl A G n pw pq pc ps pb u pp pn = 0) (hn : In64p pn) (hk : DecLen (ffP u) k) (hl : DecLen (ffQ u) l) : (⟨(Lib.join ((flowT pw pq pc ps pb pp pn (fmtT (ffP u) (ffQ u) k l)).map (·.data.toList)) [32]).toArray⟩ : ByteArray).size ≤ 9223372036854775807 := by
  have q := (pf_back K R M C Fl A G n pw pq pc ps pb u pp pn k l _ hu hz hn hk hl rfl).1
  unfold pfE at q
  split at q
  · rename_i c; exact absurd q c
  split at q
  · omega
  · omega
structure PIn (pw pq pc ps pb : Int) (pr : Nat) (pp pn : Int) : Prop where
  w0 : In64p pw
  w1 : In64p pq
  w2 : In64p pc
  w3 : In64p ps
  w4 : In64p pb
  u : pr < 18446744073709551616
  w5 : In64p pp
  w6 : In64p pn
end Go.Proofs.YtchomkadekikdaaGreatDoor
