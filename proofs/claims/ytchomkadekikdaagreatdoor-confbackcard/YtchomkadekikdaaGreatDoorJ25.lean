/- Contracts of the program's functions, part 25: own work, joined in build order. -/
import Derived.Test.YtchomkadekikdaaGreatDoorJ24
import Derived.Deep.Cut
import Derived.OpenShut
import Derived.LaidMore
import Derived.WalkKit
import Derived.ChangeOld
import Derived.Deep.Slices
namespace Go.Proofs.YtchomkadekikdaaGreatDoor
open Go.RowKit
set_option maxRecDepth 100000
set_option linter.unusedVariables false
set_option maxHeartbeats 4000000 in
theorem back_any (K R M C Fl A : Int) (a : Option Addr) (n cap : Nat) (G : Nat → Nat → Int) (pw pq pc ps pb : Int) (pr : Nat) (pp pn : Int) (s t : ByteArray) (w : World) (h : NSl w a n cap G) (hV : Vs9 w) (hp : PIn pw pq pc ps pb pr pp pn) (hs : s.size ≤ 9223372036854775807) (ht : t.size ≤ 9223372036854775807) :
    Calls Tryz.prog 5 #[.agg #[.int .i64 K, .int .i64 R, .int .i64 M, .int .i64 C, .int .i64 Fl, .int .i64 A, .slice a n cap], .agg #[.int .i64 pw, .int .i64 pq, .int .i64 pc, .int .i64 ps, .int .i64 pb, .float .f64 pr, .int .i64 pp, .int .i64 pn], .string s, .string t] w fun e w' => e = .returned (.bool true) ∧ Below w.heap.size w w' := by
  have HN : Hid _ := h
  have HV : Hid _ := hV
  have HP : Hid _ := hp
  have HSZ : Hid (s.size ≤ 9223372036854775807 ∧ t.size ≤ 9223372036854775807) := ⟨hs, ht⟩
  have hl0 : n ≤ 9223372036854775807 := Nat.le_trans h.le h.lim
  clear h hV hp hs ht
  have sf := fun (w : World) (a : Addr) (x : Nat) => run_store Tryz.prog w a (.float .f64 x) .plain rfl
  go_enter Tryz.func5, Tryz.ntmps5
  go_wp2_with fail
  have S0 : Hid _ := ((ce_start w).box7 (.int .i64 K) (.int .i64 R) (.int .i64 M) (.int .i64 C) (.int .i64 Fl) (.int .i64 A) (.slice a n cap) 24 _ rfl).box8 (.int .i64 pw) (.int .i64 pq) (.int .i64 pc) (.int .i64 ps) (.int .i64 pb) (.float .f64 pr) (.int .i64 pp) (.int .i64 pn) 27 (w.heap.size + 1) (by rw [World.size_alloc])
  have Z0 : Hid (((w.alloc (.cells #[.int .i64 K, .int .i64 R, .int .i64 M, .int .i64 C, .int .i64 Fl, .int .i64 A, .slice a n cap] 24)).alloc (.cells #[.int .i64 pw, .int .i64 pq, .int .i64 pc, .int .i64 ps, .int .i64 pb, .float .f64 pr, .int .i64 pp, .int .i64 pn] 27)).heap[w.heap.size + 1]? = some (.cells #[.int .i64 pw, .int .i64 pq, .int .i64 pc, .int .i64 ps, .int .i64 pb, .float .f64 pr, .int .i64 pp, .int .i64 pn] 27)) := by
    have q := al_at (w.alloc (.cells #[.int .i64 K, .int .i64 R, .int .i64 M, .int .i64 C, .int .i64 Fl, .int .i64 A, .slice a n cap] 24)) (.cells #[.int .i64 pw, .int .i64 pq, .int .i64 pc, .int .i64 ps, .int .i64 pb, .float .f64 pr, .int .i64 pp, .int .i64 pn] 27)
    rw [World.size_alloc] at q
    exact q
  refine (print_any K R M C Fl A a n cap G _ (HN.out.go S0.out.bel) (HV.out.go S0.out.bel)).mono ?_
  rintro e w1 ⟨rfl, hb1⟩
  obtain ⟨gp, egp⟩ : ∃ g, g = w.heap.size + 1 := ⟨_, rfl⟩
  obtain ⟨gc, egc⟩ : ∃ g, g = w.heap.size := ⟨_, rfl⟩
  have S1 : Hid _ := S0.out.go hb1
  have Z1 : Hid (w1.heap[gp]? = some (.cells #[.int .i64 pw, .int .i64 pq, .int .i64 pc, .int .i64 ps, .int .i64 pb, .float .f64 pr, .int .i64 pp, .int .i64 pn] 27)) := by
    show _ = _
    rw [egp]
    exact (hb1.block _ (by rw [World.size_alloc, World.size_alloc]; omega)).trans Z0.out
  rw [← egp, ← egc] at S1
  rw [← egp, ← egc]
  have HG : Hid (w.heap.size ≤ gc ∧ w.heap.size ≤ gp ∧ gc ≠ gp) := ⟨by omega, by omega, by omega⟩
  clear hb1 S0 egp egc Z0
  obtain ⟨ce, hce⟩ : ∃ x, checkE K R M C Fl A G n = x := ⟨_, rfl⟩
  obtain ⟨us0, hus⟩ : ∃ x, priS K R M C Fl A G n = x := ⟨_, rfl⟩
  rw [hce, hus]
  have HCE : Hid _ := hce
  have HUS0 : Hid _ := hus
  clear hce hus
  have CK0 : Hid (∀ W, Below w1.heap.size w1 W → Calls Tryz.prog 12 #[.agg #[.int .i64 K, .int .i64 R, .int .i64 M, .int .i64 C, .int .i64 Fl, .int .i64 A, .slice a n cap]] W fun e w' => e = .returned (.int .i64 ce) ∧ Below W.heap.size W w') := fun W hW => by
    have q := check_any K R M C Fl A a n cap G W (HN.out.go (bc_go S1.out.bel hW))
    rw [HCE.out] at q
    exact q
  have x0 := fun p : BW w1 => p.cel (S1.out.cel gc 0 (.int .i64 K))
  have x1 := fun p : BW w1 => p.cel (S1.out.cel gc 1 (.int .i64 R))
  have x2 := fun p : BW w1 => p.cel (S1.out.cel gc 2 (.int .i64 M))
  have x3 := fun p : BW w1 => p.cel (S1.out.cel gc 3 (.int .i64 C))
  have x4 := fun p : BW w1 => p.cel (S1.out.cel gc 4 (.int .i64 Fl))
  have x5 := fun p : BW w1 => p.cel (S1.out.cel gc 5 (.int .i64 A))
  have x6 := fun p : BW w1 => p.cel (S1.out.cel gc 6 (.slice a n cap))
  go_upto_region 2 with fail
  haveI hne : Nonempty (BW w1) := ⟨⟨w1, bel_refl w1⟩⟩
  refine wp_region_quiet_bel (by kernel_rfl) (by kernel_rfl) ?_
  repeat (quiet_step (first
    | (go_at_call 11; exact calls_still (num9_any _ _))
    | (go_at_call 12; exact calls_bel (CK0.out _ (BW.bel _)))))
  refine wpQuiet_nil ?_
  intro w2 hw9
  obtain ⟨p9, hp9⟩ := hw9
  have hb2 := p9.bel
  rw [← hp9] at hb2
  clear hp9 p9 hne
  clear CK0
  clear x0 x1 x2 x3 x4 x5 x6
  go_wp2_with fail
  refine (num9_any ce _).mono ?_
  rintro e w3 ⟨rfl, hq⟩
  rw [hq]
  clear hq w3
  go_upto_if 44 with (fail)
  go_cut [] from 9 (fun wc => Hid (Below w.heap.size w wc))
  case first =>
    by_cases c0 : ce = 0
    · subst c0
      have S2 : Hid _ := S1.out.go hb2
      have Z2 : Hid (w2.heap[gp]? = some (.cells #[.int .i64 pw, .int .i64 pq, .int .i64 pc, .int .i64 ps, .int .i64 pb, .float .f64 pr, .int .i64 pp, .int .i64 pn] 27)) := (hb2.block _ (Array.getElem?_eq_some_iff.1 Z1.out).1).trans Z1.out
      have HUC : Hid (us0 = confS K R M C Fl A G n) := by show _ = _; rw [← HUS0.out]; unfold priS; rw [if_pos HCE.out]
      have hbk := pr_back K R M C Fl A G n HCE.out HN.out.wf
      rw [← HUC.out] at hbk
      have HBK0 : Hid _ := hbk
      have HUS : Hid (us0.size ≤ 9223372036854775807) := by show _ ≤ _; rw [HUC.out]; exact confS_sz K R M C Fl A G n HCE.out HN.out.wf
      clear hbk hb2 S1 Z1
      go_wp2_with fail
      refine (cparse_any us0 _ HUS.out (HV.out.go S2.out.bel).ev (HV.out.go S2.out.bel).kn).mono ?_
      rintro e w4 ⟨vw, rfl, hN4, hb4⟩
      obtain ⟨aw, cw, evw, _, _⟩ := Nr.sl hN4
      subst evw
      have hns := nsl_nr hN4 (prN_in us0)
      obtain ⟨z0, z1, z2, z3, z4, z5, z6, zn, zg⟩ := HBK0.out
      rw [zn] at hns
      rw [z0, z1, z2, z3, z4, z5, z6, zn]
      have HW : Hid _ := hns.2
      have HZG : Hid _ := zg
      have S3 : Hid _ := (S2.out.go hb4).box7 (.int .i64 K) (.int .i64 R) (.int .i64 M) (.int .i64 C) (.int .i64 Fl) (.int .i64 A) (.slice aw n cw) 24 _ rfl
      have Z3 : Hid ((w4.alloc (.cells #[.int .i64 K, .int .i64 R, .int .i64 M, .int .i64 C, .int .i64 Fl, .int .i64 A, .slice aw n cw] 24)).heap[gp]? = some (.cells #[.int .i64 pw, .int .i64 pq, .int .i64 pc, .int .i64 ps, .int .i64 pb, .float .f64 pr, .int .i64 pp, .int .i64 pn] 27)) := by
        have q := (hb4.block _ (Array.getElem?_eq_some_iff.1 Z2.out).1).trans Z2.out
        exact ((bc_al (bel_refl w4)).block _ (Array.getElem?_eq_some_iff.1 q).1).trans q
      have HW3 : Hid _ := HW.out.go (bc_al (o := .cells #[.int .i64 K, .int .i64 R, .int .i64 M, .int .i64 C, .int .i64 Fl, .int .i64 A, .slice aw n cw] 24) (bel_refl _))
      obtain ⟨gd0, egd⟩ : ∃ g, g = w4.heap.size := ⟨_, rfl⟩
      rw [← egd] at S3
      obtain ⟨w5, hw5⟩ : ∃ W, W = w4.alloc (.cells #[.int .i64 K, .int .i64 R, .int .i64 M, .int .i64 C, .int .i64 Fl, .int .i64 A, .slice aw n cw] 24) := ⟨_, rfl⟩
      rw [← hw5] at S3 HW3 Z3
      clear hns zg z0 z1 z2 z3 z4 z5 z6 zn hN4 hb4 HW S2 Z2
      go_wp2_with (refine (id ?_ : wpList Tryz.prog _ _ (⟨some 51, _, _, _, _, _⟩ :: _) _ _); rw [← hw5, ← egd]; clear hw5 egd; refine hold9 ?_)
      intro _
      have x0 := S3.out.cel gc 0 (.int .i64 K)
      have x1 := S3.out.cel gc 1 (.int .i64 R)
      have x2 := S3.out.cel gc 2 (.int .i64 M)
      have x3 := S3.out.cel gc 3 (.int .i64 C)
      have x4 := S3.out.cel gc 4 (.int .i64 Fl)
      have x5 := S3.out.cel gc 5 (.int .i64 A)
      have x6 := S3.out.cel gc 6 (.slice a n cap)
      have y0 := S3.out.cel gp 0 (.int .i64 pw)
      have y1 := S3.out.cel gp 1 (.int .i64 pq)
      have y2 := S3.out.cel gp 2 (.int .i64 pc)
      have y3 := S3.out.cel gp 3 (.int .i64 ps)
      have y4 := S3.out.cel gp 4 (.int .i64 pb)
      have y5 := S3.out.cel gp 5 (.float .f64 pr)
      have y6 := S3.out.cel gp 6 (.int .i64 pp)
      have y7 := S3.out.cel gp 7 (.int .i64 pn)
      go_wp2_with fail
      refine (printFlow_any K R M C Fl A a n cap G pw pq pc ps pb pr pp pn _ (HN.out.go S3.out.bel) (HV.out.go S3.out.bel).tab (HV.out.go S3.out.bel).pow HP.out.u (set5 HP.out.w0 HP.out.w1 HP.out.w2 HP.out.w3 HP.out.w4) (set2 HP.out.w5 HP.out.w6)).mono ?_
      rintro e w6 ⟨xs, rfl, hb6, hxs0, hxs1⟩
      obtain ⟨fe0, hfe⟩ : ∃ x, flowE K R M C Fl A G n pw pq pc ps pb pr pp pn = x := ⟨_, rfl⟩
      rw [hfe] at hxs0 hxs1
      rw [hfe]
      have HFE0 : Hid _ := hfe
      have HX0 : Hid _ := hxs0
      have HX1 : Hid _ := hxs1
      have S4 : Hid _ := S3.out.go hb6
      have HW4 : Hid _ := HW3.out.go hb6
      have Z4 : Hid (w6.heap[gp]? = some (.cells #[.int .i64 pw, .int .i64 pq, .int .i64 pc, .int .i64 ps, .int .i64 pb, .float .f64 pr, .int .i64 pp, .int .i64 pn] 27)) := (hb6.block _ (Array.getElem?_eq_some_iff.1 Z3.out).1).trans Z3.out
      clear hxs0 hxs1 hfe hb6 S3 HW3 Z3
      clear x0 x1 x2 x3 x4 x5 x6
      clear y0 y1 y2 y3 y4 y5 y6 y7
      have SM0 : Hid (∀ W, Below w6.heap.size w6 W → Calls Tryz.prog 23 #[.agg #[.int .i64 K, .int .i64 R, .int .i64 M, .int .i64 C, .int .i64 Fl, .int .i64 A, .slice aw n cw], .agg #[.int .i64 K, .int .i64 R, .int .i64 M, .int .i64 C, .int .i64 Fl, .int .i64 A, .slice a n cap]] W fun e w' => e = .returned (.bool true) ∧ Below W.heap.size W w') := fun W hW => by
        classical
        exact same_any K R M C Fl A aw n cw _ K R M C Fl A a n cap G true W (HW4.out.go hW) (HN.out.go (bc_go S4.out.bel hW)) (decide_eq_true ⟨rfl, rfl, rfl, rfl, rfl, rfl, rfl, HZG.out⟩)
      have CF0 : Hid (∀ W, Below w6.heap.size w6 W → Calls Tryz.prog 16 #[.agg #[.int .i64 K, .int .i64 R, .int .i64 M, .int .i64 C, .int .i64 Fl, .int .i64 A, .slice a n cap], .agg #[.int .i64 pw, .int .i64 pq, .int .i64 pc, .int .i64 ps, .int .i64 pb, .float .f64 pr, .int .i64 pp, .int .i64 pn]] W fun e w' => e = .returned (.int .i64 fe0) ∧ Below W.heap.size W w') := fun W hW => by
        have q := checkFlow_any K R M C Fl A a n cap G pw pq pc ps pb pr pp pn W (HN.out.go (bc_go S4.out.bel hW))
        rw [HFE0.out] at q
        exact q
      have x0 := fun p : BW w6 => p.cel (S4.out.cel gc 0 (.int .i64 K))
      have x1 := fun p : BW w6 => p.cel (S4.out.cel gc 1 (.int .i64 R))
      have x2 := fun p : BW w6 => p.cel (S4.out.cel gc 2 (.int .i64 M))
      have x3 := fun p : BW w6 => p.cel (S4.out.cel gc 3 (.int .i64 C))
      have x4 := fun p : BW w6 => p.cel (S4.out.cel gc 4 (.int .i64 Fl))
      have x5 := fun p : BW w6 => p.cel (S4.out.cel gc 5 (.int .i64 A))
      have x6 := fun p : BW w6 => p.cel (S4.out.cel gc 6 (.slice a n cap))
      have y0 := fun p : BW w6 => p.cel (S4.out.cel gp 0 (.int .i64 pw))
      have y1 := fun p : BW w6 => p.cel (S4.out.cel gp 1 (.int .i64 pq))
      have y2 := fun p : BW w6 => p.cel (S4.out.cel gp 2 (.int .i64 pc))
      have y3 := fun p : BW w6 => p.cel (S4.out.cel gp 3 (.int .i64 ps))
      have y4 := fun p : BW w6 => p.cel (S4.out.cel gp 4 (.int .i64 pb))
      have y5 := fun p : BW w6 => p.cel (S4.out.cel gp 5 (.float .f64 pr))
      have y6 := fun p : BW w6 => p.cel (S4.out.cel gp 6 (.int .i64 pp))
      have y7 := fun p : BW w6 => p.cel (S4.out.cel gp 7 (.int .i64 pn))
      have z0 := fun p : BW w6 => p.cel (S4.out.cel gd0 0 (.int .i64 K))
      have z1 := fun p : BW w6 => p.cel (S4.out.cel gd0 1 (.int .i64 R))
      have z2 := fun p : BW w6 => p.cel (S4.out.cel gd0 2 (.int .i64 M))
      have z3 := fun p : BW w6 => p.cel (S4.out.cel gd0 3 (.int .i64 C))
      have z4 := fun p : BW w6 => p.cel (S4.out.cel gd0 4 (.int .i64 Fl))
      have z5 := fun p : BW w6 => p.cel (S4.out.cel gd0 5 (.int .i64 A))
      have z6 := fun p : BW w6 => p.cel (S4.out.cel gd0 6 (.slice aw n cw))
      go_upto_region 7 with fail
      haveI hne : Nonempty (BW w6) := ⟨⟨w6, bel_refl w6⟩⟩
      refine wp_region_quiet_bel (by kernel_rfl) (by kernel_rfl) ?_
      repeat (quiet_step (first
        | (go_at_call 11; exact calls_still (num9_any _ _))
        | (go_at_call 23; exact calls_bel (SM0.out _ (BW.bel _)))
        | (go_at_call 16; exact calls_bel (CF0.out _ (BW.bel _)))))
      refine wpQuiet_nil ?_
      intro w7 hw9
      obtain ⟨p9, hp9⟩ := hw9
      have hb7 := p9.bel
      rw [← hp9] at hb7
      clear hp9 p9 hne
      have S5 : Hid _ := S4.out.go hb7
      have Z5 : Hid (w7.heap[gp]? = some (.cells #[.int .i64 pw, .int .i64 pq, .int .i64 pc, .int .i64 ps, .int .i64 pb, .float .f64 pr, .int .i64 pp, .int .i64 pn] 27)) := (hb7.block _ (Array.getElem?_eq_some_iff.1 Z4.out).1).trans Z4.out
      clear hb7 S4 Z4 SM0 CF0 HW4
      clear x0 x1 x2 x3 x4 x5 x6
      clear y0 y1 y2 y3 y4 y5 y6 y7
      clear z0 z1 z2 z3 z4 z5 z6
      have x0 := S5.out.cel gc 0 (.int .i64 K)
      have x1 := S5.out.cel gc 1 (.int .i64 R)
      have x2 := S5.out.cel gc 2 (.int .i64 M)
      have x3 := S5.out.cel gc 3 (.int .i64 C)
      have x4 := S5.out.cel gc 4 (.int .i64 Fl)
      have x5 := S5.out.cel gc 5 (.int .i64 A)
      have x6 := S5.out.cel gc 6 (.slice a n cap)
      have HXZ : Hid (xs.size ≤ 9223372036854775807) := by
        show _ ≤ _
        by_cases q : fe0 = 0
        · obtain ⟨kk, ll, hkk, hll, hxe⟩ := HX1.out q
          rw [hxe]
          exact flowS_sz K R M C Fl A G n pw pq pc ps pb pr pp pn _ _ HP.out.u (HFE0.out.trans q) HP.out.w6 hkk hll
        · rw [HX0.out q]
          decide
      obtain ⟨E0, hE0⟩ : ∃ E, pfE (checkE K R M C Fl A G n) (fun b0 b1 b2 b3 b4 bu b5 b6 => flowE K R M C Fl A G n b0 b1 b2 b3 b4 bu b5 b6) xs = E := ⟨_, rfl⟩
      have HE0 : Hid _ := hE0
      clear hE0
      go_wp2_with fail
      refine (parseFlow_any K R M C Fl A a n cap G xs E0 _ (HN.out.go S5.out.bel) HXZ.out (HV.out.go S5.out.bel).ev (HV.out.go S5.out.bel).kn (HV.out.go S5.out.bel).tab HE0.out).mono ?_
      rintro e w8 ⟨rfl, hb8⟩
      obtain ⟨q0, hq0⟩ : ∃ x, pfV E0 xs 0 = x := ⟨_, rfl⟩
      obtain ⟨q1, hq1⟩ : ∃ x, pfV E0 xs 1 = x := ⟨_, rfl⟩
      obtain ⟨q2, hq2⟩ : ∃ x, pfV E0 xs 2 = x := ⟨_, rfl⟩
      obtain ⟨q3, hq3⟩ : ∃ x, pfV E0 xs 3 = x := ⟨_, rfl⟩
      obtain ⟨q4, hq4⟩ : ∃ x, pfV E0 xs 4 = x := ⟨_, rfl⟩
      obtain ⟨q5, hq5⟩ : ∃ x, pfV E0 xs 5 = x := ⟨_, rfl⟩
      obtain ⟨q6, hq6⟩ : ∃ x, pfV E0 xs 6 = x := ⟨_, rfl⟩
      obtain ⟨qu, hqu⟩ : ∃ x, pfU E0 xs = x := ⟨_, rfl⟩
      rw [hq0, hq1, hq2, hq3, hq4, hq5, hq6, hqu]
      have HQQ : Hid (pfV E0 xs 0 = q0 ∧ pfV E0 xs 1 = q1 ∧ pfV E0 xs 2 = q2 ∧ pfV E0 xs 3 = q3 ∧ pfV E0 xs 4 = q4 ∧ pfU E0 xs = qu ∧ pfV E0 xs 5 = q5 ∧ pfV E0 xs 6 = q6) := ⟨hq0, hq1, hq2, hq3, hq4, hqu, hq5, hq6⟩
      have S6 : Hid _ := (S5.out.go hb8).box8 (.int .i64 q0) (.int .i64 q1) (.int .i64 q2) (.int .i64 q3) (.int .i64 q4) (.float .f64 qu) (.int .i64 q5) (.int .i64 q6) 27 _ rfl
      have Z6 : Hid ((w8.alloc (.cells #[.int .i64 q0, .int .i64 q1, .int .i64 q2, .int .i64 q3, .int .i64 q4, .float .f64 qu, .int .i64 q5, .int .i64 q6] 27)).heap[gp]? = some (.cells #[.int .i64 pw, .int .i64 pq, .int .i64 pc, .int .i64 ps, .int .i64 pb, .float .f64 pr, .int .i64 pp, .int .i64 pn] 27)) := by
        have q := (hb8.block _ (Array.getElem?_eq_some_iff.1 Z5.out).1).trans Z5.out
        exact ((bc_al (bel_refl w8)).block _ (Array.getElem?_eq_some_iff.1 q).1).trans q
      obtain ⟨gq0, egq⟩ : ∃ g, g = w8.heap.size := ⟨_, rfl⟩
      rw [← egq] at S6
      have ngq : gq0 ≠ gp := by
        have q := (hb8.block _ (Array.getElem?_eq_some_iff.1 Z5.out).1).trans Z5.out
        have q2 := (Array.getElem?_eq_some_iff.1 q).1
        omega
      have HNG : Hid _ := ngq
      obtain ⟨w9, hw9⟩ : ∃ W, W = w8.alloc (.cells #[.int .i64 q0, .int .i64 q1, .int .i64 q2, .int .i64 q3, .int .i64 q4, .float .f64 qu, .int .i64 q5, .int .i64 q6] 27) := ⟨_, rfl⟩
      rw [← hw9] at S6 Z6
      clear hb8 hq0 hq1 hq2 hq3 hq4 hq5 hq6 hqu S5 Z5 ngq
      clear x0 x1 x2 x3 x4 x5 x6
      go_wp2_with (refine (id ?_ : wpList Tryz.prog _ _ (⟨some 80, _, _, _, _, _⟩ :: _) _ _); rw [← hw9, ← egq]; clear hw9 egq; refine hold9 ?_)
      intro _
      obtain ⟨rr, kd, hrun, hrr⟩ := fadd_run pr w9
      have HRR : Hid _ := hrr
      have B2 : Hid (Bx1 w9 (w9.drewN kd) gp 27 #[.int .i64 pw, .int .i64 pq, .int .i64 pc, .int .i64 ps, .int .i64 pb, .float .f64 pr, .int .i64 pp, .int .i64 pn]) := ⟨Z6.out, fun _ _ => rfl, rfl, rfl, rfl, rfl⟩
      have y5 := S6.out.cel gp 5 (.float .f64 pr)
      have hP := Z6.out
      have fy : w9.frozen? ⟨gp, 5, none⟩ = false := by simp [World.frozen?, hP]
      clear hP hrr
      go_wp2_with fail
      refine calls_as (fun W => Bx1 w9 W gp 27 #[.int .i64 pw, .int .i64 pq, .int .i64 pc, .int .i64 ps, .int .i64 pb, .float .f64 rr, .int .i64 pp, .int .i64 pn]) (B2.out.set 5 (.float .f64 rr)) ?_
      intro w10 B4
      have WT : Hid (Below w.heap.size w w10) := by
        have q := S6.out.bel
        exact ⟨B4.os.trans q.os, B4.tape.trans q.tape, B4.output.trans q.output, by rw [B4.size]; exact q.size, fun k hk => (B4.ot k (by have := HG.out.2.1; omega)).trans (q.block k hk)⟩
      clear y5 fy hrun
      by_cases cf : fe0 = 0
      · subst cf
        obtain ⟨kk, ll, hkk, hll, hxe⟩ := HX1.out rfl
        obtain ⟨o0, o1, o2, o3, o4, o5, o6, o7, o8⟩ := pf_back K R M C Fl A G n pw pq pc ps pb pr pp pn kk ll xs HP.out.u HFE0.out HP.out.w6 hkk hll hxe
        have eE : E0 = 0 := by rw [← HE0.out]; exact o0
        subst eE
        obtain ⟨r0, r1, r2, r3, r4, r5, r6, r7⟩ := HQQ.out
        have er := (HRR.out _ (add_nought (rate_bits HP.out.u (flowE_zero HFE0.out).2.2.2.2.2.2.2.1))).1
        rw [o1] at r0; rw [o2] at r1; rw [o3] at r2; rw [o4] at r3; rw [o5] at r4; rw [o6] at r5; rw [o7] at r6; rw [o8] at r7
        rw [← er] at r5
        subst r0 r1 r2 r3 r4 r5 r6 r7
        have hP := B4.hc
        have hQ : ∀ (i : Nat) (v : Value), w9.cell? ⟨gq0, i, none⟩ = some v → w10.cell? ⟨gq0, i, none⟩ = some v := fun i v h => (World.cell?_of_block (w := w9) (B4.ot gq0 HNG.out)).trans h
        have y0 : w10.cell? ⟨gp, 0, none⟩ = some (.int .i64 pw) := by simp [World.cell?, hP]
        have y1 : w10.cell? ⟨gp, 1, none⟩ = some (.int .i64 pq) := by simp [World.cell?, hP]
        have y2 : w10.cell? ⟨gp, 2, none⟩ = some (.int .i64 pc) := by simp [World.cell?, hP]
        have y3 : w10.cell? ⟨gp, 3, none⟩ = some (.int .i64 ps) := by simp [World.cell?, hP]
        have y4 : w10.cell? ⟨gp, 4, none⟩ = some (.int .i64 pb) := by simp [World.cell?, hP]
        have y5 : w10.cell? ⟨gp, 5, none⟩ = some (.float .f64 rr) := by simp [World.cell?, hP]
        have y6 : w10.cell? ⟨gp, 6, none⟩ = some (.int .i64 pp) := by simp [World.cell?, hP]
        have y7 : w10.cell? ⟨gp, 7, none⟩ = some (.int .i64 pn) := by simp [World.cell?, hP]
        have z0 := hQ 0 _ (S6.out.cel gq0 0 (.int .i64 pw))
        have z1 := hQ 1 _ (S6.out.cel gq0 1 (.int .i64 pq))
        have z2 := hQ 2 _ (S6.out.cel gq0 2 (.int .i64 pc))
        have z3 := hQ 3 _ (S6.out.cel gq0 3 (.int .i64 ps))
        have z4 := hQ 4 _ (S6.out.cel gq0 4 (.int .i64 pb))
        have z5 := hQ 5 _ (S6.out.cel gq0 5 (.float .f64 rr))
        have z6 := hQ 6 _ (S6.out.cel gq0 6 (.int .i64 pp))
        have z7 := hQ 7 _ (S6.out.cel gq0 7 (.int .i64 pn))
        clear hP hQ B4 o0 o1 o2 o3 o4 o5 o6 o7 o8 hkk hll hxe er
        refine (num9_any 0 _).mono ?_
        rintro e w11 ⟨rfl, rfl⟩
        go_wp2_with fail
        refine (num9_any 0 _).mono ?_
        rintro e w12 ⟨rfl, rfl⟩
        go_wp2_with fail
        refine (lsame_true pw pq pc ps pb rr pp pn _).mono ?_
        rintro e w13 ⟨rfl, hb13⟩
        replace WT : Hid (Below w.heap.size w w13) := bc_go WT.out hb13
        clear hb13 HX0 HX1 HE0 HQQ S6 Z6 B2 HRR HFE0 HXZ
        clear y0 y1 y2 y3 y4 y5 y6 y7
        clear z0 z1 z2 z3 z4 z5 z6 z7
        go_wp2_with fail
        go_meet
        case rel => exact WT
      · have d0 : (fe0 == 0) = false := by simpa using cf
        clear B4
        refine (num9_any fe0 _).mono ?_
        rintro e w11 ⟨rfl, rfl⟩
        clear HX0 HX1 HE0 HQQ S6 Z6 B2 HRR HFE0 HXZ
        go_wp2_with fail
        go_meet
        case rel => exact WT
    · have d0 : (ce == 0) = false := by simpa using c0
      have WT : Hid (Below w.heap.size w w2) := bc_go S1.out.bel hb2
      clear hb2 S1 Z1
      go_wp2_with fail
      go_meet
      case rel => exact WT
  case rest =>
    have WT : Hid _ := hcut.out
    clear hcut S1 Z1 hb2 HCE HUS0 HP HN HG
    go_wp2_with fail
    refine (cparse_any s _ HSZ.out.1 (HV.out.go WT.out).ev (HV.out.go WT.out).kn).mono ?_
    rintro e w20 ⟨vd, rfl, hN20, hb20⟩
    obtain ⟨ad, cd, evd, _, _⟩ := Nr.sl hN20
    subst evd
    have hns := nsl_nr hN20 (prN_in s)
    obtain ⟨pe, hpe⟩ : ∃ x, prE s = x := ⟨_, rfl⟩
    obtain ⟨nd, hnd⟩ : ∃ x, (prN s).length = x := ⟨_, rfl⟩
    obtain ⟨GD, hGD⟩ : ∃ x, gOf (prN s) = x := ⟨_, rfl⟩
    obtain ⟨k0, hk0⟩ : ∃ x, prI s 0 = x := ⟨_, rfl⟩
    obtain ⟨k1, hk1⟩ : ∃ x, prI s 1 = x := ⟨_, rfl⟩
    obtain ⟨k2, hk2⟩ : ∃ x, prI s 2 = x := ⟨_, rfl⟩
    obtain ⟨k3, hk3⟩ : ∃ x, prI s 3 = x := ⟨_, rfl⟩
    obtain ⟨k4, hk4⟩ : ∃ x, prI s 4 = x := ⟨_, rfl⟩
    obtain ⟨k5, hk5⟩ : ∃ x, prI s 5 = x := ⟨_, rfl⟩
    have HMAY : Hid (pe = 0 → checkE k0 k1 k2 k3 k4 k5 GD nd = 0) := fun h => by rw [← hk0, ← hk1, ← hk2, ← hk3, ← hk4, ← hk5, ← hGD, ← hnd]; exact pr_may (hpe.trans h)
    have HZER : Hid (pe ≠ 0 → k0 = 0 ∧ k1 = 0 ∧ k2 = 0 ∧ k3 = 0 ∧ k4 = 0 ∧ k5 = 0 ∧ nd = 0) := fun h => by
      have q : ¬ prE s = 0 := fun e => h (hpe.symm.trans e)
      rw [← hk0, ← hk1, ← hk2, ← hk3, ← hk4, ← hk5, ← hnd]
      simp [prI, prN, q]
    have HGI : Hid (∀ i j, i < nd → j < 4 → In64p (GD i j)) := by rw [← hGD, ← hnd]; exact gOf_in (prN_in s)
    rw [hpe, hnd, hk0, hk1, hk2, hk3, hk4, hk5]
    rw [hGD, hnd] at hns
    have HD : Hid (NSl w20 ad nd cd GD) := hns.2
    have W20 : Hid (Below w.heap.size w w20) := bc_go WT.out hb20
    clear hN20 hns hb20 hpe hnd hGD hk0 hk1 hk2 hk3 hk4 hk5
    have ln0 : nd ≤ 9223372036854775807 := Nat.le_trans HD.out.le HD.out.lim
    obtain ⟨gd, egd⟩ : ∃ g, g = w20.heap.size := ⟨_, rfl⟩
    have HEGD : Hid _ := egd
    clear egd
    by_cases cpe : pe = 0
    · subst cpe
      have HCD : Hid _ := HMAY.out rfl
      clear HMAY HZER
      go_wp2_with fail
      refine (num9_any 0 _).mono ?_
      rintro e w21 ⟨rfl, rfl⟩
      rw [← HEGD.out]
      have T1 : Hid _ := (Ce.mk (fun _ h => by cases h) W20.out : Ce w w20 []).box7 (.int .i64 k0) (.int .i64 k1) (.int .i64 k2) (.int .i64 k3) (.int .i64 k4) (.int .i64 k5) (.slice ad nd cd) 24 gd HEGD.out
      obtain ⟨w22, hw22⟩ : ∃ W, W = w20.alloc (.cells #[.int .i64 k0, .int .i64 k1, .int .i64 k2, .int .i64 k3, .int .i64 k4, .int .i64 k5, .slice ad nd cd] 24) := ⟨_, rfl⟩
      rw [← hw22]
      rw [← hw22] at T1
      have HD1 : Hid (NSl w22 ad nd cd GD) := by show NSl _ _ _ _ _; rw [hw22]; exact HD.out.go (bc_al (bel_refl w20))
      clear hw22
      have x0 := T1.out.cel gd 0 (.int .i64 k0)
      have x1 := T1.out.cel gd 1 (.int .i64 k1)
      have x2 := T1.out.cel gd 2 (.int .i64 k2)
      have x3 := T1.out.cel gd 3 (.int .i64 k3)
      have x4 := T1.out.cel gd 4 (.int .i64 k4)
      have x5 := T1.out.cel gd 5 (.int .i64 k5)
      have x6 := T1.out.cel gd 6 (.slice ad nd cd)
      go_wp2_with fail
      refine (print_any k0 k1 k2 k3 k4 k5 ad nd cd GD _ HD1.out (HV.out.go T1.out.bel)).mono ?_
      rintro e w23 ⟨rfl, hb23⟩
      have HPR : Hid (priS k0 k1 k2 k3 k4 k5 GD nd = confS k0 k1 k2 k3 k4 k5 GD nd) := by show _ = _; unfold priS; rw [if_pos HCD.out]
      rw [HPR.out, HCD.out]
      have T2 : Hid _ := T1.out.go hb23
      have HD2 : Hid _ := HD1.out.go hb23
      have hbk := pr_back k0 k1 k2 k3 k4 k5 GD nd HCD.out HGI.out
      obtain ⟨us, hus⟩ : ∃ x, confS k0 k1 k2 k3 k4 k5 GD nd = x := ⟨_, rfl⟩
      rw [hus] at hbk
      rw [hus]
      have HUS : Hid (us.size ≤ 9223372036854775807) := by show _ ≤ _; rw [← hus]; exact confS_sz k0 k1 k2 k3 k4 k5 GD nd HCD.out HGI.out
      have HBK : Hid _ := hbk
      clear hus hbk hb23 T1 HD1 HPR
      clear x0 x1 x2 x3 x4 x5 x6
      go_wp2_with fail
      refine (cparse_any us _ HUS.out (HV.out.go T2.out.bel).ev (HV.out.go T2.out.bel).kn).mono ?_
      rintro e w24 ⟨vw, rfl, hN24, hb24⟩
      obtain ⟨aw, cw, evw, _, _⟩ := Nr.sl hN24
      subst evw
      have hns := nsl_nr hN24 (prN_in us)
      obtain ⟨z0, z1, z2, z3, z4, z5, z6, zn, zg⟩ := HBK.out
      rw [zn] at hns
      rw [z0, z1, z2, z3, z4, z5, z6, zn]
      have HW : Hid _ := hns.2
      have HZG : Hid _ := zg
      have T3 : Hid _ := (T2.out.go hb24).box7 (.int .i64 k0) (.int .i64 k1) (.int .i64 k2) (.int .i64 k3) (.int .i64 k4) (.int .i64 k5) (.slice aw nd cw) 24 _ rfl
      have HD3 : Hid _ := (HD2.out.go hb24).go (bc_al (o := .cells #[.int .i64 k0, .int .i64 k1, .int .i64 k2, .int .i64 k3, .int .i64 k4, .int .i64 k5, .slice aw nd cw] 24) (bel_refl _))
      have HW3 : Hid _ := HW.out.go (bc_al (o := .cells #[.int .i64 k0, .int .i64 k1, .int .i64 k2, .int .i64 k3, .int .i64 k4, .int .i64 k5, .slice aw nd cw] 24) (bel_refl _))
      obtain ⟨gw, egw⟩ : ∃ g, g = w24.heap.size := ⟨_, rfl⟩
      rw [← egw] at T3
      obtain ⟨w25, hw25⟩ : ∃ W, W = w24.alloc (.cells #[.int .i64 k0, .int .i64 k1, .int .i64 k2, .int .i64 k3, .int .i64 k4, .int .i64 k5, .slice aw nd cw] 24) := ⟨_, rfl⟩
      rw [← hw25] at T3 HD3 HW3
      clear hns zg z0 z1 z2 z3 z4 z5 z6 zn hN24 hb24 HW HD2 T2
      go_wp2_with (refine (id ?_ : wpList Tryz.prog _ _ (⟨some 123, _, _, _, _, _⟩ :: _) _ _); rw [← hw25, ← egw]; clear hw25 egw; refine hold9 ?_)
      intro _
      have x0 := T3.out.cel gd 0 (.int .i64 k0)
      have x1 := T3.out.cel gd 1 (.int .i64 k1)
      have x2 := T3.out.cel gd 2 (.int .i64 k2)
      have x3 := T3.out.cel gd 3 (.int .i64 k3)
      have x4 := T3.out.cel gd 4 (.int .i64 k4)
      have x5 := T3.out.cel gd 5 (.int .i64 k5)
      have x6 := T3.out.cel gd 6 (.slice ad nd cd)
      obtain ⟨E, hE⟩ : ∃ E, pfE (checkE k0 k1 k2 k3 k4 k5 GD nd) (fun b0 b1 b2 b3 b4 bu b5 b6 => flowE k0 k1 k2 k3 k4 k5 GD nd b0 b1 b2 b3 b4 bu b5 b6) t = E := ⟨_, rfl⟩
      have HE : Hid _ := hE
      clear hE
      go_wp2_with fail
      refine (parseFlow_any k0 k1 k2 k3 k4 k5 ad nd cd GD t E _ HD3.out HSZ.out.2 (HV.out.go T3.out.bel).ev (HV.out.go T3.out.bel).kn (HV.out.go T3.out.bel).tab HE.out).mono ?_
      rintro e w26 ⟨rfl, hb26⟩
      obtain ⟨q0, hq0⟩ : ∃ x, pfV E t 0 = x := ⟨_, rfl⟩
      obtain ⟨q1, hq1⟩ : ∃ x, pfV E t 1 = x := ⟨_, rfl⟩
      obtain ⟨q2, hq2⟩ : ∃ x, pfV E t 2 = x := ⟨_, rfl⟩
      obtain ⟨q3, hq3⟩ : ∃ x, pfV E t 3 = x := ⟨_, rfl⟩
      obtain ⟨q4, hq4⟩ : ∃ x, pfV E t 4 = x := ⟨_, rfl⟩
      obtain ⟨q5, hq5⟩ : ∃ x, pfV E t 5 = x := ⟨_, rfl⟩
      obtain ⟨q6, hq6⟩ : ∃ x, pfV E t 6 = x := ⟨_, rfl⟩
      obtain ⟨qu, hqu⟩ : ∃ x, pfU E t = x := ⟨_, rfl⟩
      have HQI : Hid (In64p q0 ∧ In64p q1 ∧ In64p q2 ∧ In64p q3 ∧ In64p q4 ∧ In64p q5 ∧ In64p q6 ∧ qu < 9223372036854775808) := by
        rw [← hq0, ← hq1, ← hq2, ← hq3, ← hq4, ← hq5, ← hq6, ← hqu]
        exact ⟨pfV_in _ _ _, pfV_in _ _ _, pfV_in _ _ _, pfV_in _ _ _, pfV_in _ _ _, pfV_in _ _ _, pfV_in _ _ _, pfU_lt _ _⟩
      have HFE : Hid ((E = 0 ↔ flowE k0 k1 k2 k3 k4 k5 GD nd q0 q1 q2 q3 q4 qu q5 q6 = 0)) := by
        rw [← hq0, ← hq1, ← hq2, ← hq3, ← hq4, ← hq5, ← hq6, ← hqu]
        refine ⟨fun h => ?_, fun h => ?_⟩
        · have q := HE.out
          rw [h] at q
          rw [h]
          exact pf_may q
        · by_cases c : E = 0
          · exact c
          · have e0 : pfV E t 0 = 0 := by unfold pfV; rw [if_neg c]
            rw [e0] at h
            exact absurd h (flow_zero _ _ _ _ _ _ _ _ _ _ _ _ _ _ _)
      rw [hq0, hq1, hq2, hq3, hq4, hq5, hq6, hqu]
      have T4 : Hid _ := (T3.out.go hb26).box8 (.int .i64 q0) (.int .i64 q1) (.int .i64 q2) (.int .i64 q3) (.int .i64 q4) (.float .f64 qu) (.int .i64 q5) (.int .i64 q6) 27 _ rfl
      have HD4 : Hid _ := (HD3.out.go hb26).go (bc_al (o := .cells #[.int .i64 q0, .int .i64 q1, .int .i64 q2, .int .i64 q3, .int .i64 q4, .float .f64 qu, .int .i64 q5, .int .i64 q6] 27) (bel_refl _))
      have HW4 : Hid _ := (HW3.out.go hb26).go (bc_al (o := .cells #[.int .i64 q0, .int .i64 q1, .int .i64 q2, .int .i64 q3, .int .i64 q4, .float .f64 qu, .int .i64 q5, .int .i64 q6] 27) (bel_refl _))
      obtain ⟨gq, egq⟩ : ∃ g, g = w26.heap.size := ⟨_, rfl⟩
      rw [← egq] at T4
      obtain ⟨w27, hw27⟩ : ∃ W, W = w26.alloc (.cells #[.int .i64 q0, .int .i64 q1, .int .i64 q2, .int .i64 q3, .int .i64 q4, .float .f64 qu, .int .i64 q5, .int .i64 q6] 27) := ⟨_, rfl⟩
      rw [← hw27] at T4 HD4 HW4
      clear hb26 hq0 hq1 hq2 hq3 hq4 hq5 hq6 hqu HE T3 HD3 HW3
      clear x0 x1 x2 x3 x4 x5 x6
      go_upto_region 19 with fail
      rw [← hw27, ← egq]
      clear hw27 egq
      obtain ⟨fe, hfe⟩ : ∃ x, flowE k0 k1 k2 k3 k4 k5 GD nd q0 q1 q2 q3 q4 qu q5 q6 = x := ⟨_, rfl⟩
      rw [hfe] at HFE
      have HF : Hid _ := hfe
      clear hfe
      have SM : Hid (∀ W, Below w27.heap.size w27 W → Calls Tryz.prog 23 #[.agg #[.int .i64 k0, .int .i64 k1, .int .i64 k2, .int .i64 k3, .int .i64 k4, .int .i64 k5, .slice aw nd cw], .agg #[.int .i64 k0, .int .i64 k1, .int .i64 k2, .int .i64 k3, .int .i64 k4, .int .i64 k5, .slice ad nd cd]] W fun e w' => e = .returned (.bool true) ∧ Below W.heap.size W w') := fun W hW => by
        classical
        exact same_any k0 k1 k2 k3 k4 k5 aw nd cw _ k0 k1 k2 k3 k4 k5 ad nd cd GD true W (HW4.out.go hW) (HD4.out.go hW) (decide_eq_true ⟨rfl, rfl, rfl, rfl, rfl, rfl, rfl, HZG.out⟩)
      have CK : Hid (∀ W, Below w27.heap.size w27 W → Calls Tryz.prog 12 #[.agg #[.int .i64 k0, .int .i64 k1, .int .i64 k2, .int .i64 k3, .int .i64 k4, .int .i64 k5, .slice ad nd cd]] W fun e w' => e = .returned (.int .i64 0) ∧ Below W.heap.size W w') := fun W hW => by
        have q := check_any k0 k1 k2 k3 k4 k5 ad nd cd GD W (HD4.out.go hW)
        rw [HCD.out] at q
        exact q
      have CF : Hid (∀ W, Below w27.heap.size w27 W → Calls Tryz.prog 16 #[.agg #[.int .i64 k0, .int .i64 k1, .int .i64 k2, .int .i64 k3, .int .i64 k4, .int .i64 k5, .slice ad nd cd], .agg #[.int .i64 q0, .int .i64 q1, .int .i64 q2, .int .i64 q3, .int .i64 q4, .float .f64 qu, .int .i64 q5, .int .i64 q6]] W fun e w' => e = .returned (.int .i64 fe) ∧ Below W.heap.size W w') := fun W hW => by
        have q := checkFlow_any k0 k1 k2 k3 k4 k5 ad nd cd GD q0 q1 q2 q3 q4 qu q5 q6 W (HD4.out.go hW)
        rw [HF.out] at q
        exact q
      have x0 := fun p : BW w27 => p.cel (T4.out.cel gd 0 (.int .i64 k0))
      have x1 := fun p : BW w27 => p.cel (T4.out.cel gd 1 (.int .i64 k1))
      have x2 := fun p : BW w27 => p.cel (T4.out.cel gd 2 (.int .i64 k2))
      have x3 := fun p : BW w27 => p.cel (T4.out.cel gd 3 (.int .i64 k3))
      have x4 := fun p : BW w27 => p.cel (T4.out.cel gd 4 (.int .i64 k4))
      have x5 := fun p : BW w27 => p.cel (T4.out.cel gd 5 (.int .i64 k5))
      have x6 := fun p : BW w27 => p.cel (T4.out.cel gd 6 (.slice ad nd cd))
      have y0 := fun p : BW w27 => p.cel (T4.out.cel gw 0 (.int .i64 k0))
      have y1 := fun p : BW w27 => p.cel (T4.out.cel gw 1 (.int .i64 k1))
      have y2 := fun p : BW w27 => p.cel (T4.out.cel gw 2 (.int .i64 k2))
      have y3 := fun p : BW w27 => p.cel (T4.out.cel gw 3 (.int .i64 k3))
      have y4 := fun p : BW w27 => p.cel (T4.out.cel gw 4 (.int .i64 k4))
      have y5 := fun p : BW w27 => p.cel (T4.out.cel gw 5 (.int .i64 k5))
      have y6 := fun p : BW w27 => p.cel (T4.out.cel gw 6 (.slice aw nd cw))
      have z0 := fun p : BW w27 => p.cel (T4.out.cel gq 0 (.int .i64 q0))
      have z1 := fun p : BW w27 => p.cel (T4.out.cel gq 1 (.int .i64 q1))
      have z2 := fun p : BW w27 => p.cel (T4.out.cel gq 2 (.int .i64 q2))
      have z3 := fun p : BW w27 => p.cel (T4.out.cel gq 3 (.int .i64 q3))
      have z4 := fun p : BW w27 => p.cel (T4.out.cel gq 4 (.int .i64 q4))
      have z5 := fun p : BW w27 => p.cel (T4.out.cel gq 5 (.float .f64 qu))
      have z6 := fun p : BW w27 => p.cel (T4.out.cel gq 6 (.int .i64 q5))
      have z7 := fun p : BW w27 => p.cel (T4.out.cel gq 7 (.int .i64 q6))
      by_cases cE : E = 0
      · subst cE
        have f0 : fe = 0 := HFE.out.1 rfl
        subst f0
        haveI hne : Nonempty (BW w27) := ⟨⟨w27, bel_refl w27⟩⟩
        refine wp_region_quiet_bel (by kernel_rfl) (by kernel_rfl) ?_
        repeat (quiet_step (first
          | (go_at_call 11; exact calls_still (num9_any _ _))
          | (go_at_call 23; exact calls_bel (SM.out _ (BW.bel _)))
          | (go_at_call 16; exact calls_bel (CF.out _ (BW.bel _)))
          | (go_at_call 12; exact calls_bel (CK.out _ (BW.bel _)))))
        refine wpQuiet_nil ?_
        intro w28 hw9
        obtain ⟨p9, hp9⟩ := hw9
        have hb28 := p9.bel
        rw [← hp9] at hb28
        clear hp9 p9 hne
        clear x0 x1 x2 x3 x4 x5 x6
        clear y0 y1 y2 y3 y4 y5 y6
        clear z0 z1 z2 z3 z4 z5 z6 z7
        have T5 : Hid _ := T4.out.go hb28
        have HD5 : Hid _ := HD4.out.go hb28
        clear hb28 SM CK CF
        have x0 := T5.out.cel gd 0 (.int .i64 k0)
        have x1 := T5.out.cel gd 1 (.int .i64 k1)
        have x2 := T5.out.cel gd 2 (.int .i64 k2)
        have x3 := T5.out.cel gd 3 (.int .i64 k3)
        have x4 := T5.out.cel gd 4 (.int .i64 k4)
        have x5 := T5.out.cel gd 5 (.int .i64 k5)
        have x6 := T5.out.cel gd 6 (.slice ad nd cd)
        have z0 := T5.out.cel gq 0 (.int .i64 q0)
        have z1 := T5.out.cel gq 1 (.int .i64 q1)
        have z2 := T5.out.cel gq 2 (.int .i64 q2)
        have z3 := T5.out.cel gq 3 (.int .i64 q3)
        have z4 := T5.out.cel gq 4 (.int .i64 q4)
        have z5 := T5.out.cel gq 5 (.float .f64 qu)
        have z6 := T5.out.cel gq 6 (.int .i64 q5)
        have z7 := T5.out.cel gq 7 (.int .i64 q6)
        go_wp2_with fail
        refine (printFlow_any k0 k1 k2 k3 k4 k5 ad nd cd GD q0 q1 q2 q3 q4 qu q5 q6 _ HD5.out (HV.out.go T5.out.bel).tab (HV.out.go T5.out.bel).pow (by have := HQI.out.2.2.2.2.2.2.2; omega) (set5 HQI.out.1 HQI.out.2.1 HQI.out.2.2.1 HQI.out.2.2.2.1 HQI.out.2.2.2.2.1) (set2 HQI.out.2.2.2.2.2.1 HQI.out.2.2.2.2.2.2.1)).mono ?_
        rintro e w29 ⟨xs, rfl, hb29, hxs0, hxs1⟩
        rw [HF.out] at hxs0 hxs1
        rw [HF.out]
        have T6 : Hid _ := T5.out.go hb29
        have HD6 : Hid _ := HD5.out.go hb29
        obtain ⟨kk, ll, hkk, hll, hxe⟩ := hxs1 rfl
        obtain ⟨o0, o1, o2, o3, o4, o5, o6, o7, o8⟩ := pf_back k0 k1 k2 k3 k4 k5 GD nd q0 q1 q2 q3 q4 qu q5 q6 kk ll xs (by have := HQI.out.2.2.2.2.2.2.2; omega) HF.out HQI.out.2.2.2.2.2.2.1 hkk hll hxe
        have e63 : qu % 9223372036854775808 = qu := Nat.mod_eq_of_lt HQI.out.2.2.2.2.2.2.2
        rw [e63] at o6
        have HPB : Hid _ := o0
        have HPV : Hid _ := And.intro o1 (And.intro o2 (And.intro o3 (And.intro o4 (And.intro o5 (And.intro o6 (And.intro o7 o8))))))
        have HXZ : Hid (xs.size ≤ 9223372036854775807) := by show _ ≤ _; rw [hxe]; exact flowS_sz _ _ _ _ _ _ _ _ _ _ _ _ _ _ _ _ _ _ (by have := HQI.out.2.2.2.2.2.2.2; omega) HF.out HQI.out.2.2.2.2.2.2.1 hkk hll
        clear o0 o1 o2 o3 o4 o5 o6 o7 o8 hkk hll hxe e63 hxs0 hxs1 hb29 T5 HD5
        clear x0 x1 x2 x3 x4 x5 x6
        clear z0 z1 z2 z3 z4 z5 z6 z7
        have x0 := T6.out.cel gd 0 (.int .i64 k0)
        have x1 := T6.out.cel gd 1 (.int .i64 k1)
        have x2 := T6.out.cel gd 2 (.int .i64 k2)
        have x3 := T6.out.cel gd 3 (.int .i64 k3)
        have x4 := T6.out.cel gd 4 (.int .i64 k4)
        have x5 := T6.out.cel gd 5 (.int .i64 k5)
        have x6 := T6.out.cel gd 6 (.slice ad nd cd)
        go_wp2_with fail
        refine (parseFlow_any k0 k1 k2 k3 k4 k5 ad nd cd GD xs 0 _ HD6.out HXZ.out (HV.out.go T6.out.bel).ev (HV.out.go T6.out.bel).kn (HV.out.go T6.out.bel).tab HPB.out).mono ?_
        rintro e w30 ⟨rfl, hb30⟩
        obtain ⟨o1, o2, o3, o4, o5, o6, o7, o8⟩ := HPV.out
        rw [o1, o2, o3, o4, o5, o6, o7, o8]
        have T7 : Hid _ := (T6.out.go hb30).box8 (.int .i64 q0) (.int .i64 q1) (.int .i64 q2) (.int .i64 q3) (.int .i64 q4) (.float .f64 qu) (.int .i64 q5) (.int .i64 q6) 27 _ rfl
        obtain ⟨gr, egr⟩ : ∃ g, g = w30.heap.size := ⟨_, rfl⟩
        rw [← egr] at T7
        obtain ⟨w31, hw31⟩ : ∃ W, W = w30.alloc (.cells #[.int .i64 q0, .int .i64 q1, .int .i64 q2, .int .i64 q3, .int .i64 q4, .float .f64 qu, .int .i64 q5, .int .i64 q6] 27) := ⟨_, rfl⟩
        rw [← hw31] at T7
        clear o1 o2 o3 o4 o5 o6 o7 o8 hb30
        clear x0 x1 x2 x3 x4 x5 x6
        go_wp2_with fail
        rw [← hw31, ← egr]
        clear hw31 egr
        have z0 := T7.out.cel gq 0 (.int .i64 q0)
        have z1 := T7.out.cel gq 1 (.int .i64 q1)
        have z2 := T7.out.cel gq 2 (.int .i64 q2)
        have z3 := T7.out.cel gq 3 (.int .i64 q3)
        have z4 := T7.out.cel gq 4 (.int .i64 q4)
        have z5 := T7.out.cel gq 5 (.float .f64 qu)
        have z6 := T7.out.cel gq 6 (.int .i64 q5)
        have z7 := T7.out.cel gq 7 (.int .i64 q6)
        have y0 := T7.out.cel gr 0 (.int .i64 q0)
        have y1 := T7.out.cel gr 1 (.int .i64 q1)
        have y2 := T7.out.cel gr 2 (.int .i64 q2)
        have y3 := T7.out.cel gr 3 (.int .i64 q3)
        have y4 := T7.out.cel gr 4 (.int .i64 q4)
        have y5 := T7.out.cel gr 5 (.float .f64 qu)
        have y6 := T7.out.cel gr 6 (.int .i64 q5)
        have y7 := T7.out.cel gr 7 (.int .i64 q6)
        refine (num9_any 0 _).mono ?_
        rintro e w32 ⟨rfl, rfl⟩
        go_wp2_with fail
        refine (num9_any 0 _).mono ?_
        rintro e w33 ⟨rfl, rfl⟩
        go_wp2_with fail
        refine (num9_any 0 _).mono ?_
        rintro e w34 ⟨rfl, rfl⟩
        go_wp2_with fail
        refine (lsame_true q0 q1 q2 q3 q4 qu q5 q6 _).mono ?_
        rintro e w35 ⟨rfl, hb35⟩
        have W35 : Hid _ := bc_go T7.out.bel hb35
        clear hb35
        clear z0 z1 z2 z3 z4 z5 z6 z7
        clear y0 y1 y2 y3 y4 y5 y6 y7
        go_wp2_with fail
        refine (started9_any _ (HV.out.go W35.out)).mono ?_
        rintro e w99 ⟨rfl, hb99⟩
        go_wp2_with fail
        go_ret
        exact ⟨rfl, bc_go (W35.out) hb99⟩
      · have f0 : fe ≠ 0 := fun h => cE (HFE.out.2 h)
        have d1 : (E == 0) = false := by simpa using cE
        have d2 : (fe == 0) = false := by simpa using f0
        have d3 : (E != 0) = true := by simpa using cE
        haveI hne : Nonempty (BW w27) := ⟨⟨w27, bel_refl w27⟩⟩
        refine wp_region_quiet_bel (by kernel_rfl) (by kernel_rfl) ?_
        repeat (quiet_step (first
          | (go_at_call 11; exact calls_still (num9_any _ _))
          | (go_at_call 23; exact calls_bel (SM.out _ (BW.bel _)))
          | (go_at_call 16; exact calls_bel (CF.out _ (BW.bel _)))
          | (go_at_call 12; exact calls_bel (CK.out _ (BW.bel _)))))
        refine wpQuiet_nil ?_
        intro w28 hw9
        obtain ⟨p9, hp9⟩ := hw9
        have hb28 := p9.bel
        rw [← hp9] at hb28
        clear hp9 p9 hne
        clear x0 x1 x2 x3 x4 x5 x6
        clear y0 y1 y2 y3 y4 y5 y6
        clear z0 z1 z2 z3 z4 z5 z6 z7
        have T5 : Hid _ := T4.out.go hb28
        have HD5 : Hid _ := HD4.out.go hb28
        clear hb28 SM CK CF
        have x0 := T5.out.cel gd 0 (.int .i64 k0)
        have x1 := T5.out.cel gd 1 (.int .i64 k1)
        have x2 := T5.out.cel gd 2 (.int .i64 k2)
        have x3 := T5.out.cel gd 3 (.int .i64 k3)
        have x4 := T5.out.cel gd 4 (.int .i64 k4)
        have x5 := T5.out.cel gd 5 (.int .i64 k5)
        have x6 := T5.out.cel gd 6 (.slice ad nd cd)
        have z0 := T5.out.cel gq 0 (.int .i64 q0)
        have z1 := T5.out.cel gq 1 (.int .i64 q1)
        have z2 := T5.out.cel gq 2 (.int .i64 q2)
        have z3 := T5.out.cel gq 3 (.int .i64 q3)
        have z4 := T5.out.cel gq 4 (.int .i64 q4)
        have z5 := T5.out.cel gq 5 (.float .f64 qu)
        have z6 := T5.out.cel gq 6 (.int .i64 q5)
        have z7 := T5.out.cel gq 7 (.int .i64 q6)
        go_wp2_with fail
        refine (printFlow_any k0 k1 k2 k3 k4 k5 ad nd cd GD q0 q1 q2 q3 q4 qu q5 q6 _ HD5.out (HV.out.go T5.out.bel).tab (HV.out.go T5.out.bel).pow (by have := HQI.out.2.2.2.2.2.2.2; omega) (set5 HQI.out.1 HQI.out.2.1 HQI.out.2.2.1 HQI.out.2.2.2.1 HQI.out.2.2.2.2.1) (set2 HQI.out.2.2.2.2.2.1 HQI.out.2.2.2.2.2.2.1)).mono ?_
        rintro e w29 ⟨xs, rfl, hb29, hxs0, hxs1⟩
        rw [HF.out] at hxs0 hxs1
        rw [HF.out]
        have T6 : Hid _ := T5.out.go hb29
        have HD6 : Hid _ := HD5.out.go hb29
        have hxe := hxs0 f0
        subst hxe
        have HXZ : Hid ((⟨#[]⟩ : ByteArray).size ≤ 9223372036854775807) := by show _ ≤ _; decide
        clear hxs0 hxs1 hb29 T5 HD5
        clear x0 x1 x2 x3 x4 x5 x6
        clear z0 z1 z2 z3 z4 z5 z6 z7
        have x0 := T6.out.cel gd 0 (.int .i64 k0)
        have x1 := T6.out.cel gd 1 (.int .i64 k1)
        have x2 := T6.out.cel gd 2 (.int .i64 k2)
        have x3 := T6.out.cel gd 3 (.int .i64 k3)
        have x4 := T6.out.cel gd 4 (.int .i64 k4)
        have x5 := T6.out.cel gd 5 (.int .i64 k5)
        have x6 := T6.out.cel gd 6 (.slice ad nd cd)
        go_wp2_with fail
        refine (parseFlow_any k0 k1 k2 k3 k4 k5 ad nd cd GD ⟨#[]⟩ _ _ HD6.out HXZ.out (HV.out.go T6.out.bel).ev (HV.out.go T6.out.bel).kn (HV.out.go T6.out.bel).tab rfl).mono ?_
        rintro e w30 ⟨rfl, hb30⟩
        have W30 : Hid (Below w.heap.size w w30) := bc_go T6.out.bel hb30
        obtain ⟨E2, hE2⟩ : ∃ x, pfE (checkE k0 k1 k2 k3 k4 k5 GD nd) (fun b0 b1 b2 b3 b4 bu b5 b6 => flowE k0 k1 k2 k3 k4 k5 GD nd b0 b1 b2 b3 b4 bu b5 b6) ⟨#[]⟩ = x := ⟨_, rfl⟩
        rw [hE2]
        obtain ⟨v0, hv0⟩ : ∃ x, pfV E2 ⟨#[]⟩ 0 = x := ⟨_, rfl⟩
        rw [hv0]
        clear hv0
        obtain ⟨v1, hv1⟩ : ∃ x, pfV E2 ⟨#[]⟩ 1 = x := ⟨_, rfl⟩
        rw [hv1]
        clear hv1
        obtain ⟨v2, hv2⟩ : ∃ x, pfV E2 ⟨#[]⟩ 2 = x := ⟨_, rfl⟩
        rw [hv2]
        clear hv2
        obtain ⟨v3, hv3⟩ : ∃ x, pfV E2 ⟨#[]⟩ 3 = x := ⟨_, rfl⟩
        rw [hv3]
        clear hv3
        obtain ⟨v4, hv4⟩ : ∃ x, pfV E2 ⟨#[]⟩ 4 = x := ⟨_, rfl⟩
        rw [hv4]
        clear hv4
        obtain ⟨v5, hv5⟩ : ∃ x, pfV E2 ⟨#[]⟩ 5 = x := ⟨_, rfl⟩
        rw [hv5]
        clear hv5
        obtain ⟨v6, hv6⟩ : ∃ x, pfV E2 ⟨#[]⟩ 6 = x := ⟨_, rfl⟩
        rw [hv6]
        clear hv6
        obtain ⟨vu, hvu⟩ : ∃ x, pfU E2 ⟨#[]⟩ = x := ⟨_, rfl⟩
        rw [hvu]
        clear hvu hE2 hb30
        clear x0 x1 x2 x3 x4 x5 x6
        go_wp2_with fail
        refine (num9_any E _).mono ?_
        rintro e w32 ⟨rfl, rfl⟩
        go_wp2_with fail
        refine (started9_any _ (HV.out.go (bc_al W30.out))).mono ?_
        rintro e w99 ⟨rfl, hb99⟩
        go_wp2_with fail
        go_ret
        exact ⟨rfl, bc_go ((bc_al W30.out)) hb99⟩
    · obtain ⟨z0, z1, z2, z3, z4, z5, z6⟩ := HZER.out cpe
      subst z0 z1 z2 z3 z4 z5 z6
      have d1 : (pe != 0) = true := by simpa using cpe
      clear HMAY HZER cpe
      go_wp2_with fail
      refine (num9_any pe _).mono ?_
      rintro e w21 ⟨rfl, rfl⟩
      rw [← HEGD.out]
      have T1 : Hid _ := (Ce.mk (fun _ h => by cases h) W20.out : Ce w w20 []).box7 (.int .i64 0) (.int .i64 0) (.int .i64 0) (.int .i64 0) (.int .i64 0) (.int .i64 0) (.slice ad 0 cd) 24 gd HEGD.out
      obtain ⟨w22, hw22⟩ : ∃ W, W = w20.alloc (.cells #[.int .i64 0, .int .i64 0, .int .i64 0, .int .i64 0, .int .i64 0, .int .i64 0, .slice ad 0 cd] 24) := ⟨_, rfl⟩
      rw [← hw22]
      rw [← hw22] at T1
      have HD1 : Hid (NSl w22 ad 0 cd GD) := by show NSl _ _ _ _ _; rw [hw22]; exact HD.out.go (bc_al (bel_refl w20))
      clear hw22
      have x0 := T1.out.cel gd 0 (.int .i64 0)
      have x1 := T1.out.cel gd 1 (.int .i64 0)
      have x2 := T1.out.cel gd 2 (.int .i64 0)
      have x3 := T1.out.cel gd 3 (.int .i64 0)
      have x4 := T1.out.cel gd 4 (.int .i64 0)
      have x5 := T1.out.cel gd 5 (.int .i64 0)
      have x6 := T1.out.cel gd 6 (.slice ad 0 cd)
      have SM : Hid (∀ W, Below w22.heap.size w22 W → Calls Tryz.prog 23 #[.agg #[.int .i64 0, .int .i64 0, .int .i64 0, .int .i64 0, .int .i64 0, .int .i64 0, .slice ad 0 cd], .agg #[.int .i64 0, .int .i64 0, .int .i64 0, .int .i64 0, .int .i64 0, .int .i64 0, .slice none 0 0]] W fun e w' => e = .returned (.bool true) ∧ Below W.heap.size W w') := fun W hW => by
        classical
        exact same_any 0 0 0 0 0 0 ad 0 cd GD 0 0 0 0 0 0 none 0 0 (fun _ _ => 0) true W (HD1.out.go hW) (nsl_nil W) (decide_eq_true ⟨rfl, rfl, rfl, rfl, rfl, rfl, rfl, fun i j h => by omega⟩)
      go_wp2_with fail
      refine (SM.out _ (bel_refl _)).mono ?_
      rintro e w24 ⟨rfl, hb24⟩
      have W24 : Hid _ := bc_go T1.out.bel hb24
      clear hb24
      clear x0 x1 x2 x3 x4 x5 x6
      go_wp2_with fail
      refine (started9_any _ (HV.out.go W24.out)).mono ?_
      rintro e w99 ⟨rfl, hb99⟩
      go_wp2_with fail
      go_ret
      exact ⟨rfl, bc_go (W24.out) hb99⟩
end Go.Proofs.YtchomkadekikdaaGreatDoor
namespace Go.Proofs.YtchomkadekikdaaGreatDoor
open Go.RowKit Go.ChangeShapes Go.WideShapes Go.ChangeAt
set_option linter.unusedVariables false
set_option maxRecDepth 100000
theorem ownD : ownKnob Tryz.prog.godebug = none := by kernel_rfl
theorem laidOutD : laidOutB Tryz.prog = true := by kernel_rfl
theorem wf9 {x : Int} (h : (Lit.int .i64 x).wf = true) : -9223372036854775808 ≤ x ∧ x ≤ 9223372036854775807 := bounds_i64 h
theorem addr_plus (b off i : Nat) : (⟨b, off, none⟩ : Addr).add i = ⟨b, off + i, none⟩ := by
  unfold Addr.add
  rcases Nat.eq_zero_or_pos i with e | e
  · subst e; simp
  · rw [if_neg (by omega)]
theorem plus_more (a : Addr) (m j : Nat) : (a.add m).add j = a.add (m + j) := by
  unfold Addr.add
  rcases Nat.eq_zero_or_pos m with e | e
  · subst e; simp
  · rcases Nat.eq_zero_or_pos j with e2 | e2
    · subst e2; simp
    · rw [if_neg (by omega), if_neg (by omega), if_neg (by omega)]
      simp [Nat.add_assoc]
theorem stepsK_of {K : Nat} {H : Type} {enc : TypeId × Value → H} {P : Program} {w : World} {base : Nat} {spare : Nat → Bool} {held : Bool} {t e : TypeId} {fuel : Nat} {cs : List Value} {x : DataW H × List MemPlace} {fs : Array Field}
    (ht : P.underlying t = some (.slice e)) (he : P.underlying e = some (.struct fs)) (ce : P.cellsOf e = K) (hsz : fs.size = K)
    (hf : ∀ j, j < K → ∃ f, fs[j]? = some f ∧ f.offset = j ∧ P.cellsOf f.type = 1 ∧ P.underlying f.type = some (.int .i64)) (h : DataW.trod enc P w base spare held fuel t cs = some x) :
    cs = [.slice none 0 0] ∨ ∃ (a : Addr) (len cap : Nat), cs = [.slice (some a) len cap] ∧ len ≤ cap ∧ cap ≤ maxLen ∧ ∀ i j, i < len → j < K → ∃ v, w.cell? (a.add (i * K + j)) = some (.int .i64 v) ∧ (Lit.int .i64 v).wf = true := by
  rcases Deep.open_slice ht h with ⟨h0, _⟩ | ⟨a, len, cap, m, n, D, Pl, rfl, hb, hl, hm, hmm, _, hx⟩
  · exact .inl h0
  · refine .inr ⟨a, len, cap, rfl, hl, hm, fun i j hi hj => ?_⟩
    have hlm : len ≤ m := by rw [hmm]; split <;> omega
    obtain ⟨cs', h1, h2⟩ := hx i (by omega)
    rw [ce] at h1
    obtain ⟨_, hlen, hcell⟩ := World.cells?_some h1
    obtain ⟨xs, k, _, _, _, hxl, hff⟩ := DataW.trod_struct he h2
    obtain ⟨f, f1, f2, f3, f4⟩ := hf j hj
    have g := hff j f f1
    rw [f2, f3] at g
    have hxj : ∃ y, xs[j]? = some y := ⟨_, List.getElem?_eq_getElem (by omega)⟩
    obtain ⟨y, hy⟩ := hxj
    rw [hy] at g
    obtain ⟨v, hv, _, hw⟩ := DataW.trod_int f4 g
    refine ⟨v, ?_, hw⟩
    have e1 := hcell j hj
    rw [plus_more] at e1
    rw [e1]
    have e2 := congrArg (fun l => l[0]?) hv
    simpa using e2
theorem nsl_of {w : World} {a : Addr} {len cap : Nat} (hl : len ≤ cap) (hm : cap ≤ maxLen) (h : ∀ i j, i < len → j < 4 → ∃ v, w.cell? (a.add (i * 4 + j)) = some (.int .i64 v) ∧ (Lit.int .i64 v).wf = true) :
    ∃ F, NSl w (some a) len cap F := by
  refine ⟨fun i j => intOf ((w.cell? (a.add (i * 4 + j))).getD undef), hl, by simp only [maxLen] at hm; omega, fun i j hi hj => ?_, ?_⟩
  · obtain ⟨v, hv, hw⟩ := h i j hi hj
    show -9223372036854775808 ≤ intOf ((w.cell? (a.add (i * 4 + j))).getD undef) ∧ _
    rw [hv]
    exact wf9 hw
  · rcases Nat.eq_zero_or_pos len with e | e
    · exact .inl e
    · obtain ⟨b, off, spot⟩ := a
      obtain ⟨v, hc, _⟩ := h 0 0 e (by omega)
      have hspot : spot = none := by simpa [Addr.add] using World.cell?_spot hc
      subst hspot
      refine .inr ⟨b, off, rfl, fun i j hi hj => ?_⟩
      obtain ⟨v, hv, _⟩ := h i j hi hj
      rw [addr_plus] at hv
      have e3 : off + i * 4 + j = off + (i * 4 + j) := by omega
      rw [e3, hv, addr_plus, hv]
      rfl
theorem nodes_of {H : Type} {enc : TypeId × Value → H} {w : World} {base : Nat} {held : Bool} {fuel : Nat} {cs : List Value} {x : DataW H × List MemPlace} (h : DataW.trod enc Tryz.prog w base (fun _ => true) held fuel 22 cs = some x) : ∃ a n c F, cs = [.slice a n c] ∧ NSl w a n c F := by
  rcases stepsK_of (K := 4) Tryz.underlying22 Tryz.underlying57 (by kernel_rfl) rfl (fun j hj => match j, hj with
    | 0, _ => ⟨_, rfl, rfl, by kernel_rfl, by kernel_rfl⟩
    | 1, _ => ⟨_, rfl, rfl, by kernel_rfl, by kernel_rfl⟩
    | 2, _ => ⟨_, rfl, rfl, by kernel_rfl, by kernel_rfl⟩
    | 3, _ => ⟨_, rfl, rfl, by kernel_rfl, by kernel_rfl⟩) h with hcs | ⟨y, l, c, hcs, hl, hm, hcell⟩
  · exact ⟨none, 0, 0, fun _ _ => 0, hcs, nsl_nil w⟩
  · obtain ⟨F, hF⟩ := nsl_of hl hm hcell
    exact ⟨_, _, _, F, hcs, hF⟩
theorem cell_of {cs : List Value} {i : Nat} {v : Value} (h : (cs.drop i).take 1 = [v]) : cs[i]? = some v := by
  have e := congrArg (fun l => l[0]?) h
  simpa using e
theorem open_conf {H : Type} {enc : TypeId × Value → H} {w : World} {base0 base : Nat} {held : Bool} {v : Value} {d : DataW H} {ps : List MemPlace} (hv : Value.okWide Tryz.prog w .any base0 24 v) (h : DataW.Trod enc Tryz.prog w base (fun _ => true) held 24 v d ps) : ∃ K R M C Fl A a n c F, v = .agg #[.int .i64 K, .int .i64 R, .int .i64 M, .int .i64 C, .int .i64 Fl, .int .i64 A, .slice a n c] ∧ NSl w a n c F := by
  obtain ⟨cs, rfl, hsz⟩ := okWide_struct Tryz.underlying24 hv
  obtain ⟨fuel, hf⟩ := h
  obtain ⟨xs, k, _, _, hlen, hxl, hff⟩ := DataW.trod_struct Tryz.underlying24 hf
  have hl : cs.toList.length = 7 := by
    have e : Tryz.prog.cellsOf 24 = 7 := by kernel_rfl
    rw [e] at hlen
    exact hlen
  have hl2 : cs.size = 7 := by simpa using hl
  have hcl : (Value.agg cs).cells.toList = cs.toList := rfl
  rw [hcl] at hff
  have g0 : DataW.trod enc Tryz.prog w base (fun _ => true) held k 3 ((cs.toList.drop 0).take (Tryz.prog.cellsOf 3)) = xs[0]? := hff 0 _ rfl
  rw [show Tryz.prog.cellsOf 3 = 1 by kernel_rfl] at g0
  obtain ⟨y0, hy0⟩ : ∃ y, xs[0]? = some y := ⟨_, List.getElem?_eq_getElem (by rw [hxl]; decide)⟩
  rw [hy0] at g0
  obtain ⟨a0, e0, _, w0⟩ := DataW.trod_int Tryz.underlying3 g0
  have z0 := cell_of e0
  have g1 : DataW.trod enc Tryz.prog w base (fun _ => true) held k 3 ((cs.toList.drop 1).take (Tryz.prog.cellsOf 3)) = xs[1]? := hff 1 _ rfl
  rw [show Tryz.prog.cellsOf 3 = 1 by kernel_rfl] at g1
  obtain ⟨y1, hy1⟩ : ∃ y, xs[1]? = some y := ⟨_, List.getElem?_eq_getElem (by rw [hxl]; decide)⟩
  rw [hy1] at g1
  obtain ⟨a1, e1, _, w1⟩ := DataW.trod_int Tryz.underlying3 g1
  have z1 := cell_of e1
  have g2 : DataW.trod enc Tryz.prog w base (fun _ => true) held k 3 ((cs.toList.drop 2).take (Tryz.prog.cellsOf 3)) = xs[2]? := hff 2 _ rfl
  rw [show Tryz.prog.cellsOf 3 = 1 by kernel_rfl] at g2
  obtain ⟨y2, hy2⟩ : ∃ y, xs[2]? = some y := ⟨_, List.getElem?_eq_getElem (by rw [hxl]; decide)⟩
  rw [hy2] at g2
  obtain ⟨a2, e2, _, w2⟩ := DataW.trod_int Tryz.underlying3 g2
  have z2 := cell_of e2
  have g3 : DataW.trod enc Tryz.prog w base (fun _ => true) held k 3 ((cs.toList.drop 3).take (Tryz.prog.cellsOf 3)) = xs[3]? := hff 3 _ rfl
  rw [show Tryz.prog.cellsOf 3 = 1 by kernel_rfl] at g3
  obtain ⟨y3, hy3⟩ : ∃ y, xs[3]? = some y := ⟨_, List.getElem?_eq_getElem (by rw [hxl]; decide)⟩
  rw [hy3] at g3
  obtain ⟨a3, e3, _, w3⟩ := DataW.trod_int Tryz.underlying3 g3
  have z3 := cell_of e3
  have g4 : DataW.trod enc Tryz.prog w base (fun _ => true) held k 3 ((cs.toList.drop 4).take (Tryz.prog.cellsOf 3)) = xs[4]? := hff 4 _ rfl
  rw [show Tryz.prog.cellsOf 3 = 1 by kernel_rfl] at g4
  obtain ⟨y4, hy4⟩ : ∃ y, xs[4]? = some y := ⟨_, List.getElem?_eq_getElem (by rw [hxl]; decide)⟩
  rw [hy4] at g4
  obtain ⟨a4, e4, _, w4⟩ := DataW.trod_int Tryz.underlying3 g4
  have z4 := cell_of e4
  have g5 : DataW.trod enc Tryz.prog w base (fun _ => true) held k 3 ((cs.toList.drop 5).take (Tryz.prog.cellsOf 3)) = xs[5]? := hff 5 _ rfl
  rw [show Tryz.prog.cellsOf 3 = 1 by kernel_rfl] at g5
  obtain ⟨y5, hy5⟩ : ∃ y, xs[5]? = some y := ⟨_, List.getElem?_eq_getElem (by rw [hxl]; decide)⟩
  rw [hy5] at g5
  obtain ⟨a5, e5, _, w5⟩ := DataW.trod_int Tryz.underlying3 g5
  have z5 := cell_of e5
  have g6 : DataW.trod enc Tryz.prog w base (fun _ => true) held k 22 ((cs.toList.drop 6).take (Tryz.prog.cellsOf 22)) = xs[6]? := hff 6 _ rfl
  rw [show Tryz.prog.cellsOf 22 = 1 by kernel_rfl] at g6
  obtain ⟨y6, hy6⟩ : ∃ y, xs[6]? = some y := ⟨_, List.getElem?_eq_getElem (by rw [hxl]; decide)⟩
  rw [hy6] at g6
  obtain ⟨a6, m6, c6, F6, e6, w6⟩ := nodes_of g6
  have z6 := cell_of e6
  have hcs : cs = #[.int .i64 a0, .int .i64 a1, .int .i64 a2, .int .i64 a3, .int .i64 a4, .int .i64 a5, .slice a6 m6 c6] := by
    apply Array.ext_getElem?
    intro i
    rw [← Array.getElem?_toList]
    by_cases hi : i < 7
    · match i, hi with
      | 0, _ => rw [z0]; rfl
      | 1, _ => rw [z1]; rfl
      | 2, _ => rw [z2]; rfl
      | 3, _ => rw [z3]; rfl
      | 4, _ => rw [z4]; rfl
      | 5, _ => rw [z5]; rfl
      | 6, _ => rw [z6]; rfl
    · rw [List.getElem?_eq_none (by omega), Array.getElem?_eq_none (by simp; omega)]
  subst hcs
  exact ⟨a0, a1, a2, a3, a4, a5, a6, m6, c6, F6, rfl, w6⟩
end Go.Proofs.YtchomkadekikdaaGreatDoor
