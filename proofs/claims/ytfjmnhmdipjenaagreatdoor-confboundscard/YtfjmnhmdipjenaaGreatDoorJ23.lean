/- Contracts of the program's functions, part 23: own work, joined in build order. -/
import Derived.Test.YtfjmnhmdipjenaaGreatDoorJ22
namespace Go.Proofs.YtfjmnhmdipjenaaGreatDoor
open Go.RowKit
set_option maxRecDepth 100000
set_option linter.unusedVariables false
theorem i64_and31 (n : Int) : bits .and .i64 n 31 = n % 32 := by
  have h127 : (BitVec.ofInt 64 31).toNat = 2 ^ 5 - 1 := by decide
  have key : (BitVec.ofInt 64 n &&& BitVec.ofInt 64 31).toNat = (n % ((2 ^ 64 : Nat) : Int)).toNat % 2 ^ 5 := by
    rw [BitVec.toNat_and, BitVec.toNat_ofInt, h127, Nat.and_two_pow_sub_one_eq_mod]
  show IntKind.i64.wrap ((BitVec.ofInt 64 n &&& BitVec.ofInt 64 31).toNat : Nat) = n % 32
  rw [key, IntKind.wrap_i64]
  omega
set_option maxHeartbeats 2000000 in
theorem trees_any (K R M C Fl A : Int) (a : Option Addr) (n cap : Nat) (G : Nat → Nat → Int) (pw pq pc ps pb : Int) (pr : Nat) (pp pn : Int) (tt : Int) (w : World) (h : NSl w a n cap G) (hV : Vs9 w) (ht : -9223372036854775808 ≤ tt ∧ tt ≤ 9223372036854775807) :
    Calls Tryz.prog 3 #[.agg #[.int .i64 K, .int .i64 R, .int .i64 M, .int .i64 C, .int .i64 Fl, .int .i64 A, .slice a n cap], .agg #[.int .i64 pw, .int .i64 pq, .int .i64 pc, .int .i64 ps, .int .i64 pb, .float .f64 pr, .int .i64 pp, .int .i64 pn], .int .i64 tt] w fun e w' => e = .returned (.bool true) ∧ Below w.heap.size w w' := by
  have HN : Hid _ := h
  have HV : Hid _ := hV
  have hl0 : n ≤ 9223372036854775807 := Nat.le_trans h.le h.lim
  clear h hV
  go_enter Tryz.func3, Tryz.ntmps3
  go_wp2_with fail
  have S0 : Hid _ := ((ce_start w).box7 (.int .i64 K) (.int .i64 R) (.int .i64 M) (.int .i64 C) (.int .i64 Fl) (.int .i64 A) (.slice a n cap) 24 _ rfl).box8 (.int .i64 pw) (.int .i64 pq) (.int .i64 pc) (.int .i64 ps) (.int .i64 pb) (.float .f64 pr) (.int .i64 pp) (.int .i64 pn) 27 (w.heap.size + 1) (by rw [World.size_alloc])
  have Z0 : Hid (((w.alloc (.cells #[.int .i64 K, .int .i64 R, .int .i64 M, .int .i64 C, .int .i64 Fl, .int .i64 A, .slice a n cap] 24)).alloc (.cells #[.int .i64 pw, .int .i64 pq, .int .i64 pc, .int .i64 ps, .int .i64 pb, .float .f64 pr, .int .i64 pp, .int .i64 pn] 27)).heap[w.heap.size + 1]? = some (.cells #[.int .i64 pw, .int .i64 pq, .int .i64 pc, .int .i64 ps, .int .i64 pb, .float .f64 pr, .int .i64 pp, .int .i64 pn] 27)) := by
    have q := al_at (w.alloc (.cells #[.int .i64 K, .int .i64 R, .int .i64 M, .int .i64 C, .int .i64 Fl, .int .i64 A, .slice a n cap] 24)) (.cells #[.int .i64 pw, .int .i64 pq, .int .i64 pc, .int .i64 ps, .int .i64 pb, .float .f64 pr, .int .i64 pp, .int .i64 pn] 27)
    rw [World.size_alloc] at q
    exact q
  refine (started9_any _ (HV.out.go S0.out.bel)).mono ?_
  rintro e w1 ⟨rfl, hb1⟩
  obtain ⟨gp, egp⟩ : ∃ g, g = w.heap.size + 1 := ⟨_, rfl⟩
  obtain ⟨gc, egc⟩ : ∃ g, g = w.heap.size := ⟨_, rfl⟩
  have S1 : Hid _ := S0.out.go hb1
  have Z1 : Hid (w1.heap[gp]? = some (.cells #[.int .i64 pw, .int .i64 pq, .int .i64 pc, .int .i64 ps, .int .i64 pb, .float .f64 pr, .int .i64 pp, .int .i64 pn] 27)) := by
    show _ = _
    rw [egp]
    exact (hb1.block _ (by rw [World.size_alloc, World.size_alloc]; omega)).trans Z0.out
  rw [← egp, ← egc] at S1
  rw [← egp, ← egc]
  have HG : Hid (w.heap.size ≤ gc ∧ w.heap.size ≤ gp ∧ gc ≠ gp) := ⟨by omega, by omega, by omega⟩
  clear hb1 S0 egp egc Z0
  have x0 := S1.out.cel gc 0 (.int .i64 K)
  have x1 := S1.out.cel gc 1 (.int .i64 R)
  have x2 := S1.out.cel gc 2 (.int .i64 M)
  have x3 := S1.out.cel gc 3 (.int .i64 C)
  have x4 := S1.out.cel gc 4 (.int .i64 Fl)
  have x5 := S1.out.cel gc 5 (.int .i64 A)
  have x6 := S1.out.cel gc 6 (.slice a n cap)
  go_wp2_with fail
  refine (check_any K R M C Fl A a n cap G _ (HN.out.go S1.out.bel)).mono ?_
  rintro e w2 ⟨rfl, hb2⟩
  have S2 : Hid _ := S1.out.go hb2
  have Z2 : Hid (w2.heap[gp]? = some (.cells #[.int .i64 pw, .int .i64 pq, .int .i64 pc, .int .i64 ps, .int .i64 pb, .float .f64 pr, .int .i64 pp, .int .i64 pn] 27)) := (hb2.block _ (Array.getElem?_eq_some_iff.1 Z1.out).1).trans Z1.out
  obtain ⟨ce, hce⟩ : ∃ ce, checkE K R M C Fl A G n = ce := ⟨_, rfl⟩
  rw [hce]
  have HCE : Hid _ := hce
  clear x0
  clear x1
  clear x2
  clear x3
  clear x4
  clear x5
  clear x6
  clear hb2 S1 Z1 hce
  go_wp2_with fail
  refine (num9_any ce _).mono ?_
  rintro e w3 ⟨rfl, rfl⟩
  have x0 := S2.out.cel gc 0 (.int .i64 K)
  have x1 := S2.out.cel gc 1 (.int .i64 R)
  have x2 := S2.out.cel gc 2 (.int .i64 M)
  have x3 := S2.out.cel gc 3 (.int .i64 C)
  have x4 := S2.out.cel gc 4 (.int .i64 Fl)
  have x5 := S2.out.cel gc 5 (.int .i64 A)
  have x6 := S2.out.cel gc 6 (.slice a n cap)
  have HST : Hid (∀ W, Below w3.heap.size w3 W → Calls Tryz.prog 5 #[] W fun e w' => e = .returned (.bool true) ∧ Below w.heap.size w w') := fun W hW => by
    refine (started9_any W (HV.out.go (bc_go S2.out.bel hW))).mono ?_
    rintro e w' ⟨rfl, hb⟩
    exact ⟨rfl, bc_go (bc_go S2.out.bel hW) hb⟩
  by_cases c0 : ce = 0
  · subst c0
    by_cases c6 : K = 6
    · subst c6
      have HT : Hid _ := tre_of ((checkE_zero HCE.out).2.2.2.2.2.2.1 rfl)
      have n1 := HT.out.lo
      have n2 := HT.out.hi
      have hn3 := HN.out.go S2.out.bel
      have ncap := hn3.le
      obtain ⟨b, o, rfl, hcell⟩ := hn3.at (by omega)
      have HX : Hid _ := hcell
      have lbw : Hid (b < w.heap.size) := by
        obtain ⟨b', o', e', hc'⟩ := HN.out.at (by omega)
        cases e'
        exact World.block_lt_of_cell? _ _ (hc' 0 0 (by omega) (by omega))
      have lb : b < w3.heap.size := World.block_lt_of_cell? _ _ (hcell 0 0 (by omega) (by omega))
      clear hn3 hcell
      go_wp2_with fail
      go_loopw [8, 7] (fun ti tl wr => ∃ i : Nat, 1 ≤ i ∧ i ≤ n ∧ ti = .int .i64 (i : Int) ∧ tl = .int .i64 (lvs G i : Int) ∧ wr = w3) (fun ti _ _ => n - (intOf ti).toNat)
      case atStart => exact ⟨1, Nat.le_refl _, by omega, rfl, rfl, rfl⟩
      case round =>
        obtain ⟨i, hi1, hin, rfl, rfl, rfl⟩ := hrel
        by_cases ein : i = n
        · subst ein
          have hP := Z2.out
          have y0 : wr.cell? ⟨gp, 0, none⟩ = some (.int .i64 pw) := by simp [World.cell?, hP]
          have y1 : wr.cell? ⟨gp, 1, none⟩ = some (.int .i64 pq) := by simp [World.cell?, hP]
          have y2 : wr.cell? ⟨gp, 2, none⟩ = some (.int .i64 pc) := by simp [World.cell?, hP]
          have y3 : wr.cell? ⟨gp, 3, none⟩ = some (.int .i64 ps) := by simp [World.cell?, hP]
          have y4 : wr.cell? ⟨gp, 4, none⟩ = some (.int .i64 pb) := by simp [World.cell?, hP]
          have y5 : wr.cell? ⟨gp, 5, none⟩ = some (.float .f64 pr) := by simp [World.cell?, hP]
          have y6 : wr.cell? ⟨gp, 6, none⟩ = some (.int .i64 pp) := by simp [World.cell?, hP]
          have y7 : wr.cell? ⟨gp, 7, none⟩ = some (.int .i64 pn) := by simp [World.cell?, hP]
          have fy : wr.frozen? ⟨gp, 7, none⟩ = false := by simp [World.frozen?, hP]
          have B2 : Hid (Bx1 wr wr gp 27 #[.int .i64 pw, .int .i64 pq, .int .i64 pc, .int .i64 ps, .int .i64 pb, .float .f64 pr, .int .i64 pp, .int .i64 pn]) := ⟨hP, fun _ _ => rfl, rfl, rfl, rfl, rfl⟩
          have lgp : gp < wr.heap.size := World.block_lt_of_cell? _ _ y0
          have negc := HG.out.2.2
          clear hP
          obtain ⟨x, hx, lx⟩ : ∃ x : Nat, (tt % 32).tmod (i : Int) = (x : Int) ∧ x < i := by
            have q0 : 0 ≤ tt % 32 := by omega
            refine ⟨((tt % 32).tmod (i : Int)).toNat, ?_, ?_⟩
            · have := Int.tmod_nonneg (i : Int) q0
              omega
            · have q1 := Int.tmod_nonneg (i : Int) q0
              have q2 := Int.tmod_lt_of_pos (tt % 32) (show (0 : Int) < (i : Int) by omega)
              omega
          have hx2 : wrap64 ((tt % 32).tmod (i : Int)) = (x : Int) := by rw [hx]; exact IntWalk.wrap64_in _ (by omega)
          have hb := i64_and31 tt
          have i0 : (i : Int) ≠ 0 := by omega
          go_wp2_with (refine (id ?_ : wpList Tryz.prog _ _ (⟨some 88, _, _, _, _, _⟩ :: _) _ _); refine wpList_as (fun W => Bx1 wr W gp 27 #[.int .i64 pw, .int .i64 pq, .int .i64 pc, .int .i64 ps, .int .i64 pb, .float .f64 pr, .int .i64 pp, .int .i64 (x : Int)]) (B2.out.set 7 (.int .i64 (x : Int))) ?_)
          intro w4 B4
          have W4 : Hid (Below w.heap.size w w4) := by
            have q := S2.out.bel
            exact ⟨B4.os.trans q.os, B4.tape.trans q.tape, B4.output.trans q.output, by rw [B4.size]; exact q.size, fun k hk => (B4.ot k (by have := HG.out.2.1; omega)).trans (q.block k hk)⟩
          replace x0 := (World.cell?_of_block (w := wr) (B4.ot gc negc)).trans x0
          replace x1 := (World.cell?_of_block (w := wr) (B4.ot gc negc)).trans x1
          replace x2 := (World.cell?_of_block (w := wr) (B4.ot gc negc)).trans x2
          replace x3 := (World.cell?_of_block (w := wr) (B4.ot gc negc)).trans x3
          replace x4 := (World.cell?_of_block (w := wr) (B4.ot gc negc)).trans x4
          replace x5 := (World.cell?_of_block (w := wr) (B4.ot gc negc)).trans x5
          replace x6 := (World.cell?_of_block (w := wr) (B4.ot gc negc)).trans x6
          have z0 : w4.cell? ⟨b, o + x * 4 + 0, none⟩ = some (.int .i64 (G x 0)) := (World.cell?_of_block (w := wr) (B4.ot b (by have := HG.out.2.1; have := lbw.out; omega))).trans (HX.out x 0 lx (by omega))
          rw [Nat.add_zero] at z0
          have hP := B4.hc
          clear y0
          have y0 : w4.cell? ⟨gp, 0, none⟩ = some (.int .i64 pw) := by simp [World.cell?, hP]
          clear y1
          have y1 : w4.cell? ⟨gp, 1, none⟩ = some (.int .i64 pq) := by simp [World.cell?, hP]
          clear y2
          have y2 : w4.cell? ⟨gp, 2, none⟩ = some (.int .i64 pc) := by simp [World.cell?, hP]
          clear y3
          have y3 : w4.cell? ⟨gp, 3, none⟩ = some (.int .i64 ps) := by simp [World.cell?, hP]
          clear y4
          have y4 : w4.cell? ⟨gp, 4, none⟩ = some (.int .i64 pb) := by simp [World.cell?, hP]
          clear y5
          have y5 : w4.cell? ⟨gp, 5, none⟩ = some (.float .f64 pr) := by simp [World.cell?, hP]
          clear y6
          have y6 : w4.cell? ⟨gp, 6, none⟩ = some (.int .i64 pp) := by simp [World.cell?, hP]
          clear y7
          have y7 : w4.cell? ⟨gp, 7, none⟩ = some (.int .i64 (x : Int)) := by simp [World.cell?, hP]
          have lb4 : b < w4.heap.size := World.block_lt_of_cell? _ _ z0
          have lg4 : gp < w4.heap.size := World.block_lt_of_cell? _ _ y0
          have lc4 : gc < w4.heap.size := World.block_lt_of_cell? _ _ x0
          have sf := fun (w : World) (a : Addr) (x : Nat) => run_store Tryz.prog w a (.float .f64 x) .plain rfl
          have hlv : (0 : Int) < (lvs G i : Int) := by have := HT.out.leaf; omega
          have hk6 := HT.out.kind x lx
          obtain ⟨leaf, hlf⟩ : ∃ leaf, G x 0 = leaf := ⟨_, rfl⟩
          rw [hlf] at z0 hk6
          clear hP B4 fy lgp lb hb hx hx2 i0
          by_cases el : leaf = 6
          · subst el
            have F1 : Hid (flowE 6 R M C Fl A G i 1 0 0 0 1 4607182418800017408 1 (x : Int) = 1) := by
              show _ = _
              rw [tree_flow (cl := 0) (qq := 0) HCE.out lx hlf hk6 (by decide) (.inl rfl)]
              rw [if_pos rfl]
            have F2 : Hid (flowE 6 R M C Fl A G i 1 0 1 0 1 4607182418800017408 1 (x : Int) = 1) := by
              show _ = _
              rw [tree_flow (cl := 1) (qq := 0) HCE.out lx hlf hk6 (by decide) (.inr rfl)]
              rw [if_pos rfl]
            clear hlf hk6
            go_wp2_with fail
            refine (checkFlow_any 6 R M C Fl A (some ⟨b, o, none⟩) i cap G 1 0 0 0 1 4607182418800017408 1 (x : Int) _ (HN.out.go (bc_al W4.out))).mono ?_
            rintro e w5 ⟨rfl, hb5⟩
            rw [F1.out]
            have W5 : Hid (Below w.heap.size w w5) := bc_go (bc_al W4.out) hb5
            obtain ⟨gq, egq⟩ : ∃ g, g = w4.heap.size := ⟨_, rfl⟩
            have hq5 : w5.heap[gq]? = some (.cells #[.int .i64 1, .int .i64 0, .int .i64 0, .int .i64 0, .int .i64 1, .float .f64 4607182418800017408, .int .i64 1, .int .i64 (x : Int)] 27) := by
              rw [egq]
              exact (hb5.block _ (by rw [World.size_alloc]; omega)).trans (al_at _ _)
            rw [← egq]
            have p0 : w5.cell? ⟨gq, 0, none⟩ = some (.int .i64 1) := by simp [World.cell?, hq5]
            have p1 : w5.cell? ⟨gq, 1, none⟩ = some (.int .i64 0) := by simp [World.cell?, hq5]
            have p2 : w5.cell? ⟨gq, 2, none⟩ = some (.int .i64 0) := by simp [World.cell?, hq5]
            have p3 : w5.cell? ⟨gq, 3, none⟩ = some (.int .i64 0) := by simp [World.cell?, hq5]
            have p4 : w5.cell? ⟨gq, 4, none⟩ = some (.int .i64 1) := by simp [World.cell?, hq5]
            have p5 : w5.cell? ⟨gq, 5, none⟩ = some (.float .f64 4607182418800017408) := by simp [World.cell?, hq5]
            have p6 : w5.cell? ⟨gq, 6, none⟩ = some (.int .i64 1) := by simp [World.cell?, hq5]
            have p7 : w5.cell? ⟨gq, 7, none⟩ = some (.int .i64 (x : Int)) := by simp [World.cell?, hq5]
            replace x0 := bc_cell hb5 (bc_cell (bc_al (o := .cells #[.int .i64 1, .int .i64 0, .int .i64 0, .int .i64 0, .int .i64 1, .float .f64 4607182418800017408, .int .i64 1, .int .i64 (x : Int)] 27) (bel_refl w4)) x0)
            replace x1 := bc_cell hb5 (bc_cell (bc_al (o := .cells #[.int .i64 1, .int .i64 0, .int .i64 0, .int .i64 0, .int .i64 1, .float .f64 4607182418800017408, .int .i64 1, .int .i64 (x : Int)] 27) (bel_refl w4)) x1)
            replace x2 := bc_cell hb5 (bc_cell (bc_al (o := .cells #[.int .i64 1, .int .i64 0, .int .i64 0, .int .i64 0, .int .i64 1, .float .f64 4607182418800017408, .int .i64 1, .int .i64 (x : Int)] 27) (bel_refl w4)) x2)
            replace x3 := bc_cell hb5 (bc_cell (bc_al (o := .cells #[.int .i64 1, .int .i64 0, .int .i64 0, .int .i64 0, .int .i64 1, .float .f64 4607182418800017408, .int .i64 1, .int .i64 (x : Int)] 27) (bel_refl w4)) x3)
            replace x4 := bc_cell hb5 (bc_cell (bc_al (o := .cells #[.int .i64 1, .int .i64 0, .int .i64 0, .int .i64 0, .int .i64 1, .float .f64 4607182418800017408, .int .i64 1, .int .i64 (x : Int)] 27) (bel_refl w4)) x4)
            replace x5 := bc_cell hb5 (bc_cell (bc_al (o := .cells #[.int .i64 1, .int .i64 0, .int .i64 0, .int .i64 0, .int .i64 1, .float .f64 4607182418800017408, .int .i64 1, .int .i64 (x : Int)] 27) (bel_refl w4)) x5)
            replace x6 := bc_cell hb5 (bc_cell (bc_al (o := .cells #[.int .i64 1, .int .i64 0, .int .i64 0, .int .i64 0, .int .i64 1, .float .f64 4607182418800017408, .int .i64 1, .int .i64 (x : Int)] 27) (bel_refl w4)) x6)
            have lgq : gq < w5.heap.size := World.block_lt_of_cell? _ _ p0
            have lgc5 : gc < w5.heap.size := World.block_lt_of_cell? _ _ x0
            clear hb5 egq hq5
            clear y0
            clear y1
            clear y2
            clear y3
            clear y4
            clear y5
            clear y6
            clear y7
            go_wp2_with fail
            refine (num9_any 1 _).mono ?_
            rintro e w6 ⟨rfl, rfl⟩
            go_wp2_with fail
            refine (checkFlow_any 6 R M C Fl A (some ⟨b, o, none⟩) i cap G 1 0 1 0 1 4607182418800017408 1 (x : Int) _ (HN.out.go (bc_al W5.out))).mono ?_
            rintro e w7 ⟨rfl, hb7⟩
            rw [F2.out]
            have W7 : Hid (Below w.heap.size w w7) := bc_go (bc_al W5.out) hb7
            clear hb7
            go_wp2_with fail
            refine (num9_any 1 _).mono ?_
            rintro e w8 ⟨rfl, rfl⟩
            go_wp2_with fail
            refine (started9_any _ (HV.out.go W7.out)).mono ?_
            rintro e w9 ⟨rfl, hb9⟩
            go_wp2_with fail
            go_ret
            exact ⟨rfl, bc_go W7.out hb9⟩
          by_cases el4 : leaf = 4
          · have el := el4
            clear el4
            subst el
            have F1 : Hid (flowE 6 R M C Fl A G i 1 0 0 0 1 4607182418800017408 1 (x : Int) = 0) := by
              show _ = _
              rw [tree_flow (cl := 0) (qq := 0) HCE.out lx hlf hk6 (by decide) (.inl rfl)]
              rw [if_neg (by decide), if_pos rfl]
            have F2 : Hid (flowE 6 R M C Fl A G i 1 0 1 0 1 4607182418800017408 1 (x : Int) = 0) := by
              show _ = _
              rw [tree_flow (cl := 1) (qq := 0) HCE.out lx hlf hk6 (by decide) (.inr rfl)]
              rw [if_neg (by decide), if_neg (by decide), if_pos rfl]
            clear hlf hk6
            go_wp2_with fail
            refine (checkFlow_any 6 R M C Fl A (some ⟨b, o, none⟩) i cap G 1 0 0 0 1 4607182418800017408 1 (x : Int) _ (HN.out.go (bc_al W4.out))).mono ?_
            rintro e w5 ⟨rfl, hb5⟩
            rw [F1.out]
            have W5 : Hid (Below w.heap.size w w5) := bc_go (bc_al W4.out) hb5
            obtain ⟨gq, egq⟩ : ∃ g, g = w4.heap.size := ⟨_, rfl⟩
            have hq5 : w5.heap[gq]? = some (.cells #[.int .i64 1, .int .i64 0, .int .i64 0, .int .i64 0, .int .i64 1, .float .f64 4607182418800017408, .int .i64 1, .int .i64 (x : Int)] 27) := by
              rw [egq]
              exact (hb5.block _ (by rw [World.size_alloc]; omega)).trans (al_at _ _)
            rw [← egq]
            have p0 : w5.cell? ⟨gq, 0, none⟩ = some (.int .i64 1) := by simp [World.cell?, hq5]
            have p1 : w5.cell? ⟨gq, 1, none⟩ = some (.int .i64 0) := by simp [World.cell?, hq5]
            have p2 : w5.cell? ⟨gq, 2, none⟩ = some (.int .i64 0) := by simp [World.cell?, hq5]
            have p3 : w5.cell? ⟨gq, 3, none⟩ = some (.int .i64 0) := by simp [World.cell?, hq5]
            have p4 : w5.cell? ⟨gq, 4, none⟩ = some (.int .i64 1) := by simp [World.cell?, hq5]
            have p5 : w5.cell? ⟨gq, 5, none⟩ = some (.float .f64 4607182418800017408) := by simp [World.cell?, hq5]
            have p6 : w5.cell? ⟨gq, 6, none⟩ = some (.int .i64 1) := by simp [World.cell?, hq5]
            have p7 : w5.cell? ⟨gq, 7, none⟩ = some (.int .i64 (x : Int)) := by simp [World.cell?, hq5]
            replace x0 := bc_cell hb5 (bc_cell (bc_al (o := .cells #[.int .i64 1, .int .i64 0, .int .i64 0, .int .i64 0, .int .i64 1, .float .f64 4607182418800017408, .int .i64 1, .int .i64 (x : Int)] 27) (bel_refl w4)) x0)
            replace x1 := bc_cell hb5 (bc_cell (bc_al (o := .cells #[.int .i64 1, .int .i64 0, .int .i64 0, .int .i64 0, .int .i64 1, .float .f64 4607182418800017408, .int .i64 1, .int .i64 (x : Int)] 27) (bel_refl w4)) x1)
            replace x2 := bc_cell hb5 (bc_cell (bc_al (o := .cells #[.int .i64 1, .int .i64 0, .int .i64 0, .int .i64 0, .int .i64 1, .float .f64 4607182418800017408, .int .i64 1, .int .i64 (x : Int)] 27) (bel_refl w4)) x2)
            replace x3 := bc_cell hb5 (bc_cell (bc_al (o := .cells #[.int .i64 1, .int .i64 0, .int .i64 0, .int .i64 0, .int .i64 1, .float .f64 4607182418800017408, .int .i64 1, .int .i64 (x : Int)] 27) (bel_refl w4)) x3)
            replace x4 := bc_cell hb5 (bc_cell (bc_al (o := .cells #[.int .i64 1, .int .i64 0, .int .i64 0, .int .i64 0, .int .i64 1, .float .f64 4607182418800017408, .int .i64 1, .int .i64 (x : Int)] 27) (bel_refl w4)) x4)
            replace x5 := bc_cell hb5 (bc_cell (bc_al (o := .cells #[.int .i64 1, .int .i64 0, .int .i64 0, .int .i64 0, .int .i64 1, .float .f64 4607182418800017408, .int .i64 1, .int .i64 (x : Int)] 27) (bel_refl w4)) x5)
            replace x6 := bc_cell hb5 (bc_cell (bc_al (o := .cells #[.int .i64 1, .int .i64 0, .int .i64 0, .int .i64 0, .int .i64 1, .float .f64 4607182418800017408, .int .i64 1, .int .i64 (x : Int)] 27) (bel_refl w4)) x6)
            have lgq : gq < w5.heap.size := World.block_lt_of_cell? _ _ p0
            have lgc5 : gc < w5.heap.size := World.block_lt_of_cell? _ _ x0
            clear hb5 egq hq5
            clear y0
            clear y1
            clear y2
            clear y3
            clear y4
            clear y5
            clear y6
            clear y7
            go_wp2_with fail
            refine (num9_any 0 _).mono ?_
            rintro e w6 ⟨rfl, rfl⟩
            go_wp2_with fail
            refine (checkFlow_any 6 R M C Fl A (some ⟨b, o, none⟩) i cap G 1 0 1 0 1 4607182418800017408 1 (x : Int) _ (HN.out.go (bc_al W5.out))).mono ?_
            rintro e w7 ⟨rfl, hb7⟩
            rw [F2.out]
            have W7 : Hid (Below w.heap.size w w7) := bc_go (bc_al W5.out) hb7
            clear hb7
            go_wp2_with fail
            refine (num9_any 0 _).mono ?_
            rintro e w8 ⟨rfl, rfl⟩
            go_wp2_with fail
            refine (started9_any _ (HV.out.go W7.out)).mono ?_
            rintro e w9 ⟨rfl, hb9⟩
            go_wp2_with fail
            go_ret
            exact ⟨rfl, bc_go W7.out hb9⟩
          by_cases el2 : leaf = 2
          · have el := el2
            clear el2
            subst el
            have F1 : Hid (flowE 6 R M C Fl A G i 1 1 0 0 1 4607182418800017408 1 (x : Int) = 0) := by
              show _ = _
              rw [tree_flow (cl := 0) (qq := 1) HCE.out lx hlf hk6 (by decide) (.inl rfl)]
              rw [if_neg (by decide), if_pos rfl]
            have F2 : Hid (flowE 6 R M C Fl A G i 1 1 1 0 1 4607182418800017408 1 (x : Int) = 95) := by
              show _ = _
              rw [tree_flow (cl := 1) (qq := 1) HCE.out lx hlf hk6 (by decide) (.inr rfl)]
              rw [if_neg (by decide), if_neg (by decide), if_neg (by decide)]
            clear hlf hk6
            go_wp2_with fail
            refine (checkFlow_any 6 R M C Fl A (some ⟨b, o, none⟩) i cap G 1 1 0 0 1 4607182418800017408 1 (x : Int) _ (HN.out.go (bc_al W4.out))).mono ?_
            rintro e w5 ⟨rfl, hb5⟩
            rw [F1.out]
            have W5 : Hid (Below w.heap.size w w5) := bc_go (bc_al W4.out) hb5
            obtain ⟨gq, egq⟩ : ∃ g, g = w4.heap.size := ⟨_, rfl⟩
            have hq5 : w5.heap[gq]? = some (.cells #[.int .i64 1, .int .i64 1, .int .i64 0, .int .i64 0, .int .i64 1, .float .f64 4607182418800017408, .int .i64 1, .int .i64 (x : Int)] 27) := by
              rw [egq]
              exact (hb5.block _ (by rw [World.size_alloc]; omega)).trans (al_at _ _)
            rw [← egq]
            have p0 : w5.cell? ⟨gq, 0, none⟩ = some (.int .i64 1) := by simp [World.cell?, hq5]
            have p1 : w5.cell? ⟨gq, 1, none⟩ = some (.int .i64 1) := by simp [World.cell?, hq5]
            have p2 : w5.cell? ⟨gq, 2, none⟩ = some (.int .i64 0) := by simp [World.cell?, hq5]
            have p3 : w5.cell? ⟨gq, 3, none⟩ = some (.int .i64 0) := by simp [World.cell?, hq5]
            have p4 : w5.cell? ⟨gq, 4, none⟩ = some (.int .i64 1) := by simp [World.cell?, hq5]
            have p5 : w5.cell? ⟨gq, 5, none⟩ = some (.float .f64 4607182418800017408) := by simp [World.cell?, hq5]
            have p6 : w5.cell? ⟨gq, 6, none⟩ = some (.int .i64 1) := by simp [World.cell?, hq5]
            have p7 : w5.cell? ⟨gq, 7, none⟩ = some (.int .i64 (x : Int)) := by simp [World.cell?, hq5]
            replace x0 := bc_cell hb5 (bc_cell (bc_al (o := .cells #[.int .i64 1, .int .i64 1, .int .i64 0, .int .i64 0, .int .i64 1, .float .f64 4607182418800017408, .int .i64 1, .int .i64 (x : Int)] 27) (bel_refl w4)) x0)
            replace x1 := bc_cell hb5 (bc_cell (bc_al (o := .cells #[.int .i64 1, .int .i64 1, .int .i64 0, .int .i64 0, .int .i64 1, .float .f64 4607182418800017408, .int .i64 1, .int .i64 (x : Int)] 27) (bel_refl w4)) x1)
            replace x2 := bc_cell hb5 (bc_cell (bc_al (o := .cells #[.int .i64 1, .int .i64 1, .int .i64 0, .int .i64 0, .int .i64 1, .float .f64 4607182418800017408, .int .i64 1, .int .i64 (x : Int)] 27) (bel_refl w4)) x2)
            replace x3 := bc_cell hb5 (bc_cell (bc_al (o := .cells #[.int .i64 1, .int .i64 1, .int .i64 0, .int .i64 0, .int .i64 1, .float .f64 4607182418800017408, .int .i64 1, .int .i64 (x : Int)] 27) (bel_refl w4)) x3)
            replace x4 := bc_cell hb5 (bc_cell (bc_al (o := .cells #[.int .i64 1, .int .i64 1, .int .i64 0, .int .i64 0, .int .i64 1, .float .f64 4607182418800017408, .int .i64 1, .int .i64 (x : Int)] 27) (bel_refl w4)) x4)
            replace x5 := bc_cell hb5 (bc_cell (bc_al (o := .cells #[.int .i64 1, .int .i64 1, .int .i64 0, .int .i64 0, .int .i64 1, .float .f64 4607182418800017408, .int .i64 1, .int .i64 (x : Int)] 27) (bel_refl w4)) x5)
            replace x6 := bc_cell hb5 (bc_cell (bc_al (o := .cells #[.int .i64 1, .int .i64 1, .int .i64 0, .int .i64 0, .int .i64 1, .float .f64 4607182418800017408, .int .i64 1, .int .i64 (x : Int)] 27) (bel_refl w4)) x6)
            have lgq : gq < w5.heap.size := World.block_lt_of_cell? _ _ p0
            have lgc5 : gc < w5.heap.size := World.block_lt_of_cell? _ _ x0
            clear hb5 egq hq5
            clear y0
            clear y1
            clear y2
            clear y3
            clear y4
            clear y5
            clear y6
            clear y7
            go_wp2_with fail
            refine (num9_any 0 _).mono ?_
            rintro e w6 ⟨rfl, rfl⟩
            go_wp2_with fail
            refine (checkFlow_any 6 R M C Fl A (some ⟨b, o, none⟩) i cap G 1 1 1 0 1 4607182418800017408 1 (x : Int) _ (HN.out.go (bc_al W5.out))).mono ?_
            rintro e w7 ⟨rfl, hb7⟩
            rw [F2.out]
            have W7 : Hid (Below w.heap.size w w7) := bc_go (bc_al W5.out) hb7
            clear hb7
            go_wp2_with fail
            refine (num9_any 95 _).mono ?_
            rintro e w8 ⟨rfl, rfl⟩
            go_wp2_with fail
            refine (started9_any _ (HV.out.go W7.out)).mono ?_
            rintro e w9 ⟨rfl, hb9⟩
            go_wp2_with fail
            go_ret
            exact ⟨rfl, bc_go W7.out hb9⟩
          rcases (show leaf = 1 ∨ leaf = 3 ∨ leaf = 5 by omega) with el1 | el1 | el1
          · have el := el1
            clear el1 el4 el2
            subst el
            have F1 : Hid (flowE 6 R M C Fl A G i 1 0 0 0 1 4607182418800017408 1 (x : Int) = 0) := by
              show _ = _
              rw [tree_flow (cl := 0) (qq := 0) HCE.out lx hlf hk6 (by decide) (.inl rfl)]
              rw [if_neg (by decide), if_pos rfl]
            have F2 : Hid (flowE 6 R M C Fl A G i 1 0 1 0 1 4607182418800017408 1 (x : Int) = 95) := by
              show _ = _
              rw [tree_flow (cl := 1) (qq := 0) HCE.out lx hlf hk6 (by decide) (.inr rfl)]
              rw [if_neg (by decide), if_neg (by decide), if_neg (by decide)]
            clear hlf hk6
            go_wp2_with fail
            refine (checkFlow_any 6 R M C Fl A (some ⟨b, o, none⟩) i cap G 1 0 0 0 1 4607182418800017408 1 (x : Int) _ (HN.out.go (bc_al W4.out))).mono ?_
            rintro e w5 ⟨rfl, hb5⟩
            rw [F1.out]
            have W5 : Hid (Below w.heap.size w w5) := bc_go (bc_al W4.out) hb5
            obtain ⟨gq, egq⟩ : ∃ g, g = w4.heap.size := ⟨_, rfl⟩
            have hq5 : w5.heap[gq]? = some (.cells #[.int .i64 1, .int .i64 0, .int .i64 0, .int .i64 0, .int .i64 1, .float .f64 4607182418800017408, .int .i64 1, .int .i64 (x : Int)] 27) := by
              rw [egq]
              exact (hb5.block _ (by rw [World.size_alloc]; omega)).trans (al_at _ _)
            rw [← egq]
            have p0 : w5.cell? ⟨gq, 0, none⟩ = some (.int .i64 1) := by simp [World.cell?, hq5]
            have p1 : w5.cell? ⟨gq, 1, none⟩ = some (.int .i64 0) := by simp [World.cell?, hq5]
            have p2 : w5.cell? ⟨gq, 2, none⟩ = some (.int .i64 0) := by simp [World.cell?, hq5]
            have p3 : w5.cell? ⟨gq, 3, none⟩ = some (.int .i64 0) := by simp [World.cell?, hq5]
            have p4 : w5.cell? ⟨gq, 4, none⟩ = some (.int .i64 1) := by simp [World.cell?, hq5]
            have p5 : w5.cell? ⟨gq, 5, none⟩ = some (.float .f64 4607182418800017408) := by simp [World.cell?, hq5]
            have p6 : w5.cell? ⟨gq, 6, none⟩ = some (.int .i64 1) := by simp [World.cell?, hq5]
            have p7 : w5.cell? ⟨gq, 7, none⟩ = some (.int .i64 (x : Int)) := by simp [World.cell?, hq5]
            replace x0 := bc_cell hb5 (bc_cell (bc_al (o := .cells #[.int .i64 1, .int .i64 0, .int .i64 0, .int .i64 0, .int .i64 1, .float .f64 4607182418800017408, .int .i64 1, .int .i64 (x : Int)] 27) (bel_refl w4)) x0)
            replace x1 := bc_cell hb5 (bc_cell (bc_al (o := .cells #[.int .i64 1, .int .i64 0, .int .i64 0, .int .i64 0, .int .i64 1, .float .f64 4607182418800017408, .int .i64 1, .int .i64 (x : Int)] 27) (bel_refl w4)) x1)
            replace x2 := bc_cell hb5 (bc_cell (bc_al (o := .cells #[.int .i64 1, .int .i64 0, .int .i64 0, .int .i64 0, .int .i64 1, .float .f64 4607182418800017408, .int .i64 1, .int .i64 (x : Int)] 27) (bel_refl w4)) x2)
            replace x3 := bc_cell hb5 (bc_cell (bc_al (o := .cells #[.int .i64 1, .int .i64 0, .int .i64 0, .int .i64 0, .int .i64 1, .float .f64 4607182418800017408, .int .i64 1, .int .i64 (x : Int)] 27) (bel_refl w4)) x3)
            replace x4 := bc_cell hb5 (bc_cell (bc_al (o := .cells #[.int .i64 1, .int .i64 0, .int .i64 0, .int .i64 0, .int .i64 1, .float .f64 4607182418800017408, .int .i64 1, .int .i64 (x : Int)] 27) (bel_refl w4)) x4)
            replace x5 := bc_cell hb5 (bc_cell (bc_al (o := .cells #[.int .i64 1, .int .i64 0, .int .i64 0, .int .i64 0, .int .i64 1, .float .f64 4607182418800017408, .int .i64 1, .int .i64 (x : Int)] 27) (bel_refl w4)) x5)
            replace x6 := bc_cell hb5 (bc_cell (bc_al (o := .cells #[.int .i64 1, .int .i64 0, .int .i64 0, .int .i64 0, .int .i64 1, .float .f64 4607182418800017408, .int .i64 1, .int .i64 (x : Int)] 27) (bel_refl w4)) x6)
            have lgq : gq < w5.heap.size := World.block_lt_of_cell? _ _ p0
            have lgc5 : gc < w5.heap.size := World.block_lt_of_cell? _ _ x0
            clear hb5 egq hq5
            clear y0
            clear y1
            clear y2
            clear y3
            clear y4
            clear y5
            clear y6
            clear y7
            go_wp2_with fail
            refine (num9_any 0 _).mono ?_
            rintro e w6 ⟨rfl, rfl⟩
            go_wp2_with fail
            refine (checkFlow_any 6 R M C Fl A (some ⟨b, o, none⟩) i cap G 1 0 1 0 1 4607182418800017408 1 (x : Int) _ (HN.out.go (bc_al W5.out))).mono ?_
            rintro e w7 ⟨rfl, hb7⟩
            rw [F2.out]
            have W7 : Hid (Below w.heap.size w w7) := bc_go (bc_al W5.out) hb7
            clear hb7
            go_wp2_with fail
            refine (num9_any 95 _).mono ?_
            rintro e w8 ⟨rfl, rfl⟩
            go_wp2_with fail
            refine (started9_any _ (HV.out.go W7.out)).mono ?_
            rintro e w9 ⟨rfl, hb9⟩
            go_wp2_with fail
            go_ret
            exact ⟨rfl, bc_go W7.out hb9⟩
          · have el := el1
            clear el1 el4 el2
            subst el
            have F1 : Hid (flowE 6 R M C Fl A G i 1 0 0 0 1 4607182418800017408 1 (x : Int) = 0) := by
              show _ = _
              rw [tree_flow (cl := 0) (qq := 0) HCE.out lx hlf hk6 (by decide) (.inl rfl)]
              rw [if_neg (by decide), if_pos rfl]
            have F2 : Hid (flowE 6 R M C Fl A G i 1 0 1 0 1 4607182418800017408 1 (x : Int) = 95) := by
              show _ = _
              rw [tree_flow (cl := 1) (qq := 0) HCE.out lx hlf hk6 (by decide) (.inr rfl)]
              rw [if_neg (by decide), if_neg (by decide), if_neg (by decide)]
            clear hlf hk6
            go_wp2_with fail
            refine (checkFlow_any 6 R M C Fl A (some ⟨b, o, none⟩) i cap G 1 0 0 0 1 4607182418800017408 1 (x : Int) _ (HN.out.go (bc_al W4.out))).mono ?_
            rintro e w5 ⟨rfl, hb5⟩
            rw [F1.out]
            have W5 : Hid (Below w.heap.size w w5) := bc_go (bc_al W4.out) hb5
            obtain ⟨gq, egq⟩ : ∃ g, g = w4.heap.size := ⟨_, rfl⟩
            have hq5 : w5.heap[gq]? = some (.cells #[.int .i64 1, .int .i64 0, .int .i64 0, .int .i64 0, .int .i64 1, .float .f64 4607182418800017408, .int .i64 1, .int .i64 (x : Int)] 27) := by
              rw [egq]
              exact (hb5.block _ (by rw [World.size_alloc]; omega)).trans (al_at _ _)
            rw [← egq]
            have p0 : w5.cell? ⟨gq, 0, none⟩ = some (.int .i64 1) := by simp [World.cell?, hq5]
            have p1 : w5.cell? ⟨gq, 1, none⟩ = some (.int .i64 0) := by simp [World.cell?, hq5]
            have p2 : w5.cell? ⟨gq, 2, none⟩ = some (.int .i64 0) := by simp [World.cell?, hq5]
            have p3 : w5.cell? ⟨gq, 3, none⟩ = some (.int .i64 0) := by simp [World.cell?, hq5]
            have p4 : w5.cell? ⟨gq, 4, none⟩ = some (.int .i64 1) := by simp [World.cell?, hq5]
            have p5 : w5.cell? ⟨gq, 5, none⟩ = some (.float .f64 4607182418800017408) := by simp [World.cell?, hq5]
            have p6 : w5.cell? ⟨gq, 6, none⟩ = some (.int .i64 1) := by simp [World.cell?, hq5]
            have p7 : w5.cell? ⟨gq, 7, none⟩ = some (.int .i64 (x : Int)) := by simp [World.cell?, hq5]
            replace x0 := bc_cell hb5 (bc_cell (bc_al (o := .cells #[.int .i64 1, .int .i64 0, .int .i64 0, .int .i64 0, .int .i64 1, .float .f64 4607182418800017408, .int .i64 1, .int .i64 (x : Int)] 27) (bel_refl w4)) x0)
            replace x1 := bc_cell hb5 (bc_cell (bc_al (o := .cells #[.int .i64 1, .int .i64 0, .int .i64 0, .int .i64 0, .int .i64 1, .float .f64 4607182418800017408, .int .i64 1, .int .i64 (x : Int)] 27) (bel_refl w4)) x1)
            replace x2 := bc_cell hb5 (bc_cell (bc_al (o := .cells #[.int .i64 1, .int .i64 0, .int .i64 0, .int .i64 0, .int .i64 1, .float .f64 4607182418800017408, .int .i64 1, .int .i64 (x : Int)] 27) (bel_refl w4)) x2)
            replace x3 := bc_cell hb5 (bc_cell (bc_al (o := .cells #[.int .i64 1, .int .i64 0, .int .i64 0, .int .i64 0, .int .i64 1, .float .f64 4607182418800017408, .int .i64 1, .int .i64 (x : Int)] 27) (bel_refl w4)) x3)
            replace x4 := bc_cell hb5 (bc_cell (bc_al (o := .cells #[.int .i64 1, .int .i64 0, .int .i64 0, .int .i64 0, .int .i64 1, .float .f64 4607182418800017408, .int .i64 1, .int .i64 (x : Int)] 27) (bel_refl w4)) x4)
            replace x5 := bc_cell hb5 (bc_cell (bc_al (o := .cells #[.int .i64 1, .int .i64 0, .int .i64 0, .int .i64 0, .int .i64 1, .float .f64 4607182418800017408, .int .i64 1, .int .i64 (x : Int)] 27) (bel_refl w4)) x5)
            replace x6 := bc_cell hb5 (bc_cell (bc_al (o := .cells #[.int .i64 1, .int .i64 0, .int .i64 0, .int .i64 0, .int .i64 1, .float .f64 4607182418800017408, .int .i64 1, .int .i64 (x : Int)] 27) (bel_refl w4)) x6)
            have lgq : gq < w5.heap.size := World.block_lt_of_cell? _ _ p0
            have lgc5 : gc < w5.heap.size := World.block_lt_of_cell? _ _ x0
            clear hb5 egq hq5
            clear y0
            clear y1
            clear y2
            clear y3
            clear y4
            clear y5
            clear y6
            clear y7
            go_wp2_with fail
            refine (num9_any 0 _).mono ?_
            rintro e w6 ⟨rfl, rfl⟩
            go_wp2_with fail
            refine (checkFlow_any 6 R M C Fl A (some ⟨b, o, none⟩) i cap G 1 0 1 0 1 4607182418800017408 1 (x : Int) _ (HN.out.go (bc_al W5.out))).mono ?_
            rintro e w7 ⟨rfl, hb7⟩
            rw [F2.out]
            have W7 : Hid (Below w.heap.size w w7) := bc_go (bc_al W5.out) hb7
            clear hb7
            go_wp2_with fail
            refine (num9_any 95 _).mono ?_
            rintro e w8 ⟨rfl, rfl⟩
            go_wp2_with fail
            refine (started9_any _ (HV.out.go W7.out)).mono ?_
            rintro e w9 ⟨rfl, hb9⟩
            go_wp2_with fail
            go_ret
            exact ⟨rfl, bc_go W7.out hb9⟩
          · have el := el1
            clear el1 el4 el2
            subst el
            have F1 : Hid (flowE 6 R M C Fl A G i 1 0 0 0 1 4607182418800017408 1 (x : Int) = 0) := by
              show _ = _
              rw [tree_flow (cl := 0) (qq := 0) HCE.out lx hlf hk6 (by decide) (.inl rfl)]
              rw [if_neg (by decide), if_pos rfl]
            have F2 : Hid (flowE 6 R M C Fl A G i 1 0 1 0 1 4607182418800017408 1 (x : Int) = 95) := by
              show _ = _
              rw [tree_flow (cl := 1) (qq := 0) HCE.out lx hlf hk6 (by decide) (.inr rfl)]
              rw [if_neg (by decide), if_neg (by decide), if_neg (by decide)]
            clear hlf hk6
            go_wp2_with fail
            refine (checkFlow_any 6 R M C Fl A (some ⟨b, o, none⟩) i cap G 1 0 0 0 1 4607182418800017408 1 (x : Int) _ (HN.out.go (bc_al W4.out))).mono ?_
            rintro e w5 ⟨rfl, hb5⟩
            rw [F1.out]
            have W5 : Hid (Below w.heap.size w w5) := bc_go (bc_al W4.out) hb5
            obtain ⟨gq, egq⟩ : ∃ g, g = w4.heap.size := ⟨_, rfl⟩
            have hq5 : w5.heap[gq]? = some (.cells #[.int .i64 1, .int .i64 0, .int .i64 0, .int .i64 0, .int .i64 1, .float .f64 4607182418800017408, .int .i64 1, .int .i64 (x : Int)] 27) := by
              rw [egq]
              exact (hb5.block _ (by rw [World.size_alloc]; omega)).trans (al_at _ _)
            rw [← egq]
            have p0 : w5.cell? ⟨gq, 0, none⟩ = some (.int .i64 1) := by simp [World.cell?, hq5]
            have p1 : w5.cell? ⟨gq, 1, none⟩ = some (.int .i64 0) := by simp [World.cell?, hq5]
            have p2 : w5.cell? ⟨gq, 2, none⟩ = some (.int .i64 0) := by simp [World.cell?, hq5]
            have p3 : w5.cell? ⟨gq, 3, none⟩ = some (.int .i64 0) := by simp [World.cell?, hq5]
            have p4 : w5.cell? ⟨gq, 4, none⟩ = some (.int .i64 1) := by simp [World.cell?, hq5]
            have p5 : w5.cell? ⟨gq, 5, none⟩ = some (.float .f64 4607182418800017408) := by simp [World.cell?, hq5]
            have p6 : w5.cell? ⟨gq, 6, none⟩ = some (.int .i64 1) := by simp [World.cell?, hq5]
            have p7 : w5.cell? ⟨gq, 7, none⟩ = some (.int .i64 (x : Int)) := by simp [World.cell?, hq5]
            replace x0 := bc_cell hb5 (bc_cell (bc_al (o := .cells #[.int .i64 1, .int .i64 0, .int .i64 0, .int .i64 0, .int .i64 1, .float .f64 4607182418800017408, .int .i64 1, .int .i64 (x : Int)] 27) (bel_refl w4)) x0)
            replace x1 := bc_cell hb5 (bc_cell (bc_al (o := .cells #[.int .i64 1, .int .i64 0, .int .i64 0, .int .i64 0, .int .i64 1, .float .f64 4607182418800017408, .int .i64 1, .int .i64 (x : Int)] 27) (bel_refl w4)) x1)
            replace x2 := bc_cell hb5 (bc_cell (bc_al (o := .cells #[.int .i64 1, .int .i64 0, .int .i64 0, .int .i64 0, .int .i64 1, .float .f64 4607182418800017408, .int .i64 1, .int .i64 (x : Int)] 27) (bel_refl w4)) x2)
            replace x3 := bc_cell hb5 (bc_cell (bc_al (o := .cells #[.int .i64 1, .int .i64 0, .int .i64 0, .int .i64 0, .int .i64 1, .float .f64 4607182418800017408, .int .i64 1, .int .i64 (x : Int)] 27) (bel_refl w4)) x3)
            replace x4 := bc_cell hb5 (bc_cell (bc_al (o := .cells #[.int .i64 1, .int .i64 0, .int .i64 0, .int .i64 0, .int .i64 1, .float .f64 4607182418800017408, .int .i64 1, .int .i64 (x : Int)] 27) (bel_refl w4)) x4)
            replace x5 := bc_cell hb5 (bc_cell (bc_al (o := .cells #[.int .i64 1, .int .i64 0, .int .i64 0, .int .i64 0, .int .i64 1, .float .f64 4607182418800017408, .int .i64 1, .int .i64 (x : Int)] 27) (bel_refl w4)) x5)
            replace x6 := bc_cell hb5 (bc_cell (bc_al (o := .cells #[.int .i64 1, .int .i64 0, .int .i64 0, .int .i64 0, .int .i64 1, .float .f64 4607182418800017408, .int .i64 1, .int .i64 (x : Int)] 27) (bel_refl w4)) x6)
            have lgq : gq < w5.heap.size := World.block_lt_of_cell? _ _ p0
            have lgc5 : gc < w5.heap.size := World.block_lt_of_cell? _ _ x0
            clear hb5 egq hq5
            clear y0
            clear y1
            clear y2
            clear y3
            clear y4
            clear y5
            clear y6
            clear y7
            go_wp2_with fail
            refine (num9_any 0 _).mono ?_
            rintro e w6 ⟨rfl, rfl⟩
            go_wp2_with fail
            refine (checkFlow_any 6 R M C Fl A (some ⟨b, o, none⟩) i cap G 1 0 1 0 1 4607182418800017408 1 (x : Int) _ (HN.out.go (bc_al W5.out))).mono ?_
            rintro e w7 ⟨rfl, hb7⟩
            rw [F2.out]
            have W7 : Hid (Below w.heap.size w w7) := bc_go (bc_al W5.out) hb7
            clear hb7
            go_wp2_with fail
            refine (num9_any 95 _).mono ?_
            rintro e w8 ⟨rfl, rfl⟩
            go_wp2_with fail
            refine (started9_any _ (HV.out.go W7.out)).mono ?_
            rintro e w9 ⟨rfl, hb9⟩
            go_wp2_with fail
            go_ret
            exact ⟨rfl, bc_go W7.out hb9⟩
        · have lin : i < n := by omega
          go_wp2_with fail
          go_loopw [9, 10] (fun tk ts wr2 => ∃ k s : Nat, k + s ≤ i ∧ tk = .int .i64 (k : Int) ∧ ts = .int .i64 (s : Int) ∧ wr2 = wr) (fun tk _ _ => (intOf tk).toNat)
          case atStart => exact ⟨i, 0, by omega, rfl, rfl, rfl⟩
          case round =>
            obtain ⟨k, s, hks, rfl, rfl, rfl⟩ := hrel
            by_cases ek : k = 0
            · subst ek
              have s31 : ¬ (31 : Int) < (s : Int) := by omega
              have z0 := HX.out i 0 lin (by omega)
              rw [Nat.add_zero] at z0
              by_cases e6 : G i 0 = 6
              · have HL : Hid _ := lvs_tree hi1 e6
                rw [e6] at z0
                go_wp2_with fail
                go_roundw
                case rel => exact ⟨i + 1, by omega, by omega, by go_num, by rw [HL.out], trivial⟩
                case measure => simp [intOf]; omega
              · have HL : Hid _ := lvs_leaf hi1 e6
                have d6 : (G i 0 == 6) = false := by simpa using e6
                have lle := lvs_le G i
                go_wp2_with fail
                go_roundw
                case rel => exact ⟨i + 1, by omega, by omega, by go_num, by rw [HL.out]; go_num, trivial⟩
                case measure => simp [intOf]; omega
            · have lk : k < n := by omega
              have s32 : (s : Int) ≤ 32 := by omega
              have dk : ((k : Int) == 0) = false := by simpa using ek
              obtain ⟨x, ex, hx, h6⟩ := HT.out.par k (by omega) lk
              have z1 := HX.out k 1 lk (by omega)
              rw [ex] at z1
              have z2 := HX.out x 0 (by omega) (by omega)
              rw [Nat.add_zero, h6] at z2
              have lx : x < n := by omega
              clear ex h6
              go_wp2_with fail
              go_roundw
              case rel => exact ⟨x, s + 1, by omega, rfl, by go_num, trivial⟩
              case measure => simp [intOf]; omega
    · have d6 : (K == 6) = false := by simpa using c6
      clear c6
      go_wp2_with fail
      refine (HST.out _ (bel_refl _)).mono ?_
      rintro e w4 ⟨rfl, hb4⟩
      go_wp2_with fail
      go_ret
      exact ⟨rfl, hb4⟩
  · have d : (ce != 0) = true := by simpa using c0
    clear c0
    go_wp2_with fail
    refine (HST.out _ (bel_refl _)).mono ?_
    rintro e w4 ⟨rfl, hb4⟩
    go_wp2_with fail
    go_ret
    exact ⟨rfl, hb4⟩
end Go.Proofs.YtfjmnhmdipjenaaGreatDoor

