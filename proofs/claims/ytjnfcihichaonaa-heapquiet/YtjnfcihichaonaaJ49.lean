/- Contracts of the program's functions, part 49: own work, joined in build order. -/
import Derived.Test.YtjnfcihichaonaaJ48
namespace Go.Proofs.Ytjnfcihichaonaa
open Go.RowKit Go.Shelf Go.Sort
set_option maxRecDepth 100000
set_option linter.unusedVariables false
attribute [local go_sem] Oper.semAt_some
set_option maxHeartbeats 4000000 in
theorem quiet_any (W0 : World) (a1 : Option Addr) (L1 c1 : Nat) (xs : Nat → Int) (item : Int) (hk : ISl W0 a1 L1 c1 xs) (h1 : -9223372036854775808 ≤ item) (h2 : item ≤ 9223372036854775807) :
    Calls Try.prog 7 #[.slice a1 L1 c1, .int .i64 item] W0 fun e w' => e = .returned (.bool true) ∧ Below W0.heap.size W0 w' := by
  have HK : Hid (ISl W0 a1 L1 c1 xs) := hk
  have l1 := hk.lim
  have l1' := hk.le
  obtain ⟨n, en⟩ : ∃ n, n = min L1 100 := ⟨_, rfl⟩
  have n1 : n ≤ L1 := by omega
  have n2 : n ≤ 100 := by omega
  have mn : (if (100 : Int) < (L1 : Int) then (100 : Int) else (L1 : Int)) = (n : Int) := by split <;> omega
  have MD : Hid _ := made_hp 0 false 0 W0 (by omega) (by omega) (by omega) (by omega)
  have EN : Hid (n = min L1 100) := en
  clear hk en
  refine (callsIn_wide (n := 9)).1 ?_
  refine callsIn_of_wp_marks Try.func7 rfl trivial ?_ rfl
  simp only [Try.ntmps7, List.size_toArray, List.length_cons, List.length_nil, Nat.reduceAdd, Nat.reduceSub, Array.replicate_succ, Array.replicate_zero, List.push_toArray, List.append_toArray, List.nil_append, List.cons_append]
  gi_wp2_with fail
  refine ⟨trivial, ?_⟩
  refine (callsIn_wide.2 MD.out).mono ?_
  rintro e w1 ⟨hb, ob, md, rfl, hp1, hmd, B1⟩
  obtain ⟨W2, hW2⟩ : ∃ W2, W2 = w1.alloc (.cells #[.pointer (some ⟨hb, 0, none⟩), .pointer (some ⟨ob, 0, none⟩)] 26) := ⟨_, rfl⟩
  obtain ⟨xb, exb⟩ : ∃ xb, xb = w1.heap.size := ⟨_, rfl⟩
  have M0 : Hid (Sq W0 W2 xb hb ob md false 0 0 ((0 : Nat) : Int) (fun _ _ _ => True)) := by
    have hob : W0.heap.size ≤ ob := by
      obtain ⟨_, _, _, _, _, _, _, _, h9, _⟩ := hp1.ex
      exact h9.ge.2.1
    refine ⟨by rw [hW2, exb]; exact (MapKept.heap_alloc _ _).1, ⟨0, _, by omega, by rw [hW2]; exact hp1.keep ((Below.refl _ _).alloc (Nat.le_refl _) _), fun i k v e => (by cases e)⟩, by rw [hW2]; exact B1.alloc B1.size _, ⟨by rw [exb]; exact B1.size, hob⟩⟩
  have HW2 : Hid (w1.alloc (.cells #[.pointer (some ⟨hb, 0, none⟩), .pointer (some ⟨ob, 0, none⟩)] 26) = W2 ∧ w1.heap.size = xb) := ⟨hW2.symm, exb.symm⟩
  clear hp1 hmd B1 MD hW2 exb
  gi_wp2_with fail
  rw [HW2.out.1, HW2.out.2]
  obtain ⟨d0, d1, _⟩ := M0.out.cells
  gi_wp2_with fail
  gi_loopw [6] (fun t wr => ∃ (i : Nat), i ≤ n ∧ t = .int .i64 (i : Int) ∧ Hid (Sq W0 wr xb hb ob md false i i ((i : Nat) : Int) (fun _ _ _ => True))) (fun t _ => n - (intOf t).toNat)
  case atStart => exact ⟨0, by omega, rfl, M0⟩
  case round =>
    clear M0 d0 d1
    obtain ⟨i, hin, rfl, hS⟩ := hrel
    by_cases hi : i < n
    · obtain ⟨b, o, rfl, hcell⟩ := HK.out.at hS.out.bel (by omega)
      have ck := hcell i (by omega)
      have hr := HK.out.wf i (by omega)
      obtain ⟨k, ek⟩ : ∃ k, k = xs i := ⟨_, rfl⟩
      rw [← ek] at ck hr
      obtain ⟨c0, c1', _⟩ := hS.out.cells
      have w5 : IntKind.i64.wrap ((i : Int) + 1) = (i : Int) + 1 := by rw [IntKind.wrap_i64]; omega
      have PU : Hid (∀ W, W = wr ∨ W = wr.drew → Calls Try.prog 13 #[.pointer (some ⟨hb, 0, none⟩), .int .i64 k, .int .i64 (i : Int)] W fun e w' => e = .returned (.int .i64 ((i : Int) + 1)) ∧ Sq W0 w' xb hb ob md false (i + 1) (i + 1) ((i : Int) + 1) (fun _ _ _ => True) ∧ Below W0.heap.size W w') := fun W hW => (hS.out.mono (W' := W) (by rcases hW with rfl | rfl; exact Below.refl _ _; exact bel_drew (Below.refl _ _))).push k _ (by omega) (by omega) (by omega) hr trivial
      have hL : i < L1 := by omega
      have hL' : (i : Int) < (L1 : Int) := by omega
      have hM' : (i : Int) < (100 : Int) := by omega
      clear hS hcell ek hr
      gi_wp2_with fail
      refine Code.wpIn_mono NoPanic.imp ?_
      gi_region_with (first | (refine ⟨trivial, ?_⟩; refine (callsIn_wide.2 (PU.out _ (by first | exact .inl rfl | exact .inr rfl))).mono ?_; rintro e w8 ⟨rfl, hM, hF⟩; have HM : Hid _ := hM; clear hM))
      all_goals (
        refine NoPanic.normal ?_
        have MX : Hid (Sq W0 w8 xb hb ob md false (i + 1) (i + 1) ((i + 1 : Nat) : Int) (fun _ _ _ => True)) := by
          have e2 : ((i + 1 : Nat) : Int) = (i : Int) + 1 := by omega
          show Sq _ _ _ _ _ _ _ _ _ _ _
          rw [e2]
          exact HM.out
        clear HM PU
        gi_wp2_with fail
        go_roundw
        case rel => exact ⟨i + 1, by omega, by go_num, MX⟩
        case measure => simp [intOf]; omega)
    · obtain rfl : n = i := by omega
      obtain ⟨c0, c1', _⟩ := hS.out.cells
      obtain ⟨N, T, hN, hH0, _⟩ := hS.out.hp
      have c5 := hH0.od.cells.2.2.2.2.2
      have z5 : wr.frozen? ⟨ob, 5, none⟩ = false := by simp [World.frozen?, hH0.od.at']
      have hH : Hid (N ≤ 20 * n ∧ Hp W0.heap.size wr hb ob (.slice none 0 0) 0 md false 0 N n ((n : Nat) : Int) T) := ⟨hN, hH0⟩
      clear hN hH0 hin hi
      have two : ¬ n < L1 ∨ (n < L1 ∧ ¬ n < 100) := by
        have := EN.out
        omega
      rcases two with t1 | ⟨t1, t2⟩
      · gi_wp2_with (refine ⟨trivial, ?_⟩; refine (callsIn_wide.2 (hall_any hb _)).mono ?_; rintro e w5 ⟨rfl, rfl⟩)
        obtain ⟨bk, ebk⟩ : ∃ bk, bk = wr.heap.size := ⟨_, rfl⟩
        obtain ⟨Wz, hWz⟩ : ∃ Wz, Wz = wr.setCell ⟨ob, 5, none⟩ (.int .i64 0) := ⟨_, rfl⟩
        have HZ : Hid (Hp W0.heap.size Wz hb ob (.slice none 0 0) 0 md false 0 0 n ((n : Nat) : Int) T ∧ Wz.heap[xb]? = some (.cells #[.pointer (some ⟨hb, 0, none⟩), .pointer (some ⟨ob, 0, none⟩)] 26) ∧ Below W0.heap.size W0 Wz ∧ Wz.heap.size = bk) := by
          rw [hWz, ebk]
          exact ⟨hH.out.2.zero 0, (Below.heap_setCell _ _ _ xb (ne_of_type hS.out.pair hH.out.2.od.at' (by decide))).trans hS.out.pair, hS.out.bel.setCell hS.out.ge.2 _, by simp⟩
        obtain ⟨W5, hW5⟩ : ∃ W5, W5 = (Wz.alloc (.cells #[.int .i64 0] 3)).alloc (.cells #[.pointer (some ⟨hb, 0, none⟩)] 23) := ⟨_, rfl⟩
        have ezk := HZ.out.2.2.2
        have hsz : W5.heap.size = bk + 1 + 1 := by rw [hW5, ← ezk]; simp
        have B5 : Below bk Wz W5 := by rw [hW5, ← ezk]; exact ((Below.refl _ _).alloc (Nat.le_refl _) _).alloc (by simp) _
        have K5 : Hid (W5.rowIs bk 3 1 (fun _ => .int .i64 0)) := by
          show W5.rowIs bk _ _ _
          rw [hW5, ← ezk]
          exact (World.rowIs_alloc Wz #[.int .i64 0] _ _ fun i hi => by simp at hi; subst hi; rfl).alloc _
        have cBs : W5.cell? ⟨bk + 1, 0, none⟩ = some (.pointer (some ⟨hb, 0, none⟩)) := by rw [hW5, ← ezk]; simp [go_sem]
        have P5 : Hp W0.heap.size W5 hb ob (.slice none 0 0) 0 md false 0 0 n ((n : Nat) : Int) T := HZ.out.1.keep (by rw [ezk]; exact B5)
        obtain ⟨fa, fcap, fmb, fnn, ff, fit, fke, fva, S5, _, _⟩ := P5.ex
        have HS5 : Hid (HsI W5 W0.heap.size hb ob fa n fcap fmb fnn ((n : Nat) : Int) ff fit fke fva ∧ Below bk Wz W5) := ⟨S5, B5⟩
        rw [← ebk]
        rw [← hWz, ← hW5]
        clear ebk hWz hW5 hS hH S5 P5 B5 c0 c1' c5 z5
        refine range_bare 37 38 (gf := 38) (lb := #[.pointer (some ⟨bk + 1, 0, none⟩)]) rfl (enters_of Try.func38 (by kernel_rfl) rfl)
          (hall_stops sorts_mk 8 (by omega) (bk + 1) W5 cBs HS5.out.1) (fun h k => h.trans k) (fun W l o o' _ h1 h2 _ => Kmk.putObj W l o o' h1 h2)
          (fun pre W => W.rowIs bk 3 1 (fun _ => .int .i64 (pre.length : Int)) ∧ Below bk Wz W)
          (fun _ _ _ => False)
          (OwnFrom.and (fun s A B row hs hg hr => rowIs_own hs hg hr) (ownFrom_below (by omega) (by omega)))
          (fun _ _ _ _ _ hs _ _ => hs)
          ⟨K5.out, HS5.out.2⟩ ?assign ?body ?done ?stop
        case assign =>
          intro l x W K hK
          simp only [a0, List.setIfInBounds_toArray, List.set_cons_zero, List.set_cons_succ] at hK
          gi_wp2_with fail
          exact hK
        case body =>
          rintro l pre ⟨xa, xb'⟩ W ⟨q1, hB⟩ hlt
          simp only [a0, List.setIfInBounds_toArray, List.set_cons_zero, List.set_cons_succ]
          obtain ⟨m, em⟩ : ∃ m, m = pre.length := ⟨_, rfl⟩
          rw [← em] at q1 hlt
          have k1 := q1.cell (i := 0) (by omega)
          have k2 := q1.frozen 0
          have w6 : IntKind.i64.wrap ((m : Int) + 1) = (m : Int) + 1 := by rw [IntKind.wrap_i64]; omega
          have HQ : Hid (W.rowIs bk 3 1 (fun _ => .int .i64 (m : Int)) ∧ Below bk Wz W ∧ m = pre.length) := ⟨q1, hB, em⟩
          clear q1 hB em
          gi_wp2_with fail
          obtain ⟨q1, hB, em⟩ := HQ.out
          refine ⟨(KeepsOthers.setCell _ _ _).from _, Kmk.set q1 (by decide) _, (q1.set 0 _).congr fun i hi => ?_, hB.setCell (p := ⟨bk, 0, none⟩) (by simp) _⟩
          have : i = 0 := by omega
          subst this
          rw [List.length_append, ← em]
          simp
        case done =>
          rintro D ys W hD hG ⟨q1, hB⟩ hK
          have eys : ys.length = n := hG.1
          rw [eys] at q1
          have HpW := HZ.out.1.keep (W' := W) (by rw [ezk]; exact hB)
          have ep := (hB.block _ (by have := (Array.getElem?_eq_some_iff.1 HZ.out.2.1).1; omega)).trans HZ.out.2.1
          have k0 : W.cell? ⟨xb, 0, none⟩ = some (.pointer (some ⟨hb, 0, none⟩)) := by simp [World.cell?, ep]
          have HB : Hid (Below W0.heap.size W0 W ∧ W.rowIs bk 3 1 (fun _ => .int .i64 (n : Int)) ∧ W.heap[xb]? = some (.cells #[.pointer (some ⟨hb, 0, none⟩), .pointer (some ⟨ob, 0, none⟩)] 26) ∧ Hp W0.heap.size W hb ob (.slice none 0 0) 0 md false 0 0 n ((n : Nat) : Int) T ∧ W.heap[D]? = some (.deferred (some [])) ∧ W0.heap.size ≤ D) := ⟨HZ.out.2.2.1.trans (hB.mono (by have := HZ.out.2.2.1.size; omega)), q1, ep, HpW, hK, by have := HZ.out.2.2.1.size; omega⟩
          clear q1 hB HpW ep hK hG eys HZ K5 HS5 cBs
          gi_wp2_with fail
          refine ⟨trivial, ?_⟩
          refine (callsIn_wide.2 (HB.out.2.2.2.1.get item h1 h2)).mono ?_
          rintro e w6 ⟨rfl, m6, rfl⟩
          have k0' : (W.drewN m6).cell? ⟨xb, 0, none⟩ = some (.pointer (some ⟨hb, 0, none⟩)) := k0
          gi_wp2_with fail
          refine ⟨trivial, ?_⟩
          refine (callsIn_wide.2 ((HB.out.2.2.2.1.keep (bel_drewN (Below.refl _ _) m6)).get 1 (by omega) (by omega))).mono ?_
          rintro e w7 ⟨rfl, m7, rfl⟩
          obtain ⟨W8, hW8⟩ : ∃ W8, W8 = (W.drewN m6).drewN m7 := ⟨_, rfl⟩
          have H8 : Hid (Below W0.heap.size W0 W8 ∧ W8.rowIs bk 3 1 (fun _ => .int .i64 (n : Int)) ∧ W8.heap[xb]? = some (.cells #[.pointer (some ⟨hb, 0, none⟩), .pointer (some ⟨ob, 0, none⟩)] 26) ∧ Hp W0.heap.size W8 hb ob (.slice none 0 0) 0 md false 0 0 n ((n : Nat) : Int) T ∧ W8.heap[D]? = some (.deferred (some [])) ∧ W0.heap.size ≤ D) := by
            rw [hW8]
            exact ⟨bel_drewN (bel_drewN HB.out.1 _) _, HB.out.2.1.of_block rfl, HB.out.2.2.1, HB.out.2.2.2.1.keep (bel_drewN (bel_drewN (Below.refl _ _) _) _), HB.out.2.2.2.2⟩
          rw [← hW8]
          clear hW8 HB k0 k0'
          have k1 := H8.out.2.1.cell (i := 0) (by omega)
          have k0 : W8.cell? ⟨xb, 0, none⟩ = some (.pointer (some ⟨hb, 0, none⟩)) := by simp [World.cell?, H8.out.2.2.1]
          have k2 : W8.cell? ⟨xb, 1, none⟩ = some (.pointer (some ⟨ob, 0, none⟩)) := by simp [World.cell?, H8.out.2.2.1]
          have k5 : W8.cell? ⟨ob, 5, none⟩ = some (.int .i64 0) := H8.out.2.2.2.1.od.cells.2.2.2.2.2
          have LN : Hid (∀ W', W' = W8 ∨ W' = W8.drew → Calls Try.prog 17 #[.pointer (some ⟨hb, 0, none⟩)] W' fun e w' => e = .returned (.int .i64 (n : Int)) ∧ w' = W') := fun W' hW => (H8.out.2.2.2.1.keep (W' := W') (by rcases hW with rfl | rfl; exact Below.refl _ _; exact bel_drew (Below.refl _ _))).len
          have ST : Hid (∀ W', W' = W8 ∨ W' = W8.drew → Calls Try.prog 12 #[] W' fun e w' => e = .returned (.bool true) ∧ Below W8.heap.size W8 w') := fun W' hW => (started_any W').mono fun e w' ⟨g1, g2⟩ => ⟨g1, by rcases hW with rfl | rfl; exact g2; exact (bel_drew (Below.refl _ _)).trans g2⟩
          have mn2 : min (L1 : Int) 100 = (n : Int) := by have := EN.out; omega
          clear mn EN
          gi_wp2_with fail
          refine wpIn_wide.2 ?_
          rename_i hz
          have HZZ : Hid _ := hz
          go_region_held3 (fun w9 => w9.cell? ⟨bk, 0, none⟩ = some (.int .i64 (n : Int)) ∧ w9.cell? ⟨xb, 0, none⟩ = some (.pointer (some ⟨hb, 0, none⟩)) ∧ w9.cell? ⟨xb, 1, none⟩ = some (.pointer (some ⟨ob, 0, none⟩)) ∧ w9.cell? ⟨ob, 5, none⟩ = some (.int .i64 0)) (first | (simp [go_sem, *]; done) | (trace_state; fail))
            (first
              | (go_at_call 17; refine Calls.mono (LN.out _ (by first | exact .inl rfl | exact .inr rfl)) ?_; rintro e w8 ⟨rfl, rfl⟩)
              | (go_at_call 12; refine Calls.mono (ST.out _ (by first | exact .inl rfl | exact .inr rfl)) ?_; rintro e w9 ⟨rfl, hB9⟩; have y1 := cell_later hB9 k1; have y0 := cell_later hB9 k0; have y2 := cell_later hB9 k2; have y5 := cell_later hB9 k5))
          refine hz _ _ ?_
          have hK9 : w9.heap[D]? = some (.deferred (some [])) := (hB9.block D (Array.getElem?_eq_some_iff.1 H8.out.2.2.2.2.1).1).trans H8.out.2.2.2.2.1
          have HE : Hid (Below W0.heap.size W0 w9 ∧ W0.heap.size ≤ D) := ⟨H8.out.1.trans (hB9.mono H8.out.1.size), H8.out.2.2.2.2.2⟩
          clear HZZ hz H8 LN ST hB9 y0 y1 y2 y5 k0 k1 k2 k5
          gi_wp2_with fail
          refine ⟨by simp, .inl ⟨_, _, rfl, run_takeDeferred hK9, ?_⟩⟩
          exact ⟨_, results_tmp rfl _ _ _, rfl, HE.out.1.trans (belowK_b (w := W0) (Nat.le_refl _) w9 D _ _ HE.out.2 hK9 rfl rfl)⟩
        case stop =>
          rintro D c pre W _ _ h _
          exact h.elim
      · gi_wp2_with (refine ⟨trivial, ?_⟩; refine (callsIn_wide.2 (hall_any hb _)).mono ?_; rintro e w5 ⟨rfl, rfl⟩)
        obtain ⟨bk, ebk⟩ : ∃ bk, bk = wr.heap.size := ⟨_, rfl⟩
        obtain ⟨Wz, hWz⟩ : ∃ Wz, Wz = wr.setCell ⟨ob, 5, none⟩ (.int .i64 0) := ⟨_, rfl⟩
        have HZ : Hid (Hp W0.heap.size Wz hb ob (.slice none 0 0) 0 md false 0 0 n ((n : Nat) : Int) T ∧ Wz.heap[xb]? = some (.cells #[.pointer (some ⟨hb, 0, none⟩), .pointer (some ⟨ob, 0, none⟩)] 26) ∧ Below W0.heap.size W0 Wz ∧ Wz.heap.size = bk) := by
          rw [hWz, ebk]
          exact ⟨hH.out.2.zero 0, (Below.heap_setCell _ _ _ xb (ne_of_type hS.out.pair hH.out.2.od.at' (by decide))).trans hS.out.pair, hS.out.bel.setCell hS.out.ge.2 _, by simp⟩
        obtain ⟨W5, hW5⟩ : ∃ W5, W5 = (Wz.alloc (.cells #[.int .i64 0] 3)).alloc (.cells #[.pointer (some ⟨hb, 0, none⟩)] 23) := ⟨_, rfl⟩
        have ezk := HZ.out.2.2.2
        have hsz : W5.heap.size = bk + 1 + 1 := by rw [hW5, ← ezk]; simp
        have B5 : Below bk Wz W5 := by rw [hW5, ← ezk]; exact ((Below.refl _ _).alloc (Nat.le_refl _) _).alloc (by simp) _
        have K5 : Hid (W5.rowIs bk 3 1 (fun _ => .int .i64 0)) := by
          show W5.rowIs bk _ _ _
          rw [hW5, ← ezk]
          exact (World.rowIs_alloc Wz #[.int .i64 0] _ _ fun i hi => by simp at hi; subst hi; rfl).alloc _
        have cBs : W5.cell? ⟨bk + 1, 0, none⟩ = some (.pointer (some ⟨hb, 0, none⟩)) := by rw [hW5, ← ezk]; simp [go_sem]
        have P5 : Hp W0.heap.size W5 hb ob (.slice none 0 0) 0 md false 0 0 n ((n : Nat) : Int) T := HZ.out.1.keep (by rw [ezk]; exact B5)
        obtain ⟨fa, fcap, fmb, fnn, ff, fit, fke, fva, S5, _, _⟩ := P5.ex
        have HS5 : Hid (HsI W5 W0.heap.size hb ob fa n fcap fmb fnn ((n : Nat) : Int) ff fit fke fva ∧ Below bk Wz W5) := ⟨S5, B5⟩
        rw [← ebk]
        rw [← hWz, ← hW5]
        clear ebk hWz hW5 hS hH S5 P5 B5 c0 c1' c5 z5
        refine range_bare 37 38 (gf := 38) (lb := #[.pointer (some ⟨bk + 1, 0, none⟩)]) rfl (enters_of Try.func38 (by kernel_rfl) rfl)
          (hall_stops sorts_mk 8 (by omega) (bk + 1) W5 cBs HS5.out.1) (fun h k => h.trans k) (fun W l o o' _ h1 h2 _ => Kmk.putObj W l o o' h1 h2)
          (fun pre W => W.rowIs bk 3 1 (fun _ => .int .i64 (pre.length : Int)) ∧ Below bk Wz W)
          (fun _ _ _ => False)
          (OwnFrom.and (fun s A B row hs hg hr => rowIs_own hs hg hr) (ownFrom_below (by omega) (by omega)))
          (fun _ _ _ _ _ hs _ _ => hs)
          ⟨K5.out, HS5.out.2⟩ ?assign ?body ?done ?stop
        case assign =>
          intro l x W K hK
          simp only [a0, List.setIfInBounds_toArray, List.set_cons_zero, List.set_cons_succ] at hK
          gi_wp2_with fail
          exact hK
        case body =>
          rintro l pre ⟨xa, xb'⟩ W ⟨q1, hB⟩ hlt
          simp only [a0, List.setIfInBounds_toArray, List.set_cons_zero, List.set_cons_succ]
          obtain ⟨m, em⟩ : ∃ m, m = pre.length := ⟨_, rfl⟩
          rw [← em] at q1 hlt
          have k1 := q1.cell (i := 0) (by omega)
          have k2 := q1.frozen 0
          have w6 : IntKind.i64.wrap ((m : Int) + 1) = (m : Int) + 1 := by rw [IntKind.wrap_i64]; omega
          have HQ : Hid (W.rowIs bk 3 1 (fun _ => .int .i64 (m : Int)) ∧ Below bk Wz W ∧ m = pre.length) := ⟨q1, hB, em⟩
          clear q1 hB em
          gi_wp2_with fail
          obtain ⟨q1, hB, em⟩ := HQ.out
          refine ⟨(KeepsOthers.setCell _ _ _).from _, Kmk.set q1 (by decide) _, (q1.set 0 _).congr fun i hi => ?_, hB.setCell (p := ⟨bk, 0, none⟩) (by simp) _⟩
          have : i = 0 := by omega
          subst this
          rw [List.length_append, ← em]
          simp
        case done =>
          rintro D ys W hD hG ⟨q1, hB⟩ hK
          have eys : ys.length = n := hG.1
          rw [eys] at q1
          have HpW := HZ.out.1.keep (W' := W) (by rw [ezk]; exact hB)
          have ep := (hB.block _ (by have := (Array.getElem?_eq_some_iff.1 HZ.out.2.1).1; omega)).trans HZ.out.2.1
          have k0 : W.cell? ⟨xb, 0, none⟩ = some (.pointer (some ⟨hb, 0, none⟩)) := by simp [World.cell?, ep]
          have HB : Hid (Below W0.heap.size W0 W ∧ W.rowIs bk 3 1 (fun _ => .int .i64 (n : Int)) ∧ W.heap[xb]? = some (.cells #[.pointer (some ⟨hb, 0, none⟩), .pointer (some ⟨ob, 0, none⟩)] 26) ∧ Hp W0.heap.size W hb ob (.slice none 0 0) 0 md false 0 0 n ((n : Nat) : Int) T ∧ W.heap[D]? = some (.deferred (some [])) ∧ W0.heap.size ≤ D) := ⟨HZ.out.2.2.1.trans (hB.mono (by have := HZ.out.2.2.1.size; omega)), q1, ep, HpW, hK, by have := HZ.out.2.2.1.size; omega⟩
          clear q1 hB HpW ep hK hG eys HZ K5 HS5 cBs
          gi_wp2_with fail
          refine ⟨trivial, ?_⟩
          refine (callsIn_wide.2 (HB.out.2.2.2.1.get item h1 h2)).mono ?_
          rintro e w6 ⟨rfl, m6, rfl⟩
          have k0' : (W.drewN m6).cell? ⟨xb, 0, none⟩ = some (.pointer (some ⟨hb, 0, none⟩)) := k0
          gi_wp2_with fail
          refine ⟨trivial, ?_⟩
          refine (callsIn_wide.2 ((HB.out.2.2.2.1.keep (bel_drewN (Below.refl _ _) m6)).get 1 (by omega) (by omega))).mono ?_
          rintro e w7 ⟨rfl, m7, rfl⟩
          obtain ⟨W8, hW8⟩ : ∃ W8, W8 = (W.drewN m6).drewN m7 := ⟨_, rfl⟩
          have H8 : Hid (Below W0.heap.size W0 W8 ∧ W8.rowIs bk 3 1 (fun _ => .int .i64 (n : Int)) ∧ W8.heap[xb]? = some (.cells #[.pointer (some ⟨hb, 0, none⟩), .pointer (some ⟨ob, 0, none⟩)] 26) ∧ Hp W0.heap.size W8 hb ob (.slice none 0 0) 0 md false 0 0 n ((n : Nat) : Int) T ∧ W8.heap[D]? = some (.deferred (some [])) ∧ W0.heap.size ≤ D) := by
            rw [hW8]
            exact ⟨bel_drewN (bel_drewN HB.out.1 _) _, HB.out.2.1.of_block rfl, HB.out.2.2.1, HB.out.2.2.2.1.keep (bel_drewN (bel_drewN (Below.refl _ _) _) _), HB.out.2.2.2.2⟩
          rw [← hW8]
          clear hW8 HB k0 k0'
          have k1 := H8.out.2.1.cell (i := 0) (by omega)
          have k0 : W8.cell? ⟨xb, 0, none⟩ = some (.pointer (some ⟨hb, 0, none⟩)) := by simp [World.cell?, H8.out.2.2.1]
          have k2 : W8.cell? ⟨xb, 1, none⟩ = some (.pointer (some ⟨ob, 0, none⟩)) := by simp [World.cell?, H8.out.2.2.1]
          have k5 : W8.cell? ⟨ob, 5, none⟩ = some (.int .i64 0) := H8.out.2.2.2.1.od.cells.2.2.2.2.2
          have LN : Hid (∀ W', W' = W8 ∨ W' = W8.drew → Calls Try.prog 17 #[.pointer (some ⟨hb, 0, none⟩)] W' fun e w' => e = .returned (.int .i64 (n : Int)) ∧ w' = W') := fun W' hW => (H8.out.2.2.2.1.keep (W' := W') (by rcases hW with rfl | rfl; exact Below.refl _ _; exact bel_drew (Below.refl _ _))).len
          have ST : Hid (∀ W', W' = W8 ∨ W' = W8.drew → Calls Try.prog 12 #[] W' fun e w' => e = .returned (.bool true) ∧ Below W8.heap.size W8 w') := fun W' hW => (started_any W').mono fun e w' ⟨g1, g2⟩ => ⟨g1, by rcases hW with rfl | rfl; exact g2; exact (bel_drew (Below.refl _ _)).trans g2⟩
          have mn2 : min (L1 : Int) 100 = (n : Int) := by have := EN.out; omega
          clear mn EN
          gi_wp2_with fail
          refine wpIn_wide.2 ?_
          rename_i hz
          have HZZ : Hid _ := hz
          go_region_held3 (fun w9 => w9.cell? ⟨bk, 0, none⟩ = some (.int .i64 (n : Int)) ∧ w9.cell? ⟨xb, 0, none⟩ = some (.pointer (some ⟨hb, 0, none⟩)) ∧ w9.cell? ⟨xb, 1, none⟩ = some (.pointer (some ⟨ob, 0, none⟩)) ∧ w9.cell? ⟨ob, 5, none⟩ = some (.int .i64 0)) (first | (simp [go_sem, *]; done) | (trace_state; fail))
            (first
              | (go_at_call 17; refine Calls.mono (LN.out _ (by first | exact .inl rfl | exact .inr rfl)) ?_; rintro e w8 ⟨rfl, rfl⟩)
              | (go_at_call 12; refine Calls.mono (ST.out _ (by first | exact .inl rfl | exact .inr rfl)) ?_; rintro e w9 ⟨rfl, hB9⟩; have y1 := cell_later hB9 k1; have y0 := cell_later hB9 k0; have y2 := cell_later hB9 k2; have y5 := cell_later hB9 k5))
          refine hz _ _ ?_
          have hK9 : w9.heap[D]? = some (.deferred (some [])) := (hB9.block D (Array.getElem?_eq_some_iff.1 H8.out.2.2.2.2.1).1).trans H8.out.2.2.2.2.1
          have HE : Hid (Below W0.heap.size W0 w9 ∧ W0.heap.size ≤ D) := ⟨H8.out.1.trans (hB9.mono H8.out.1.size), H8.out.2.2.2.2.2⟩
          clear HZZ hz H8 LN ST hB9 y0 y1 y2 y5 k0 k1 k2 k5
          gi_wp2_with fail
          refine ⟨by simp, .inl ⟨_, _, rfl, run_takeDeferred hK9, ?_⟩⟩
          exact ⟨_, results_tmp rfl _ _ _, rfl, HE.out.1.trans (belowK_b (w := W0) (Nat.le_refl _) w9 D _ _ HE.out.2 hK9 rfl rfl)⟩
        case stop =>
          rintro D c pre W _ _ h _
          exact h.elim
end Go.Proofs.Ytjnfcihichaonaa
