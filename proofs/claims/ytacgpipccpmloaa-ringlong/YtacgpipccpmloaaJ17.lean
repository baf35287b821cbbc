/- Contracts of the program's functions, part 17: own work, joined in build order. -/
import Derived.Test.YtacgpipccpmloaaJ16
namespace Go.Proofs.Ytacgpipccpmloaa
open Go.RowKit Go.Shelf
set_option maxRecDepth 100000
set_option linter.unusedVariables false
attribute [local go_sem] Oper.semAt_some
set_option maxHeartbeats 4000000 in
theorem ringLong_true (n p : Int) (w : World) (hn : -9223372036854775808 ≤ n) (hn2 : n ≤ 9223372036854775807) (hp : -9223372036854775808 ≤ p) (hp2 : p ≤ 9223372036854775807) :
    Calls Try.prog 6 #[.int .i64 n, .int .i64 p] w fun e w' => e = .returned (.bool true) ∧ Below w.heap.size w w' := by
  obtain ⟨c, ec⟩ : ∃ c : Nat, (c : Int) = min (max n 0) 65536 := ⟨(min (max n 0) 65536).toNat, by omega⟩
  have hc : c ≤ 65536 := by omega
  obtain ⟨nm, hnm⟩ : ∃ nm : Int, (if n < 0 then (0 : Int) else n) = nm := ⟨_, rfl⟩
  have hnm2 : (if (65536 : Int) < nm then (65536 : Int) else nm) = (c : Int) := by
    rw [← hnm]
    split <;> split <;> omega
  clear ec
  refine (callsIn_wide (n := 9)).1 ?_
  refine callsIn_of_wp_marks Try.func6 rfl trivial ?_ rfl
  simp only [Try.ntmps6, List.size_toArray, List.length_cons, List.length_nil, Nat.reduceAdd, Nat.reduceSub, Array.replicate_succ, Array.replicate_zero, List.push_toArray, List.append_toArray, List.nil_append, List.cons_append]
  gi_wp2_with fail
  obtain ⟨W1, hW1⟩ : ∃ W1, W1 = w.alloc (.cells #[.bool false] 4) := ⟨_, rfl⟩
  have hs1 : W1.heap.size = w.heap.size + 1 := by rw [hW1]; simp
  have B1 : Below w.heap.size w W1 := by rw [hW1]; exact (Below.refl _ _).alloc (Nat.le_refl _) _
  have r1 : W1.rowIs w.heap.size 4 1 (fun _ => .bool false) := by
    rw [hW1]
    exact World.rowIs_alloc w #[.bool false] _ _ fun i hi => by simp at hi; subst hi; rfl
  rw [← hW1]
  refine ⟨trivial, ?_⟩
  refine (callsIn_wide.2 (own_new W1)).mono ?_
  rintro e w2 ⟨rfl, h2⟩
  obtain ⟨r, er⟩ : ∃ r, r = W1.heap.size := ⟨_, rfl⟩
  rw [← er]
  have H2 : Hid (OneK w.heap.size [w.heap.size] w w2 r [] ∧ w2.rowIs w.heap.size 4 1 (fun _ => .bool false)) := by
    obtain ⟨p1, p2⟩ := h2.out
    refine ⟨⟨r, ⟨by rw [er]; exact p1.ring, by omega, by omega⟩, B1.trans (p2.mono (by omega)), Nat.le_refl _, fun k hk => ?_⟩, r1.of_block (p2.block _ (by omega))⟩
    obtain rfl : k = w.heap.size := by simpa using hk
    have := p2.size
    exact ⟨by omega, by omega, by omega⟩
  clear h2 hW1 hs1 B1 r1 er hnm hnm2
  gi_wp2_with fail
  refine ⟨trivial, ?_⟩
  refine (callsIn_wide.2 (told_any w2)).mono ?_
  rintro e w3 ⟨rfl, h3⟩
  have H3 : Hid (OneK w.heap.size [w.heap.size] w w3 r [] ∧ w3.rowIs w.heap.size 4 1 (fun _ => .bool false)) := ⟨H2.out.1.grow h3, H2.out.2.of_block (h3.block _ H2.out.2.lt)⟩
  clear h3 H2
  gi_wp2_with fail
  obtain ⟨bl, ebl⟩ : ∃ bl, bl = w3.heap.size := ⟨_, rfl⟩
  obtain ⟨w4, hw4⟩ : ∃ w4, w4 = w3.alloc (.cells #[.int .i64 0] 3) := ⟨_, rfl⟩
  have H4 : Hid (LS w w4 r bl (seg 0 0) 0) := by
    have b4 : Below w3.heap.size w3 w4 := by rw [hw4]; exact (Below.refl _ _).alloc (Nat.le_refl _) _
    refine ⟨H3.out.1.add b4 (by omega) (by rw [hw4, ebl]; simp), ?_, H3.out.2.of_block (b4.block _ H3.out.2.lt), by have := H3.out.2.lt; omega⟩
    rw [hw4, ebl]
    exact World.rowIs_alloc w3 #[.int .i64 0] _ _ fun i hi => by simp at hi; subst hi; rfl
  rw [← ebl, ← hw4]
  clear ebl hw4 H3
  gi_loopw [7, 8] (fun hv iv wr => ∃ (lo : Int) (k i : Nat), i ≤ c ∧ iv = .int .i64 (i : Int) ∧ hv = .int .i64 (lo + (k : Int)) ∧ -(i : Int) ≤ lo ∧ lo ≤ (i : Int) ∧ k ≤ i ∧ Hid (LS w wr r bl (seg lo k) lo)) (fun _ iv _ => c - (intOf iv).toNat)
  case atStart => exact ⟨0, 0, 0, by omega, rfl, rfl, by omega, by omega, by omega, H4⟩
  case round =>
    clear H4
    obtain ⟨lo, k, i, hi, rfl, rfl, hlo, hlo2, hk, hL⟩ := hrel
    by_cases hic : i < c
    · have hcl := hL.out.cl
      have hfl := hL.out.fl
      obtain ⟨q, hq⟩ : ∃ q, bits .and .i64 p 15 = q := ⟨_, rfl⟩
      have hq0 : 0 ≤ q ∧ q < 16 := by rw [← hq, i64_and15]; omega
      obtain ⟨hq1, hq2⟩ := hq0
      have three : decide (0 < p) = false ∨ (decide (0 < p) = true ∧ ((i : Int) % (q + 2) == 0) = false) ∨ (decide (0 < p) = true ∧ ((i : Int) % (q + 2) == 0) = true) := by
        cases decide (0 < p) <;> cases ((i : Int) % (q + 2) == 0) <;> simp
      have HLn : Hid ((seg lo k).length ≤ 4294967296) := by show (seg lo k).length ≤ 4294967296; rw [seg_length]; omega
      rcases Bool.eq_false_or_eq_true ((i : Int) % 2 == 0) with hpar | hpar
      · gi_wp2_with fail
        refine ⟨trivial, ?_⟩
        refine (callsIn_wide.2 (hL.out.ring.pushBack HLn.out (lo + (k : Int)))).mono ?_
        rintro e w5 ⟨rfl, h5⟩
        have H5 : Hid (LS w w5 r bl (seg lo (k + 1)) lo) := by
          have := hL.out.go h5.out
          rw [seg_back lo _ k rfl] at this
          exact this
        clear h5
        clear hL hcl hfl hpar
        have hcl := H5.out.cl
        have hfl := H5.out.fl
        rcases three with t1 | ⟨t1, t2⟩ | ⟨t1, t2⟩
        · gi_wp2_with fail
          go_roundw
          case rel => exact ⟨lo, k + 1, i + 1, by omega, by go_num, by go_num, by omega, by omega, by omega, H5⟩
          case measure => simp [intOf]; omega
        · gi_wp2_with fail
          go_roundw
          case rel => exact ⟨lo, k + 1, i + 1, by omega, by go_num, by go_num, by omega, by omega, by omega, H5⟩
          case measure => simp [intOf]; omega
        · have H7 : Hid (LS w w5 r bl (lo :: seg (lo + 1) k) lo) := by
            have := H5.out
            rw [← seg_front (lo + 1) lo k (by omega)] at this
            exact this
          gi_wp2_with fail
          refine ⟨trivial, ?_⟩
          refine (callsIn_wide.2 H7.out.ring.popFront).mono ?_
          rintro e w6 ⟨rfl, h6⟩
          have H8 : Hid (LS w w6 r bl (seg (lo + 1) k) lo) := H7.out.go h6.out
          clear h6 H7 H5 hcl hfl
          have hcl := H8.out.cl
          have hfl := H8.out.fl
          have H9 : Hid (LS w (w6.setCell ⟨bl, 0, none⟩ (.int .i64 (lo + 1))) r bl (seg (lo + 1) k) (lo + 1)) := H8.out.setLow (lo + 1)
          have w9 : lo + 1 = lo + 1 := rfl
          clear H8
          gi_wp2_with fail
          go_roundw
          case rel => exact ⟨lo + 1, k, i + 1, by omega, by go_num, by go_num, by omega, by omega, by omega, by first | exact H9 | (have := H9; simpa using this)⟩
          case measure => simp [intOf]; omega
      · gi_wp2_with fail
        refine ⟨trivial, ?_⟩
        have H6 : Hid (LS w (wr.setCell ⟨bl, 0, none⟩ (.int .i64 (lo - 1))) r bl (seg lo k) (lo - 1)) := hL.out.setLow (lo - 1)
        refine (callsIn_wide.2 (H6.out.ring.pushFront HLn.out (lo - 1))).mono ?_
        rintro e w5 ⟨rfl, h5⟩
        have H5 : Hid (LS w w5 r bl (seg (lo - 1) (k + 1)) (lo - 1)) := by
          have := H6.out.go h5.out
          rw [seg_front lo _ k rfl] at this
          exact this
        clear h5 H6
        clear hL hcl hfl hpar
        have hcl := H5.out.cl
        have hfl := H5.out.fl
        rcases three with t1 | ⟨t1, t2⟩ | ⟨t1, t2⟩
        · gi_wp2_with fail
          go_roundw
          case rel => exact ⟨lo - 1, k + 1, i + 1, by omega, by go_num, by go_num, by omega, by omega, by omega, H5⟩
          case measure => simp [intOf]; omega
        · gi_wp2_with fail
          go_roundw
          case rel => exact ⟨lo - 1, k + 1, i + 1, by omega, by go_num, by go_num, by omega, by omega, by omega, H5⟩
          case measure => simp [intOf]; omega
        · have H7 : Hid (LS w w5 r bl ((lo - 1) :: seg ((lo - 1) + 1) k) (lo - 1)) := by
            have := H5.out
            rw [← seg_front ((lo - 1) + 1) (lo - 1) k (by omega)] at this
            exact this
          gi_wp2_with fail
          refine ⟨trivial, ?_⟩
          refine (callsIn_wide.2 H7.out.ring.popFront).mono ?_
          rintro e w6 ⟨rfl, h6⟩
          have H8 : Hid (LS w w6 r bl (seg ((lo - 1) + 1) k) (lo - 1)) := H7.out.go h6.out
          clear h6 H7 H5 hcl hfl
          have hcl := H8.out.cl
          have hfl := H8.out.fl
          have H9 : Hid (LS w (w6.setCell ⟨bl, 0, none⟩ (.int .i64 ((lo - 1) + 1))) r bl (seg ((lo - 1) + 1) k) ((lo - 1) + 1)) := H8.out.setLow ((lo - 1) + 1)
          have w9 : (lo - 1) + 1 = (lo - 1) + 1 := rfl
          clear H8
          gi_wp2_with fail
          go_roundw
          case rel => exact ⟨(lo - 1) + 1, k, i + 1, by omega, by go_num, by go_num, by omega, by omega, by omega, by first | exact H9 | (have := H9; simpa using this)⟩
          case measure => simp [intOf]; omega
    · obtain rfl : i = c := by omega
      have hcl := hL.out.cl
      have hfl := hL.out.fl
      gi_wp2_with fail
      have wk : IntKind.i64.wrap (lo + (k : Int) - lo) = (k : Int) := by rw [IntKind.wrap_i64]; omega
      refine Code.wpIn_mono NoPanic.imp ?_
      gi_region_with (first | (refine ⟨trivial, ?_⟩; refine (callsIn_wide.2 ((hL.out.drew 1).ring.len k (seg_length lo k))).mono ?_; rintro e w5 ⟨rfl, rfl⟩))
      all_goals (
        refine NoPanic.normal ?_
        gi_wp2_with fail
        gi_loopw [11] (fun iv wr2 => ∃ (j : Nat), j ≤ k + k / 50 + 1 ∧ iv = .int .i64 (j : Int) ∧ Hid (LS w wr2 r bl (seg lo k) lo)) (fun iv _ => k - (intOf iv).toNat)
        case atStart => exact ⟨0, by omega, rfl, hL.out.drew 1⟩
        case round =>
          clear hL hcl hfl
          obtain ⟨j, hj, rfl, hL⟩ := hrel
          have hcl := hL.out.cl
          have hfl := hL.out.fl
          have e1 : lo + (k : Int) - lo = (k : Int) := by omega
          by_cases hjk : j < k
          · have hd : decide ((j : Int) < (k : Int)) = true := decide_eq_true (by omega)
            gi_wp2_with fail
            refine ⟨trivial, ?_⟩
            refine (callsIn_wide.2 (hL.out.ring.at j (j : Int) rfl (by rw [seg_length]; exact hjk) (lo + (j : Int)) (seg_getD lo k j hjk))).mono ?_
            rintro e w5 ⟨rfl, nd, rfl⟩
            gi_wp2_with fail
            go_roundw
            case rel => exact ⟨j + (1 + k / 50), by omega, by go_num, hL.out.drew nd⟩
            case measure => simp [intOf]; omega
          · have hd : decide ((j : Int) < (k : Int)) = false := decide_eq_false (by omega)
            gi_wp2_with (refine ⟨trivial, ?_⟩; refine (callsIn_wide.2 (allI_any r _)).mono ?_; rintro e w5 ⟨rfl, rfl⟩)
            obtain ⟨bk, ebk⟩ : ∃ bk, bk = wr.heap.size := ⟨_, rfl⟩
            obtain ⟨W0, hW0⟩ : ∃ W0, W0 = (wr.alloc (.cells #[.int .i64 0] 3)).alloc (.cells #[.pointer (some ⟨r, 0, none⟩)] 24) := ⟨_, rfl⟩
            have hsz : W0.heap.size = bk + 1 + 1 := by rw [hW0, ebk]; simp
            have B0 : Below wr.heap.size wr W0 := by rw [hW0]; exact ((Below.refl _ _).alloc (Nat.le_refl _) _).alloc (by simp) _
            have L0 : Hid (LS w W0 r bl (seg lo k) lo) := hL.out.grow B0
            have K0 : Hid (W0.rowIs bk 3 1 (fun _ => .int .i64 0)) := by
              show W0.rowIs bk _ _ _
              rw [hW0, ebk]
              exact (World.rowIs_alloc wr #[.int .i64 0] _ _ fun i hi => by simp at hi; subst hi; rfl).alloc _
            have cBs : W0.cell? ⟨bk + 1, 0, none⟩ = some (.pointer (some ⟨r, 0, none⟩)) := by rw [hW0, ebk]; simp [go_sem]
            have hbl : bl < bk := by have := hL.out.low.lt; omega
            have hbw : w.heap.size < bl := hL.out.hbl
            rw [← ebk, ← hW0]
            clear ebk hW0 hL hcl hfl
            obtain ⟨g1, N1, f1, hR⟩ := L0.out.ring.all
            have HR : Hid (RI W0 r g1 N1 f1 k (seg lo k)) := by
              have := hR
              rw [seg_length] at this
              exact this
            clear hR
            refine range_two 104 105 15 16 (gf := 36) (lb := #[.pointer (some ⟨bk + 1, 0, none⟩)]) rfl (enters_of Try.func36 (by kernel_rfl) rfl)
              (allI_stops 8 (by omega) (bk + 1) W0.heap.size r g1 N1 f1 k (seg lo k) (seg_length lo k) W0 cBs HR.out (Nat.le_refl _)) (fun h k => h.trans k) (fun W l o o' _ h1 h2 _ => Kpx.putObj _ _ _ _ W l o o' h1 h2)
              (fun pre W => (W.rowIs bk 3 1 (fun _ => .int .i64 (pre.length : Int)) ∧ W.rowIs bl 3 1 (fun _ => .int .i64 lo) ∧ W.rowIs w.heap.size 4 1 (fun _ => .bool false)) ∧ Below w.heap.size w W)
              (fun _ pre _ => pre ≠ pairsI (seg lo k) pre.length)
              (OwnFrom.and (fun s A B row hs hg hr => ⟨rowIs_own hs.1 hg hr, rowIs_own hs.2.1 hg hr, rowIs_own hs.2.2 hg hr⟩) (ownFrom_below (Nat.le_refl _) (by omega)))
              (fun _ _ _ _ _ hs _ _ => hs)
              ⟨⟨K0.out, L0.out.low, L0.out.res⟩, L0.out.ring.bel⟩ ?assign ?body ?done ?stop
            case assign =>
              intro l x W K hK
              simp only [a2, List.setIfInBounds_toArray, List.set_cons_zero, List.set_cons_succ] at hK
              gi_wp2_with fail
              exact hK
            case body =>
              rintro l pre ⟨xa, xb⟩ W ⟨⟨q1, q2, q3⟩, hB⟩ hlt
              simp only [a2, List.setIfInBounds_toArray, List.set_cons_zero, List.set_cons_succ]
              obtain ⟨m, em⟩ : ∃ m, m = pre.length := ⟨_, rfl⟩
              rw [← em] at q1 hlt
              have k1 := q1.cell (i := 0) (by omega)
              have k2 := q1.frozen 0
              have k3 := q2.cell (i := 0) (by omega)
              have k4 := q3.cell (i := 0) (by omega)
              have k5 := q3.frozen 0
              have HQ : Hid ((W.rowIs bk 3 1 (fun _ => .int .i64 (m : Int)) ∧ W.rowIs bl 3 1 (fun _ => .int .i64 lo) ∧ W.rowIs w.heap.size 4 1 (fun _ => .bool false)) ∧ Below w.heap.size w W ∧ m = pre.length) := ⟨⟨q1, q2, q3⟩, hB, em⟩
              clear q1 q2 q3 hB em
              have LV : Hid (¬ (xa = m ∧ xb = lo + (m : Int)) → pre ++ [(xa, xb)] ≠ pairsI (seg lo k) (pre ++ [(xa, xb)]).length) := by
                intro hne he
                rw [List.length_append, List.length_singleton, pairsI_succ] at he
                have h9 := List.append_inj_right' he rfl
                have e10 := HQ.out.2.2
                rw [← e10, seg_getD lo k m hlt] at h9
                simp only [List.cons.injEq, Prod.mk.injEq, and_true] at h9
                exact hne h9
              by_cases e1 : xa = m
              · subst e1
                by_cases e2 : xb = lo + (xa : Int)
                · subst e2
                  gi_wp2_with fail
                  obtain ⟨⟨q1, q2, q3⟩, hB, em⟩ := HQ.out
                  refine ⟨(KeepsOthers.setCell _ _ _).from _, Kpx.grown (grownBy_setCell' W bk _) (fun k e => by cases e; omega), ⟨(q1.set 0 _).congr fun i hi => ?_, q2.setOther (by simp; omega) _, q3.setOther (by simp; omega) _⟩, hB.setCell (p := ⟨bk, 0, none⟩) (by simp; omega) _⟩
                  have : i = 0 := by omega
                  subst this
                  rw [List.length_append, ← em]
                  simp
                · have t2 : (xb != lo + (xa : Int)) = true := by simpa using e2
                  gi_wp2_with fail
                  exact ⟨(KeepsOthers.setCell _ _ _).from _, LV.out fun h => e2 h.2⟩
              · have t1 : ((xa : Int) != (m : Int)) = true := by simp; omega
                gi_wp2_with fail
                exact ⟨(KeepsOthers.setCell _ _ _).from _, LV.out fun h => e1 h.1⟩
            case done =>
              rintro D ys W hD rfl ⟨⟨q1, q2, q3⟩, hB⟩ hK
              rw [pairsI_length] at q1
              have k1 := q1.cell (i := 0) (by omega)
              have k3 := q2.cell (i := 0) (by omega)
              have k4 := q3.cell (i := 0) (by omega)
              have k5 := q3.frozen 0
              have HQ : Hid (W.rowIs w.heap.size 4 1 (fun _ => .bool false) ∧ Below w.heap.size w W) := ⟨q3, hB⟩
              clear q1 q2 q3 hB
              gi_wp2_with fail
              have hK' := (KeepsOthers.setCell W ⟨w.heap.size, 0, none⟩ (.bool true)).same D _ hK rfl
              refine ⟨by simp, .inl ⟨_, _, rfl, run_takeDeferred hK', ?_⟩⟩
              have hc5 := cell_kept (World.cell?_setCell_same' W ⟨w.heap.size, 0, none⟩ (.bool true) (by rw [k4]; rfl)) (grownBy_putObj' _ D (.deferred none)) (fun r e => by cases e; exact ⟨_, hK', rfl⟩)
              refine ⟨.bool true, ?_, rfl, (HQ.out.2.setCell (p := ⟨w.heap.size, 0, none⟩) (by simp) _).trans (belowK_b (w := w) (Nat.le_refl _) _ D _ _ (by omega) hK' rfl rfl)⟩
              simp [results, Try.results6, go_sem, hc5]
            case stop =>
              rintro D c pre W hD ⟨k', hk', rfl⟩ hne _
              exact (hne (by rw [pairsI_length])).elim)
end Go.Proofs.Ytacgpipccpmloaa
