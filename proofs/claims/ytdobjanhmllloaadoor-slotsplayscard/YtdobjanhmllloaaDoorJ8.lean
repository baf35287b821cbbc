/- Contracts of the program's functions, part 8: own work, joined in build order. -/
import Derived.Test.YtdobjanhmllloaaDoorJ7
namespace Go.Proofs.YtdobjanhmllloaaDoor
open Go.RowKit
set_option maxRecDepth 100000
set_option linter.unusedVariables false
structure MidA (w W : World) (sb lb n : Nat) (last : Int) (cnt : Nat) (r b L cap : Nat) (G : Nat → Nat) (S : Nat → Prop) (xs : List (Option Int × Int)) : Prop where
  hd : W.heap[sb]? = some (.cells #[.pointer (some ⟨r, 0, none⟩), .slice (some ⟨b, 0, none⟩) L cap, .int .i64 last, .int .i64 (cnt : Int)] 78)
  ring : ∃ g N f ys, RV W r g N f ys.length ys ∧ lb ≤ g ∧ ys.length = xs.length ∧ ∀ i, i < xs.length → (ys.getD i (none, 0)).2 = (xs.getD i (none, 0)).2 ∧ CelV W (ys.getD i (none, 0)).1 (xs.getD i (none, 0)).1
  nm : NmX W b L cap G n (Lv S) lb
  lo : lb ≤ sb ∧ lb ≤ r
  ft : Fua sb lb w W
theorem MidA.shut {w W : World} {sb lb n : Nat} {last : Int} {cnt : Nat} {r b L cap : Nat} {G : Nat → Nat} {S : Nat → Prop} {xs : List (Option Int × Int)} (h : MidA w W sb lb n last cnt r b L cap G S xs) (hS : ∀ x, S x ↔ VacV n last xs x) (hle : xs.length ≤ n) (h1 : 1 ≤ last) (h2 : last ≤ 2147483647) (hg : ∀ i, i < xs.length → 1 ≤ (xs.getD i (none, 0)).2 ∧ (xs.getD i (none, 0)).2 ≤ last) (hc : cnt = xs.countP fun x => x.1.isSome) : SlV W sb lb n last cnt xs := by
  obtain ⟨g, N, f, ys, q1, q2, q3, q4⟩ := h.ring
  exact ⟨r, g, N, f, b, L, cap, G, ys, h.hd, q1, h.nm.congr fun k _ y => lv_congrV hS k y, q3, q4, ⟨h.lo.1, h.lo.2, q2⟩, hle, h1, h2, hg, hc⟩
theorem MidA.words {w W W' : World} {sb lb n : Nat} {last : Int} {cnt : Nat} {r b L cap : Nat} {G : Nat → Nat} {S S' : Nat → Prop} {xs : List (Option Int × Int)} (h : MidA w W sb lb n last cnt r b L cap G S xs) (hN : NmX W' b L cap G n (Lv S') lb) (hF : Ft isW lb W W') : MidA w W' sb lb n last cnt r b L cap G S' xs := by
  obtain ⟨g, N, f, ys, q1, q2, q3, q4⟩ := h.ring
  refine ⟨(hF.blk h.hd (by unfold isW; decide)).trans h.hd, ⟨g, N, f, ys, q1.of_blocks ?_ ?_, q2, q3, fun i hi => ⟨(q4 i hi).1, (q4 i hi).2.kept fun k cs e => (hF.blk e (by unfold isW; decide)).trans e⟩⟩, hN, h.lo, h.ft.trans (Fua.words hF)⟩
  · obtain ⟨cs, e, _⟩ := q1.hd
    exact hF.blk e (by unfold isW; decide)
  rcases Nat.eq_zero_or_pos N with e0 | e0
  · rw [(q1.zr e0).1]
    obtain ⟨cs, e, _⟩ := q1.hd
    exact hF.blk e (by unfold isW; decide)
  obtain ⟨cs, e, _⟩ := q1.row e0
  exact hF.blk e (by unfold isW; decide)
theorem MidA.draw {w W : World} {sb lb n : Nat} {last : Int} {cnt : Nat} {r b L cap : Nat} {G : Nat → Nat} {S : Nat → Prop} {xs : List (Option Int × Int)} (h : MidA w W sb lb n last cnt r b L cap G S xs) (m : Nat) : MidA w (W.drewN m) sb lb n last cnt r b L cap G S xs := by
  obtain ⟨g, N, f, ys, q1, q2, q3, q4⟩ := h.ring
  exact ⟨h.hd, ⟨g, N, f, ys, q1.of_blocks rfl rfl, q2, q3, fun i hi => ⟨(q4 i hi).1, (q4 i hi).2.kept fun k cs e => e⟩⟩, h.nm.kept fun _ _ _ _ _ => rfl, h.lo, h.ft.drewN m⟩
theorem SpV.layA {w W W' : World} {sb lb n : Nat} {last : Int} {cnt : Nat} {xs : List (Option Int × Int)} {r g N f b L cap : Nat} {G : Nat → Nat} {ys ys' : List (Option Nat × Int)} {xs' : List (Option Int × Int)} {S : Nat → Prop} (h : SpV W sb lb n last cnt xs r g N f b L cap G ys S) (hw : Fua sb lb w W) (hlb : lb ≤ W.heap.size) (hR : RingsV W r g ys' W') (hl : ys'.length = xs'.length) (ht : ∀ i, i < xs'.length → (ys'.getD i (none, 0)).2 = (xs'.getD i (none, 0)).2 ∧ CelV W (ys'.getD i (none, 0)).1 (xs'.getD i (none, 0)).1) (cnt' : Nat) :
    MidA w (W'.setCell ⟨sb, 3, none⟩ (.int .i64 (cnt' : Int))) sb lb n last cnt' r b L cap G S xs' := by
  have hR0 := hR
  obtain ⟨g', N', f', q1, q2, q3⟩ := hR
  obtain ⟨a1, a2, a3, a4⟩ := h.after q2
  have hd := a1.trans h.hd
  have hne : ∀ (k : Nat) (cs : Array Value) (t : TypeId), W'.heap[k]? = some (.cells cs t) → t ≠ 78 → (W'.setCell ⟨sb, 3, none⟩ (.int .i64 (cnt' : Int))).heap[k]? = some (.cells cs t) := fun k cs t e hn => by
    refine (Below.heap_setCell _ _ _ k (show k ≠ sb from fun e2 => ?_)).trans e
    rw [e2, hd] at e
    cases e
    exact hn rfl
  refine ⟨heap_setCell_same W' sb 3 _ _ _ hd, ⟨g', N', f', ys', q1.of_blocks ?_ ?_, ?_, hl, fun i hi => ⟨(ht i hi).1, (a3 _ _ (ht i hi).2).kept fun k cs e => hne _ _ _ e (by decide)⟩⟩, a2.kept fun k cs t e ht => (hne _ _ _ e ?_).trans e.symm, ⟨h.lo.1, h.lo.2.1⟩, ⟨(hw.ft.trans a4).set hd (.inl rfl) h.lo.1 _ _, fun r2 G2 cs2 ha => ?_⟩⟩
  · obtain ⟨cs, e, _⟩ := q1.hd
    exact (hne _ _ _ e (by decide)).trans e.symm
  · rcases Nat.eq_zero_or_pos N' with e0 | e0
    · rw [(q1.zr e0).1]
      obtain ⟨cs, e, _⟩ := q1.hd
      exact (hne _ _ _ e (by decide)).trans e.symm
    obtain ⟨cs, e, _⟩ := q1.row e0
    exact (hne _ _ _ e (by decide)).trans e.symm
  · rcases q3 with e | e | e
    · rw [e]; exact h.lo.2.2
    · rw [e]; exact h.lo.2.1
    omega
  · rcases ht with rfl | rfl <;> decide
  have ha2 := hw.asd _ _ _ ha
  obtain ⟨v1, v2, v3, e⟩ := ha2.top
  rw [h.hd] at e
  cases e
  exact (Asd.rings h ha2 hR0).cnt _
set_option maxHeartbeats 4000000 in
theorem dropA_yes {w : World} {sb lb n : Nat} {last : Int} {cnt : Nat} {xs : List (Option Int × Int)} (h : SlV w sb lb n last cnt xs) (i0 gen : Int) (t : Int) (hf : fndV xs i0 gen = some t) :
    Calls Tryd.prog 14 #[.pointer (some ⟨sb, 0, none⟩), .agg #[.int .i64 i0, .int .i64 gen]] w fun e w' => e = .returned (.tuple #[Value.int .i64 t, .int .i64 0]) ∧ (∃ cnt', SlV w' sb lb n last cnt' (xs.set i0.toNat (none, gen))) ∧ Fua sb lb w w' := by
  obtain ⟨r, g, N, f, b, L, cap, G, ys, h⟩ := h
  obtain ⟨W, hW⟩ : ∃ W, W = w.alloc (.cells #[.int .i64 i0, .int .i64 gen] 38) := ⟨_, rfl⟩
  obtain ⟨z, ez⟩ : ∃ z, z = w.heap.size := ⟨_, rfl⟩
  have B0 : Below w.heap.size w W := by rw [hW]; exact (Below.refl _ _).alloc (Nat.le_refl _) _
  have kz : W.heap[z]? = some (.cells #[.int .i64 i0, .int .i64 gen] 38) := by rw [hW, ez]; exact (MapKept.heap_alloc _ _).1
  have h' := h.mono B0
  have F := findV_any sb r g N f ys _ _ _ i0 gen W h'.hd h'.ring
  rcases h'.found i0 gen with ⟨e1, e2⟩ | ⟨t', c, e1, e2, e3, e4, e5, e6, e7⟩
  · rw [hf] at e1
    cases e1
  obtain rfl : t = t' := by
    rw [hf] at e1
    cases e1
    rfl
  obtain ⟨k, ek⟩ : ∃ k, k = i0.toNat := ⟨_, rfl⟩
  have eik : i0 = (k : Int) := by omega
  rw [← ek] at e6 e7 ⊢
  subst eik
  rw [e2, e3] at F
  have HF : Hid _ := F
  have HW : Hid (w.alloc (.cells #[.int .i64 (k : Int), .int .i64 gen] 38) = W ∧ w.heap.size = z) := ⟨hW.symm, ez.symm⟩
  have HH : Hid (SpV W sb lb n last cnt xs r g N f b L cap G ys (VacV n last xs) ∧ Below w.heap.size w W ∧ W.heap[z]? = some (.cells #[.int .i64 (k : Int), .int .i64 gen] 38) ∧ W.heap[c]? = some (.cells #[Value.int .i64 t] 84) ∧ k < xs.length ∧ xs.getD k (none, 0) = (some t, gen) ∧ SpV w sb lb n last cnt xs r g N f b L cap G ys (VacV n last xs)) := ⟨h', B0, kz, e4, e6, e7, h⟩
  have hcl : c < W.heap.size := (Array.getElem?_eq_some_iff.1 e4).1
  clear F h h' hW ez B0 kz e1 e2 e3 e4 e5 e6 e7 ek hf
  go_enter Tryd.func14, Tryd.ntmps14
  go_wp2_with fail
  rw [HW.out.1]
  refine Calls.mono HF.out ?_
  rintro e w1 ⟨rfl, hB⟩
  simp only [if_true, pP, Option.map]
  rw [HW.out.2]
  obtain ⟨W2, hW2⟩ : ∃ W2, W2 = w1.alloc (.cells #[.pointer (some ⟨c, 0, none⟩), .int .i64 gen] 73) := ⟨_, rfl⟩
  obtain ⟨q, eq⟩ : ∃ q, q = w1.heap.size := ⟨_, rfl⟩
  have B2 : Below W.heap.size W W2 := by rw [hW2]; exact hB.alloc hB.size _
  have kq : W2.heap[q]? = some (.cells #[.pointer (some ⟨c, 0, none⟩), .int .i64 gen] 73) := by rw [hW2, eq]; exact (MapKept.heap_alloc _ _).1
  have H2 : Hid (SpV W2 sb lb n last cnt xs r g N f b L cap G ys (VacV n last xs) ∧ Below w.heap.size w W2 ∧ W2.heap[z]? = some (.cells #[.int .i64 (k : Int), .int .i64 gen] 38) ∧ W2.heap[c]? = some (.cells #[Value.int .i64 t] 84) ∧ W2.heap[q]? = some (.cells #[.pointer (some ⟨c, 0, none⟩), .int .i64 gen] 73) ∧ r < q ∧ g < q) := by
    obtain ⟨a1, a2, a3, a4, _⟩ := HH.out
    refine ⟨a1.mono B2, a2.trans (B2.mono a2.size), (B2.block _ (Array.getElem?_eq_some_iff.1 a3).1).trans a3, (B2.block _ (Array.getElem?_eq_some_iff.1 a4).1).trans a4, kq, ?_, ?_⟩
    · rw [eq]; exact Nat.lt_of_lt_of_le a1.ring.rlt hB.size
    rw [eq]; exact Nat.lt_of_lt_of_le a1.ring.glt hB.size
  have HW2 : Hid (w1.alloc (.cells #[.pointer (some ⟨c, 0, none⟩), .int .i64 gen] 73) = W2 ∧ w1.heap.size = q) := ⟨hW2.symm, eq.symm⟩
  have d0 : w1.cell? ⟨z, 0, none⟩ = some (.int .i64 (k : Int)) := cell_later hB (by simp [World.cell?, HH.out.2.2.1])
  have d1 : w1.cell? ⟨z, 1, none⟩ = some (.int .i64 gen) := cell_later hB (by simp [World.cell?, HH.out.2.2.1])
  have hzl : z < w1.heap.size := Nat.lt_of_lt_of_le (Array.getElem?_eq_some_iff.1 HH.out.2.2.1).1 hB.size
  clear hB hW2 eq B2 kq
  go_wp2_with fail
  rw [HW2.out.1, HW2.out.2]
  have LY := layV_any sb r g N f ys _ _ _ k gen none W2 H2.out.1.hd H2.out.1.ring (by rw [H2.out.1.len]; exact Nat.le_of_lt HH.out.2.2.2.2.1) (by rw [H2.out.1.len]; exact Nat.le_trans H2.out.1.le H2.out.1.nm.nlim.2)
  refine Calls.mono LY ?_
  rintro e w3 ⟨rfl, hR⟩
  rw [if_pos (by rw [H2.out.1.len]; exact HH.out.2.2.2.2.1)] at hR
  obtain ⟨cnt', ecn⟩ : ∃ cnt', cnt = cnt' + 1 := by
    have := count_dropV HH.out.2.2.2.2.1 HH.out.2.2.2.2.2.1
    rw [← H2.out.1.cn] at this
    exact ⟨_, this⟩
  have hM := H2.out.1.layA (xs' := xs.set k (none, gen)) (w := w) (Fua.of_below H2.out.2.1) (by have := H2.out.1.lo.1; have := (Array.getElem?_eq_some_iff.1 H2.out.1.hd).1; omega) hR (by rw [List.length_set, List.length_set]; exact H2.out.1.len) (fun i hi => by
    rw [List.length_set] at hi
    rw [getD_setV _ _ _ _ (by rw [H2.out.1.len]; exact HH.out.2.2.2.2.1), getD_setV _ _ _ _ HH.out.2.2.2.2.1]
    by_cases e : i = k
    · rw [if_pos e, if_pos e]
      exact ⟨rfl, trivial⟩
    rw [if_neg e, if_neg e]
    exact H2.out.1.things i hi) cnt'
  obtain ⟨g3, N3, f3, r1, r2, r3⟩ := hR
  have z3 : w3.heap[z]? = some (.cells #[.int .i64 (k : Int), .int .i64 gen] 38) := H2.out.1.other r2 H2.out.2.2.1 fun cs t' z e => by cases e; exact ⟨by decide, by decide⟩
  have c3 : w3.heap[c]? = some (.cells #[Value.int .i64 t] 84) := H2.out.1.other r2 H2.out.2.2.2.1 fun cs t' z e => by cases e; exact ⟨by decide, by decide⟩
  have q3 : w3.heap[q]? = some (.cells #[.pointer (some ⟨c, 0, none⟩), .int .i64 gen] 73) := (r2.block q (Array.getElem?_eq_some_iff.1 H2.out.2.2.2.2.1).1 (by have := H2.out.2.2.2.2.2; omega) (by have := H2.out.2.2.2.2.2; omega)).trans H2.out.2.2.2.2.1
  have s3 : w3.heap[sb]? = some (.cells #[.pointer (some ⟨r, 0, none⟩), .slice (some ⟨b, 0, none⟩) L cap, .int .i64 last, .int .i64 (cnt : Int)] 78) := (H2.out.1.after r2).1.trans H2.out.1.hd
  have n1 : z ≠ sb := fun e => by rw [e, s3] at z3; cases z3
  have n2 : c ≠ sb := fun e => by rw [e, s3] at c3; cases c3
  have n3 : q ≠ sb := fun e => by rw [e, s3] at q3; cases q3
  obtain ⟨W4, hW4⟩ : ∃ W4, W4 = w3.setCell ⟨sb, 3, none⟩ (.int .i64 (cnt' : Int)) := ⟨_, rfl⟩
  have HM : Hid (MidA w W4 sb lb n last cnt' r b L cap G (VacV n last xs) (xs.set k (none, gen)) ∧ W4.heap[z]? = some (.cells #[.int .i64 (k : Int), .int .i64 gen] 38) ∧ W4.heap[c]? = some (.cells #[Value.int .i64 t] 84) ∧ W4.heap[q]? = some (.cells #[.pointer (some ⟨c, 0, none⟩), .int .i64 gen] 73)) := by
    rw [hW4]
    exact ⟨hM, (Below.heap_setCell _ _ _ _ n1).trans z3, (Below.heap_setCell _ _ _ _ n2).trans c3, (Below.heap_setCell _ _ _ _ n3).trans q3⟩
  have HW4 : Hid (w3.setCell ⟨sb, 3, none⟩ (.int .i64 ((cnt : Int) - 1)) = W4) := by rw [hW4, ecn]; congr 2; omega
  have k3 : w3.cell? ⟨sb, 3, none⟩ = some (.int .i64 (cnt : Int)) := by simp [World.cell?, s3]
  have f3' : w3.frozen? ⟨sb, 3, none⟩ = false := by simp [World.frozen?, s3]
  have HEC : Hid (cnt = cnt' + 1) := ecn
  have hcn : cnt ≤ 65536 := by
    have h1 : cnt ≤ xs.length := by rw [H2.out.1.cn]; exact List.countP_le_length
    have h2 := H2.out.1.le
    have h3 := H2.out.1.nm.nlim.2
    omega
  have hwr : IntKind.i64.wrap ((cnt : Int) - 1) = (cnt : Int) - 1 := by rw [IntKind.wrap_i64]; omega
  clear LY hM r1 r2 r3 z3 c3 q3 s3 n1 n2 n3 hW4 ecn d0 d1 hzl
  go_upto_region 6 with fail
  rw [HW4.out]
  have y0 : W4.cell? ⟨z, 0, none⟩ = some (.int .i64 (k : Int)) := by simp [World.cell?, HM.out.2.1]
  have y1 : W4.cell? ⟨z, 1, none⟩ = some (.int .i64 gen) := by simp [World.cell?, HM.out.2.1]
  have y2 : W4.cell? ⟨sb, 2, none⟩ = some (.int .i64 last) := by simp [World.cell?, HM.out.1.hd]
  have y3 : W4.cell? ⟨sb, 1, none⟩ = some (.slice (some ⟨b, 0, none⟩) L cap) := by simp [World.cell?, HM.out.1.hd]
  clear k3 f3' hwr
  by_cases hgl : gen < last
  · have hd : decide (gen < last) = true := decide_eq_true hgl
    go_quiet (fail)
    go_upto_region 7 with fail
    have AD : Hid (Calls Tryd.prog 36 #[.slice (some ⟨b, 0, none⟩) L cap, .int .i64 (k : Int)] (W4.drewN nq).drew fun e w' => e = .returned (.tuple #[]) ∧ w'.cell? ⟨sb, 1, none⟩ = some (.slice (some ⟨b, 0, none⟩) L cap) ∧ w'.cell? ⟨z, 0, none⟩ = some (.int .i64 (k : Int)) ∧ Hid (SlV w' sb lb n last cnt' (xs.set k (none, gen)) ∧ Fua sb lb w w' ∧ w'.heap[c]? = some (.cells #[Value.int .i64 t] 84) ∧ w'.heap[q]? = some (.cells #[.pointer (some ⟨c, 0, none⟩), .int .i64 gen] 73))) := by
      have hM := (HM.out.1.draw nq).draw 1
      refine (add_any (W4.drewN nq).drew b L cap G n k lb _ hM.nm (by have := HH.out.2.2.2.2.1; have := H2.out.1.le; omega)).mono ?_
      rintro e w' ⟨rfl, a1, a2⟩
      have hM2 := hM.words a1 a2
      have xz : w'.heap[z]? = some (.cells #[.int .i64 (k : Int), .int .i64 gen] 38) := (a2.blk HM.out.2.1 (by unfold isW; decide)).trans HM.out.2.1
      refine ⟨rfl, by simp [World.cell?, hM2.hd], by simp [World.cell?, xz], ?_, hM2.ft, (a2.blk HM.out.2.2.1 (by unfold isW; decide)).trans HM.out.2.2.1, (a2.blk HM.out.2.2.2 (by unfold isW; decide)).trans HM.out.2.2.2⟩
      refine hM2.shut (fun x => ?_) (by rw [List.length_set]; exact H2.out.1.le) H2.out.1.last1 H2.out.1.last2 (fun i hi => ?_) ?_
      · rw [vac_dropV HH.out.2.2.2.2.1 HH.out.2.2.2.2.2.1 H2.out.1.le]
        constructor
        · rintro (h1 | h1)
          · exact .inl h1
          exact .inr ⟨h1, hgl⟩
        rintro (h1 | h1)
        · exact .inl h1
        exact .inr h1.1
      · rw [List.length_set] at hi
        rw [getD_setV _ _ _ _ HH.out.2.2.2.2.1]
        have h9 := H2.out.1.gens k HH.out.2.2.2.2.1
        rw [HH.out.2.2.2.2.2.1] at h9
        split
        · exact h9
        exact H2.out.1.gens i hi
      have h9 := count_dropV HH.out.2.2.2.2.1 HH.out.2.2.2.2.2.1
      rw [← H2.out.1.cn, HEC.out] at h9
      omega
    have y0' : (W4.drewN nq).cell? ⟨z, 0, none⟩ = some (.int .i64 (k : Int)) := y0
    have y3' : (W4.drewN nq).cell? ⟨sb, 1, none⟩ = some (.slice (some ⟨b, 0, none⟩) L cap) := y3
    go_region_held3 (fun w9 => w9.cell? ⟨sb, 1, none⟩ = some (.slice (some ⟨b, 0, none⟩) L cap) ∧ w9.cell? ⟨z, 0, none⟩ = some (.int .i64 (k : Int))) (first | (simp [go_sem, *]; done) | (trace_state; fail))
      (first | (go_at_call 36; refine Calls.mono AD.out ?_; rintro e w5 ⟨rfl, p0, p1, H5⟩))
    have u0 : w5.cell? ⟨q, 0, none⟩ = some (.pointer (some ⟨c, 0, none⟩)) := by simp [World.cell?, H5.out.2.2.2]
    have u1 : w5.cell? ⟨c, 0, none⟩ = some (Value.int .i64 t) := by simp [World.cell?, H5.out.2.2.1]
    clear y0 y1 y2 y3 y0' y3' p0 p1
    go_wp2_with fail
    go_ret2
    exact ⟨rfl, ⟨cnt', H5.out.1⟩, H5.out.2.1⟩
  have hd : decide (gen < last) = false := decide_eq_false hgl
  go_quiet (fail)
  have H5 : Hid (SlV (W4.drewN nq) sb lb n last cnt' (xs.set k (none, gen)) ∧ Fua sb lb w (W4.drewN nq)) := by
    have hM := HM.out.1.draw nq
    refine ⟨?_, hM.ft⟩
    refine hM.shut (fun x => ?_) (by rw [List.length_set]; exact H2.out.1.le) H2.out.1.last1 H2.out.1.last2 (fun i hi => ?_) ?_
    · rw [vac_dropV HH.out.2.2.2.2.1 HH.out.2.2.2.2.2.1 H2.out.1.le]
      constructor
      · exact .inl
      rintro (h1 | h1)
      · exact h1
      exact absurd h1.2 hgl
    · rw [List.length_set] at hi
      rw [getD_setV _ _ _ _ HH.out.2.2.2.2.1]
      have h9 := H2.out.1.gens k HH.out.2.2.2.2.1
      rw [HH.out.2.2.2.2.2.1] at h9
      split
      · exact h9
      exact H2.out.1.gens i hi
    have h9 := count_dropV HH.out.2.2.2.2.1 HH.out.2.2.2.2.2.1
    rw [← H2.out.1.cn, HEC.out] at h9
    omega
  have u0 : W4.cell? ⟨q, 0, none⟩ = some (.pointer (some ⟨c, 0, none⟩)) := by simp [World.cell?, HM.out.2.2.2]
  have u1 : W4.cell? ⟨c, 0, none⟩ = some (Value.int .i64 t) := by simp [World.cell?, HM.out.2.2.1]
  clear y0 y1 y2 y3
  go_wp2_with fail
  go_ret2
  exact ⟨rfl, ⟨cnt', H5.out.1⟩, H5.out.2⟩
set_option maxHeartbeats 4000000 in
theorem putA_yes {w : World} {sb lb n : Nat} {last : Int} {cnt : Nat} {xs : List (Option Int × Int)} (h : SlV w sb lb n last cnt xs) (hT : Tab w) (v : Int) (m : Nat) (hm : Least (VacV n last xs) m) :
    Calls Tryd.prog 8 #[.pointer (some ⟨sb, 0, none⟩), Value.int .i64 v] w fun e w' => e = .returned (.tuple #[.agg #[.int .i64 (m : Int), .int .i64 ((xs.getD m (none, 0)).2 + 1)], .int .i64 0]) ∧ (∃ cnt', SlV w' sb lb n last cnt' (putXV xs m v)) ∧ Fua sb lb w w' := by
  obtain ⟨r, g, N, f, b, L, cap, G, ys, h⟩ := h
  obtain ⟨hm1, hm2⟩ := vac_leV hm
  obtain ⟨W, hW⟩ : ∃ W, W = w.alloc (.cells #[.int .i64 0, .int .i64 0] 38) := ⟨_, rfl⟩
  obtain ⟨z, ez⟩ : ∃ z, z = w.heap.size := ⟨_, rfl⟩
  have B0 : Below w.heap.size w W := by rw [hW]; exact (Below.refl _ _).alloc (Nat.le_refl _) _
  have kz : W.heap[z]? = some (.cells #[.int .i64 0, .int .i64 0] 38) := by rw [hW, ez]; exact (MapKept.heap_alloc _ _).1
  have h' := h.mono B0
  have HL : Hid _ := least_yes W b L cap G n lb m _ h'.nm (hT.go B0) hm hm2
  obtain ⟨c0, c1, _, _, _, hsl⟩ := h'.cells
  obtain ⟨gen, egen⟩ : ∃ gen, gen = (xs.getD m (none, 0)).2 := ⟨_, rfl⟩
  have hat : (atP ys (m : Int)).2 = gen := by
    unfold atP
    rw [egen]
    by_cases e : m < xs.length
    · rw [if_pos (by rw [h.len]; omega), Int.toNat_natCast]
      exact (h.things m e).1
    rw [if_neg (by rw [h.len]; omega)]
    simp [show xs.length ≤ m by omega]
  have hgb : 0 ≤ gen ∧ gen < last := by
    rw [egen]
    have h1 := hm.1
    unfold VacV at h1
    rcases Nat.lt_or_ge m xs.length with e | e
    · have := h.gens m e
      rcases h1.2 with h2 | h2
      · omega
      exact ⟨by omega, h2.2⟩
    have := h.last1
    simp [e]
    omega
  obtain ⟨x0, ex0⟩ : ∃ x0, x0 = (atP ys (m : Int)).1 := ⟨_, rfl⟩
  have AT : Hid (∀ W', Below W.heap.size W W' → Calls Tryd.prog 31 #[.pointer (some ⟨r, 0, none⟩), .int .i64 (m : Int)] W' fun e w' => ∃ bb, e = .returned (.tuple #[.agg #[pP x0, .int .i64 gen], .bool bb]) ∧ Below W'.heap.size W' w') := fun W' hB => by
    have := atV_u r g N f ys (m : Int) W' (h'.ring.mono hB)
    rw [hat, ← ex0] at this
    exact this
  obtain ⟨pp, epp⟩ : ∃ pp : Option Addr, pp = x0.map fun b => ⟨b, 0, none⟩ := ⟨_, rfl⟩
  have ep : pP x0 = .pointer pp := by rw [epp]; rfl
  rw [ep] at AT
  have hl2 := h.last2
  have HW : Hid (w.alloc (.cells #[.int .i64 0, .int .i64 0] 38) = W ∧ w.heap.size = z) := ⟨hW.symm, ez.symm⟩
  have HH : Hid (SpV W sb lb n last cnt xs r g N f b L cap G ys (VacV n last xs) ∧ Below w.heap.size w W ∧ W.heap[z]? = some (.cells #[.int .i64 0, .int .i64 0] 38) ∧ Least (VacV n last xs) m ∧ gen = (xs.getD m (none, 0)).2) := ⟨h', B0, kz, hm, egen⟩
  rw [← egen]
  clear h h' hW ez B0 kz hm hat ex0 epp ep egen hT
  go_enter Tryd.func8, Tryd.ntmps8
  go_upto_region 1 with fail
  rw [HW.out.1, HW.out.2]
  go_wp2_with fail
  refine Calls.mono HL.out ?_
  rintro e w1 ⟨rfl, hB1⟩
  have H1 : Hid (Below W.heap.size W w1) := hB1
  have d0 := cell_later hB1 c0
  have d1 := cell_later hB1 c1
  clear hB1 HL
  go_wp2_with fail
  refine Calls.mono (AT.out _ H1.out) ?_
  rintro e w2 ⟨bb, rfl, hB2⟩
  have BW2 : Below W.heap.size W w2 := H1.out.trans (hB2.mono H1.out.size)
  obtain ⟨W4, hW4⟩ : ∃ W4, W4 = (w2.alloc (.cells #[.pointer pp, .int .i64 gen] 73)).alloc (.cells #[.int .i64 (m : Int), .int .i64 (gen + 1)] 38) := ⟨_, rfl⟩
  obtain ⟨q, eq⟩ : ∃ q, q = w2.heap.size := ⟨_, rfl⟩
  have B4 : Below W.heap.size W W4 := by rw [hW4]; exact (BW2.alloc BW2.size _).alloc (by have := BW2.size; simp; omega) _
  have kq : W4.heap[q + 1]? = some (.cells #[.int .i64 (m : Int), .int .i64 (gen + 1)] 38) := by
    rw [hW4, eq]
    have := (MapKept.heap_alloc (w2.alloc (.cells #[.pointer pp, .int .i64 gen] 73)) (.cells #[.int .i64 (m : Int), .int .i64 (gen + 1)] 38)).1
    simpa using this
  have hq4 : W4.heap.size = q + 2 := by rw [hW4, eq]; simp
  have HW4 : Hid ((w2.alloc (.cells #[.pointer pp, .int .i64 gen] 73)).alloc (.cells #[.int .i64 (m : Int), .int .i64 (gen + 1)] 38) = W4 ∧ w2.heap.size = q) := ⟨hW4.symm, eq.symm⟩
  have H4 : Hid (SpV W4 sb lb n last cnt xs r g N f b L cap G ys (VacV n last xs) ∧ Below w.heap.size w W4 ∧ W4.heap[z]? = some (.cells #[.int .i64 0, .int .i64 0] 38) ∧ W4.heap[q + 1]? = some (.cells #[.int .i64 (m : Int), .int .i64 (gen + 1)] 38) ∧ z < q + 1) := by
    obtain ⟨a1, a2, a3, _⟩ := HH.out
    refine ⟨a1.mono B4, a2.trans (B4.mono a2.size), (B4.block _ (Array.getElem?_eq_some_iff.1 a3).1).trans a3, kq, ?_⟩
    have := (Array.getElem?_eq_some_iff.1 a3).1
    have := BW2.size
    omega
  have d0 := cell_later BW2 c0
  have d1 := cell_later BW2 c1
  have hsl2 : sb < w2.heap.size := Nat.lt_of_lt_of_le hsl BW2.size
  have wg : IntKind.i64.wrap (gen + 1) = gen + 1 := by rw [IntKind.wrap_i64]; omega
  clear hB2 BW2 hW4 eq B4 kq c0 c1
  go_upto_region 6 with fail
  rw [HW4.out.1, HW4.out.2]
  obtain ⟨k0, k1, _, _, _, _⟩ := H4.out.1.cells
  clear d0 d1 hsl2
  go_wp2_with fail
  refine Calls.mono (remove_any W4 b L cap G n m lb _ H4.out.1.nm hm2) ?_
  rintro e w5 ⟨rfl, hN5, hF5⟩
  have hS5 := H4.out.1.words hN5 hF5
  have z5 : w5.heap[z]? = some (.cells #[.int .i64 0, .int .i64 0] 38) := (hF5.blk H4.out.2.2.1 (by unfold isW; decide)).trans H4.out.2.2.1
  have q5 : w5.heap[q + 1]? = some (.cells #[.int .i64 (m : Int), .int .i64 (gen + 1)] 38) := (hF5.blk H4.out.2.2.2.1 (by unfold isW; decide)).trans H4.out.2.2.2.1
  have hzl5 : z < w5.heap.size := (Array.getElem?_eq_some_iff.1 z5).1
  have hql5 : q + 1 < w5.heap.size := (Array.getElem?_eq_some_iff.1 q5).1
  have v0 : w5.cell? ⟨q + 1, 0, none⟩ = some (.int .i64 (m : Int)) := by simp [World.cell?, q5]
  have v1 : w5.cell? ⟨q + 1, 1, none⟩ = some (.int .i64 (gen + 1)) := by simp [World.cell?, q5]
  obtain ⟨W6, hW6⟩ : ∃ W6, W6 = w5.alloc (.cells #[Value.int .i64 v] 84) := ⟨_, rfl⟩
  obtain ⟨cb, ecb⟩ : ∃ cb, cb = w5.heap.size := ⟨_, rfl⟩
  have B6 : Below w5.heap.size w5 W6 := by rw [hW6]; exact (Below.refl _ _).alloc (Nat.le_refl _) _
  have HW6 : Hid (w5.alloc (.cells #[Value.int .i64 v] 84) = W6 ∧ w5.heap.size = cb) := ⟨hW6.symm, ecb.symm⟩
  have lbw : lb ≤ w.heap.size ∨ True := .inr trivial
  have H6 : Hid (SpV W6 sb lb n last cnt xs r g N f b L cap G ys (fun x => VacV n last xs x ∧ x ≠ m) ∧ Fua sb lb w W6 ∧ W6.heap[z]? = some (.cells #[.int .i64 0, .int .i64 0] 38) ∧ W6.heap[q + 1]? = some (.cells #[.int .i64 (m : Int), .int .i64 (gen + 1)] 38) ∧ W6.heap[cb]? = some (.cells #[Value.int .i64 v] 84)) := by
    refine ⟨hS5.mono B6, ((Fua.of_below H4.out.2.1).trans (Fua.words hF5)).trans (Fua.of_below B6), (B6.block _ hzl5).trans z5, (B6.block _ hql5).trans q5, by rw [hW6, ecb]; exact (MapKept.heap_alloc _ _).1⟩
  clear hN5 hF5 hS5 z5 q5 hW6 ecb B6 lbw
  go_upto_region 7 with fail
  go_wp2_with fail
  rw [HW6.out.1, HW6.out.2]
  have LY := layV_any sb r g N f ys _ _ _ m (gen + 1) (some cb) W6 H6.out.1.hd H6.out.1.ring (by rw [H6.out.1.len]; exact hm1) (by rw [H6.out.1.len]; exact Nat.le_trans H6.out.1.le H6.out.1.nm.nlim.2)
  refine Calls.mono LY ?_
  rintro e w7 ⟨rfl, hR⟩
  have hM := H6.out.1.layA (xs' := putXV xs m v) (w := w) H6.out.2.1 (by have := H6.out.1.lo.1; have := (Array.getElem?_eq_some_iff.1 H6.out.1.hd).1; omega) hR (by rw [putX_lenV _ _ _ hm1, H6.out.1.len]; split <;> simp [H6.out.1.len]) (fun i hi => by
    rw [putX_atV _ _ _ hm1, ← HH.out.2.2.2.2]
    have hyy : (if m < ys.length then ys.set m (some cb, gen + 1) else ys ++ [(some cb, gen + 1)]).getD i (none, 0) = if i = m then (some cb, gen + 1) else ys.getD i (none, 0) := by
      split
      · rw [getD_setV _ _ _ _ (by assumption)]
      rw [getD_snocV]
      have e : m = ys.length := by have := H6.out.1.len; omega
      rw [e]
    rw [hyy]
    by_cases e : i = m
    · rw [if_pos e, if_pos e]
      exact ⟨rfl, H6.out.2.2.2.2⟩
    rw [if_neg e, if_neg e]
    refine H6.out.1.things i ?_
    rw [putX_lenV _ _ _ hm1] at hi
    split at hi <;> omega) (cnt + 1)
  obtain ⟨g7, N7, f7, r1, r2, r3⟩ := hR
  have z7 : w7.heap[z]? = some (.cells #[.int .i64 0, .int .i64 0] 38) := H6.out.1.other r2 H6.out.2.2.1 fun cs t' z e => by cases e; exact ⟨by decide, by decide⟩
  have q7 : w7.heap[q + 1]? = some (.cells #[.int .i64 (m : Int), .int .i64 (gen + 1)] 38) := H6.out.1.other r2 H6.out.2.2.2.1 fun cs t' z e => by cases e; exact ⟨by decide, by decide⟩
  have s7 : w7.heap[sb]? = some (.cells #[.pointer (some ⟨r, 0, none⟩), .slice (some ⟨b, 0, none⟩) L cap, .int .i64 last, .int .i64 (cnt : Int)] 78) := (H6.out.1.after r2).1.trans H6.out.1.hd
  have n1 : z ≠ sb := fun e => by rw [e, s7] at z7; cases z7
  have n2 : q + 1 ≠ sb := fun e => by rw [e, s7] at q7; cases q7
  obtain ⟨W8, hW8⟩ : ∃ W8, W8 = w7.setCell ⟨sb, 3, none⟩ (.int .i64 ((cnt + 1 : Nat) : Int)) := ⟨_, rfl⟩
  have HW8 : Hid (w7.setCell ⟨sb, 3, none⟩ (.int .i64 ((cnt : Int) + 1)) = W8) := by rw [hW8]; congr 2
  have H8 : Hid (MidA w W8 sb lb n last (cnt + 1) r b L cap G (fun x => VacV n last xs x ∧ x ≠ m) (putXV xs m v) ∧ W8.heap[z]? = some (.cells #[.int .i64 0, .int .i64 0] 38) ∧ W8.heap[q + 1]? = some (.cells #[.int .i64 (m : Int), .int .i64 (gen + 1)] 38)) := by
    rw [hW8]
    exact ⟨hM, (Below.heap_setCell _ _ _ _ n1).trans z7, (Below.heap_setCell _ _ _ _ n2).trans q7⟩
  have k3 : w7.cell? ⟨sb, 3, none⟩ = some (.int .i64 (cnt : Int)) := by simp [World.cell?, s7]
  have f3 : w7.frozen? ⟨sb, 3, none⟩ = false := by simp [World.frozen?, s7]
  have hcn : cnt ≤ 65536 := by
    have h1 : cnt ≤ xs.length := by rw [H6.out.1.cn]; exact List.countP_le_length
    have h2 := H6.out.1.le
    have h3 := H6.out.1.nm.nlim.2
    omega
  clear LY hM r1 r2 r3 z7 q7 s7 n1 n2 hW8 v0 v1 k0 k1
  go_upto_region 9 with fail
  rw [HW8.out]
  have x0' : W8.cell? ⟨q + 1, 0, none⟩ = some (.int .i64 (m : Int)) := by simp [World.cell?, H8.out.2.2]
  have x1' : W8.cell? ⟨q + 1, 1, none⟩ = some (.int .i64 (gen + 1)) := by simp [World.cell?, H8.out.2.2]
  have y0' : W8.cell? ⟨z, 0, none⟩ = some (.int .i64 0) := by simp [World.cell?, H8.out.2.1]
  have y1' : W8.cell? ⟨z, 1, none⟩ = some (.int .i64 0) := by simp [World.cell?, H8.out.2.1]
  have y2' : W8.frozen? ⟨z, 0, none⟩ = false := by simp [World.frozen?, H8.out.2.1]
  have y3' : W8.frozen? ⟨z, 1, none⟩ = false := by simp [World.frozen?, H8.out.2.1]
  have H9 : Hid ((∃ cnt', SlV ((W8.setCell ⟨z, 0, none⟩ (.int .i64 (m : Int))).setCell ⟨z, 1, none⟩ (.int .i64 (gen + 1))) sb lb n last cnt' (putXV xs m v)) ∧ Fua sb lb w ((W8.setCell ⟨z, 0, none⟩ (.int .i64 (m : Int))).setCell ⟨z, 1, none⟩ (.int .i64 (gen + 1)))) := by
    have hlz : lb ≤ z ∧ w.heap.size ≤ z := by
      have h1 := HW.out.2
      have h2 := H6.out.1.lo.1
      have h3 := HH.out.1.lo.1
      have h4 : sb < w.heap.size := by
        have e1 := HH.out.1.hd
        have e2 := HW.out.1
        have e3 : sb < W.heap.size := (Array.getElem?_eq_some_iff.1 e1).1
        have e4 : W.heap.size = w.heap.size + 1 := by rw [← e2]; simp
        rcases Nat.lt_or_ge sb w.heap.size with e5 | e5
        · exact e5
        have e6 : sb = z := by omega
        rw [e6, HH.out.2.2.1] at e1
        cases e1
      omega
    refine ⟨⟨cnt + 1, ?_⟩, (H8.out.1.ft.new hlz.2 hlz.1 _ _).new hlz.2 hlz.1 _ _⟩
    have hS : SlV W8 sb lb n last (cnt + 1) (putXV xs m v) := by
      refine H8.out.1.shut (fun x => (vac_putV HH.out.2.2.2.1 v x).symm) ?_ HH.out.1.last1 HH.out.1.last2 (fun i hi => ?_) ?_
      · rw [putX_lenV _ _ _ hm1]
        have := HH.out.1.le
        split <;> omega
      · rw [putX_atV _ _ _ hm1, ← HH.out.2.2.2.2]
        split
        · exact ⟨by simp; omega, by simp; omega⟩
        refine HH.out.1.gens i ?_
        rw [putX_lenV _ _ _ hm1] at hi
        split at hi <;> omega
      rw [count_putV hm1 (fun hl => ?_), HH.out.1.cn]
      have h1 := HH.out.2.2.2.1.1
      unfold VacV at h1
      rcases h1.2 with h2 | h2
      · omega
      exact h2.1
    refine hS.kept fun k cs t e ht => ?_
    have hne : k ≠ z := fun e2 => by
      rw [e2, H8.out.2.1] at e
      cases e
      rcases ht with ht | ht | ht | ht | ht | ht <;> exact absurd ht (by decide)
    exact (Below.heap_setCell _ _ _ _ hne).trans ((Below.heap_setCell _ _ _ _ hne).trans e)
  clear k3 f3
  go_wp2_with fail
  exact bodyPost_ret (v := .tuple #[.agg #[.int .i64 (m : Int), .int .i64 (gen + 1)], .int .i64 0]) (by simp [results, Tryd.results8, go_sem, y0', y1']) rfl ⟨rfl, H9.out⟩
theorem sSetV_no {w : World} {sb lb n : Nat} {last : Int} {cnt : Nat} {xs : List (Option Int × Int)} (h : SlV w sb lb n last cnt xs) (i gen v : Int) (hf : fndV xs i gen = none) :
    Calls Tryd.prog 12 #[.pointer (some ⟨sb, 0, none⟩), .agg #[.int .i64 i, .int .i64 gen], .int .i64 v] w fun e w' => e = .returned (.int .i64 60) ∧ Below w.heap.size w w' := by
  obtain ⟨r, g, N, f, b, L, cap, G, ys, h⟩ := h
  obtain ⟨W, hW⟩ : ∃ W, W = w.alloc (.cells #[.int .i64 i, .int .i64 gen] 38) := ⟨_, rfl⟩
  have B0 : Below w.heap.size w W := by rw [hW]; exact (Below.refl _ _).alloc (Nat.le_refl _) _
  have h' := h.mono B0
  have F := findV_any sb r g N f ys _ _ _ i gen W h'.hd h'.ring
  have HW : Hid (w.alloc (.cells #[.int .i64 i, .int .i64 gen] 38) = W ∧ Below w.heap.size w W) := ⟨hW.symm, B0⟩
  rcases h'.found i gen with ⟨e1, e2⟩ | ⟨t, c, e1, e2, e3, e4, _⟩
  · rw [e2] at F
    have HF : Hid _ := F
    clear F e1 e2 h h' hW B0 hf
    go_enter Tryd.func12, Tryd.ntmps12
    go_wp2_with fail
    rw [HW.out.1]
    refine Calls.mono HF.out ?_
    rintro e w1 ⟨rfl, hB⟩
    have H1 : Hid (Below w.heap.size w (w1.alloc (.cells #[.pointer none, .int .i64 0] 73))) := (HW.out.2.trans (hB.mono HW.out.2.size)).alloc (Nat.le_trans HW.out.2.size hB.size) _
    clear hB
    simp only [Bool.false_eq_true, if_false]
    go_wp2_with fail
    go_ret
    exact ⟨rfl, H1.out⟩
  rw [hf] at e1
  cases e1
theorem SpV.lay0 {W W' : World} {sb lb n : Nat} {last : Int} {cnt : Nat} {xs : List (Option Int × Int)} {r g N f b L cap : Nat} {G : Nat → Nat} {ys ys' : List (Option Nat × Int)} {xs' : List (Option Int × Int)} {S : Nat → Prop} (h : SpV W sb lb n last cnt xs r g N f b L cap G ys S) (hlb : lb ≤ W.heap.size) (hR : RingsV W r g ys' W') (hl : ys'.length = xs'.length) (ht : ∀ i, i < xs'.length → (ys'.getD i (none, 0)).2 = (xs'.getD i (none, 0)).2 ∧ CelV W (ys'.getD i (none, 0)).1 (xs'.getD i (none, 0)).1)
    (hS : ∀ x, S x ↔ VacV n last xs' x) (hle : xs'.length ≤ n) (hg : ∀ i, i < xs'.length → 1 ≤ (xs'.getD i (none, 0)).2 ∧ (xs'.getD i (none, 0)).2 ≤ last) (hc : cnt = xs'.countP fun x => x.1.isSome) : SlV W' sb lb n last cnt xs' ∧ Ft isSV lb W W' := by
  obtain ⟨g', N', f', q1, q2, q3⟩ := hR
  obtain ⟨a1, a2, a3, a4⟩ := h.after q2
  refine ⟨⟨r, g', N', f', b, L, cap, G, ys', a1.trans h.hd, q1, a2.congr fun k _ y => lv_congrV hS k y, hl, fun i hi => ⟨(ht i hi).1, a3 _ _ (ht i hi).2⟩, ⟨h.lo.1, h.lo.2.1, ?_⟩, hle, h.last1, h.last2, hg, hc⟩, a4⟩
  rcases q3 with e | e | e
  · rw [e]; exact h.lo.2.2
  · rw [e]; exact h.lo.2.1
  omega
theorem count_set {xs : List (Option Int × Int)} {k : Nat} {t v gen : Int} (hk : k < xs.length) (he : xs.getD k (none, 0) = (some t, gen)) : (xs.set k (some v, gen)).countP (fun x => x.1.isSome) = xs.countP (fun x => x.1.isSome) := by
  have e : xs[k] = (some t, gen) := by
    have := he
    rw [List.getD_eq_getElem?_getD, List.getElem?_eq_getElem hk] at this
    exact this
  rw [List.countP_set hk, e]
  have : 0 < xs.countP (fun x => x.1.isSome) := List.countP_pos_iff.2 ⟨xs[k], List.getElem_mem _, by rw [e]; rfl⟩
  simp
  omega
set_option maxHeartbeats 4000000 in
theorem sSetV_yes {w : World} {sb lb n : Nat} {last : Int} {cnt : Nat} {xs : List (Option Int × Int)} (h : SlV w sb lb n last cnt xs) (i0 gen v : Int) (t : Int) (hf : fndV xs i0 gen = some t) :
    Calls Tryd.prog 12 #[.pointer (some ⟨sb, 0, none⟩), .agg #[.int .i64 i0, .int .i64 gen], .int .i64 v] w fun e w' => e = .returned (.int .i64 0) ∧ SlV w' sb lb n last cnt (xs.set i0.toNat (some v, gen)) ∧ Ft isSV lb w w' := by
  obtain ⟨r, g, N, f, b, L, cap, G, ys, h⟩ := h
  obtain ⟨W, hW⟩ : ∃ W, W = w.alloc (.cells #[.int .i64 i0, .int .i64 gen] 38) := ⟨_, rfl⟩
  obtain ⟨z, ez⟩ : ∃ z, z = w.heap.size := ⟨_, rfl⟩
  have B0 : Below w.heap.size w W := by rw [hW]; exact (Below.refl _ _).alloc (Nat.le_refl _) _
  have kz : W.heap[z]? = some (.cells #[.int .i64 i0, .int .i64 gen] 38) := by rw [hW, ez]; exact (MapKept.heap_alloc _ _).1
  have h' := h.mono B0
  have F := findV_any sb r g N f ys _ _ _ i0 gen W h'.hd h'.ring
  rcases h'.found i0 gen with ⟨e1, e2⟩ | ⟨t', c, e1, e2, e3, e4, e5, e6, e7⟩
  · rw [hf] at e1
    cases e1
  obtain ⟨k, ek⟩ : ∃ k, k = i0.toNat := ⟨_, rfl⟩
  have eik : i0 = (k : Int) := by omega
  rw [← ek] at e6 e7 ⊢
  subst eik
  rw [e2, e3] at F
  have HF : Hid _ := F
  have HW : Hid (w.alloc (.cells #[.int .i64 (k : Int), .int .i64 gen] 38) = W ∧ w.heap.size = z) := ⟨hW.symm, ez.symm⟩
  have HH : Hid (SpV W sb lb n last cnt xs r g N f b L cap G ys (VacV n last xs) ∧ Below w.heap.size w W ∧ W.heap[z]? = some (.cells #[.int .i64 (k : Int), .int .i64 gen] 38) ∧ k < xs.length ∧ xs.getD k (none, 0) = (some t', gen)) := ⟨h', B0, kz, e6, e7⟩
  clear F h h' hW ez B0 kz e1 e2 e3 e4 e5 e6 e7 ek hf
  go_enter Tryd.func12, Tryd.ntmps12
  go_wp2_with fail
  rw [HW.out.1]
  refine Calls.mono HF.out ?_
  rintro e w1 ⟨rfl, hB⟩
  simp only [if_true, pP, Option.map]
  rw [HW.out.2]
  obtain ⟨W3, hW3⟩ : ∃ W3, W3 = (w1.alloc (.cells #[.pointer (some ⟨c, 0, none⟩), .int .i64 gen] 73)).alloc (.cells #[.int .i64 v] 84) := ⟨_, rfl⟩
  obtain ⟨q, eq⟩ : ∃ q, q = w1.heap.size + 1 := ⟨_, rfl⟩
  have B3 : Below W.heap.size W W3 := by rw [hW3]; exact (hB.alloc hB.size _).alloc (by have := hB.size; simp; omega) _
  have kq : W3.heap[q]? = some (.cells #[.int .i64 v] 84) := by
    rw [hW3, eq]
    have := (MapKept.heap_alloc (w1.alloc (.cells #[.pointer (some ⟨c, 0, none⟩), .int .i64 gen] 73)) (.cells #[.int .i64 v] 84)).1
    simpa using this
  have H3 : Hid (SpV W3 sb lb n last cnt xs r g N f b L cap G ys (VacV n last xs) ∧ Below w.heap.size w W3 ∧ W3.heap[q]? = some (.cells #[.int .i64 v] 84)) := by
    obtain ⟨a1, a2, a3, _⟩ := HH.out
    exact ⟨a1.mono B3, a2.trans (B3.mono a2.size), kq⟩
  have HW3 : Hid ((w1.alloc (.cells #[.pointer (some ⟨c, 0, none⟩), .int .i64 gen] 73)).alloc (.cells #[.int .i64 v] 84) = W3 ∧ w1.heap.size + 1 = q) := ⟨hW3.symm, eq.symm⟩
  have d0 : w1.cell? ⟨z, 0, none⟩ = some (.int .i64 (k : Int)) := cell_later hB (by simp [World.cell?, HH.out.2.2.1])
  have d1 : w1.cell? ⟨z, 1, none⟩ = some (.int .i64 gen) := cell_later hB (by simp [World.cell?, HH.out.2.2.1])
  have hzl : z < w1.heap.size := Nat.lt_of_lt_of_le (Array.getElem?_eq_some_iff.1 HH.out.2.2.1).1 hB.size
  clear hB hW3 eq B3 kq
  go_wp2_with fail
  rw [HW3.out.1, HW3.out.2]
  have LY := layV_any sb r g N f ys _ _ _ k gen (some q) W3 H3.out.1.hd H3.out.1.ring (by rw [H3.out.1.len]; exact Nat.le_of_lt HH.out.2.2.2.1) (by rw [H3.out.1.len]; exact Nat.le_trans H3.out.1.le H3.out.1.nm.nlim.2)
  refine Calls.mono LY ?_
  rintro e w4 ⟨rfl, hR⟩
  rw [if_pos (by rw [H3.out.1.len]; exact HH.out.2.2.2.1)] at hR
  have hkx := HH.out.2.2.2.1
  have hkg := HH.out.2.2.2.2
  have HE : Hid (SlV w4 sb lb n last cnt (xs.set k (some v, gen)) ∧ Ft isSV lb w w4) := by
    have hlb : lb ≤ W3.heap.size := by have := H3.out.1.lo.1; have := (Array.getElem?_eq_some_iff.1 H3.out.1.hd).1; omega
    obtain ⟨p1, p2⟩ := H3.out.1.lay0 (xs' := xs.set k (some v, gen)) hlb hR (by rw [List.length_set, List.length_set]; exact H3.out.1.len) (fun i hi => by
      rw [List.length_set] at hi
      rw [getD_setV _ _ _ _ (by rw [H3.out.1.len]; exact hkx), getD_setV _ _ _ _ hkx]
      by_cases e : i = k
      · rw [if_pos e, if_pos e]
        exact ⟨rfl, H3.out.2.2⟩
      · rw [if_neg e, if_neg e]
        exact H3.out.1.things i hi) (fun x => by
      unfold VacV
      rw [List.length_set, getD_setV _ _ _ _ hkx]
      by_cases e : x = k
      · rw [if_pos e, e, hkg]
        simp
      · rw [if_neg e]) (by rw [List.length_set]; exact H3.out.1.le) (fun i hi => by
      rw [List.length_set] at hi
      rw [getD_setV _ _ _ _ hkx]
      have h9 := H3.out.1.gens k hkx
      rw [hkg] at h9
      split
      · exact h9
      exact H3.out.1.gens i hi) (by rw [count_set hkx hkg]; exact H3.out.1.cn)
    exact ⟨p1, (Ft.of_below H3.out.2.1).trans p2⟩
  clear LY hR hkx hkg d0 d1
  go_wp2_with fail
  go_ret
  exact ⟨rfl, HE.out⟩
end Go.Proofs.YtdobjanhmllloaaDoor
namespace Go.Proofs.YtdobjanhmllloaaDoor
open Go.RowKit
set_option maxRecDepth 100000
set_option linter.unusedVariables false
theorem tb_some {xs : List (Option Int × Int)} {i : Nat} (h : (tbT xs i).2.1 = true) : i < xs.length := by
  rcases Nat.lt_or_ge i xs.length with h1 | h1
  · exact h1
  simp [tbT, h1] at h
theorem fnd_pos {xs : List (Option Int × Int)} {s g t : Int} (h : fndV xs s g = some t) : ∃ k : Nat, s = (k : Int) ∧ k < xs.length ∧ xs.getD k (none, 0) = (some t, g) := by
  unfold fndV at h
  split at h
  · rename_i hc
    refine ⟨s.toNat, by omega, by omega, ?_⟩
    rw [← h, ← hc.2.2]
  cases h
theorem fnd_at {xs : List (Option Int × Int)} {k : Nat} {g t : Int} (hk : k < xs.length) (e : xs.getD k (none, 0) = (some t, g)) : fndV xs (k : Int) g = some t := by
  unfold fndV
  rw [Int.toNat_natCast, if_pos ⟨by omega, by omega, by rw [e]⟩, e]
theorem good_fnd (xs : List (Option Int × Int)) (n : Nat) (hn : xs.length ≤ n) (s g : Int) : goodT (tbT xs) n s g = (fndV xs s g).isSome := by
  cases e : fndV xs s g with
  | some t =>
    obtain ⟨k, rfl, hk, ek⟩ := fnd_pos e
    unfold goodT tbT
    rw [Int.toNat_natCast, ek]
    simp
    omega
  | none =>
    cases e2 : goodT (tbT xs) n s g with
    | false => rfl
    | true =>
      obtain ⟨k, rfl, h1, h2, h3⟩ := good_at e2
      have hk := tb_some h2
      unfold tbT at h2 h3
      simp only at h2 h3
      obtain ⟨t, et⟩ := Option.isSome_iff_exists.1 h2
      rw [fnd_at (t := t) hk (by rw [← et, ← h3])] at e
      cases e
theorem getT_fnd (xs : List (Option Int × Int)) (n : Nat) (hn : xs.length ≤ n) (s g : Int) : getT (tbT xs) n s g = (fndV xs s g).getD 0 := by
  unfold getT
  rw [good_fnd xs n hn]
  cases e : fndV xs s g with
  | none => rfl
  | some t =>
    obtain ⟨k, rfl, hk, ek⟩ := fnd_pos e
    unfold tbT
    rw [Int.toNat_natCast, ek]
    rfl
theorem getE_fnd (xs : List (Option Int × Int)) (n : Nat) (hn : xs.length ≤ n) (s g : Int) : getE (tbT xs) n s g = if (fndV xs s g).isSome then 0 else 60 := by
  unfold getE
  rw [good_fnd xs n hn]
def dropX (xs : List (Option Int × Int)) (s g : Int) : List (Option Int × Int) := if (fndV xs s g).isSome then xs.set s.toNat (none, g) else xs
def setX (xs : List (Option Int × Int)) (s g v : Int) : List (Option Int × Int) := if (fndV xs s g).isSome then xs.set s.toNat (some v, g) else xs
theorem tb_set (xs : List (Option Int × Int)) (k : Nat) (hk : k < xs.length) (x : Option Int × Int) : tbT (xs.set k x) = updT (tbT xs) k (x.2, x.1.isSome, x.1.getD 0) := by
  funext i
  unfold tbT updT
  rw [getD_setV _ _ _ _ hk]
  by_cases e : i = k
  · rw [if_pos e, if_pos e]
  rw [if_neg e, if_neg e]
theorem drop_tb (xs : List (Option Int × Int)) (n : Nat) (hn : xs.length ≤ n) (s g : Int) : dropT6 (tbT xs) n s g = tbT (dropX xs s g) := by
  unfold dropT6 dropX
  rw [good_fnd xs n hn]
  cases e : fndV xs s g with
  | none => rfl
  | some t =>
    obtain ⟨k, rfl, hk, ek⟩ := fnd_pos e
    simp only [Option.isSome_some, if_true, Int.toNat_natCast]
    rw [tb_set xs k hk]
    rfl
theorem set_tb (xs : List (Option Int × Int)) (n : Nat) (hn : xs.length ≤ n) (s g v : Int) : setT6 (tbT xs) n s g v = tbT (setX xs s g v) := by
  unfold setT6 setX
  rw [good_fnd xs n hn]
  cases e : fndV xs s g with
  | none => rfl
  | some t =>
    obtain ⟨k, rfl, hk, ek⟩ := fnd_pos e
    simp only [Option.isSome_some, if_true, Int.toNat_natCast]
    rw [tb_set xs k hk]
    unfold tbT
    rw [ek]
    rfl
theorem vac_tb {xs : List (Option Int × Int)} {n : Nat} {last : Int} (h1 : 1 ≤ last) (i : Nat) : VacV n last xs i ↔ i < n ∧ vacT (tbT xs) last i = true := by
  unfold VacV vacT tbT
  rcases Nat.lt_or_ge i xs.length with h | h
  · have : ¬ xs.length ≤ i := by omega
    simp [this]
  simp [h]
  omega
theorem fst_spec (T : Nat → Int × Bool × Int) (last : Int) : ∀ m i, (∀ j, i ≤ j → j < fstV T last m i → vacT T last j = false) ∧ (fstV T last m i < i + m → vacT T last (fstV T last m i) = true)
  | 0, i => ⟨fun j h1 h2 => by rw [fstV] at h2; omega, fun h => by rw [fstV] at h; omega⟩
  | m + 1, i => by
    have ih := fst_spec T last m (i + 1)
    rw [fstV]
    cases e : vacT T last i with
    | true => exact ⟨fun j h1 h2 => by simp at h2; omega, fun _ => by simpa using e⟩
    | false =>
      refine ⟨fun j h1 h2 => ?_, fun h => ?_⟩
      · by_cases ej : j = i
        · rw [ej]; exact e
        exact ih.1 j (by omega) (by simpa using h2)
      simp at h ⊢
      exact ih.2 (by omega)
theorem putK_yes {xs : List (Option Int × Int)} {n : Nat} {last : Int} (h1 : 1 ≤ last) (h : putK (tbT xs) n last < n) : Least (VacV n last xs) (putK (tbT xs) n last) := by
  have hs := fst_spec (tbT xs) last n 0
  refine ⟨(vac_tb h1 _).2 ⟨h, hs.2 (by rw [Nat.zero_add]; exact h)⟩, fun i hi => ?_⟩
  rcases Nat.lt_or_ge i (putK (tbT xs) n last) with h2 | h2
  · have h3 := hs.1 i (Nat.zero_le _) h2
    have h4 := ((vac_tb h1 i).1 hi).2
    rw [h3] at h4
    cases h4
  exact h2
theorem putK_no {xs : List (Option Int × Int)} {n : Nat} {last : Int} (h1 : 1 ≤ last) (h : ¬ putK (tbT xs) n last < n) : ∀ i, ¬ VacV n last xs i := fun i hi => by
  have hs := fst_spec (tbT xs) last n 0
  obtain ⟨h2, h3⟩ := (vac_tb h1 i).1 hi
  have h4 := hs.1 i (Nat.zero_le _) (by unfold putK at h; omega)
  rw [h4] at h3
  cases h3
def putX6 (xs : List (Option Int × Int)) (n : Nat) (last v : Int) : List (Option Int × Int) := if putK (tbT xs) n last < n then putXV xs (putK (tbT xs) n last) v else xs
theorem put_tb (xs : List (Option Int × Int)) (n : Nat) (last v : Int) (h1 : 1 ≤ last) : putT6 (tbT xs) n last v = tbT (putX6 xs n last v) := by
  unfold putT6 putX6
  by_cases h : putK (tbT xs) n last < n
  · rw [if_pos h, if_pos h]
    obtain ⟨hm1, hm2⟩ := vac_leV (putK_yes h1 h)
    generalize putK (tbT xs) n last = m at hm1
    funext i
    unfold updT
    by_cases e : i = m
    · rw [if_pos e, e]
      unfold tbT
      rw [putX_atV _ _ _ hm1, if_pos rfl]
      rfl
    rw [if_neg e]
    unfold tbT
    rw [putX_atV _ _ _ hm1, if_neg e]
  rw [if_neg h, if_neg h]
theorem allL_count (xs : List (Option Int × Int)) : ∀ m, m ≤ xs.length → (allL (tbT xs) m).length = (xs.take m).countP fun x => x.1.isSome
  | 0, _ => rfl
  | m + 1, h => by
    have ih := allL_count xs m (by omega)
    rw [allL, List.length_append, ih, List.take_add_one, List.countP_append, List.getElem?_eq_getElem (show m < xs.length by omega)]
    have e : (tbT xs m).2.1 = xs[m].1.isSome := by simp [tbT, List.getElem?_eq_getElem (show m < xs.length by omega)]
    rw [e]
    cases e2 : xs[m].1 with
    | none => simp [e2]
    | some v => simp [e2]
theorem allL_beyond (xs : List (Option Int × Int)) (d : Nat) : allL (tbT xs) (xs.length + d) = allL (tbT xs) xs.length := by
  induction d with
  | zero => rfl
  | succ d ih =>
    rw [← Nat.add_assoc, allL, ih]
    have : (tbT xs (xs.length + d)).2.1 = false := by simp [tbT]
    rw [this]
    simp
theorem allL_n (xs : List (Option Int × Int)) (n : Nat) (h : xs.length ≤ n) : allL (tbT xs) n = allL (tbT xs) xs.length := by
  have := allL_beyond xs (n - xs.length)
  rwa [show xs.length + (n - xs.length) = n by omega] at this
section
variable {w : World} {sb lb n : Nat} {last : Int} {cnt : Nat} {xs : List (Option Int × Int)}
theorem SlV.facts (h : SlV w sb lb n last cnt xs) : xs.length ≤ n ∧ 1 ≤ last ∧ last ≤ 2147483647 ∧ cnt = (allL (tbT xs) xs.length).length ∧ 1 ≤ n ∧ n ≤ 65536 ∧ lb ≤ w.heap.size := by
  obtain ⟨r, g, N, f, b, L, cap, G, ys, h⟩ := h
  refine ⟨h.le, h.last1, h.last2, ?_, h.nm.nlim.1, h.nm.nlim.2, ?_⟩
  · rw [allL_count xs _ (Nat.le_refl _), List.take_length]
    exact h.cn
  have := h.lo.1
  have := (Array.getElem?_eq_some_iff.1 h.hd).1
  omega
theorem sdrop6 (h : SlV w sb lb n last cnt xs) (s g : Int) :
    Calls Tryd.prog 14 #[.pointer (some ⟨sb, 0, none⟩), .agg #[.int .i64 s, .int .i64 g]] w fun e w' => e = .returned (.tuple #[.int .i64 (getT (tbT xs) n s g), .int .i64 (getE (tbT xs) n s g)]) ∧ (∃ cnt', SlV w' sb lb n last cnt' (dropX xs s g)) ∧ Fua sb lb w w' := by
  obtain ⟨hn, _⟩ := h.facts
  rw [getT_fnd xs n hn, getE_fnd xs n hn]
  unfold dropX
  cases e : fndV xs s g with
  | none =>
    refine (dropV_no h s g e).mono ?_
    rintro e w' ⟨rfl, q⟩
    exact ⟨rfl, ⟨cnt, h.mono q⟩, Fua.of_below q⟩
  | some t =>
    refine (dropA_yes h s g t e).mono ?_
    rintro e w' ⟨rfl, q1, q2⟩
    exact ⟨rfl, q1, q2⟩
theorem sget6 (h : SlV w sb lb n last cnt xs) (s g : Int) :
    Calls Tryd.prog 10 #[.pointer (some ⟨sb, 0, none⟩), .agg #[.int .i64 s, .int .i64 g]] w fun e w' => e = .returned (.tuple #[.int .i64 (getT (tbT xs) n s g), .int .i64 (getE (tbT xs) n s g)]) ∧ Below w.heap.size w w' := by
  obtain ⟨hn, _⟩ := h.facts
  rw [getT_fnd xs n hn, getE_fnd xs n hn]
  refine (getV_any h s g).mono ?_
  rintro e w' ⟨rfl, q⟩
  refine ⟨?_, q⟩
  cases fndV xs s g <;> rfl
theorem sset6 (h : SlV w sb lb n last cnt xs) (s g v : Int) :
    Calls Tryd.prog 12 #[.pointer (some ⟨sb, 0, none⟩), .agg #[.int .i64 s, .int .i64 g], .int .i64 v] w fun e w' => e = .returned (.int .i64 (getE (tbT xs) n s g)) ∧ (∃ cnt', SlV w' sb lb n last cnt' (setX xs s g v)) ∧ Ft isSV lb w w' := by
  obtain ⟨hn, _⟩ := h.facts
  rw [getE_fnd xs n hn]
  unfold setX
  cases e : fndV xs s g with
  | none =>
    refine (sSetV_no h s g v e).mono ?_
    rintro e w' ⟨rfl, q⟩
    exact ⟨rfl, ⟨cnt, h.mono q⟩, Ft.of_below q⟩
  | some t =>
    refine (sSetV_yes h s g v t e).mono ?_
    rintro e w' ⟨rfl, q1, q2⟩
    exact ⟨rfl, ⟨cnt, q1⟩, q2⟩
theorem sput6 (h : SlV w sb lb n last cnt xs) (hT : Tab w) (v : Int) :
    Calls Tryd.prog 8 #[.pointer (some ⟨sb, 0, none⟩), .int .i64 v] w fun e w' => e = .returned (.tuple #[.agg #[.int .i64 (putS6 (tbT xs) n last), .int .i64 (putG6 (tbT xs) n last)], .int .i64 (putE6 (tbT xs) n last)]) ∧ (∃ cnt', SlV w' sb lb n last cnt' (putX6 xs n last v)) ∧ Fua sb lb w w' := by
  obtain ⟨hn, h1, _⟩ := h.facts
  unfold putS6 putG6 putE6 putX6
  by_cases hk : putK (tbT xs) n last < n
  · simp only [if_pos hk]
    refine (putA_yes h hT v _ (putK_yes h1 hk)).mono ?_
    rintro e w' ⟨rfl, q1, q2⟩
    exact ⟨rfl, q1, q2⟩
  simp only [if_neg hk]
  refine (putV_no h v (putK_no h1 hk)).mono ?_
  rintro e w' ⟨rfl, q⟩
  exact ⟨rfl, ⟨cnt, h.mono q⟩, Fua.of_below q⟩
end
end Go.Proofs.YtdobjanhmllloaaDoor
namespace Go.Proofs.YtdobjanhmllloaaDoor
open Go.RowKit
set_option maxRecDepth 100000
set_option linter.unusedVariables false
def Tb6 (lb : Nat) (W : World) : Prop := ∃ w0 : World, w0.heap.size = lb ∧ Tab w0 ∧ Below lb w0 W
theorem Tb6.tab {lb : Nat} {W : World} (h : Tb6 lb W) : Tab W := by
  obtain ⟨w0, e, h1, h2⟩ := h
  subst e
  exact h1.go h2
theorem Tb6.le {lb : Nat} {W : World} (h : Tb6 lb W) : lb ≤ W.heap.size := by
  obtain ⟨w0, e, h1, h2⟩ := h
  rw [← e]
  exact h2.size
theorem Tb6.go {lb : Nat} {W W' : World} (h : Tb6 lb W) (hB : Below lb W W') : Tb6 lb W' := by
  obtain ⟨w0, e, h1, h2⟩ := h
  exact ⟨w0, e, h1, h2.trans hB⟩
structure Fv (b lb : Nat) (W W' : World) : Prop where
  bel : Below lb W W'
  oth : ∀ (k : Nat) (o : Obj), W.heap[k]? = some o → k ≠ b → (∀ cs t z, o = .cells cs t z → ¬ isSV t) → W'.heap[k]? = some o
theorem Fv.refl (b lb : Nat) (W : World) : Fv b lb W W := ⟨Below.refl _ _, fun _ _ h _ _ => h⟩
theorem Fv.trans {b lb : Nat} {X Y Z : World} (h : Fv b lb X Y) (k : Fv b lb Y Z) : Fv b lb X Z := ⟨h.bel.trans k.bel, fun i o e h1 h2 => k.oth i o (h.oth i o e h1 h2) h1 h2⟩
theorem Fv.of_below {b lb : Nat} {W W' : World} (h : Below W.heap.size W W') (hl : lb ≤ W.heap.size) : Fv b lb W W' := ⟨h.mono hl, fun k o e _ _ => (h.block k (Array.getElem?_eq_some_iff.1 e).1).trans e⟩
theorem Fv.of_ft {b lb : Nat} {W W' : World} (h : Ft isSV lb W W') (hl : lb ≤ W.heap.size) : Fv b lb W W' := ⟨h.below hl, fun k o e _ ho => h.oth k o e ho⟩
theorem Fv.of_od {b lb : Nat} {W W' : World} (h : Od b W W') (hl : lb ≤ W.heap.size) (hb : lb ≤ b) : Fv b lb W W' := ⟨⟨h.os, h.tape, h.output, h.size, fun k hk => h.block k (by omega) (by omega)⟩, fun k o e hn _ => (h.block k (Array.getElem?_eq_some_iff.1 e).1 hn).trans e⟩
theorem Fv.new {b lb : Nat} {W W' : World} (h : Fv b lb W W') {x : Nat} (hx : W.heap.size ≤ x) (hl : lb ≤ W.heap.size) (i : Nat) (v : Value) : Fv b lb W (W'.setCell ⟨x, i, none⟩ v) :=
  ⟨h.bel.setCell (p := ⟨x, i, none⟩) (Nat.le_trans hl hx) v, fun k o e h1 h2 => (Below.heap_setCell _ _ _ k (show k ≠ x by have := (Array.getElem?_eq_some_iff.1 e).1; omega)).trans (h.oth k o e h1 h2)⟩
theorem Fv.put {b lb : Nat} {W W' : World} (h : Fv b lb W W') {l : Nat} {o : Obj} (hx : W.heap.size ≤ l) (hl : lb ≤ W.heap.size) (o' : Obj) (h1 : W'.heap[l]? = some o) : Fv b lb W (W'.putObj l o') :=
  ⟨below_putC h.bel o' h1 (Nat.le_trans hl hx), fun k o e h1 h2 => (World.putObj_heap_other (show k ≠ l by have := (Array.getElem?_eq_some_iff.1 e).1; omega)).trans (h.oth k o e h1 h2)⟩
theorem Fv.bx {b lb : Nat} {W W' : World} (h : Fv b lb W W') {k : Nat} {cs : Array Value} {t : TypeId} (e : W.heap[k]? = some (.cells cs t)) (hn : k ≠ b) (ht : ¬ isSV t) : W'.heap[k]? = some (.cells cs t) := h.oth k _ e hn fun cs' t' z e2 => by cases e2; exact ht
theorem Ksl.of_od {sb C b n : Nat} {T : Nat → Int × Bool × Int} {W W' : World} (h : Od b W W') (hd : Dr W b n T) : Ksl sb C W W' := by
  obtain ⟨cs0, e0, _⟩ := hd.row
  have hne : ∀ (k : Nat) (cs : Array Value) (t : TypeId), W.heap[k]? = some (.cells cs t) → t ≠ 92 → W'.heap[k]? = some (.cells cs t) := fun k cs t e ht => by
    refine (h.block k (Array.getElem?_eq_some_iff.1 e).1 fun e2 => ?_).trans e
    rw [e2, e0] at e
    cases e
    exact ht rfl
  refine ⟨fun r G cs a => a.kept fun k cs t e ht => hne k cs t e (by rcases ht with rfl | rfl | rfl <;> decide), fun k cs t e ht => hne k cs t e (by rcases ht with rfl | rfl <;> decide), h.size, fun k o _ e h1 _ => (h.block k (Array.getElem?_eq_some_iff.1 e).1 fun e2 => ?_).trans e⟩
  rw [e2, e0] at e
  cases e
  cases h1
structure Bq (W : World) (sb lb n : Nat) (last : Int) (xs ys : List (Option Int × Int)) (gw b cap : Nat) : Prop where
  sl : ∃ cnt, SlV W sb lb n last cnt xs
  dr : Dr W b n (tbT ys)
  hd : W.heap[gw]? = some (.cells #[.slice (some ⟨b, 0, none⟩) n cap, .int .i64 last] 30)
  tb : Tb6 lb W
  lo : lb ≤ b ∧ lb ≤ gw
section
variable {W W' : World} {sb lb n : Nat} {last : Int} {xs ys xs' ys' : List (Option Int × Int)} {gw b cap : Nat}
theorem Bq.ne (h : Bq W sb lb n last xs ys gw b cap) : gw ≠ b := fun e => by
  obtain ⟨cs0, e0, _⟩ := h.dr.row
  have := h.hd
  rw [e, e0] at this
  cases this
theorem Bq.cells (h : Bq W sb lb n last xs ys gw b cap) : W.cell? ⟨gw, 0, none⟩ = some (.slice (some ⟨b, 0, none⟩) n cap) ∧ W.cell? ⟨gw, 1, none⟩ = some (.int .i64 last) ∧ gw < W.heap.size := by
  have e := h.hd
  exact ⟨by simp [World.cell?, e], by simp [World.cell?, e], (Array.getElem?_eq_some_iff.1 e).1⟩
theorem Bq.facts (h : Bq W sb lb n last xs ys gw b cap) : xs.length ≤ n ∧ 1 ≤ last ∧ last ≤ 2147483647 ∧ 1 ≤ n ∧ n ≤ 65536 ∧ lb ≤ W.heap.size := by
  obtain ⟨cnt, h1⟩ := h.sl
  obtain ⟨a1, a2, a3, _, a5, a6, a7⟩ := h1.facts
  exact ⟨a1, a2, a3, a5, a6, a7⟩
theorem Bq.kept (h : Bq W sb lb n last xs ys gw b cap) (hB : Below lb W W') (hk : ∀ (k : Nat) (cs : Array Value) (t : TypeId), W.heap[k]? = some (.cells cs t) → (isMV t ∨ t = 92 ∨ t = 30) → W'.heap[k]? = some (.cells cs t)) : Bq W' sb lb n last xs ys gw b cap := by
  obtain ⟨cnt, h1⟩ := h.sl
  obtain ⟨cs0, e0, _⟩ := h.dr.row
  exact ⟨⟨cnt, h1.kept fun k cs t e ht => hk k cs t e (.inl ht)⟩, h.dr.kept ((hk _ _ _ e0 (.inr (.inl rfl))).trans e0.symm), hk _ _ _ h.hd (.inr (.inr rfl)), h.tb.go hB, h.lo⟩
theorem Bq.below (h : Bq W sb lb n last xs ys gw b cap) (hB : Below W.heap.size W W') : Bq W' sb lb n last xs ys gw b cap :=
  h.kept (hB.mono h.tb.le) fun k cs t e _ => (hB.block k (Array.getElem?_eq_some_iff.1 e).1).trans e
theorem Bq.prog (h : Bq W sb lb n last xs ys gw b cap) (hF : Ft isSV lb W W') (hs : ∃ cnt, SlV W' sb lb n last cnt xs') : Bq W' sb lb n last xs' ys gw b cap := by
  obtain ⟨cs0, e0, _⟩ := h.dr.row
  exact ⟨hs, h.dr.kept (hF.blk e0 (by unfold isSV; decide)), (hF.blk h.hd (by unfold isSV; decide)).trans h.hd, h.tb.go (hF.below h.tb.le), h.lo⟩
theorem Bq.doc (h : Bq W sb lb n last xs ys gw b cap) (hO : Od b W W') (hd : Dr W' b n (tbT ys')) : Bq W' sb lb n last xs ys' gw b cap := by
  obtain ⟨cnt, h1⟩ := h.sl
  obtain ⟨cs0, e0, _⟩ := h.dr.row
  refine ⟨⟨cnt, h1.kept fun k cs t e ht => (hO.block k (Array.getElem?_eq_some_iff.1 e).1 fun e2 => ?_).trans e⟩, hd, (hO.block gw (Array.getElem?_eq_some_iff.1 h.hd).1 h.ne).trans h.hd, h.tb.go (Fv.of_od hO h.tb.le h.lo.1).bel, h.lo⟩
  rw [e2, e0] at e
  cases e
  rcases ht with ht | ht | ht | ht | ht | ht <;> exact absurd ht (by decide)
theorem Bq.put (h : Bq W sb lb n last xs ys gw b cap) {l : Nat} {o : Obj} (o' : Obj) (h1 : W.heap[l]? = some o) (h2 : o.isCells = false) (hl : lb ≤ l) : Bq (W.putObj l o') sb lb n last xs ys gw b cap :=
  h.kept (below_putC (Below.refl _ _) o' h1 hl) fun k cs t e _ => put_cells h1 h2 e
theorem Bq.set (h : Bq W sb lb n last xs ys gw b cap) {k0 : Nat} {cs0 : Array Value} {t0 : TypeId} (h1 : W.heap[k0]? = some (.cells cs0 t0)) (ht : ¬ isMV t0 ∧ t0 ≠ 92 ∧ t0 ≠ 30) (hl : lb ≤ k0) (i : Nat) (v : Value) : Bq (W.setCell ⟨k0, i, none⟩ v) sb lb n last xs ys gw b cap :=
  h.kept ((Below.refl _ _).setCell (p := ⟨k0, i, none⟩) hl v) fun k cs t e hx => set_cells h1 i v e fun cs' e2 => by
    cases e2
    rcases hx with hx | hx | hx
    · exact ht.1 hx
    · exact ht.2.1 hx
    exact ht.2.2 hx
theorem not_mv {t : TypeId} (h : t ≠ 78 ∧ t ≠ 112 ∧ t ≠ 73 ∧ t ≠ 113 ∧ t ≠ 114 ∧ t ≠ 84) : ¬ isMV t := fun e => by
  rcases e with e | e | e | e | e | e
  · exact h.1 e
  · exact h.2.1 e
  · exact h.2.2.1 e
  · exact h.2.2.2.1 e
  · exact h.2.2.2.2.1 e
  exact h.2.2.2.2.2 e
theorem tb_ge (xs : List (Option Int × Int)) (h : ∀ i, i < xs.length → 1 ≤ (xs.getD i (none, 0)).2) (i : Nat) : -9223372036854775808 ≤ (tbT xs i).1 := by
  unfold tbT
  rcases Nat.lt_or_ge i xs.length with h1 | h1
  · have := h i h1
    simp only
    omega
  simp [h1]
theorem SlV.gens {cnt : Nat} (h : SlV W sb lb n last cnt xs) : ∀ i, i < xs.length → 1 ≤ (xs.getD i (none, 0)).2 := by
  obtain ⟨r, g, N, f, b, L, cap, G, ys, h⟩ := h
  exact fun i hi => (h.gens i hi).1
end
end Go.Proofs.YtdobjanhmllloaaDoor
