/- Contracts of the program's functions, part 12: own work, joined in build order. -/
import Derived.Test.YtdobjanhmllloaaDoorJ11
namespace Go.Proofs.YtdobjanhmllloaaDoor
open Go.RowKit
set_option maxRecDepth 100000
set_option linter.unusedVariables false
structure MidW (w W : World) (sb lb n : Nat) (last : Int) (cnt : Nat) (r b L cap : Nat) (G : Nat → Nat) (S : Nat → Prop) (xs : List (Option ByteArray × Int)) : Prop where
  hd : W.heap[sb]? = some (.cells #[.pointer (some ⟨r, 0, none⟩), .slice (some ⟨b, 0, none⟩) L cap, .int .i64 last, .int .i64 (cnt : Int)] 102)
  ring : ∃ g N f ys, RW W r g N f ys.length ys ∧ lb ≤ g ∧ ys.length = xs.length ∧ ∀ i, i < xs.length → (ys.getD i (none, 0)).2 = (xs.getD i (none, 0)).2 ∧ CelW W (ys.getD i (none, 0)).1 (xs.getD i (none, 0)).1
  nm : NmX W b L cap G n (Lv S) lb
  lo : lb ≤ sb ∧ lb ≤ r
  ft : Ft isSW lb w W
theorem MidW.shut {w W : World} {sb lb n : Nat} {last : Int} {cnt : Nat} {r b L cap : Nat} {G : Nat → Nat} {S : Nat → Prop} {xs : List (Option ByteArray × Int)} (h : MidW w W sb lb n last cnt r b L cap G S xs) (hS : ∀ x, S x ↔ VacW n last xs x) (hle : xs.length ≤ n) (h1 : 1 ≤ last) (h2 : last ≤ 2147483647) (hg : ∀ i, i < xs.length → 1 ≤ (xs.getD i (none, 0)).2 ∧ (xs.getD i (none, 0)).2 ≤ last) (hc : cnt = xs.countP fun x => x.1.isSome) : SlW W sb lb n last cnt xs := by
  obtain ⟨g, N, f, ys, q1, q2, q3, q4⟩ := h.ring
  exact ⟨r, g, N, f, b, L, cap, G, ys, h.hd, q1, h.nm.congr fun k _ y => lv_congrW hS k y, q3, q4, ⟨h.lo.1, h.lo.2, q2⟩, hle, h1, h2, hg, hc⟩
theorem MidW.words {w W W' : World} {sb lb n : Nat} {last : Int} {cnt : Nat} {r b L cap : Nat} {G : Nat → Nat} {S S' : Nat → Prop} {xs : List (Option ByteArray × Int)} (h : MidW w W sb lb n last cnt r b L cap G S xs) (hN : NmX W' b L cap G n (Lv S') lb) (hF : Ft isW lb W W') : MidW w W' sb lb n last cnt r b L cap G S' xs := by
  obtain ⟨g, N, f, ys, q1, q2, q3, q4⟩ := h.ring
  refine ⟨(hF.blk h.hd (by unfold isW; decide)).trans h.hd, ⟨g, N, f, ys, q1.of_blocks ?_ ?_, q2, q3, fun i hi => ⟨(q4 i hi).1, (q4 i hi).2.kept fun k cs e => (hF.blk e (by unfold isW; decide)).trans e⟩⟩, hN, h.lo, h.ft.trans (hF.weak fun t ht => .inr (.inr (.inr ht)))⟩
  · obtain ⟨cs, e, _⟩ := q1.hd
    exact hF.blk e (by unfold isW; decide)
  rcases Nat.eq_zero_or_pos N with e0 | e0
  · rw [(q1.zr e0).1]
    obtain ⟨cs, e, _⟩ := q1.hd
    exact hF.blk e (by unfold isW; decide)
  obtain ⟨cs, e, _⟩ := q1.row e0
  exact hF.blk e (by unfold isW; decide)
theorem MidW.draw {w W : World} {sb lb n : Nat} {last : Int} {cnt : Nat} {r b L cap : Nat} {G : Nat → Nat} {S : Nat → Prop} {xs : List (Option ByteArray × Int)} (h : MidW w W sb lb n last cnt r b L cap G S xs) (m : Nat) : MidW w (W.drewN m) sb lb n last cnt r b L cap G S xs := by
  obtain ⟨g, N, f, ys, q1, q2, q3, q4⟩ := h.ring
  exact ⟨h.hd, ⟨g, N, f, ys, q1.of_blocks rfl rfl, q2, q3, fun i hi => ⟨(q4 i hi).1, (q4 i hi).2.kept fun k cs e => e⟩⟩, h.nm.kept fun _ _ _ _ _ => rfl, h.lo, h.ft.drewN m⟩
theorem SpW.lay {w W W' : World} {sb lb n : Nat} {last : Int} {cnt : Nat} {xs : List (Option ByteArray × Int)} {r g N f b L cap : Nat} {G : Nat → Nat} {ys ys' : List (Option Nat × Int)} {xs' : List (Option ByteArray × Int)} {S : Nat → Prop} (h : SpW W sb lb n last cnt xs r g N f b L cap G ys S) (hw : Ft isSW lb w W) (hlb : lb ≤ W.heap.size) (hR : RingsW W r g ys' W') (hl : ys'.length = xs'.length) (ht : ∀ i, i < xs'.length → (ys'.getD i (none, 0)).2 = (xs'.getD i (none, 0)).2 ∧ CelW W (ys'.getD i (none, 0)).1 (xs'.getD i (none, 0)).1) (cnt' : Nat) :
    MidW w (W'.setCell ⟨sb, 3, none⟩ (.int .i64 (cnt' : Int))) sb lb n last cnt' r b L cap G S xs' := by
  obtain ⟨g', N', f', q1, q2, q3⟩ := hR
  obtain ⟨a1, a2, a3, a4⟩ := h.after q2
  have hd := a1.trans h.hd
  have hne : ∀ (k : Nat) (cs : Array Value) (t : TypeId), W'.heap[k]? = some (.cells cs t) → t ≠ 102 → (W'.setCell ⟨sb, 3, none⟩ (.int .i64 (cnt' : Int))).heap[k]? = some (.cells cs t) := fun k cs t e hn => by
    refine (Below.heap_setCell _ _ _ k (show k ≠ sb from fun e2 => ?_)).trans e
    rw [e2, hd] at e
    cases e
    exact hn rfl
  refine ⟨heap_setCell_same W' sb 3 _ _ _ hd, ⟨g', N', f', ys', q1.of_blocks ?_ ?_, ?_, hl, fun i hi => ⟨(ht i hi).1, (a3 _ _ (ht i hi).2).kept fun k cs e => hne _ _ _ e (by decide)⟩⟩, a2.kept fun k cs t e ht => (hne _ _ _ e ?_).trans e.symm, ⟨h.lo.1, h.lo.2.1⟩, (hw.trans a4).set hd (.inl rfl) h.lo.1 _ _⟩
  · obtain ⟨cs, e, _⟩ := q1.hd
    exact (hne _ _ _ e (by decide)).trans e.symm
  · rcases Nat.eq_zero_or_pos N' with e0 | e0
    · rw [(q1.zr e0).1]
      obtain ⟨cs, e, _⟩ := q1.hd
      exact (hne _ _ _ e (by decide)).trans e.symm
    obtain ⟨cs, e, _⟩ := q1.row e0
    exact (hne _ _ _ e (by decide)).trans e.symm
  · rcases q3 with e | e | e
    · rw [e]; exact h.lo.2.2
    · rw [e]; exact h.lo.2.1
    omega
  rcases ht with rfl | rfl <;> decide
set_option maxHeartbeats 4000000 in
theorem dropW_yes {w : World} {sb lb n : Nat} {last : Int} {cnt : Nat} {xs : List (Option ByteArray × Int)} (h : SlW w sb lb n last cnt xs) (i0 gen : Int) (t : ByteArray) (hf : fndW xs i0 gen = some t) :
    Calls Tryd.prog 24 #[.pointer (some ⟨sb, 0, none⟩), .agg #[.int .i64 i0, .int .i64 gen]] w fun e w' => e = .returned (.tuple #[Value.string t, .int .i64 0]) ∧ (∃ cnt', SlW w' sb lb n last cnt' (xs.set i0.toNat (none, gen))) ∧ Ft isSW lb w w' := by
  obtain ⟨r, g, N, f, b, L, cap, G, ys, h⟩ := h
  obtain ⟨W, hW⟩ : ∃ W, W = w.alloc (.cells #[.int .i64 i0, .int .i64 gen] 38) := ⟨_, rfl⟩
  obtain ⟨z, ez⟩ : ∃ z, z = w.heap.size := ⟨_, rfl⟩
  have B0 : Below w.heap.size w W := by rw [hW]; exact (Below.refl _ _).alloc (Nat.le_refl _) _
  have kz : W.heap[z]? = some (.cells #[.int .i64 i0, .int .i64 gen] 38) := by rw [hW, ez]; exact (MapKept.heap_alloc _ _).1
  have h' := h.mono B0
  have F := findW_any sb r g N f ys _ _ _ i0 gen W h'.hd h'.ring
  rcases h'.found i0 gen with ⟨e1, e2⟩ | ⟨t', c, e1, e2, e3, e4, e5, e6, e7⟩
  · rw [hf] at e1
    cases e1
  obtain rfl : t = t' := by
    rw [hf] at e1
    cases e1
    rfl
  obtain ⟨k, ek⟩ : ∃ k, k = i0.toNat := ⟨_, rfl⟩
  have eik : i0 = (k : Int) := by omega
  rw [← ek] at e6 e7 ⊢
  subst eik
  rw [e2, e3] at F
  have HF : Hid _ := F
  have HW : Hid (w.alloc (.cells #[.int .i64 (k : Int), .int .i64 gen] 38) = W ∧ w.heap.size = z) := ⟨hW.symm, ez.symm⟩
  have HH : Hid (SpW W sb lb n last cnt xs r g N f b L cap G ys (VacW n last xs) ∧ Below w.heap.size w W ∧ W.heap[z]? = some (.cells #[.int .i64 (k : Int), .int .i64 gen] 38) ∧ W.heap[c]? = some (.cells #[Value.string t] 107) ∧ k < xs.length ∧ xs.getD k (none, 0) = (some t, gen) ∧ SpW w sb lb n last cnt xs r g N f b L cap G ys (VacW n last xs)) := ⟨h', B0, kz, e4, e6, e7, h⟩
  have hcl : c < W.heap.size := (Array.getElem?_eq_some_iff.1 e4).1
  clear F h h' hW ez B0 kz e1 e2 e3 e4 e5 e6 e7 ek hf
  go_enter Tryd.func24, Tryd.ntmps24
  go_wp2_with fail
  rw [HW.out.1]
  refine Calls.mono HF.out ?_
  rintro e w1 ⟨rfl, hB⟩
  simp only [if_true, pP, Option.map]
  rw [HW.out.2]
  obtain ⟨W2, hW2⟩ : ∃ W2, W2 = w1.alloc (.cells #[.pointer (some ⟨c, 0, none⟩), .int .i64 gen] 100) := ⟨_, rfl⟩
  obtain ⟨q, eq⟩ : ∃ q, q = w1.heap.size := ⟨_, rfl⟩
  have B2 : Below W.heap.size W W2 := by rw [hW2]; exact hB.alloc hB.size _
  have kq : W2.heap[q]? = some (.cells #[.pointer (some ⟨c, 0, none⟩), .int .i64 gen] 100) := by rw [hW2, eq]; exact (MapKept.heap_alloc _ _).1
  have H2 : Hid (SpW W2 sb lb n last cnt xs r g N f b L cap G ys (VacW n last xs) ∧ Below w.heap.size w W2 ∧ W2.heap[z]? = some (.cells #[.int .i64 (k : Int), .int .i64 gen] 38) ∧ W2.heap[c]? = some (.cells #[Value.string t] 107) ∧ W2.heap[q]? = some (.cells #[.pointer (some ⟨c, 0, none⟩), .int .i64 gen] 100) ∧ r < q ∧ g < q) := by
    obtain ⟨a1, a2, a3, a4, _⟩ := HH.out
    refine ⟨a1.mono B2, a2.trans (B2.mono a2.size), (B2.block _ (Array.getElem?_eq_some_iff.1 a3).1).trans a3, (B2.block _ (Array.getElem?_eq_some_iff.1 a4).1).trans a4, kq, ?_, ?_⟩
    · rw [eq]; exact Nat.lt_of_lt_of_le a1.ring.rlt hB.size
    rw [eq]; exact Nat.lt_of_lt_of_le a1.ring.glt hB.size
  have HW2 : Hid (w1.alloc (.cells #[.pointer (some ⟨c, 0, none⟩), .int .i64 gen] 100) = W2 ∧ w1.heap.size = q) := ⟨hW2.symm, eq.symm⟩
  have d0 : w1.cell? ⟨z, 0, none⟩ = some (.int .i64 (k : Int)) := cell_later hB (by simp [World.cell?, HH.out.2.2.1])
  have d1 : w1.cell? ⟨z, 1, none⟩ = some (.int .i64 gen) := cell_later hB (by simp [World.cell?, HH.out.2.2.1])
  have hzl : z < w1.heap.size := Nat.lt_of_lt_of_le (Array.getElem?_eq_some_iff.1 HH.out.2.2.1).1 hB.size
  clear hB hW2 eq B2 kq
  go_wp2_with fail
  rw [HW2.out.1, HW2.out.2]
  have LY := layW_any sb r g N f ys _ _ _ k gen none W2 H2.out.1.hd H2.out.1.ring (by rw [H2.out.1.len]; exact Nat.le_of_lt HH.out.2.2.2.2.1) (by rw [H2.out.1.len]; exact Nat.le_trans H2.out.1.le H2.out.1.nm.nlim.2)
  refine Calls.mono LY ?_
  rintro e w3 ⟨rfl, hR⟩
  rw [if_pos (by rw [H2.out.1.len]; exact HH.out.2.2.2.2.1)] at hR
  obtain ⟨cnt', ecn⟩ : ∃ cnt', cnt = cnt' + 1 := by
    have := count_dropW HH.out.2.2.2.2.1 HH.out.2.2.2.2.2.1
    rw [← H2.out.1.cn] at this
    exact ⟨_, this⟩
  have hM := H2.out.1.lay (xs' := xs.set k (none, gen)) (w := w) ((Ft.of_below H2.out.2.1).weak fun t ht => ht) (by have := H2.out.1.lo.1; have := (Array.getElem?_eq_some_iff.1 H2.out.1.hd).1; omega) hR (by rw [List.length_set, List.length_set]; exact H2.out.1.len) (fun i hi => by
    rw [List.length_set] at hi
    rw [getD_setW _ _ _ _ (by rw [H2.out.1.len]; exact HH.out.2.2.2.2.1), getD_setW _ _ _ _ HH.out.2.2.2.2.1]
    by_cases e : i = k
    · rw [if_pos e, if_pos e]
      exact ⟨rfl, trivial⟩
    rw [if_neg e, if_neg e]
    exact H2.out.1.things i hi) cnt'
  obtain ⟨g3, N3, f3, r1, r2, r3⟩ := hR
  have z3 : w3.heap[z]? = some (.cells #[.int .i64 (k : Int), .int .i64 gen] 38) := H2.out.1.other r2 H2.out.2.2.1 fun cs t' z e => by cases e; exact ⟨by decide, by decide⟩
  have c3 : w3.heap[c]? = some (.cells #[Value.string t] 107) := H2.out.1.other r2 H2.out.2.2.2.1 fun cs t' z e => by cases e; exact ⟨by decide, by decide⟩
  have q3 : w3.heap[q]? = some (.cells #[.pointer (some ⟨c, 0, none⟩), .int .i64 gen] 100) := (r2.block q (Array.getElem?_eq_some_iff.1 H2.out.2.2.2.2.1).1 (by have := H2.out.2.2.2.2.2; omega) (by have := H2.out.2.2.2.2.2; omega)).trans H2.out.2.2.2.2.1
  have s3 : w3.heap[sb]? = some (.cells #[.pointer (some ⟨r, 0, none⟩), .slice (some ⟨b, 0, none⟩) L cap, .int .i64 last, .int .i64 (cnt : Int)] 102) := (H2.out.1.after r2).1.trans H2.out.1.hd
  have n1 : z ≠ sb := fun e => by rw [e, s3] at z3; cases z3
  have n2 : c ≠ sb := fun e => by rw [e, s3] at c3; cases c3
  have n3 : q ≠ sb := fun e => by rw [e, s3] at q3; cases q3
  obtain ⟨W4, hW4⟩ : ∃ W4, W4 = w3.setCell ⟨sb, 3, none⟩ (.int .i64 (cnt' : Int)) := ⟨_, rfl⟩
  have HM : Hid (MidW w W4 sb lb n last cnt' r b L cap G (VacW n last xs) (xs.set k (none, gen)) ∧ W4.heap[z]? = some (.cells #[.int .i64 (k : Int), .int .i64 gen] 38) ∧ W4.heap[c]? = some (.cells #[Value.string t] 107) ∧ W4.heap[q]? = some (.cells #[.pointer (some ⟨c, 0, none⟩), .int .i64 gen] 100)) := by
    rw [hW4]
    exact ⟨hM, (Below.heap_setCell _ _ _ _ n1).trans z3, (Below.heap_setCell _ _ _ _ n2).trans c3, (Below.heap_setCell _ _ _ _ n3).trans q3⟩
  have HW4 : Hid (w3.setCell ⟨sb, 3, none⟩ (.int .i64 ((cnt : Int) - 1)) = W4) := by rw [hW4, ecn]; congr 2; omega
  have k3 : w3.cell? ⟨sb, 3, none⟩ = some (.int .i64 (cnt : Int)) := by simp [World.cell?, s3]
  have f3' : w3.frozen? ⟨sb, 3, none⟩ = false := by simp [World.frozen?, s3]
  have HEC : Hid (cnt = cnt' + 1) := ecn
  have hcn : cnt ≤ 65536 := by
    have h1 : cnt ≤ xs.length := by rw [H2.out.1.cn]; exact List.countP_le_length
    have h2 := H2.out.1.le
    have h3 := H2.out.1.nm.nlim.2
    omega
  have hwr : IntKind.i64.wrap ((cnt : Int) - 1) = (cnt : Int) - 1 := by rw [IntKind.wrap_i64]; omega
  clear LY hM r1 r2 r3 z3 c3 q3 s3 n1 n2 n3 hW4 ecn d0 d1 hzl
  go_upto_region 6 with fail
  rw [HW4.out]
  have y0 : W4.cell? ⟨z, 0, none⟩ = some (.int .i64 (k : Int)) := by simp [World.cell?, HM.out.2.1]
  have y1 : W4.cell? ⟨z, 1, none⟩ = some (.int .i64 gen) := by simp [World.cell?, HM.out.2.1]
  have y2 : W4.cell? ⟨sb, 2, none⟩ = some (.int .i64 last) := by simp [World.cell?, HM.out.1.hd]
  have y3 : W4.cell? ⟨sb, 1, none⟩ = some (.slice (some ⟨b, 0, none⟩) L cap) := by simp [World.cell?, HM.out.1.hd]
  clear k3 f3' hwr
  by_cases hgl : gen < last
  · have hd : decide (gen < last) = true := decide_eq_true hgl
    go_quiet (fail)
    go_upto_region 7 with fail
    have AD : Hid (Calls Tryd.prog 36 #[.slice (some ⟨b, 0, none⟩) L cap, .int .i64 (k : Int)] (W4.drewN nq).drew fun e w' => e = .returned (.tuple #[]) ∧ w'.cell? ⟨sb, 1, none⟩ = some (.slice (some ⟨b, 0, none⟩) L cap) ∧ w'.cell? ⟨z, 0, none⟩ = some (.int .i64 (k : Int)) ∧ Hid (SlW w' sb lb n last cnt' (xs.set k (none, gen)) ∧ Ft isSW lb w w' ∧ w'.heap[c]? = some (.cells #[Value.string t] 107) ∧ w'.heap[q]? = some (.cells #[.pointer (some ⟨c, 0, none⟩), .int .i64 gen] 100))) := by
      have hM := (HM.out.1.draw nq).draw 1
      refine (add_any (W4.drewN nq).drew b L cap G n k lb _ hM.nm (by have := HH.out.2.2.2.2.1; have := H2.out.1.le; omega)).mono ?_
      rintro e w' ⟨rfl, a1, a2⟩
      have hM2 := hM.words a1 a2
      have xz : w'.heap[z]? = some (.cells #[.int .i64 (k : Int), .int .i64 gen] 38) := (a2.blk HM.out.2.1 (by unfold isW; decide)).trans HM.out.2.1
      refine ⟨rfl, by simp [World.cell?, hM2.hd], by simp [World.cell?, xz], ?_, hM2.ft, (a2.blk HM.out.2.2.1 (by unfold isW; decide)).trans HM.out.2.2.1, (a2.blk HM.out.2.2.2 (by unfold isW; decide)).trans HM.out.2.2.2⟩
      refine hM2.shut (fun x => ?_) (by rw [List.length_set]; exact H2.out.1.le) H2.out.1.last1 H2.out.1.last2 (fun i hi => ?_) ?_
      · rw [vac_dropW HH.out.2.2.2.2.1 HH.out.2.2.2.2.2.1 H2.out.1.le]
        constructor
        · rintro (h1 | h1)
          · exact .inl h1
          exact .inr ⟨h1, hgl⟩
        rintro (h1 | h1)
        · exact .inl h1
        exact .inr h1.1
      · rw [List.length_set] at hi
        rw [getD_setW _ _ _ _ HH.out.2.2.2.2.1]
        have h9 := H2.out.1.gens k HH.out.2.2.2.2.1
        rw [HH.out.2.2.2.2.2.1] at h9
        split
        · exact h9
        exact H2.out.1.gens i hi
      have h9 := count_dropW HH.out.2.2.2.2.1 HH.out.2.2.2.2.2.1
      rw [← H2.out.1.cn, HEC.out] at h9
      omega
    have y0' : (W4.drewN nq).cell? ⟨z, 0, none⟩ = some (.int .i64 (k : Int)) := y0
    have y3' : (W4.drewN nq).cell? ⟨sb, 1, none⟩ = some (.slice (some ⟨b, 0, none⟩) L cap) := y3
    go_region_held3 (fun w9 => w9.cell? ⟨sb, 1, none⟩ = some (.slice (some ⟨b, 0, none⟩) L cap) ∧ w9.cell? ⟨z, 0, none⟩ = some (.int .i64 (k : Int))) (first | (simp [go_sem, *]; done) | (trace_state; fail))
      (first | (go_at_call 36; refine Calls.mono AD.out ?_; rintro e w5 ⟨rfl, p0, p1, H5⟩))
    have u0 : w5.cell? ⟨q, 0, none⟩ = some (.pointer (some ⟨c, 0, none⟩)) := by simp [World.cell?, H5.out.2.2.2]
    have u1 : w5.cell? ⟨c, 0, none⟩ = some (Value.string t) := by simp [World.cell?, H5.out.2.2.1]
    clear y0 y1 y2 y3 y0' y3' p0 p1
    go_wp2_with fail
    go_ret2
    exact ⟨rfl, ⟨cnt', H5.out.1⟩, H5.out.2.1⟩
  have hd : decide (gen < last) = false := decide_eq_false hgl
  go_quiet (fail)
  have H5 : Hid (SlW (W4.drewN nq) sb lb n last cnt' (xs.set k (none, gen)) ∧ Ft isSW lb w (W4.drewN nq)) := by
    have hM := HM.out.1.draw nq
    refine ⟨?_, hM.ft⟩
    refine hM.shut (fun x => ?_) (by rw [List.length_set]; exact H2.out.1.le) H2.out.1.last1 H2.out.1.last2 (fun i hi => ?_) ?_
    · rw [vac_dropW HH.out.2.2.2.2.1 HH.out.2.2.2.2.2.1 H2.out.1.le]
      constructor
      · exact .inl
      rintro (h1 | h1)
      · exact h1
      exact absurd h1.2 hgl
    · rw [List.length_set] at hi
      rw [getD_setW _ _ _ _ HH.out.2.2.2.2.1]
      have h9 := H2.out.1.gens k HH.out.2.2.2.2.1
      rw [HH.out.2.2.2.2.2.1] at h9
      split
      · exact h9
      exact H2.out.1.gens i hi
    have h9 := count_dropW HH.out.2.2.2.2.1 HH.out.2.2.2.2.2.1
    rw [← H2.out.1.cn, HEC.out] at h9
    omega
  have u0 : W4.cell? ⟨q, 0, none⟩ = some (.pointer (some ⟨c, 0, none⟩)) := by simp [World.cell?, HM.out.2.2.2]
  have u1 : W4.cell? ⟨c, 0, none⟩ = some (Value.string t) := by simp [World.cell?, HM.out.2.2.1]
  clear y0 y1 y2 y3
  go_wp2_with fail
  go_ret2
  exact ⟨rfl, ⟨cnt', H5.out.1⟩, H5.out.2⟩
def putXW (xs : List (Option ByteArray × Int)) (m : Nat) (v : ByteArray) : List (Option ByteArray × Int) := if m < xs.length then xs.set m (some v, (xs.getD m (none, 0)).2 + 1) else xs ++ [(some v, (xs.getD m (none, 0)).2 + 1)]
theorem vac_leW {n : Nat} {last : Int} {xs : List (Option ByteArray × Int)} {m : Nat} (h : Least (VacW n last xs) m) : m ≤ xs.length ∧ m < n := by
  have h1 := h.1
  unfold VacW at h1
  refine ⟨?_, h1.1⟩
  rcases Nat.lt_or_ge xs.length m with h2 | h2
  · have := h.2 xs.length ⟨by omega, .inl (Nat.le_refl _)⟩
    omega
  exact h2
theorem getD_snocW {α : Type} (xs : List α) (v z : α) (j : Nat) : (xs ++ [v]).getD j z = if j = xs.length then v else xs.getD j z := by
  simp only [List.getD_eq_getElem?_getD]
  rcases Nat.lt_trichotomy j xs.length with h | h | h
  · rw [List.getElem?_append_left h, if_neg (by omega)]
  · subst h; simp
  rw [List.getElem?_append_right (by omega), if_neg (by omega), List.getElem?_eq_none (l := xs) (by omega), List.getElem?_eq_none (by simp; omega)]
theorem putX_lenW (xs : List (Option ByteArray × Int)) (m : Nat) (v : ByteArray) (h : m ≤ xs.length) : (putXW xs m v).length = if m < xs.length then xs.length else xs.length + 1 := by
  unfold putXW
  split <;> simp
theorem putX_atW (xs : List (Option ByteArray × Int)) (m : Nat) (v : ByteArray) (h : m ≤ xs.length) (j : Nat) : (putXW xs m v).getD j (none, 0) = if j = m then (some v, (xs.getD m (none, 0)).2 + 1) else xs.getD j (none, 0) := by
  unfold putXW
  split
  · rw [getD_setW _ _ _ _ (by assumption)]
  rw [getD_snocW]
  have e : m = xs.length := by omega
  rw [e]
theorem vac_putW {n : Nat} {last : Int} {xs : List (Option ByteArray × Int)} {m : Nat} (h : Least (VacW n last xs) m) (v : ByteArray) (j : Nat) : VacW n last (putXW xs m v) j ↔ (VacW n last xs j ∧ j ≠ m) := by
  obtain ⟨h1, h2⟩ := vac_leW h
  unfold VacW
  rw [putX_atW _ _ _ h1, putX_lenW _ _ _ h1]
  by_cases e : j = m
  · subst e
    rw [if_pos rfl]
    simp
    intro _
    split <;> omega
  rw [if_neg e]
  simp only [ne_eq, e, not_false_eq_true, and_true]
  constructor
  · rintro ⟨a, b | b⟩
    · refine ⟨a, .inl ?_⟩
      split at b <;> omega
    exact ⟨a, .inr b⟩
  rintro ⟨a, b | b⟩
  · refine ⟨a, .inl ?_⟩
    split <;> omega
  exact ⟨a, .inr b⟩
theorem count_putW {xs : List (Option ByteArray × Int)} {m : Nat} (hm : m ≤ xs.length) (hn : m < xs.length → (xs.getD m (none, 0)).1 = none) (v : ByteArray) : (putXW xs m v).countP (fun x => x.1.isSome) = xs.countP (fun x => x.1.isSome) + 1 := by
  unfold putXW
  split
  · rename_i hl
    have h1 := List.countP_set (p := fun x : Option ByteArray × Int => x.1.isSome) (a := ((some v, (xs.getD m (none, 0)).2 + 1) : Option ByteArray × Int)) hl
    have h2 : xs[m].1 = none := by
      have := hn hl
      rw [List.getD_eq_getElem?_getD, List.getElem?_eq_getElem hl] at this
      exact this
    rw [h1, h2]
    simp
  simp [List.countP_append]
set_option maxHeartbeats 1000000 in
theorem putW_no {w : World} {sb lb n : Nat} {last : Int} {cnt : Nat} {xs : List (Option ByteArray × Int)} (h : SlW w sb lb n last cnt xs) (v : ByteArray) (hv : ∀ i, ¬ VacW n last xs i) :
    Calls Tryd.prog 23 #[.pointer (some ⟨sb, 0, none⟩), Value.string v] w fun e w' => e = .returned (.tuple #[.agg #[.int .i64 0, .int .i64 0], .int .i64 61]) ∧ Below w.heap.size w w' := by
  obtain ⟨r, g, N, f, b, L, cap, G, ys, h⟩ := h
  obtain ⟨W, hW⟩ : ∃ W, W = w.alloc (.cells #[.int .i64 0, .int .i64 0] 38) := ⟨_, rfl⟩
  obtain ⟨z, ez⟩ : ∃ z, z = w.heap.size := ⟨_, rfl⟩
  have B0 : Below w.heap.size w W := by rw [hW]; exact (Below.refl _ _).alloc (Nat.le_refl _) _
  have kz : W.heap[z]? = some (.cells #[.int .i64 0, .int .i64 0] 38) := by rw [hW, ez]; exact (MapKept.heap_alloc _ _).1
  have h' := h.mono B0
  have HL : Hid _ := least_no W b L cap G n lb _ h'.nm hv
  obtain ⟨_, c1, _, _, _, _⟩ := h'.cells
  have HW : Hid (w.alloc (.cells #[.int .i64 0, .int .i64 0] 38) = W ∧ w.heap.size = z ∧ Below w.heap.size w W ∧ W.heap[z]? = some (.cells #[.int .i64 0, .int .i64 0] 38)) := ⟨hW.symm, ez.symm, B0, kz⟩
  clear h h' hW ez B0 kz hv
  go_enter Tryd.func23, Tryd.ntmps23
  go_upto_region 1 with fail
  rw [HW.out.1, HW.out.2.1]
  go_wp2_with fail
  refine Calls.mono HL.out ?_
  rintro e w1 ⟨rfl, hB⟩
  have e1 : w1.heap[z]? = some (.cells #[.int .i64 0, .int .i64 0] 38) := (hB.block _ (Array.getElem?_eq_some_iff.1 HW.out.2.2.2).1).trans HW.out.2.2.2
  have u0 : w1.cell? ⟨z, 0, none⟩ = some (.int .i64 0) := by simp [World.cell?, e1]
  have u1 : w1.cell? ⟨z, 1, none⟩ = some (.int .i64 0) := by simp [World.cell?, e1]
  have u2 : w1.frozen? ⟨z, 0, none⟩ = false := by simp [World.frozen?, e1]
  have u3 : w1.frozen? ⟨z, 1, none⟩ = false := by simp [World.frozen?, e1]
  have H1 : Hid (Below w.heap.size w w1 ∧ w.heap.size ≤ z) := ⟨HW.out.2.2.1.trans (hB.mono HW.out.2.2.1.size), by have := HW.out.2.1; omega⟩
  clear hB e1
  go_wp2_with fail
  exact bodyPost_ret (v := .tuple #[.agg #[.int .i64 0, .int .i64 0], .int .i64 61]) (by simp [results, Tryd.results23, go_sem, u0, u1]) rfl ⟨rfl, (H1.out.1.setCell (p := ⟨z, 0, none⟩) H1.out.2 _).setCell (p := ⟨z, 1, none⟩) H1.out.2 _⟩
theorem SpW.words {W W' : World} {sb lb n : Nat} {last : Int} {cnt : Nat} {xs : List (Option ByteArray × Int)} {r g N f b L cap : Nat} {G : Nat → Nat} {ys : List (Option Nat × Int)} {S S' : Nat → Prop} (h : SpW W sb lb n last cnt xs r g N f b L cap G ys S) (hN : NmX W' b L cap G n (Lv S') lb) (hF : Ft isW lb W W') : SpW W' sb lb n last cnt xs r g N f b L cap G ys S' := by
  refine { h with hd := (hF.blk h.hd (by unfold isW; decide)).trans h.hd, ring := h.ring.of_blocks ?_ ?_, nm := hN, things := fun i hi => ⟨(h.things i hi).1, (h.things i hi).2.kept fun k cs e => (hF.blk e (by unfold isW; decide)).trans e⟩ }
  · obtain ⟨cs, e, _⟩ := h.ring.hd
    exact hF.blk e (by unfold isW; decide)
  rcases Nat.eq_zero_or_pos N with e0 | e0
  · rw [(h.ring.zr e0).1]
    obtain ⟨cs, e, _⟩ := h.ring.hd
    exact hF.blk e (by unfold isW; decide)
  obtain ⟨cs, e, _⟩ := h.ring.row e0
  exact hF.blk e (by unfold isW; decide)
theorem ft_newW {P : TypeId → Prop} {lb : Nat} {a b : World} (h : Ft P lb a b) {x : Nat} (hx : a.heap.size ≤ x) (hl : lb ≤ x) (i : Nat) (v : Value) : Ft P lb a (b.setCell ⟨x, i, none⟩ v) :=
  ⟨h.os, h.tape, h.output, by simpa using h.size, fun k h1 h2 => (Below.heap_setCell _ _ _ k (show k ≠ x by omega)).trans (h.low k h1 h2), fun k o e ho => (Below.heap_setCell _ _ _ k (show k ≠ x by have := (Array.getElem?_eq_some_iff.1 e).1; omega)).trans (h.oth k o e ho)⟩
set_option maxHeartbeats 4000000 in
theorem putW_yes {w : World} {sb lb n : Nat} {last : Int} {cnt : Nat} {xs : List (Option ByteArray × Int)} (h : SlW w sb lb n last cnt xs) (hT : Tab w) (v : ByteArray) (m : Nat) (hm : Least (VacW n last xs) m) :
    Calls Tryd.prog 23 #[.pointer (some ⟨sb, 0, none⟩), Value.string v] w fun e w' => e = .returned (.tuple #[.agg #[.int .i64 (m : Int), .int .i64 ((xs.getD m (none, 0)).2 + 1)], .int .i64 0]) ∧ (∃ cnt', SlW w' sb lb n last cnt' (putXW xs m v)) ∧ Ft isSW lb w w' := by
  obtain ⟨r, g, N, f, b, L, cap, G, ys, h⟩ := h
  obtain ⟨hm1, hm2⟩ := vac_leW hm
  obtain ⟨W, hW⟩ : ∃ W, W = w.alloc (.cells #[.int .i64 0, .int .i64 0] 38) := ⟨_, rfl⟩
  obtain ⟨z, ez⟩ : ∃ z, z = w.heap.size := ⟨_, rfl⟩
  have B0 : Below w.heap.size w W := by rw [hW]; exact (Below.refl _ _).alloc (Nat.le_refl _) _
  have kz : W.heap[z]? = some (.cells #[.int .i64 0, .int .i64 0] 38) := by rw [hW, ez]; exact (MapKept.heap_alloc _ _).1
  have h' := h.mono B0
  have HL : Hid _ := least_yes W b L cap G n lb m _ h'.nm (hT.go B0) hm hm2
  obtain ⟨c0, c1, _, _, _, hsl⟩ := h'.cells
  obtain ⟨gen, egen⟩ : ∃ gen, gen = (xs.getD m (none, 0)).2 := ⟨_, rfl⟩
  have hat : (atP ys (m : Int)).2 = gen := by
    unfold atP
    rw [egen]
    by_cases e : m < xs.length
    · rw [if_pos (by rw [h.len]; omega), Int.toNat_natCast]
      exact (h.things m e).1
    rw [if_neg (by rw [h.len]; omega)]
    simp [show xs.length ≤ m by omega]
  have hgb : 0 ≤ gen ∧ gen < last := by
    rw [egen]
    have h1 := hm.1
    unfold VacW at h1
    rcases Nat.lt_or_ge m xs.length with e | e
    · have := h.gens m e
      rcases h1.2 with h2 | h2
      · omega
      exact ⟨by omega, h2.2⟩
    have := h.last1
    simp [e]
    omega
  obtain ⟨x0, ex0⟩ : ∃ x0, x0 = (atP ys (m : Int)).1 := ⟨_, rfl⟩
  have AT : Hid (∀ W', Below W.heap.size W W' → Calls Tryd.prog 38 #[.pointer (some ⟨r, 0, none⟩), .int .i64 (m : Int)] W' fun e w' => ∃ bb, e = .returned (.tuple #[.agg #[pP x0, .int .i64 gen], .bool bb]) ∧ Below W'.heap.size W' w') := fun W' hB => by
    have := atW_u r g N f ys (m : Int) W' (h'.ring.mono hB)
    rw [hat, ← ex0] at this
    exact this
  obtain ⟨pp, epp⟩ : ∃ pp : Option Addr, pp = x0.map fun b => ⟨b, 0, none⟩ := ⟨_, rfl⟩
  have ep : pP x0 = .pointer pp := by rw [epp]; rfl
  rw [ep] at AT
  have hl2 := h.last2
  have HW : Hid (w.alloc (.cells #[.int .i64 0, .int .i64 0] 38) = W ∧ w.heap.size = z) := ⟨hW.symm, ez.symm⟩
  have HH : Hid (SpW W sb lb n last cnt xs r g N f b L cap G ys (VacW n last xs) ∧ Below w.heap.size w W ∧ W.heap[z]? = some (.cells #[.int .i64 0, .int .i64 0] 38) ∧ Least (VacW n last xs) m ∧ gen = (xs.getD m (none, 0)).2) := ⟨h', B0, kz, hm, egen⟩
  rw [← egen]
  clear h h' hW ez B0 kz hm hat ex0 epp ep egen hT
  go_enter Tryd.func23, Tryd.ntmps23
  go_upto_region 1 with fail
  rw [HW.out.1, HW.out.2]
  go_wp2_with fail
  refine Calls.mono HL.out ?_
  rintro e w1 ⟨rfl, hB1⟩
  have H1 : Hid (Below W.heap.size W w1) := hB1
  have d0 := cell_later hB1 c0
  have d1 := cell_later hB1 c1
  clear hB1 HL
  go_wp2_with fail
  refine Calls.mono (AT.out _ H1.out) ?_
  rintro e w2 ⟨bb, rfl, hB2⟩
  have BW2 : Below W.heap.size W w2 := H1.out.trans (hB2.mono H1.out.size)
  obtain ⟨W4, hW4⟩ : ∃ W4, W4 = (w2.alloc (.cells #[.pointer pp, .int .i64 gen] 100)).alloc (.cells #[.int .i64 (m : Int), .int .i64 (gen + 1)] 38) := ⟨_, rfl⟩
  obtain ⟨q, eq⟩ : ∃ q, q = w2.heap.size := ⟨_, rfl⟩
  have B4 : Below W.heap.size W W4 := by rw [hW4]; exact (BW2.alloc BW2.size _).alloc (by have := BW2.size; simp; omega) _
  have kq : W4.heap[q + 1]? = some (.cells #[.int .i64 (m : Int), .int .i64 (gen + 1)] 38) := by
    rw [hW4, eq]
    have := (MapKept.heap_alloc (w2.alloc (.cells #[.pointer pp, .int .i64 gen] 100)) (.cells #[.int .i64 (m : Int), .int .i64 (gen + 1)] 38)).1
    simpa using this
  have hq4 : W4.heap.size = q + 2 := by rw [hW4, eq]; simp
  have HW4 : Hid ((w2.alloc (.cells #[.pointer pp, .int .i64 gen] 100)).alloc (.cells #[.int .i64 (m : Int), .int .i64 (gen + 1)] 38) = W4 ∧ w2.heap.size = q) := ⟨hW4.symm, eq.symm⟩
  have H4 : Hid (SpW W4 sb lb n last cnt xs r g N f b L cap G ys (VacW n last xs) ∧ Below w.heap.size w W4 ∧ W4.heap[z]? = some (.cells #[.int .i64 0, .int .i64 0] 38) ∧ W4.heap[q + 1]? = some (.cells #[.int .i64 (m : Int), .int .i64 (gen + 1)] 38) ∧ z < q + 1) := by
    obtain ⟨a1, a2, a3, _⟩ := HH.out
    refine ⟨a1.mono B4, a2.trans (B4.mono a2.size), (B4.block _ (Array.getElem?_eq_some_iff.1 a3).1).trans a3, kq, ?_⟩
    have := (Array.getElem?_eq_some_iff.1 a3).1
    have := BW2.size
    omega
  have d0 := cell_later BW2 c0
  have d1 := cell_later BW2 c1
  have hsl2 : sb < w2.heap.size := Nat.lt_of_lt_of_le hsl BW2.size
  have wg : IntKind.i64.wrap (gen + 1) = gen + 1 := by rw [IntKind.wrap_i64]; omega
  clear hB2 BW2 hW4 eq B4 kq c0 c1
  go_upto_region 6 with fail
  rw [HW4.out.1, HW4.out.2]
  obtain ⟨k0, k1, _, _, _, _⟩ := H4.out.1.cells
  clear d0 d1 hsl2
  go_wp2_with fail
  refine Calls.mono (remove_any W4 b L cap G n m lb _ H4.out.1.nm hm2) ?_
  rintro e w5 ⟨rfl, hN5, hF5⟩
  have hS5 := H4.out.1.words hN5 hF5
  have z5 : w5.heap[z]? = some (.cells #[.int .i64 0, .int .i64 0] 38) := (hF5.blk H4.out.2.2.1 (by unfold isW; decide)).trans H4.out.2.2.1
  have q5 : w5.heap[q + 1]? = some (.cells #[.int .i64 (m : Int), .int .i64 (gen + 1)] 38) := (hF5.blk H4.out.2.2.2.1 (by unfold isW; decide)).trans H4.out.2.2.2.1
  have hzl5 : z < w5.heap.size := (Array.getElem?_eq_some_iff.1 z5).1
  have hql5 : q + 1 < w5.heap.size := (Array.getElem?_eq_some_iff.1 q5).1
  have v0 : w5.cell? ⟨q + 1, 0, none⟩ = some (.int .i64 (m : Int)) := by simp [World.cell?, q5]
  have v1 : w5.cell? ⟨q + 1, 1, none⟩ = some (.int .i64 (gen + 1)) := by simp [World.cell?, q5]
  obtain ⟨W6, hW6⟩ : ∃ W6, W6 = w5.alloc (.cells #[Value.string v] 107) := ⟨_, rfl⟩
  obtain ⟨cb, ecb⟩ : ∃ cb, cb = w5.heap.size := ⟨_, rfl⟩
  have B6 : Below w5.heap.size w5 W6 := by rw [hW6]; exact (Below.refl _ _).alloc (Nat.le_refl _) _
  have HW6 : Hid (w5.alloc (.cells #[Value.string v] 107) = W6 ∧ w5.heap.size = cb) := ⟨hW6.symm, ecb.symm⟩
  have lbw : lb ≤ w.heap.size ∨ True := .inr trivial
  have H6 : Hid (SpW W6 sb lb n last cnt xs r g N f b L cap G ys (fun x => VacW n last xs x ∧ x ≠ m) ∧ Ft isSW lb w W6 ∧ W6.heap[z]? = some (.cells #[.int .i64 0, .int .i64 0] 38) ∧ W6.heap[q + 1]? = some (.cells #[.int .i64 (m : Int), .int .i64 (gen + 1)] 38) ∧ W6.heap[cb]? = some (.cells #[Value.string v] 107)) := by
    refine ⟨hS5.mono B6, ((Ft.of_below H4.out.2.1).trans (hF5.weak fun t ht => .inr (.inr (.inr ht)))).trans (Ft.of_below B6), (B6.block _ hzl5).trans z5, (B6.block _ hql5).trans q5, by rw [hW6, ecb]; exact (MapKept.heap_alloc _ _).1⟩
  clear hN5 hF5 hS5 z5 q5 hW6 ecb B6 lbw
  go_upto_region 7 with fail
  go_wp2_with fail
  rw [HW6.out.1, HW6.out.2]
  have LY := layW_any sb r g N f ys _ _ _ m (gen + 1) (some cb) W6 H6.out.1.hd H6.out.1.ring (by rw [H6.out.1.len]; exact hm1) (by rw [H6.out.1.len]; exact Nat.le_trans H6.out.1.le H6.out.1.nm.nlim.2)
  refine Calls.mono LY ?_
  rintro e w7 ⟨rfl, hR⟩
  have hM := H6.out.1.lay (xs' := putXW xs m v) (w := w) H6.out.2.1 (by have := H6.out.1.lo.1; have := (Array.getElem?_eq_some_iff.1 H6.out.1.hd).1; omega) hR (by rw [putX_lenW _ _ _ hm1, H6.out.1.len]; split <;> simp [H6.out.1.len]) (fun i hi => by
    rw [putX_atW _ _ _ hm1, ← HH.out.2.2.2.2]
    have hyy : (if m < ys.length then ys.set m (some cb, gen + 1) else ys ++ [(some cb, gen + 1)]).getD i (none, 0) = if i = m then (some cb, gen + 1) else ys.getD i (none, 0) := by
      split
      · rw [getD_setW _ _ _ _ (by assumption)]
      rw [getD_snocW]
      have e : m = ys.length := by have := H6.out.1.len; omega
      rw [e]
    rw [hyy]
    by_cases e : i = m
    · rw [if_pos e, if_pos e]
      exact ⟨rfl, H6.out.2.2.2.2⟩
    rw [if_neg e, if_neg e]
    refine H6.out.1.things i ?_
    rw [putX_lenW _ _ _ hm1] at hi
    split at hi <;> omega) (cnt + 1)
  obtain ⟨g7, N7, f7, r1, r2, r3⟩ := hR
  have z7 : w7.heap[z]? = some (.cells #[.int .i64 0, .int .i64 0] 38) := H6.out.1.other r2 H6.out.2.2.1 fun cs t' z e => by cases e; exact ⟨by decide, by decide⟩
  have q7 : w7.heap[q + 1]? = some (.cells #[.int .i64 (m : Int), .int .i64 (gen + 1)] 38) := H6.out.1.other r2 H6.out.2.2.2.1 fun cs t' z e => by cases e; exact ⟨by decide, by decide⟩
  have s7 : w7.heap[sb]? = some (.cells #[.pointer (some ⟨r, 0, none⟩), .slice (some ⟨b, 0, none⟩) L cap, .int .i64 last, .int .i64 (cnt : Int)] 102) := (H6.out.1.after r2).1.trans H6.out.1.hd
  have n1 : z ≠ sb := fun e => by rw [e, s7] at z7; cases z7
  have n2 : q + 1 ≠ sb := fun e => by rw [e, s7] at q7; cases q7
  obtain ⟨W8, hW8⟩ : ∃ W8, W8 = w7.setCell ⟨sb, 3, none⟩ (.int .i64 ((cnt + 1 : Nat) : Int)) := ⟨_, rfl⟩
  have HW8 : Hid (w7.setCell ⟨sb, 3, none⟩ (.int .i64 ((cnt : Int) + 1)) = W8) := by rw [hW8]; congr 2
  have H8 : Hid (MidW w W8 sb lb n last (cnt + 1) r b L cap G (fun x => VacW n last xs x ∧ x ≠ m) (putXW xs m v) ∧ W8.heap[z]? = some (.cells #[.int .i64 0, .int .i64 0] 38) ∧ W8.heap[q + 1]? = some (.cells #[.int .i64 (m : Int), .int .i64 (gen + 1)] 38)) := by
    rw [hW8]
    exact ⟨hM, (Below.heap_setCell _ _ _ _ n1).trans z7, (Below.heap_setCell _ _ _ _ n2).trans q7⟩
  have k3 : w7.cell? ⟨sb, 3, none⟩ = some (.int .i64 (cnt : Int)) := by simp [World.cell?, s7]
  have f3 : w7.frozen? ⟨sb, 3, none⟩ = false := by simp [World.frozen?, s7]
  have hcn : cnt ≤ 65536 := by
    have h1 : cnt ≤ xs.length := by rw [H6.out.1.cn]; exact List.countP_le_length
    have h2 := H6.out.1.le
    have h3 := H6.out.1.nm.nlim.2
    omega
  clear LY hM r1 r2 r3 z7 q7 s7 n1 n2 hW8 v0 v1 k0 k1
  go_upto_region 9 with fail
  rw [HW8.out]
  have x0' : W8.cell? ⟨q + 1, 0, none⟩ = some (.int .i64 (m : Int)) := by simp [World.cell?, H8.out.2.2]
  have x1' : W8.cell? ⟨q + 1, 1, none⟩ = some (.int .i64 (gen + 1)) := by simp [World.cell?, H8.out.2.2]
  have y0' : W8.cell? ⟨z, 0, none⟩ = some (.int .i64 0) := by simp [World.cell?, H8.out.2.1]
  have y1' : W8.cell? ⟨z, 1, none⟩ = some (.int .i64 0) := by simp [World.cell?, H8.out.2.1]
  have y2' : W8.frozen? ⟨z, 0, none⟩ = false := by simp [World.frozen?, H8.out.2.1]
  have y3' : W8.frozen? ⟨z, 1, none⟩ = false := by simp [World.frozen?, H8.out.2.1]
  have H9 : Hid ((∃ cnt', SlW ((W8.setCell ⟨z, 0, none⟩ (.int .i64 (m : Int))).setCell ⟨z, 1, none⟩ (.int .i64 (gen + 1))) sb lb n last cnt' (putXW xs m v)) ∧ Ft isSW lb w ((W8.setCell ⟨z, 0, none⟩ (.int .i64 (m : Int))).setCell ⟨z, 1, none⟩ (.int .i64 (gen + 1)))) := by
    have hlz : lb ≤ z ∧ w.heap.size ≤ z := by
      have h1 := HW.out.2
      have h2 := H6.out.1.lo.1
      have h3 := HH.out.1.lo.1
      have h4 : sb < w.heap.size := by
        have e1 := HH.out.1.hd
        have e2 := HW.out.1
        have e3 : sb < W.heap.size := (Array.getElem?_eq_some_iff.1 e1).1
        have e4 : W.heap.size = w.heap.size + 1 := by rw [← e2]; simp
        rcases Nat.lt_or_ge sb w.heap.size with e5 | e5
        · exact e5
        have e6 : sb = z := by omega
        rw [e6, HH.out.2.2.1] at e1
        cases e1
      omega
    refine ⟨⟨cnt + 1, ?_⟩, ft_newW (ft_newW H8.out.1.ft hlz.2 hlz.1 _ _) hlz.2 hlz.1 _ _⟩
    have hS : SlW W8 sb lb n last (cnt + 1) (putXW xs m v) := by
      refine H8.out.1.shut (fun x => (vac_putW HH.out.2.2.2.1 v x).symm) ?_ HH.out.1.last1 HH.out.1.last2 (fun i hi => ?_) ?_
      · rw [putX_lenW _ _ _ hm1]
        have := HH.out.1.le
        split <;> omega
      · rw [putX_atW _ _ _ hm1, ← HH.out.2.2.2.2]
        split
        · exact ⟨by simp; omega, by simp; omega⟩
        refine HH.out.1.gens i ?_
        rw [putX_lenW _ _ _ hm1] at hi
        split at hi <;> omega
      rw [count_putW hm1 (fun hl => ?_), HH.out.1.cn]
      have h1 := HH.out.2.2.2.1.1
      unfold VacW at h1
      rcases h1.2 with h2 | h2
      · omega
      exact h2.1
    refine hS.kept fun k cs t e ht => ?_
    have hne : k ≠ z := fun e2 => by
      rw [e2, H8.out.2.1] at e
      cases e
      rcases ht with ht | ht | ht | ht | ht | ht <;> exact absurd ht (by decide)
    exact (Below.heap_setCell _ _ _ _ hne).trans ((Below.heap_setCell _ _ _ _ hne).trans e)
  clear k3 f3
  go_wp2_with fail
  exact bodyPost_ret (v := .tuple #[.agg #[.int .i64 (m : Int), .int .i64 (gen + 1)], .int .i64 0]) (by simp [results, Tryd.results23, go_sem, y0', y1']) rfl ⟨rfl, H9.out⟩
structure Tw (w W : World) (sb n : Nat) (last : Int) (xs : List (Option ByteArray × Int)) : Prop where
  sl : ∃ cnt, SlW W sb w.heap.size n last cnt xs
  bel : Below w.heap.size w W
theorem Tw.mono {w W W' : World} {sb n : Nat} {last : Int} {xs : List (Option ByteArray × Int)} (h : Tw w W sb n last xs) (hB : Below W.heap.size W W') : Tw w W' sb n last xs := by
  obtain ⟨cnt, h1⟩ := h.sl
  exact ⟨⟨cnt, h1.mono hB⟩, h.bel.trans (hB.mono h.bel.size)⟩
theorem Tw.put {w W : World} {sb n : Nat} {last : Int} {xs : List (Option ByteArray × Int)} (h : Tw w W sb n last xs) (hT : Tab w) (v : ByteArray) (m : Nat) (hm : Least (VacW n last xs) m) :
    Calls Tryd.prog 23 #[.pointer (some ⟨sb, 0, none⟩), .string v] W fun e w' => e = .returned (.tuple #[.agg #[.int .i64 (m : Int), .int .i64 ((xs.getD m (none, 0)).2 + 1)], .int .i64 0]) ∧ Tw w w' sb n last (putXW xs m v) ∧ Ft isSW w.heap.size W w' := by
  obtain ⟨cnt, h1⟩ := h.sl
  refine (putW_yes h1 (hT.go h.bel) v m hm).mono ?_
  rintro e w' ⟨rfl, q1, q2⟩
  exact ⟨rfl, ⟨q1, h.bel.trans (q2.below h.bel.size)⟩, q2⟩
theorem Tw.full {w W : World} {sb n : Nat} {last : Int} {xs : List (Option ByteArray × Int)} (h : Tw w W sb n last xs) (v : ByteArray) (hv : ∀ i, ¬ VacW n last xs i) :
    Calls Tryd.prog 23 #[.pointer (some ⟨sb, 0, none⟩), .string v] W fun e w' => e = .returned (.tuple #[.agg #[.int .i64 0, .int .i64 0], .int .i64 61]) ∧ Tw w w' sb n last xs ∧ Ft isSW w.heap.size W w' := by
  obtain ⟨cnt, h1⟩ := h.sl
  refine (putW_no h1 v hv).mono ?_
  rintro e w' ⟨rfl, q1⟩
  exact ⟨rfl, h.mono q1, Ft.of_below q1⟩
theorem Tw.drop {w W : World} {sb n : Nat} {last : Int} {xs : List (Option ByteArray × Int)} (h : Tw w W sb n last xs) (i gen : Int) (t : ByteArray) (hf : fndW xs i gen = some t) :
    Calls Tryd.prog 24 #[.pointer (some ⟨sb, 0, none⟩), .agg #[.int .i64 i, .int .i64 gen]] W fun e w' => e = .returned (.tuple #[.string t, .int .i64 0]) ∧ Tw w w' sb n last (xs.set i.toNat (none, gen)) ∧ Ft isSW w.heap.size W w' := by
  obtain ⟨cnt, h1⟩ := h.sl
  refine (dropW_yes h1 i gen t hf).mono ?_
  rintro e w' ⟨rfl, q1, q2⟩
  exact ⟨rfl, ⟨q1, h.bel.trans (q2.below h.bel.size)⟩, q2⟩
theorem Tw.get {w W : World} {sb n : Nat} {last : Int} {xs : List (Option ByteArray × Int)} (h : Tw w W sb n last xs) (i gen : Int) :
    Calls Tryd.prog 25 #[.pointer (some ⟨sb, 0, none⟩), .agg #[.int .i64 i, .int .i64 gen]] W fun e w' => e = .returned (match fndW xs i gen with | some t => .tuple #[.string t, .int .i64 0] | none => .tuple #[.string ⟨#[]⟩, .int .i64 60]) ∧ Tw w w' sb n last xs ∧ Ft isSW w.heap.size W w' := by
  obtain ⟨cnt, h1⟩ := h.sl
  refine (getW_any h1 i gen).mono ?_
  rintro e w' ⟨rfl, q1⟩
  exact ⟨rfl, h.mono q1, Ft.of_below q1⟩
def Hb (W : World) (b : Nat) (i gen : Int) : Prop := W.heap[b]? = some (.cells #[.int .i64 i, .int .i64 gen] 38)
theorem Hb.cells {W : World} {b : Nat} {i gen : Int} (h : Hb W b i gen) : W.cell? ⟨b, 0, none⟩ = some (.int .i64 i) ∧ W.cell? ⟨b, 1, none⟩ = some (.int .i64 gen) ∧ b < W.heap.size := by
  unfold Hb at h
  exact ⟨by simp [World.cell?, h], by simp [World.cell?, h], (Array.getElem?_eq_some_iff.1 h).1⟩
theorem Hb.ftW {W W' : World} {b lb : Nat} {i gen : Int} (h : Hb W b i gen) (hF : Ft isSW lb W W') : Hb W' b i gen := (hF.blk h (by unfold isSW; decide)).trans h
theorem Hb.mono {W W' : World} {b : Nat} {i gen : Int} (h : Hb W b i gen) (hB : Below W.heap.size W W') : Hb W' b i gen := (hB.block _ (Array.getElem?_eq_some_iff.1 h).1).trans h
theorem Hb.alloc (W : World) (i gen : Int) : Hb (W.alloc (.cells #[.int .i64 i, .int .i64 gen] 38)) W.heap.size i gen := (MapKept.heap_alloc _ _).1
def tA : ByteArray := ⟨#[97]⟩
def tB : ByteArray := ⟨#[98]⟩
def tC : ByteArray := ⟨#[99]⟩
def tD : ByteArray := ⟨#[100]⟩
theorem l0 : Least (VacW 2 2 []) 0 := ⟨⟨by omega, .inl (by simp)⟩, fun i _ => Nat.zero_le _⟩
theorem l1 : Least (VacW 2 2 [(some tA, 1)]) 1 := ⟨⟨by omega, .inl (by simp)⟩, fun i hi => by
  rcases Nat.eq_zero_or_pos i with e | e
  · subst e
    obtain ⟨_, h | h⟩ := hi
    · simp at h
    simp at h
  exact e⟩
theorem l2 : ∀ i, ¬ VacW 2 2 [(some tA, 1), (some tB, 1)] i := by
  rintro i ⟨h1, h2 | h2⟩
  · simp at h2
    omega
  have : i = 0 ∨ i = 1 := by omega
  rcases this with rfl | rfl
  · simp at h2
  simp at h2
theorem l3 : Least (VacW 2 2 [(none, 1), (some tB, 1)]) 0 := ⟨⟨by omega, .inr ⟨rfl, by simp⟩⟩, fun i _ => Nat.zero_le _⟩
set_option maxHeartbeats 4000000 in
theorem told_any (w : World) (hT : Tab w) : Calls Tryd.prog 4 #[] w fun e w' => e = .returned (.bool true) ∧ Below w.heap.size w w' := by
  have HT : Hid (Tab w) := hT
  have NW : Hid _ := newW_yes 2 2 w (by omega) (by omega) (by omega) (by omega)
  clear hT
  go_enter Tryd.func4, Tryd.ntmps4
  go_wp2_with fail
  refine Calls.mono NW.out ?_
  rintro e w1 ⟨sb, rfl, q1, q2⟩
  have H1 : Hid (Tw w w1 sb 2 2 []) := ⟨⟨_, q1⟩, q2⟩
  clear q1 q2 NW
  have P1 : Hid (Calls Tryd.prog 23 #[.pointer (some ⟨sb, 0, none⟩), .string ⟨#[97]⟩] w1 fun e w' => e = .returned (.tuple #[.agg #[.int .i64 0, .int .i64 1], .int .i64 0]) ∧ Hid (Tw w w' sb 2 2 [(some tA, 1)])) := (H1.out.put HT.out tA 0 l0).mono fun e w' ⟨h1, h2, _⟩ => ⟨h1, h2⟩
  go_wp2_with fail
  refine Calls.mono P1.out ?_
  rintro e w2 ⟨rfl, q1⟩
  have H2 : Hid (Tw w (w2.alloc (.cells #[.int .i64 0, .int .i64 1] 38)) sb 2 2 [(some tA, 1)] ∧ Hb (w2.alloc (.cells #[.int .i64 0, .int .i64 1] 38)) w2.heap.size 0 1) := ⟨q1.out.mono ((Below.refl _ _).alloc (Nat.le_refl _) _), Hb.alloc _ _ _⟩
  clear q1 H1 P1
  have P2 : Hid (Calls Tryd.prog 23 #[.pointer (some ⟨sb, 0, none⟩), .string ⟨#[98]⟩] (w2.alloc (.cells #[.int .i64 0, .int .i64 1] 38)) fun e w' => e = .returned (.tuple #[.agg #[.int .i64 1, .int .i64 1], .int .i64 0]) ∧ Hid (Tw w w' sb 2 2 [(some tA, 1), (some tB, 1)] ∧ Hb w' w2.heap.size 0 1)) := (H2.out.1.put HT.out tB 1 l1).mono fun e w' ⟨h1, h2, h3⟩ => ⟨h1, h2, H2.out.2.ftW h3⟩
  go_wp2_with fail
  refine Calls.mono P2.out ?_
  rintro e w4 ⟨rfl, q1⟩
  have B4 : Below w4.heap.size w4 (w4.alloc (.cells #[.int .i64 1, .int .i64 1] 38)) := (Below.refl _ _).alloc (Nat.le_refl _) _
  have H4 : Hid (Tw w (w4.alloc (.cells #[.int .i64 1, .int .i64 1] 38)) sb 2 2 [(some tA, 1), (some tB, 1)] ∧ Hb (w4.alloc (.cells #[.int .i64 1, .int .i64 1] 38)) w2.heap.size 0 1 ∧ Hb (w4.alloc (.cells #[.int .i64 1, .int .i64 1] 38)) w4.heap.size 1 1) := ⟨q1.out.1.mono B4, q1.out.2.mono B4, Hb.alloc _ _ _⟩
  have P3 : Hid (Calls Tryd.prog 23 #[.pointer (some ⟨sb, 0, none⟩), .string ⟨#[99]⟩] (w4.alloc (.cells #[.int .i64 1, .int .i64 1] 38)) fun e w' => e = .returned (.tuple #[.agg #[.int .i64 0, .int .i64 0], .int .i64 61]) ∧ Hid (Tw w w' sb 2 2 [(some tA, 1), (some tB, 1)] ∧ Hb w' w2.heap.size 0 1 ∧ Hb w' w4.heap.size 1 1)) := (H4.out.1.full tC l2).mono fun e w' ⟨h1, h2, h3⟩ => ⟨h1, h2, H4.out.2.1.ftW h3, H4.out.2.2.ftW h3⟩
  clear q1 B4 P2 H2
  go_wp2_with fail
  refine Calls.mono P3.out ?_
  rintro e w6 ⟨rfl, q1⟩
  have B6 : Below w6.heap.size w6 (w6.alloc (.cells #[.int .i64 0, .int .i64 0] 38)) := (Below.refl _ _).alloc (Nat.le_refl _) _
  have H6 : Hid (Tw w (w6.alloc (.cells #[.int .i64 0, .int .i64 0] 38)) sb 2 2 [(some tA, 1), (some tB, 1)] ∧ Hb (w6.alloc (.cells #[.int .i64 0, .int .i64 0] 38)) w2.heap.size 0 1 ∧ Hb (w6.alloc (.cells #[.int .i64 0, .int .i64 0] 38)) w4.heap.size 1 1) := ⟨q1.out.1.mono B6, q1.out.2.1.mono B6, q1.out.2.2.mono B6⟩
  have P4 : Hid (Calls Tryd.prog 24 #[.pointer (some ⟨sb, 0, none⟩), .agg #[.int .i64 0, .int .i64 1]] (w6.alloc (.cells #[.int .i64 0, .int .i64 0] 38)) fun e w' => e = .returned (.tuple #[.string ⟨#[97]⟩, .int .i64 0]) ∧ Hid (Tw w w' sb 2 2 [(none, 1), (some tB, 1)] ∧ Hb w' w2.heap.size 0 1 ∧ Hb w' w4.heap.size 1 1)) := (H6.out.1.drop 0 1 tA rfl).mono fun e w' ⟨h1, h2, h3⟩ => ⟨h1, h2, H6.out.2.1.ftW h3, H6.out.2.2.ftW h3⟩
  obtain ⟨a0, a1, al⟩ := q1.out.2.1.cells
  clear q1 B6 P3 H4
  go_wp2_with fail
  refine Calls.mono P4.out ?_
  rintro e w7 ⟨rfl, H7⟩
  have P5 : Hid (Calls Tryd.prog 25 #[.pointer (some ⟨sb, 0, none⟩), .agg #[.int .i64 0, .int .i64 1]] w7 fun e w' => e = .returned (.tuple #[.string ⟨#[]⟩, .int .i64 60]) ∧ Hid (Tw w w' sb 2 2 [(none, 1), (some tB, 1)] ∧ Hb w' w2.heap.size 0 1 ∧ Hb w' w4.heap.size 1 1)) := (H7.out.1.get 0 1).mono fun e w' ⟨h1, h2, h3⟩ => ⟨h1, h2, H7.out.2.1.ftW h3, H7.out.2.2.ftW h3⟩
  clear a0 a1 al P4 H6
  obtain ⟨a0, a1, al⟩ := H7.out.2.1.cells
  go_wp2_with fail
  refine Calls.mono P5.out ?_
  rintro e w8 ⟨rfl, H8⟩
  have P6 : Hid (Calls Tryd.prog 23 #[.pointer (some ⟨sb, 0, none⟩), .string ⟨#[100]⟩] w8 fun e w' => e = .returned (.tuple #[.agg #[.int .i64 0, .int .i64 2], .int .i64 0]) ∧ Hid (Tw w w' sb 2 2 [(some tD, 2), (some tB, 1)] ∧ Hb w' w2.heap.size 0 1 ∧ Hb w' w4.heap.size 1 1)) := (H8.out.1.put HT.out tD 0 l3).mono fun e w' ⟨h1, h2, h3⟩ => ⟨h1, h2, H8.out.2.1.ftW h3, H8.out.2.2.ftW h3⟩
  clear a0 a1 al P5 H7
  go_wp2_with fail
  refine Calls.mono P6.out ?_
  rintro e w9 ⟨rfl, H9⟩
  obtain ⟨a0, a1, al⟩ := H9.out.2.1.cells
  obtain ⟨b0, b1, bl⟩ := H9.out.2.2.cells
  have BL : Hid (Below w.heap.size w (w9.alloc (.cells #[.int .i64 0, .int .i64 2] 38))) := H9.out.1.bel.alloc H9.out.1.bel.size _
  clear P6 H8
  go_wp2_with fail
  go_ret
  exact ⟨rfl, BL.out⟩
theorem newV_no (n last : Int) (w : World) (h : n < 1 ∨ 65536 < n ∨ last < 1 ∨ 2147483647 < last) :
    Calls Tryd.prog 5 #[.int .i64 n, .int .i64 last] w fun e w' => e = .returned (.tuple #[.pointer none, .int .i64 1]) ∧ w' = w := by
  by_cases h1 : n < 1
  · have d1 : decide (n < 1) = true := decide_eq_true h1
    clear h
    go_enter Tryd.func5, Tryd.ntmps5
    go_wp2_with fail
    go_ret2
    exact ⟨rfl, rfl⟩
  have d1 : decide (n < 1) = false := decide_eq_false h1
  by_cases h2 : 65536 < n
  · have d2 : decide (65536 < n) = true := decide_eq_true h2
    clear h
    go_enter Tryd.func5, Tryd.ntmps5
    go_wp2_with fail
    go_ret2
    exact ⟨rfl, rfl⟩
  have d2 : decide (65536 < n) = false := decide_eq_false h2
  by_cases h3 : last < 1
  · have d3 : decide (last < 1) = true := decide_eq_true h3
    clear h
    go_enter Tryd.func5, Tryd.ntmps5
    go_wp2_with fail
    go_ret2
    exact ⟨rfl, rfl⟩
  have d3 : decide (last < 1) = false := decide_eq_false h3
  have h4 : 2147483647 < last := by omega
  have d4 : decide (2147483647 < last) = true := decide_eq_true h4
  clear h
  go_enter Tryd.func5, Tryd.ntmps5
  go_wp2_with fail
  go_ret2
  exact ⟨rfl, rfl⟩
end Go.Proofs.YtdobjanhmllloaaDoor
