/- Contracts of the program's functions, part 9: own work, joined in build order. -/
import Derived.Test.YtdobjanhmllloaaDoorJ8
namespace Go.Proofs.YtdobjanhmllloaaDoor
open Go.RowKit Go.Shelf
set_option maxRecDepth 100000
set_option linter.unusedVariables false
attribute [local go_sem] Oper.semAt_some
structure Gi6 (n0 z base : Nat) (A : World) (sb gw : Nat) (st : Array Value) (hs hg : Int) (v : Value) (L : List Pr6) (k : Int) (bb : Bool) : Prop where
  b0 : Bx A n0 24 (.pointer (some ⟨sb, 0, none⟩))
  b1 : Bx A (n0 + 1) 45 (.pointer (some ⟨gw, 0, none⟩))
  b2 : A.heap[n0 + 2]? = some (.cells st 40)
  b3 : A.heap[n0 + 3]? = some (.cells #[.int .i64 hs, .int .i64 hg] 38)
  b4 : Bx A (n0 + 4) 4 (.bool bb)
  b5 : Bx A z 55 v
  b6 : Bx A (z + 1) 3 (.int .i64 k)
  pw : Pw base A v L
section
variable {n0 z base : Nat} {A A' : World} {sb gw : Nat} {st : Array Value} {hs hg : Int} {v : Value} {L : List Pr6} {k : Int} {bb : Bool}
theorem Gi6.kept (h : Gi6 n0 z base A sb gw st hs hg v L k bb) (hk : ∀ (k : Nat) (cs : Array Value) (t : TypeId), A.heap[k]? = some (.cells cs t) → ¬ isSV t → t ≠ 92 → A'.heap[k]? = some (.cells cs t)) : Gi6 n0 z base A' sb gw st hs hg v L k bb :=
  ⟨hk _ _ _ h.b0 (by unfold isSV; decide) (by decide), hk _ _ _ h.b1 (by unfold isSV; decide) (by decide), hk _ _ _ h.b2 (by unfold isSV; decide) (by decide), hk _ _ _ h.b3 (by unfold isSV; decide) (by decide), hk _ _ _ h.b4 (by unfold isSV; decide) (by decide), hk _ _ _ h.b5 (by unfold isSV; decide) (by decide), hk _ _ _ h.b6 (by unfold isSV; decide) (by decide), h.pw.kept fun x hx => by
    obtain ⟨_, cs, e⟩ := h.pw.own hx
    exact (hk _ _ _ e (by unfold isSV; decide) (by decide)).trans e.symm⟩
theorem Gi6.go (h : Gi6 n0 z base A sb gw st hs hg v L k bb) (hB : Below A.heap.size A A') : Gi6 n0 z base A' sb gw st hs hg v L k bb := h.kept fun k cs t e _ _ => (hB.block _ (Array.getElem?_eq_some_iff.1 e).1).trans e
theorem Gi6.ft {lb : Nat} (h : Gi6 n0 z base A sb gw st hs hg v L k bb) (hF : Ft isSV lb A A') : Gi6 n0 z base A' sb gw st hs hg v L k bb := h.kept fun k cs t e h1 _ => (hF.blk e h1).trans e
theorem Gi6.od {b n : Nat} {T : Nat → Int × Bool × Int} (h : Gi6 n0 z base A sb gw st hs hg v L k bb) (hO : Od b A A') (hd : Dr A b n T) : Gi6 n0 z base A' sb gw st hs hg v L k bb := h.kept fun k cs t e _ h2 => by
  obtain ⟨cs0, e0, _⟩ := hd.row
  refine (hO.block k (Array.getElem?_eq_some_iff.1 e).1 fun e2 => ?_).trans e
  rw [e2, e0] at e
  cases e
  exact h2 rfl
theorem Gi6.put {l : Nat} {o : Obj} (h : Gi6 n0 z base A sb gw st hs hg v L k bb) (o' : Obj) (h1 : A.heap[l]? = some o) (h2 : o.isCells = false) : Gi6 n0 z base (A.putObj l o') sb gw st hs hg v L k bb := h.kept fun k cs t e _ _ => put_cells h1 h2 e
theorem pw_set {x i : Nat} {u : Value} {t : TypeId} {cs0 : Array Value} (h : Pw base A v L) (e0 : A.heap[x]? = some (.cells cs0 t)) (ht : t ≠ 58) : Pw base (A.setCell ⟨x, i, none⟩ u) v L := h.kept fun y hy => by
  obtain ⟨_, cs, e⟩ := h.own hy
  exact (set_cells e0 i u e fun cs' e2 => by cases e2; exact ht rfl).trans e.symm
theorem Gi6.setN (h : Gi6 n0 z base A sb gw st hs hg v L k bb) (hz : n0 + 5 ≤ z) (k' : Int) : Gi6 n0 z base (A.setCell ⟨z + 1, 0, none⟩ (.int .i64 k')) sb gw st hs hg v L k' bb :=
  ⟨h.b0.other (by omega) _ _, h.b1.other (by omega) _ _, (Below.heap_setCell _ _ _ _ (show n0 + 2 ≠ z + 1 by omega)).trans h.b2, (Below.heap_setCell _ _ _ _ (show n0 + 3 ≠ z + 1 by omega)).trans h.b3, h.b4.other (by omega) _ _, h.b5.other (by omega) _ _, h.b6.set _, pw_set h.pw h.b6 (by decide)⟩
theorem Gi6.setB (h : Gi6 n0 z base A sb gw st hs hg v L k bb) (hz : n0 + 5 ≤ z) (b' : Bool) : Gi6 n0 z base (A.setCell ⟨n0 + 4, 0, none⟩ (.bool b')) sb gw st hs hg v L k b' :=
  ⟨h.b0.other (by omega) _ _, h.b1.other (by omega) _ _, (Below.heap_setCell _ _ _ _ (show n0 + 2 ≠ n0 + 4 by omega)).trans h.b2, (Below.heap_setCell _ _ _ _ (show n0 + 3 ≠ n0 + 4 by omega)).trans h.b3, h.b4.set _, h.b5.other (by omega) _ _, h.b6.other (by omega) _ _, pw_set h.pw h.b4 (by decide)⟩
end
def innX (xs : List (Option Int × Int)) (n : Nat) (last hs hg xv : Int) : List (Option Int × Int) := putX6 (dropX xs hs hg) n last xv
def innK (xs : List (Option Int × Int)) (n : Nat) (last hs hg xv : Int) (k : Nat) : List (Option Int × Int) := if k = 0 then xs else innX xs n last hs hg xv
set_option maxHeartbeats 4000000 in
theorem inner6_any {w : World} {sb lb n : Nat} {last : Int} {xs : List (Option Int × Int)} {gw b cap : Nat} (h : Bq w sb lb n last xs xs gw b cap) (y0 y1 y2 y3 xv hs hg : Int) :
    Calls Tryd.prog 16 #[.pointer (some ⟨sb, 0, none⟩), .pointer (some ⟨gw, 0, none⟩), .agg #[.int .i64 y0, .int .i64 y1, .int .i64 y2, .int .i64 y3, .int .i64 xv], .agg #[.int .i64 hs, .int .i64 hg]] w fun e w' => e = .returned (.bool true) ∧ Bq w' sb lb n last (innK xs n last hs hg xv (allL (tbT xs) xs.length).length) (innK xs n last hs hg xv (allL (tbT xs) xs.length).length) gw b cap ∧ Fv b lb w w' := by
  obtain ⟨n0, en0⟩ : ∃ n0, n0 = w.heap.size := ⟨_, rfl⟩
  obtain ⟨W0, hW0⟩ : ∃ W0, W0 = als w [.cells #[.pointer (some ⟨sb, 0, none⟩)] 24, .cells #[.pointer (some ⟨gw, 0, none⟩)] 45, .cells #[.int .i64 y0, .int .i64 y1, .int .i64 y2, .int .i64 y3, .int .i64 xv] 40, .cells #[.int .i64 hs, .int .i64 hg] 38, .cells #[.bool false] 4] := ⟨_, rfl⟩
  have B0 : Below w.heap.size w W0 := by rw [hW0]; exact als_below _ _
  have sz0 : W0.heap.size = n0 + 5 := by rw [hW0, en0, als_size]; rfl
  have h0 := h.below B0
  obtain ⟨c0, c1, cl⟩ := h0.cells
  have hnn := h.facts.2.2.2.2.1
  have AL : Hid _ := rall6_any b n cap (tbT xs) last W0 h0.dr hnn
  have HW : Hid (als w [.cells #[.pointer (some ⟨sb, 0, none⟩)] 24, .cells #[.pointer (some ⟨gw, 0, none⟩)] 45, .cells #[.int .i64 y0, .int .i64 y1, .int .i64 y2, .int .i64 y3, .int .i64 xv] 40, .cells #[.int .i64 hs, .int .i64 hg] 38, .cells #[.bool false] 4] = W0) := hW0.symm
  simp only [als] at HW
  have q1 : W0.heap[n0 + 1]? = some (.cells #[.pointer (some ⟨gw, 0, none⟩)] 45) := by rw [hW0, en0]; exact als_at _ w 1 (by simp)
  have k1 : W0.cell? ⟨n0 + 1, 0, none⟩ = some (.pointer (some ⟨gw, 0, none⟩)) := by simp [World.cell?, q1]
  have HB : Hid (Bq w sb lb n last xs xs gw b cap ∧ Bq W0 sb lb n last xs xs gw b cap ∧ W0.heap.size = n0 + 5 ∧ n0 = w.heap.size ∧ Below w.heap.size w W0) := ⟨h, h0, sz0, en0, B0⟩
  have BX : Hid (W0.heap[n0]? = some (.cells #[.pointer (some ⟨sb, 0, none⟩)] 24) ∧ W0.heap[n0 + 1]? = some (.cells #[.pointer (some ⟨gw, 0, none⟩)] 45) ∧ W0.heap[n0 + 2]? = some (.cells #[.int .i64 y0, .int .i64 y1, .int .i64 y2, .int .i64 y3, .int .i64 xv] 40) ∧ W0.heap[n0 + 3]? = some (.cells #[.int .i64 hs, .int .i64 hg] 38) ∧ W0.heap[n0 + 4]? = some (.cells #[.bool false] 4)) := by
    rw [hW0, en0]
    exact ⟨als_at _ w 0 (by simp), als_at _ w 1 (by simp), als_at _ w 2 (by simp), als_at _ w 3 (by simp), als_at _ w 4 (by simp)⟩
  have l1 : n0 + 1 < W0.heap.size := by omega
  have HN : Hid (w.heap.size = n0) := en0.symm
  rw [← HW.out] at c0 c1 cl
  clear h h0 hW0 B0 sz0 en0 q1 k1 l1
  refine (callsIn_wide (n := 9)).1 ?_
  refine callsIn_of_wp_marks Tryd.func16 rfl trivial ?_ rfl
  simp only [Tryd.ntmps16, List.size_toArray, List.length_cons, List.length_nil, Nat.reduceAdd, Nat.reduceSub, Array.replicate_succ, Array.replicate_zero, List.push_toArray, List.append_toArray, List.nil_append, List.cons_append]
  gi_wp2_with fail
  simp only [Nat.add_assoc, Nat.reduceAdd]
  rw [HW.out, HN.out]
  refine ⟨trivial, ?_⟩
  refine (callsIn_wide.2 AL.out).mono ?_
  rintro e w1 ⟨v, rfl, hpw, hB1⟩
  obtain ⟨Lx, eL⟩ : ∃ Lx, Lx = allL (tbT xs) xs.length := ⟨_, rfl⟩
  rw [allL_n xs n HB.out.1.facts.1, ← eL] at hpw
  have hLl : Lx.length ≤ 65536 := by rw [eL]; exact Nat.le_trans (allL_len _ _) (Nat.le_trans HB.out.1.facts.1 hnn)
  obtain ⟨a, cp, rfl, hc1, hc2, _⟩ := hpw.sl
  obtain ⟨len, elen⟩ : ∃ len, len = Lx.length := ⟨_, rfl⟩
  rw [← elen] at hc1 hLl hpw ⊢
  have g0 : w1.heap[n0]? = some (.cells #[.pointer (some ⟨sb, 0, none⟩)] 24) := (hB1.block _ (Array.getElem?_eq_some_iff.1 BX.out.1).1).trans BX.out.1
  have k0 : w1.cell? ⟨n0, 0, none⟩ = some (.pointer (some ⟨sb, 0, none⟩)) := by simp [World.cell?, g0]
  have l0 : n0 < w1.heap.size := (Array.getElem?_eq_some_iff.1 g0).1
  obtain ⟨z, ez⟩ : ∃ z, z = w1.heap.size := ⟨_, rfl⟩
  have HP : Hid (Pw W0.heap.size w1 (.slice a len cp) Lx ∧ Below W0.heap.size W0 w1 ∧ Lx = allL (tbT xs) xs.length ∧ len = Lx.length) := ⟨hpw, hB1, eL, elen⟩
  clear hpw hB1 eL elen AL g0 c0 c1 cl
  gi_wp2_with (refine ⟨trivial, ?_⟩; refine (callsIn_wide.2 (sallV_any sb _)).mono ?_; rintro e w5 ⟨rfl, rfl⟩)
  simp only [Nat.add_assoc, Nat.reduceAdd]
  obtain ⟨W2, hW2⟩ : ∃ W2, W2 = als w1 [.cells #[.slice a len cp] 55, .cells #[.int .i64 0] 3, .cells #[.pointer (some ⟨sb, 0, none⟩)] 24] := ⟨_, rfl⟩
  have hW1 := hW2
  simp only [als] at hW1
  rw [← hW1, ← ez]
  clear hW1
  have B2 : Below w1.heap.size w1 W2 := by rw [hW2]; exact als_below _ _
  have sz2 : W2.heap.size = z + 3 := by rw [hW2, ez, als_size]; rfl
  have B02 : Below W0.heap.size W0 W2 := bx_go HP.out.2.1 B2
  have Bw2 : Below w.heap.size w W2 := bx_go HB.out.2.2.2.2 B02
  have hzn : n0 + 5 ≤ z := by have := HP.out.2.1.size; have := HB.out.2.2.1; omega
  have GI : Gi6 n0 z W0.heap.size W2 sb gw #[.int .i64 y0, .int .i64 y1, .int .i64 y2, .int .i64 y3, .int .i64 xv] hs hg (.slice a len cp) Lx 0 false := by
    have o : ∀ k ob, W0.heap[k]? = some ob → W2.heap[k]? = some ob := fun k ob e => (B02.block k (Array.getElem?_eq_some_iff.1 e).1).trans e
    refine ⟨o _ _ BX.out.1, o _ _ BX.out.2.1, o _ _ BX.out.2.2.1, o _ _ BX.out.2.2.2.1, o _ _ BX.out.2.2.2.2, ?_, ?_, HP.out.1.below B2⟩
    · rw [hW2, ez]; exact als_at _ w1 0 (by simp)
    rw [hW2, ez]; exact als_at _ w1 1 (by simp)
  have BQ : Bq W2 sb lb n last xs xs gw b cap := HB.out.1.below Bw2
  have FV : Fv b lb w W2 := Fv.of_below Bw2 HB.out.1.facts.2.2.2.2.2
  have eb2 : W2.heap[z + 2]? = some (.cells #[.pointer (some ⟨sb, 0, none⟩)] 24) := by rw [hW2, ez]; exact als_at _ w1 2 (by simp)
  have cBs : W2.cell? ⟨z + 2, 0, none⟩ = some (.pointer (some ⟨sb, 0, none⟩)) := by simp [World.cell?, eb2]
  obtain ⟨cnt, hsl⟩ := BQ.sl
  have SQ := sall_at (z + 2) (W2.heap.size + 2) W2 cBs hsl
  rw [← HP.out.2.2.1, ← HP.out.2.2.2] at SQ
  have HS : Hid (W2.heap.size = z + 3 ∧ n0 = w.heap.size ∧ Gi6 n0 z W0.heap.size W2 sb gw #[.int .i64 y0, .int .i64 y1, .int .i64 y2, .int .i64 y3, .int .i64 xv] hs hg (.slice a len cp) Lx 0 false ∧ Bq W2 sb lb n last xs xs gw b cap ∧ Fv b lb w W2) := ⟨sz2, HB.out.2.2.2.1, GI, BQ, FV⟩
  have hwl : w.heap.size ≤ W2.heap.size := Bw2.size
  have hlw : lb ≤ w.heap.size := HB.out.1.facts.2.2.2.2.2
  have hl1 := HB.out.1.facts.2.1
  have hxn := HB.out.1.facts.1
  clear hW2 B2 B02 Bw2 GI BQ FV eb2 hsl k0 l0 ez sz2
  refine range_atA (n := 9) (P := Tryd.prog) rfl (by omega) (gf := 28) (lb := #[.pointer (some ⟨z + 2, 0, none⟩)]) rfl trivial (enters_of Tryd.func28 (by kernel_rfl) rfl)
    SQ.wide (fun h k => h.trans k) (fun A o o' h1 h2 => Ksl.put A _ o o' (by omega) h1 h2) (Below.refl _ _) (fun _ => rfl)
    (fun k A => Gi6 n0 z W0.heap.size A sb gw #[.int .i64 y0, .int .i64 y1, .int .i64 y2, .int .i64 y3, .int .i64 xv] hs hg (.slice a len cp) Lx (k : Int) false ∧ Bq A sb lb n last (innK xs n last hs hg xv k) (innK xs n last hs hg xv k) gw b cap ∧ Fv b lb w A) (fun c A => False)
    (fun k A B ⟨h1, h2, h3⟩ hB => ⟨h1.go hB, h2.below hB, h3.trans (Fv.of_below hB h2.tb.le)⟩)
    (fun k A l o o' ⟨h1, h2, h3⟩ hl ho hc hw => ⟨h1.put o' ho hc, h2.put o' ho hc (by omega), h3.put (by omega) hlw o' ho⟩)
    (fun c A l o o' h1 _ _ _ _ => h1)
    ⟨HS.out.2.2.1, HS.out.2.2.2.1, HS.out.2.2.2.2⟩
    (fun A B hB => Ksl.of_below hB)
    (fun k a' A => ∃ q, a' = { tmps := #[.pointer (some ⟨sb, 0, none⟩), .pointer (some ⟨gw, 0, none⟩), .agg #[.int .i64 y0, .int .i64 y1, .int .i64 y2, .int .i64 y3, .int .i64 xv], .agg #[.int .i64 hs, .int .i64 hg], .pointer (some ⟨n0, 0, none⟩), .pointer (some ⟨n0 + 1, 0, none⟩), .pointer (some ⟨n0 + 2, 0, none⟩), .pointer (some ⟨n0 + 3, 0, none⟩), .pointer (some ⟨n0 + 4, 0, none⟩), .pointer (some ⟨z, 0, none⟩), .pointer (some ⟨z + 1, 0, none⟩), .pointer (some ⟨q, 0, none⟩), .int .i64 (Lx.getD k p60).2.2, undef, undef, undef, undef, undef, undef, undef, undef, .pointer (some ⟨gw, 0, none⟩), .pointer (some ⟨gw, 0, none⟩), .agg #[.slice (some ⟨b, 0, none⟩) n cap, .int .i64 last], .slice a len cp, .pointer (some ⟨sb, 0, none⟩), .func (.func 28) #[] #[.pointer (some ⟨z + 2, 0, none⟩)], .agg #[.int .i64 (Lx.getD k p60).1, .int .i64 (Lx.getD k p60).2.1], .int .i64 (Lx.getD k p60).2.2, undef, undef, undef, undef, undef, undef, undef, undef, undef, undef, undef, undef, undef, undef, undef, undef, undef, undef, undef, undef, undef, undef, undef, undef, undef, undef, undef, undef, undef, undef, undef, undef, undef, undef, undef, undef, undef, undef, undef, undef, undef, undef, undef, undef, undef, undef, undef, undef, undef, undef, undef, undef, undef, undef, undef, undef, undef, undef, undef, undef, undef, undef, undef, undef, undef, undef, undef, undef, undef, undef, undef, undef, undef, undef], defers := [] } ∧ A.heap[q]? = some (.cells #[.int .i64 (Lx.getD k p60).1, .int .i64 (Lx.getD k p60).2.1] 38))
    (fun k a' A l o o' ⟨q, h1, h2⟩ hl ho hc hw => ⟨q, h1, put_cells ho hc h2⟩) ?assign ?body ?done ?stop
  case assign =>
    intro l' k A K hk hi hK
    have HK : Hid _ := hK _ (A.alloc (.cells #[.int .i64 (Lx.getD k p60).1, .int .i64 (Lx.getD k p60).2.1] 38)) ((Below.refl _ _).alloc (Nat.le_refl _) _) ⟨A.heap.size, rfl, ax_at _ _⟩
    unfold encS
    generalize Lx.getD k p60 = x at HK ⊢
    obtain ⟨x1, x2, x3⟩ := x
    simp only at HK ⊢
    clear hK hi
    gi_wp2_with fail
    exact HK.out
  case body =>
    rintro l' k a' A hk hl' hlr ⟨hi, hbq, hfv⟩ ⟨q, rfl, hq⟩
    obtain ⟨_, _, ee, _, _, hc⟩ := hi.pw.sl
    rw [← HP.out.2.2.2] at hc ee
    cases ee
    obtain ⟨gp, rfl, hg1, hg2, hg3⟩ := hc (by omega)
    obtain ⟨j0, j1, j2⟩ := hg3 k hk
    generalize Lx.getD k p60 = x at hq j0 j1 j2 ⊢
    obtain ⟨x1, x2, x3⟩ := x
    simp only at hq j0 j1 j2 ⊢
    have kp0 : A.drew.cell? ⟨gp, k * 3, none⟩ = some (.int .i64 x1) := j0
    have kp1 : A.drew.cell? ⟨gp, k * 3 + 1, none⟩ = some (.int .i64 x2) := j1
    have kp2 : A.drew.cell? ⟨gp, k * 3 + 2, none⟩ = some (.int .i64 x3) := j2
    have kh0 : A.drew.cell? ⟨q, 0, none⟩ = some (.int .i64 x1) := by show A.cell? _ = _; simp [World.cell?, hq]
    have kh1 : A.drew.cell? ⟨q, 1, none⟩ = some (.int .i64 x2) := by show A.cell? _ = _; simp [World.cell?, hq]
    have kw : A.drew.cell? ⟨z, 0, none⟩ = some (.slice (some ⟨gp, 0, none⟩) len cp) := hi.b5.cell
    have kn : A.drew.cell? ⟨z + 1, 0, none⟩ = some (.int .i64 (k : Int)) := hi.b6.cell
    have HI : Hid (_ ∧ _ ∧ _) := ⟨hi, hbq, hfv⟩
    clear j0 j1 j2 hq hi hbq hfv hg3
    gi_wp2_with fail
    refine wpIn_region_inv (Jq A.drew [.int .i64 (k : Int), .slice (some ⟨gp, 0, none⟩) len cp, .int .i64 (len : Int), .bool false, .bool false, .agg #[.int .i64 x1, .int .i64 x2], .slice (some ⟨gp, 0, none⟩) len cp, .int .i64 (k : Int), .pointer (some ⟨gp, k * 3, none⟩), .pointer (some ⟨gp, k * 3, none⟩), .agg #[.int .i64 x1, .int .i64 x2], .bool false, .bool false, .bool false, .int .i64 x3, .slice (some ⟨gp, 0, none⟩) len cp, .int .i64 (k : Int), .pointer (some ⟨gp, k * 3, none⟩), .pointer (some ⟨gp, k * 3 + 2, none⟩), .int .i64 x3, .bool false, .bool false]) 103 (by kernel_rfl) rfl (by kernel_rfl) (Jq.start _ _) (fun _ _ => ⟨?_, ?_, ?_, ?_, ?_, ?_, ?_, ?_, ?_, ?_, ?_, ?_, ?_, ?_, ?_, ?_, ?_, ?_, ?_, ?_, ?_, ?_, trivial⟩) ?_
    · intro L vs a9 w' hJ hF hP hL
      obtain ⟨rfl, hv⟩ := hJ
      have q10 : (a9.tmps[10]?).getD undef = .pointer (some ⟨z + 1, 0, none⟩) := hF.old 10 rfl
      exact run_valF (v := .int .i64 (k : Int)) rfl (fun c h => by cases h) (by simp [execOp, go_sem, q10, kn]) ⟨_, rfl, Jq.step ⟨rfl, hv⟩ rfl⟩
    · intro L vs a9 w' hJ hF hP hL
      obtain ⟨rfl, hv⟩ := hJ
      have q9 : (a9.tmps[9]?).getD undef = .pointer (some ⟨z, 0, none⟩) := hF.old 9 rfl
      exact run_valF (v := .slice (some ⟨gp, 0, none⟩) len cp) rfl (fun c h => by cases h) (by simp [execOp, go_sem, q9, kw]) ⟨_, rfl, Jq.step ⟨rfl, hv⟩ rfl⟩
    · intro L vs a9 w' hJ hF hP hL
      obtain ⟨rfl, hv⟩ := hJ
      have p1 : L 1 = true := hP ⟨1, .data⟩ (by simp) rfl
      have s30 := hF.slot 1 30 rfl p1
      rw [hv 1 p1] at s30
      simp only [List.getD_cons_zero, List.getD_cons_succ] at s30
      exact run_valF (v := .int .i64 (len : Int)) rfl (fun c h => by cases h) (by simp [go_sem, s30]) ⟨_, rfl, Jq.step ⟨rfl, hv⟩ rfl⟩
    · intro L vs a9 w' hJ hF hP hL
      obtain ⟨rfl, hv⟩ := hJ
      have p0 : L 0 = true := hP ⟨0, .data⟩ (by simp) rfl
      have s29 := hF.slot 0 29 rfl p0
      rw [hv 0 p0] at s29
      simp only [List.getD_cons_zero] at s29
      have p2 : L 2 = true := hP ⟨2, .data⟩ (by simp) rfl
      have s31 := hF.slot 2 31 rfl p2
      rw [hv 2 p2] at s31
      simp only [List.getD_cons_zero, List.getD_cons_succ] at s31
      exact run_valF (v := .bool false) rfl (fun c h => by cases h) (by simp [execOp, go_sem, s29, s31, hk]) ⟨_, rfl, Jq.step ⟨rfl, hv⟩ rfl⟩
    · intro L vs a9 w' hJ hF hP hL
      obtain ⟨rfl, hv⟩ := hJ
      have p3 : L 3 = true := hP ⟨3, .data⟩ (by simp) rfl
      have s32 := hF.slot 3 32 rfl p3
      rw [hv 3 p3] at s32
      simp only [List.getD_cons_zero, List.getD_cons_succ] at s32
      exact run_valF (v := .bool false) rfl (fun c h => by cases h) (by simp [execOp, go_sem, s32]) ⟨_, rfl, Jq.step ⟨rfl, hv⟩ rfl⟩
    · intro L vs a9 w' hJ hF hP hL
      obtain ⟨rfl, hv⟩ := hJ
      have q11 : (a9.tmps[11]?).getD undef = .pointer (some ⟨q, 0, none⟩) := hF.old 11 rfl
      have pg : L 4 = true := hP ⟨4, .guard⟩ (by simp) rfl
      have sg := hF.slot 4 33 rfl pg
      rw [hv 4 pg] at sg
      simp only [List.getD_cons_zero, List.getD_cons_succ] at sg
      exact run_valF (v := .agg #[.int .i64 x1, .int .i64 x2]) (wanted_of rfl rfl sg) (fun c h => by cases h) (by simp [execOp, go_sem, q11, kh0, kh1]) ⟨_, rfl, Jq.step ⟨rfl, hv⟩ rfl⟩
    · intro L vs a9 w' hJ hF hP hL
      obtain ⟨rfl, hv⟩ := hJ
      have q9 : (a9.tmps[9]?).getD undef = .pointer (some ⟨z, 0, none⟩) := hF.old 9 rfl
      have pg : L 4 = true := hP ⟨4, .guard⟩ (by simp) rfl
      have sg := hF.slot 4 33 rfl pg
      rw [hv 4 pg] at sg
      simp only [List.getD_cons_zero, List.getD_cons_succ] at sg
      exact run_valF (v := .slice (some ⟨gp, 0, none⟩) len cp) (wanted_of rfl rfl sg) (fun c h => by cases h) (by simp [execOp, go_sem, q9, kw]) ⟨_, rfl, Jq.step ⟨rfl, hv⟩ rfl⟩
    · intro L vs a9 w' hJ hF hP hL
      obtain ⟨rfl, hv⟩ := hJ
      have q10 : (a9.tmps[10]?).getD undef = .pointer (some ⟨z + 1, 0, none⟩) := hF.old 10 rfl
      have pg : L 4 = true := hP ⟨4, .guard⟩ (by simp) rfl
      have sg := hF.slot 4 33 rfl pg
      rw [hv 4 pg] at sg
      simp only [List.getD_cons_zero, List.getD_cons_succ] at sg
      exact run_valF (v := .int .i64 (k : Int)) (wanted_of rfl rfl sg) (fun c h => by cases h) (by simp [execOp, go_sem, q10, kn]) ⟨_, rfl, Jq.step ⟨rfl, hv⟩ rfl⟩
    · intro L vs a9 w' hJ hF hP hL
      obtain ⟨rfl, hv⟩ := hJ
      have p6 : L 6 = true := hP ⟨6, .data⟩ (by simp) rfl
      have s35 := hF.slot 6 35 rfl p6
      rw [hv 6 p6] at s35
      simp only [List.getD_cons_zero, List.getD_cons_succ] at s35
      have p7 : L 7 = true := hP ⟨7, .data⟩ (by simp) rfl
      have s36 := hF.slot 7 36 rfl p7
      rw [hv 7 p7] at s36
      simp only [List.getD_cons_zero, List.getD_cons_succ] at s36
      have pg : L 4 = true := hP ⟨4, .guard⟩ (by simp) rfl
      have sg := hF.slot 4 33 rfl pg
      rw [hv 4 pg] at sg
      simp only [List.getD_cons_zero, List.getD_cons_succ] at sg
      exact run_valF (v := .pointer (some ⟨gp, k * 3, none⟩)) (wanted_of rfl rfl sg) (fun c h => by cases h) (by simp [execOp, go_sem, s35, s36, hk]) ⟨_, rfl, Jq.step ⟨rfl, hv⟩ rfl⟩
    · intro L vs a9 w' hJ hF hP hL
      obtain ⟨rfl, hv⟩ := hJ
      have p8 : L 8 = true := hP ⟨8, .data⟩ (by simp) rfl
      have s37 := hF.slot 8 37 rfl p8
      rw [hv 8 p8] at s37
      simp only [List.getD_cons_zero, List.getD_cons_succ] at s37
      have pg : L 4 = true := hP ⟨4, .guard⟩ (by simp) rfl
      have sg := hF.slot 4 33 rfl pg
      rw [hv 4 pg] at sg
      simp only [List.getD_cons_zero, List.getD_cons_succ] at sg
      exact run_valF (v := .pointer (some ⟨gp, k * 3, none⟩)) (wanted_of rfl rfl sg) (fun c h => by cases h) (by simp [execOp, go_sem, s37]) ⟨_, rfl, Jq.step ⟨rfl, hv⟩ rfl⟩
    · intro L vs a9 w' hJ hF hP hL
      obtain ⟨rfl, hv⟩ := hJ
      have p9 : L 9 = true := hP ⟨9, .data⟩ (by simp) rfl
      have s38 := hF.slot 9 38 rfl p9
      rw [hv 9 p9] at s38
      simp only [List.getD_cons_zero, List.getD_cons_succ] at s38
      have pg : L 4 = true := hP ⟨4, .guard⟩ (by simp) rfl
      have sg := hF.slot 4 33 rfl pg
      rw [hv 4 pg] at sg
      simp only [List.getD_cons_zero, List.getD_cons_succ] at sg
      exact run_valF (v := .agg #[.int .i64 x1, .int .i64 x2]) (wanted_of rfl rfl sg) (fun c h => by cases h) (by simp [execOp, go_sem, s38, kp0, kp1]) ⟨_, rfl, Jq.step ⟨rfl, hv⟩ rfl⟩
    · intro L vs a9 w' hJ hF hP hL
      obtain ⟨rfl, hv⟩ := hJ
      have p5 : L 5 = true := hP ⟨5, .data⟩ (by simp) rfl
      have s34 := hF.slot 5 34 rfl p5
      rw [hv 5 p5] at s34
      simp only [List.getD_cons_zero, List.getD_cons_succ] at s34
      have p10 : L 10 = true := hP ⟨10, .data⟩ (by simp) rfl
      have s39 := hF.slot 10 39 rfl p10
      rw [hv 10 p10] at s39
      simp only [List.getD_cons_zero, List.getD_cons_succ] at s39
      have pg : L 4 = true := hP ⟨4, .guard⟩ (by simp) rfl
      have sg := hF.slot 4 33 rfl pg
      rw [hv 4 pg] at sg
      simp only [List.getD_cons_zero, List.getD_cons_succ] at sg
      exact run_valF (v := .bool false) (wanted_of rfl rfl sg) (fun c h => by cases h) (by simp [execOp, go_sem, s34, s39]) ⟨_, rfl, Jq.step ⟨rfl, hv⟩ rfl⟩
    · intro L vs a9 w' hJ hF hP hL
      obtain ⟨rfl, hv⟩ := hJ
      have p4 : L 4 = true := hP ⟨4, .data⟩ (by simp) rfl
      have s33 := hF.slot 4 33 rfl p4
      rw [hv 4 p4] at s33
      simp only [List.getD_cons_zero, List.getD_cons_succ] at s33
      have p11 : L 11 = true := hP ⟨11, .data⟩ (by simp) rfl
      have s40 := hF.slot 11 40 rfl p11
      rw [hv 11 p11] at s40
      simp only [List.getD_cons_zero, List.getD_cons_succ] at s40
      exact run_valF (v := .bool false) rfl (fun c h => by cases h) (by simp [execOp, go_sem, s33, s40]) ⟨_, rfl, Jq.step ⟨rfl, hv⟩ rfl⟩
    · intro L vs a9 w' hJ hF hP hL
      obtain ⟨rfl, hv⟩ := hJ
      have p12 : L 12 = true := hP ⟨12, .data⟩ (by simp) rfl
      have s41 := hF.slot 12 41 rfl p12
      rw [hv 12 p12] at s41
      simp only [List.getD_cons_zero, List.getD_cons_succ] at s41
      exact run_valF (v := .bool false) rfl (fun c h => by cases h) (by simp [execOp, go_sem, s41]) ⟨_, rfl, Jq.step ⟨rfl, hv⟩ rfl⟩
    · intro L vs a9 w' hJ hF hP hL
      obtain ⟨rfl, hv⟩ := hJ
      have q12 : (a9.tmps[12]?).getD undef = .int .i64 x3 := hF.old 12 rfl
      have pg : L 13 = true := hP ⟨13, .guard⟩ (by simp) rfl
      have sg := hF.slot 13 42 rfl pg
      rw [hv 13 pg] at sg
      simp only [List.getD_cons_zero, List.getD_cons_succ] at sg
      exact run_valF (v := .int .i64 x3) (wanted_of rfl rfl sg) (fun c h => by cases h) (by simp [execOp, go_sem, q12]) ⟨_, rfl, Jq.step ⟨rfl, hv⟩ rfl⟩
    · intro L vs a9 w' hJ hF hP hL
      obtain ⟨rfl, hv⟩ := hJ
      have q9 : (a9.tmps[9]?).getD undef = .pointer (some ⟨z, 0, none⟩) := hF.old 9 rfl
      have pg : L 13 = true := hP ⟨13, .guard⟩ (by simp) rfl
      have sg := hF.slot 13 42 rfl pg
      rw [hv 13 pg] at sg
      simp only [List.getD_cons_zero, List.getD_cons_succ] at sg
      exact run_valF (v := .slice (some ⟨gp, 0, none⟩) len cp) (wanted_of rfl rfl sg) (fun c h => by cases h) (by simp [execOp, go_sem, q9, kw]) ⟨_, rfl, Jq.step ⟨rfl, hv⟩ rfl⟩
    · intro L vs a9 w' hJ hF hP hL
      obtain ⟨rfl, hv⟩ := hJ
      have q10 : (a9.tmps[10]?).getD undef = .pointer (some ⟨z + 1, 0, none⟩) := hF.old 10 rfl
      have pg : L 13 = true := hP ⟨13, .guard⟩ (by simp) rfl
      have sg := hF.slot 13 42 rfl pg
      rw [hv 13 pg] at sg
      simp only [List.getD_cons_zero, List.getD_cons_succ] at sg
      exact run_valF (v := .int .i64 (k : Int)) (wanted_of rfl rfl sg) (fun c h => by cases h) (by simp [execOp, go_sem, q10, kn]) ⟨_, rfl, Jq.step ⟨rfl, hv⟩ rfl⟩
    · intro L vs a9 w' hJ hF hP hL
      obtain ⟨rfl, hv⟩ := hJ
      have p15 : L 15 = true := hP ⟨15, .data⟩ (by simp) rfl
      have s44 := hF.slot 15 44 rfl p15
      rw [hv 15 p15] at s44
      simp only [List.getD_cons_zero, List.getD_cons_succ] at s44
      have p16 : L 16 = true := hP ⟨16, .data⟩ (by simp) rfl
      have s45 := hF.slot 16 45 rfl p16
      rw [hv 16 p16] at s45
      simp only [List.getD_cons_zero, List.getD_cons_succ] at s45
      have pg : L 13 = true := hP ⟨13, .guard⟩ (by simp) rfl
      have sg := hF.slot 13 42 rfl pg
      rw [hv 13 pg] at sg
      simp only [List.getD_cons_zero, List.getD_cons_succ] at sg
      exact run_valF (v := .pointer (some ⟨gp, k * 3, none⟩)) (wanted_of rfl rfl sg) (fun c h => by cases h) (by simp [execOp, go_sem, s44, s45, hk]) ⟨_, rfl, Jq.step ⟨rfl, hv⟩ rfl⟩
    · intro L vs a9 w' hJ hF hP hL
      obtain ⟨rfl, hv⟩ := hJ
      have p17 : L 17 = true := hP ⟨17, .data⟩ (by simp) rfl
      have s46 := hF.slot 17 46 rfl p17
      rw [hv 17 p17] at s46
      simp only [List.getD_cons_zero, List.getD_cons_succ] at s46
      have pg : L 13 = true := hP ⟨13, .guard⟩ (by simp) rfl
      have sg := hF.slot 13 42 rfl pg
      rw [hv 13 pg] at sg
      simp only [List.getD_cons_zero, List.getD_cons_succ] at sg
      exact run_valF (v := .pointer (some ⟨gp, k * 3 + 2, none⟩)) (wanted_of rfl rfl sg) (fun c h => by cases h) (by simp [execOp, go_sem, s46]) ⟨_, rfl, Jq.step ⟨rfl, hv⟩ rfl⟩
    · intro L vs a9 w' hJ hF hP hL
      obtain ⟨rfl, hv⟩ := hJ
      have p18 : L 18 = true := hP ⟨18, .data⟩ (by simp) rfl
      have s47 := hF.slot 18 47 rfl p18
      rw [hv 18 p18] at s47
      simp only [List.getD_cons_zero, List.getD_cons_succ] at s47
      have pg : L 13 = true := hP ⟨13, .guard⟩ (by simp) rfl
      have sg := hF.slot 13 42 rfl pg
      rw [hv 13 pg] at sg
      simp only [List.getD_cons_zero, List.getD_cons_succ] at sg
      exact run_valF (v := .int .i64 x3) (wanted_of rfl rfl sg) (fun c h => by cases h) (by simp [execOp, go_sem, s47, kp2]) ⟨_, rfl, Jq.step ⟨rfl, hv⟩ rfl⟩
    · intro L vs a9 w' hJ hF hP hL
      obtain ⟨rfl, hv⟩ := hJ
      have p14 : L 14 = true := hP ⟨14, .data⟩ (by simp) rfl
      have s43 := hF.slot 14 43 rfl p14
      rw [hv 14 p14] at s43
      simp only [List.getD_cons_zero, List.getD_cons_succ] at s43
      have p19 : L 19 = true := hP ⟨19, .data⟩ (by simp) rfl
      have s48 := hF.slot 19 48 rfl p19
      rw [hv 19 p19] at s48
      simp only [List.getD_cons_zero, List.getD_cons_succ] at s48
      have pg : L 13 = true := hP ⟨13, .guard⟩ (by simp) rfl
      have sg := hF.slot 13 42 rfl pg
      rw [hv 13 pg] at sg
      simp only [List.getD_cons_zero, List.getD_cons_succ] at sg
      exact run_valF (v := .bool false) (wanted_of rfl rfl sg) (fun c h => by cases h) (by simp [execOp, go_sem, s43, s48]) ⟨_, rfl, Jq.step ⟨rfl, hv⟩ rfl⟩
    · intro L vs a9 w' hJ hF hP hL
      obtain ⟨rfl, hv⟩ := hJ
      have p13 : L 13 = true := hP ⟨13, .data⟩ (by simp) rfl
      have s42 := hF.slot 13 42 rfl p13
      rw [hv 13 p13] at s42
      simp only [List.getD_cons_zero, List.getD_cons_succ] at s42
      have p20 : L 20 = true := hP ⟨20, .data⟩ (by simp) rfl
      have s49 := hF.slot 20 49 rfl p20
      rw [hv 20 p20] at s49
      simp only [List.getD_cons_zero, List.getD_cons_succ] at s49
      exact run_valF (v := .bool false) rfl (fun c h => by cases h) (by simp [execOp, go_sem, s42, s49]) ⟨_, rfl, Jq.step ⟨rfl, hv⟩ rfl⟩
    intro L vs w' hA hJ
    have u21 := hJ.val 21 (hA 21 (by decide))
    simp only [List.getD_cons_zero, List.getD_cons_succ] at u21
    obtain rfl := hJ.eq
    simp only [putL, Act.put, List.setIfInBounds_toArray, List.set_cons_zero, List.set_cons_succ, Nat.reduceAdd]
    simp only [u21]
    clear u21 hJ hA kp0 kp1 kp2 kh0 kh1 kw
    generalize vs = vs0
    have HD : Hid (Below A.heap.size A A.drew) := bx_drew (Below.refl _ _) 1
    generalize A.drew = A1 at HD kn ⊢
    have g1 := HI.out.1.go HD.out
    have g2 := HI.out.2.1.below HD.out
    have g3 := HI.out.2.2.trans (Fv.of_below HD.out HI.out.2.1.tb.le)
    rcases Nat.eq_zero_or_pos k with rfl | hk0
    · have e0 : innK xs n last hs hg xv 0 = xs := rfl
      rw [e0] at g2
      have k6 : A1.cell? ⟨z + 1, 0, none⟩ = some (.int .i64 0) := g1.b6.cell
      have k0 := g1.b0.cell
      have h0 : A1.cell? ⟨n0 + 3, 0, none⟩ = some (.int .i64 hs) := by simp [World.cell?, g1.b3]
      have h1 : A1.cell? ⟨n0 + 3, 1, none⟩ = some (.int .i64 hg) := by simp [World.cell?, g1.b3]
      obtain ⟨c3, s3⟩ := g2.sl
      have DP : Hid _ := sdrop6 s3 hs hg
      have HG : Hid (_ ∧ _ ∧ _) := ⟨g1, g2, g3⟩
      clear g1 g2 g3 s3 e0 kn
      gi_wp2_with fail
      refine ⟨trivial, ?_⟩
      refine (CallsIn.inRound l' (callsIn_wide.2 DP.out)).mono ?_
      rintro e w3 ⟨rfl, q1, q2⟩
      have a1 := HG.out.1.ft q2.ft
      have a2 := HG.out.2.1.prog q2.ft q1
      have a3 := HG.out.2.2.trans (Fv.of_ft q2.ft HG.out.2.1.tb.le)
      have K3 : Ksl sb 0 A w3 := (Ksl.of_below HD.out).trans (Ksl.of_fu q2)
      have DQ : Hid _ := rdrop6_any gw b n cap (tbT xs) last hs hg w3 a2.dr a2.cells.1 a2.cells.2.1 a2.ne hnn
      have k1 := a1.b1.cell
      have h0' : w3.cell? ⟨n0 + 3, 0, none⟩ = some (.int .i64 hs) := by simp [World.cell?, a1.b3]
      have h1' : w3.cell? ⟨n0 + 3, 1, none⟩ = some (.int .i64 hg) := by simp [World.cell?, a1.b3]
      have H3 : Hid (_ ∧ _ ∧ _ ∧ _) := ⟨a1, a2, a3, K3⟩
      clear a1 a2 a3 K3 q1 q2 k6 k0 h0 h1 DP
      gi_wp2_with fail
      refine ⟨trivial, ?_⟩
      refine (CallsIn.inRound l' (callsIn_wide.2 DQ.out)).mono ?_
      rintro e w4 ⟨rfl, q1, q2⟩
      rw [drop_tb xs n hxn] at q1
      have a1 := H3.out.1.od q2 H3.out.2.1.dr
      have a2 := H3.out.2.1.doc q2 q1
      have a3 := H3.out.2.2.1.trans (Fv.of_od q2 H3.out.2.1.tb.le H3.out.2.1.lo.1)
      have K4 : Ksl sb 0 A w4 := H3.out.2.2.2.trans (Ksl.of_od q2 H3.out.2.1.dr)
      have k0 := a1.b0.cell
      have k2 : w4.cell? ⟨n0 + 2, 4, none⟩ = some (.int .i64 xv) := by simp [World.cell?, a1.b2]
      obtain ⟨c4, s4⟩ := a2.sl
      have PT : Hid _ := sput6 s4 a2.tb.tab xv
      have GE : Hid (∀ i, i < n → -9223372036854775808 ≤ (tbT (dropX xs hs hg) i).1) := fun i _ => tb_ge _ s4.gens i
      have H4 : Hid (_ ∧ _ ∧ _ ∧ _) := ⟨a1, a2, a3, K4⟩
      clear a1 a2 a3 K4 q1 q2 k1 h0' h1' DQ s4 H3
      gi_wp2_with fail
      refine ⟨trivial, ?_⟩
      refine (CallsIn.inRound l' (callsIn_wide.2 PT.out)).mono ?_
      rintro e w5 ⟨rfl, q1, q2⟩
      obtain ⟨pS, eS⟩ : ∃ pS, pS = putS6 (tbT (dropX xs hs hg)) n last := ⟨_, rfl⟩
      obtain ⟨pG, eG⟩ : ∃ pG, pG = putG6 (tbT (dropX xs hs hg)) n last := ⟨_, rfl⟩
      obtain ⟨pE, eE⟩ : ∃ pE, pE = putE6 (tbT (dropX xs hs hg)) n last := ⟨_, rfl⟩
      rw [← eS, ← eG, ← eE]
      obtain ⟨W5, hW5⟩ : ∃ W5, W5 = w5.alloc (.cells #[.int .i64 pS, .int .i64 pG] 38) := ⟨_, rfl⟩
      obtain ⟨p5, ep5⟩ : ∃ p5, p5 = w5.heap.size := ⟨_, rfl⟩
      have B5 : Below w5.heap.size w5 W5 := by rw [hW5]; exact (Below.refl _ _).alloc (Nat.le_refl _) _
      have x5 : W5.heap[p5]? = some (.cells #[.int .i64 pS, .int .i64 pG] 38) := by rw [hW5, ep5]; exact ax_at _ _
      have a1 := (H4.out.1.ft q2.ft).go B5
      have a2 := (H4.out.2.1.prog q2.ft q1).below B5
      have a3 := (H4.out.2.2.1.trans (Fv.of_ft q2.ft H4.out.2.1.tb.le)).trans (Fv.of_below B5 (H4.out.2.1.prog q2.ft q1).tb.le)
      have K5 : Ksl sb 0 A W5 := (H4.out.2.2.2.trans (Ksl.of_fu q2)).trans (Ksl.of_below B5)
      have RP := rput6_any gw b n cap (tbT (dropX xs hs hg)) last xv W5 a2.dr a2.cells.1 a2.cells.2.1 a2.ne hnn HB.out.1.facts.2.2.1 GE.out
      rw [← eS, ← eG, ← eE] at RP
      have HRP : Hid _ := RP
      have HW5 : Hid (w5.alloc (.cells #[.int .i64 pS, .int .i64 pG] 38) = W5 ∧ w5.heap.size = p5) := ⟨hW5.symm, ep5.symm⟩
      have k1 : w5.cell? ⟨n0 + 1, 0, none⟩ = some (.pointer (some ⟨gw, 0, none⟩)) := (H4.out.1.ft q2.ft).b1.cell
      have l1 := (H4.out.1.ft q2.ft).b1.lt
      have k2' : w5.cell? ⟨n0 + 2, 4, none⟩ = some (.int .i64 xv) := by simp [World.cell?, (H4.out.1.ft q2.ft).b2]
      have l2 := (Array.getElem?_eq_some_iff.1 (H4.out.1.ft q2.ft).b2).1
      have H5 : Hid (_ ∧ _ ∧ _ ∧ _ ∧ _) := ⟨a1, a2, a3, K5, x5⟩
      clear a1 a2 a3 K5 q1 q2 k0 k2 PT H4 B5 x5 RP hW5 ep5 eS eG eE GE
      gi_wp2_with fail
      rw [HW5.out.1, HW5.out.2]
      refine ⟨trivial, ?_⟩
      refine (CallsIn.inRound l' (callsIn_wide.2 HRP.out)).mono ?_
      rintro e w6 ⟨rfl, q1, q2⟩
      rw [put_tb _ n last xv hl1] at q1
      have a1 := H5.out.1.od q2 H5.out.2.1.dr
      have a2 := H5.out.2.1.doc q2 q1
      have a3 := H5.out.2.2.1.trans (Fv.of_od q2 H5.out.2.1.tb.le H5.out.2.1.lo.1)
      have K6 : Ksl sb 0 A w6 := H5.out.2.2.2.1.trans (Ksl.of_od q2 H5.out.2.1.dr)
      have x6 : w6.heap[p5]? = some (.cells #[.int .i64 pS, .int .i64 pG] 38) := by
        obtain ⟨cs0, e0, _⟩ := H5.out.2.1.dr.row
        refine (q2.block p5 (Array.getElem?_eq_some_iff.1 H5.out.2.2.2.2).1 fun e2 => ?_).trans H5.out.2.2.2.2
        have h9 := H5.out.2.2.2.2
        rw [e2, e0] at h9
        cases h9
      have m0 : w6.cell? ⟨p5, 0, none⟩ = some (.int .i64 pS) := by simp [World.cell?, x6]
      have m1 : w6.cell? ⟨p5, 1, none⟩ = some (.int .i64 pG) := by simp [World.cell?, x6]
      have l5 : p5 < w6.heap.size := (Array.getElem?_eq_some_iff.1 x6).1
      have k6 : w6.cell? ⟨z + 1, 0, none⟩ = some (.int .i64 0) := a1.b6.cell
      have f6 := a1.b6.fr
      have l6 := a1.b6.lt
      have H6 : Hid (_ ∧ _ ∧ _ ∧ _) := ⟨a1, a2, a3, K6⟩
      clear a1 a2 a3 K6 q1 q2 k1 k2' l1 l2 H5 x6 HRP HW5
      gi_wp2_with fail
      have B7 : Below (w6.setCell ⟨z + 1, 0, none⟩ (.int .i64 1)).heap.size (w6.setCell ⟨z + 1, 0, none⟩ (.int .i64 1)) ((w6.setCell ⟨z + 1, 0, none⟩ (.int .i64 1)).alloc (.cells #[.int .i64 pS, .int .i64 pG] 38)) := (Below.refl _ _).alloc (Nat.le_refl _) _
      have a2 : Bq (w6.setCell ⟨z + 1, 0, none⟩ (.int .i64 1)) sb lb n last (innX xs n last hs hg xv) (innX xs n last hs hg xv) gw b cap := H6.out.2.1.set H6.out.1.b6 ⟨not_mv (by decide), by decide, by decide⟩ (by have := HB.out.2.2.2.1; omega) _ _
      have K7 := (H6.out.2.2.2.trans (Ksl.bx (sb := sb) H6.out.1.b6 (.inl rfl) (.int .i64 1))).trans (Ksl.of_below B7)
      exact ⟨K7.keeps (Nat.zero_le _), K7.up (Nat.zero_le _), (H6.out.1.setN hzn 1).go B7, a2.below B7, (H6.out.2.2.1.new (by have := HS.out.2.1; omega) hlw _ _).trans (Fv.of_below B7 a2.tb.le)⟩
    have k6 := g1.b6.cell
    have f6 := g1.b6.fr
    have hd : ((k : Int) == 0) = false := by simp; omega
    have hd2 : ¬ k = 0 := by omega
    have w5 : IntKind.i64.wrap ((k : Int) + 1) = (k : Int) + 1 := by rw [IntKind.wrap_i64]; omega
    have HG : Hid (_ ∧ _ ∧ _) := ⟨g1, g2, g3⟩
    clear g1 g2 g3
    gi_wp2_with fail
    have K1 : Ksl sb 0 A (A1.setCell ⟨z + 1, 0, none⟩ (.int .i64 ((k : Int) + 1))) := (Ksl.of_below HD.out).trans (Ksl.bx HG.out.1.b6 (.inl rfl) _)
    refine ⟨K1.keeps (Nat.zero_le _), K1.up (Nat.zero_le _), ?_, ?_, HG.out.2.2.new (by have := HS.out.2.1; omega) hlw _ _⟩
    · rw [show ((k + 1 : Nat) : Int) = (k : Int) + 1 by omega]
      exact HG.out.1.setN hzn _
    have e1 : innK xs n last hs hg xv (k + 1) = innK xs n last hs hg xv k := by unfold innK; rw [if_neg (by omega), if_neg (by omega)]
    rw [e1]
    exact HG.out.2.1.set HG.out.1.b6 ⟨not_mv (by decide), by decide, by decide⟩ (by have := HB.out.2.2.2.1; omega) _ _
  case done =>
    rintro D A hD ⟨hi, hbq, hfv⟩ hm
    have k6 := hi.b6.cell
    have k5 := hi.b5.cell
    have k4 := hi.b4.cell
    have f4 := hi.b4.fr
    have HE : Hid (Gi6 n0 z W0.heap.size (A.setCell ⟨n0 + 4, 0, none⟩ (.bool true)) sb gw #[.int .i64 y0, .int .i64 y1, .int .i64 y2, .int .i64 y3, .int .i64 xv] hs hg (.slice a len cp) Lx (len : Int) true ∧ (A.setCell ⟨n0 + 4, 0, none⟩ (.bool true)).heap[D]? = some (.deferred (some [])) ∧ Bq (A.setCell ⟨n0 + 4, 0, none⟩ (.bool true)) sb lb n last (innK xs n last hs hg xv len) (innK xs n last hs hg xv len) gw b cap ∧ Fv b lb w (A.setCell ⟨n0 + 4, 0, none⟩ (.bool true))) :=
      ⟨hi.setB hzn true, (Below.heap_setCell _ _ _ _ (show D ≠ n0 + 4 by have := HS.out.1; omega)).trans hm, hbq.set hi.b4 ⟨not_mv (by decide), by decide, by decide⟩ (by have := HB.out.2.2.2.1; omega) _ _, hfv.new (by have := HS.out.2.1; omega) hlw _ _⟩
    clear hi hm hbq hfv
    gi_wp2_with fail
    refine ⟨by simp, .inl ⟨_, _, rfl, run_takeDeferred HE.out.2.1, ?_⟩⟩
    have hf := HE.out.1.put (.deferred none) HE.out.2.1 rfl
    have hc5 := hf.b4.cell
    have elx : innK xs n last hs hg xv (allL (tbT xs) xs.length).length = innK xs n last hs hg xv len := by rw [← HP.out.2.2.1, ← HP.out.2.2.2]
    refine ⟨.bool true, ?_, rfl, ?_, HE.out.2.2.2.put (by omega) hlw _ HE.out.2.1⟩
    · simp [results, Tryd.results16, go_sem, hc5]
    rw [elx]
    exact HE.out.2.2.1.put _ HE.out.2.1 rfl (by omega)
  case stop =>
    rintro D c A hD hx hm
    exact hx.elim
end Go.Proofs.YtdobjanhmllloaaDoor
