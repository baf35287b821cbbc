/- Contracts of the program's functions, part 10: own work, joined in build order. -/
import Derived.Test.YtdobjanhmllloaaDoorJ9
import Derived.Deep.LoopGhost
import Derived.Laws.EntriesVeiled
import Derived.OrdersIn
namespace Go.Proofs.YtdobjanhmllloaaDoor
open Go.RowKit Go.Shelf
set_option maxRecDepth 100000
set_option linter.unusedVariables false
attribute [local go_sem] Oper.semAt_some
structure Gn6 (n0 : Nat) (w W : World) (v : Value) (k : Int) (b : Bool) : Prop where
  b0 : Bx W n0 55 v
  b1 : Bx W (n0 + 1) 4 (.bool b)
  b3 : Bx W (n0 + 3) 35 (.func (.func 28) #[] #[.pointer (some ⟨n0 + 2, 0, none⟩)])
  b4 : Bx W (n0 + 4) 3 (.int .i64 k)
  bel : Below n0 w W
section
variable {n0 : Nat} {w W W' : World} {v : Value} {k : Int} {b : Bool}
theorem Gn6.go (h : Gn6 n0 w W v k b) (hB : Below W.heap.size W W') (hn : n0 ≤ w.heap.size) : Gn6 n0 w W' v k b :=
  ⟨h.b0.go hB, h.b1.go hB, h.b3.go hB, h.b4.go hB, h.bel.trans (hB.mono (Nat.le_trans hn h.bel.size))⟩
theorem Gn6.put {l : Nat} {o : Obj} (h : Gn6 n0 w W v k b) (o' : Obj) (h1 : W.heap[l]? = some o) (h2 : o.isCells = false) (hn : n0 ≤ l) : Gn6 n0 w (W.putObj l o') v k b :=
  ⟨h.b0.put o' h1 h2, h.b1.put o' h1 h2, h.b3.put o' h1 h2, h.b4.put o' h1 h2, below_putC h.bel o' h1 hn⟩
theorem Gn6.setN (h : Gn6 n0 w W v k b) (k' : Int) : Gn6 n0 w (W.setCell ⟨n0 + 4, 0, none⟩ (.int .i64 k')) v k' b :=
  ⟨h.b0.other (by omega) _ _, h.b1.other (by omega) _ _, h.b3.other (by omega) _ _, h.b4.set _, h.bel.setCell (p := ⟨n0 + 4, 0, none⟩) (by simp) _⟩
theorem Gn6.setB (h : Gn6 n0 w W v k b) (b' : Bool) : Gn6 n0 w (W.setCell ⟨n0 + 1, 0, none⟩ (.bool b')) v k b' :=
  ⟨h.b0.other (by omega) _ _, h.b1.set _, h.b3.other (by omega) _ _, h.b4.other (by omega) _ _, h.bel.setCell (p := ⟨n0 + 1, 0, none⟩) (by simp) _⟩
theorem Gn6.far (h : Gn6 n0 w W v k b) {x : Nat} (hx : n0 + 5 ≤ x) (i : Nat) (u : Value) : Gn6 n0 w (W.setCell ⟨x, i, none⟩ u) v k b :=
  ⟨h.b0.other (by omega) _ _, h.b1.other (by omega) _ _, h.b3.other (by omega) _ _, h.b4.other (by omega) _ _, h.bel.setCell (p := ⟨x, i, none⟩) (by simp; omega) _⟩
theorem Ksl.putN {sb C : Nat} {A B : World} (h : Ksl sb C A B) {l : Nat} {o : Obj} (o' : Obj) (hl : A.heap.size ≤ l) (h1 : B.heap[l]? = some o) (h2 : o.isCells = false) : Ksl sb C A (B.putObj l o') :=
  ⟨fun r G cs a => (h.asd r G cs a).kept fun k cs t e _ => put_cells h1 h2 e, fun k cs t e ht => put_cells h1 h2 (h.oth k cs t e ht), by simpa [World.putObj] using h.size, fun k o hk e h3 h4 => (World.putObj_heap_other (by have := (Array.getElem?_eq_some_iff.1 e).1; omega)).trans (h.lop k o hk e h3 h4)⟩
end
set_option maxHeartbeats 4000000 in
theorem nested6_any {w : World} {sb lb nn : Nat} {last : Int} {cnt : Nat} {xs : List (Option Int × Int)} (h : SlV w sb lb nn last cnt xs) (base : Nat) (v : Value) (hp : Pw base w v (allL (tbT xs) xs.length)) (hle : xs.length ≤ 65536) :
    Calls Tryd.prog 17 #[.pointer (some ⟨sb, 0, none⟩), v] w fun e w' => e = .returned (.bool true) ∧ Below w.heap.size w w' := by
  obtain ⟨Lx, eL⟩ : ∃ Lx, Lx = allL (tbT xs) xs.length := ⟨_, rfl⟩
  rw [← eL] at hp
  have hLl : Lx.length ≤ 65536 := by rw [eL]; exact Nat.le_trans (allL_len _ _) hle
  obtain ⟨a, cap, rfl, hc1, hc2, hc⟩ := hp.sl
  obtain ⟨len, elen⟩ : ∃ len, len = Lx.length := ⟨_, rfl⟩
  rw [← elen] at hc1 hc hLl ⊢
  obtain ⟨n0, en0⟩ : ∃ n0, n0 = w.heap.size := ⟨_, rfl⟩
  have HH : Hid (SlV w sb lb nn last cnt xs) := h
  have HC : Hid (0 < len → ∃ g, a = some ⟨g, 0, none⟩ ∧ base ≤ g ∧ g < w.heap.size ∧ ∀ i, i < len → w.cell? ⟨g, i * 3, none⟩ = some (.int .i64 (Lx.getD i p60).1) ∧ w.cell? ⟨g, i * 3 + 1, none⟩ = some (.int .i64 (Lx.getD i p60).2.1) ∧ w.cell? ⟨g, i * 3 + 2, none⟩ = some (.int .i64 (Lx.getD i p60).2.2)) := hc
  have HL : Hid (Lx = allL (tbT xs) xs.length ∧ len = Lx.length) := ⟨eL, elen⟩
  clear h hp hc eL elen
  refine (callsIn_wide (n := 9)).1 ?_
  refine callsIn_of_wp_marks Tryd.func17 rfl trivial ?_ rfl
  simp only [Tryd.ntmps17, List.size_toArray, List.length_cons, List.length_nil, Nat.reduceAdd, Nat.reduceSub, Array.replicate_succ, Array.replicate_zero, List.push_toArray, List.append_toArray, List.nil_append, List.cons_append]
  have hnf : ∀ (cp : Array Value) (w : World), (binOp .eql 35 (.func (.func 28) #[] cp) .nilFunc).run Tryd.prog w = .ok (.bool false) w := fun cp w => by kernel_rfl
  gi_wp2_with (refine ⟨trivial, ?_⟩; refine (callsIn_wide.2 (sallV_any sb _)).mono ?_; rintro e w5 ⟨rfl, rfl⟩)
  simp only [Nat.add_assoc, Nat.reduceAdd]
  obtain ⟨W0, hW0⟩ : ∃ W0, W0 = als w [.cells #[.slice a len cap] 55, .cells #[.bool false] 4, .cells #[.pointer (some ⟨sb, 0, none⟩)] 24, .cells #[.func (.func 28) #[] #[.pointer (some ⟨w.heap.size + 2, 0, none⟩)]] 35, .cells #[.int .i64 0] 3] := ⟨_, rfl⟩
  have hW1 := hW0
  simp only [als] at hW1
  rw [← hW1, ← en0]
  clear hW1
  have B0 : Below w.heap.size w W0 := by rw [hW0]; exact als_below _ _
  have sz0 : W0.heap.size = n0 + 5 := by rw [hW0, en0, als_size]; rfl
  have N0 : Hid (Gn6 n0 w W0 (.slice a len cap) 0 false) := by
    rw [en0]
    refine ⟨?_, ?_, ?_, ?_, B0⟩
    · rw [hW0]; exact als_at _ w 0 (by simp)
    · rw [hW0]; exact als_at _ w 1 (by simp)
    · rw [hW0]; exact als_at _ w 3 (by simp)
    rw [hW0]; exact als_at _ w 4 (by simp)
  have eBs : W0.heap[n0 + 2]? = some (.cells #[.pointer (some ⟨sb, 0, none⟩)] 24) := by rw [hW0, en0]; exact als_at _ w 2 (by simp)
  have cBs : W0.cell? ⟨n0 + 2, 0, none⟩ = some (.pointer (some ⟨sb, 0, none⟩)) := by simp [World.cell?, eBs]
  have HS : Hid (W0.heap.size = n0 + 5 ∧ n0 = w.heap.size ∧ Below w.heap.size w W0) := ⟨sz0, en0, B0⟩
  have hls : n0 ≤ W0.heap.size := by omega
  have hnw : n0 ≤ w.heap.size := by omega
  have SQ := sall_at (n0 + 2) (W0.heap.size + 2) W0 cBs (HH.out.mono B0)
  rw [← HL.out.1, ← HL.out.2] at SQ
  clear hW0 B0 en0 sz0
  refine range_atA (n := 9) (P := Tryd.prog) rfl (by omega) (gf := 28) (lb := #[.pointer (some ⟨n0 + 2, 0, none⟩)]) rfl trivial (enters_of Tryd.func28 (by kernel_rfl) rfl)
    SQ.wide (fun h k => h.trans k) (fun A o o' h1 h2 => Ksl.put A _ o o' (by omega) h1 h2) (Below.refl _ _) (fun _ => rfl)
    (fun k A => Gn6 n0 w A (.slice a len cap) (k : Int) false ∧ Bx A (n0 + 2) 24 (.pointer (some ⟨sb, 0, none⟩))) (fun c A => c = .ret ∧ ∃ k, Gn6 n0 w A (.slice a len cap) k true)
    (fun k A B hA hB => ⟨hA.1.go hB hnw, hA.2.go hB⟩)
    (fun k A l o o' hA hl ho hc hw => ⟨hA.1.put o' ho hc (Nat.le_trans hls hl), hA.2.put o' ho hc⟩)
    (fun c A l o o' ⟨h1, k, hA⟩ hl ho hc hw => ⟨h1, k, hA.put o' ho hc (Nat.le_trans hls hl)⟩)
    ⟨N0.out, eBs⟩
    (fun A B hB => Ksl.of_below hB)
    (fun k a' A => a' = { tmps := #[.pointer (some ⟨sb, 0, none⟩), .slice a len cap, undef, .pointer (some ⟨n0, 0, none⟩), .pointer (some ⟨n0 + 1, 0, none⟩), .pointer (some ⟨n0 + 3, 0, none⟩), .pointer (some ⟨n0 + 4, 0, none⟩), undef, undef, undef, .pointer (some ⟨sb, 0, none⟩), .func (.func 28) #[] #[.pointer (some ⟨n0 + 2, 0, none⟩)], .func (.func 28) #[] #[.pointer (some ⟨n0 + 2, 0, none⟩)], .agg #[.int .i64 (Lx.getD k p60).1, .int .i64 (Lx.getD k p60).2.1], .int .i64 (Lx.getD k p60).2.2, undef, undef, undef, undef, undef, undef, undef, undef, undef, undef, undef, undef, undef, undef, undef, undef, undef, undef, undef, undef, undef, undef, undef, undef, undef, undef, undef, undef, undef, undef, undef, undef, undef, undef, undef, undef, undef, undef, undef], defers := [] })
    (fun k a' A l o o' h1 hl ho hc hw => h1) ?assign ?body ?done ?stop
  case assign =>
    intro l' k A K hk hi hK
    have HK : Hid _ := hK _ A (Below.refl _ _) rfl
    unfold encS
    generalize Lx.getD k p60 = x at HK ⊢
    obtain ⟨x1, x2, x3⟩ := x
    simp only at HK ⊢
    clear hK hi
    gi_wp2_with fail
    simpa using HK.out
  case body =>
    rintro l' k a' A hk hl' hlr ⟨hi, hbs⟩ rfl
    generalize Value.agg #[.int .i64 (Lx.getD k p60).1, .int .i64 (Lx.getD k p60).2.1] = o1
    generalize Value.int .i64 (Lx.getD k p60).2.2 = o2
    obtain ⟨kb, ekb⟩ : ∃ kb, kb = A.heap.size := ⟨_, rfl⟩
    obtain ⟨A1, hA1⟩ : ∃ A1, A1 = A.alloc (.cells #[.int .i64 0] 3) := ⟨_, rfl⟩
    have BA : Below A.heap.size A A1 := by rw [hA1]; exact (Below.refl _ _).alloc (Nat.le_refl _) _
    have xk : Bx A1 kb 3 (.int .i64 0) := by rw [hA1, ekb]; exact ax_at _ _
    have szA : A1.heap.size = kb + 1 := by rw [hA1, ekb]; simp
    have hkb : n0 + 5 ≤ kb := by
      obtain ⟨rr, hrr⟩ := hlr
      have := (Array.getElem?_eq_some_iff.1 hrr).1
      have := HS.out.1
      omega
    have hlr1 : ∃ rr, A1.heap[l']? = some (.loop rr) := by
      obtain ⟨rr, hrr⟩ := hlr
      exact ⟨rr, (BA.block _ (Array.getElem?_eq_some_iff.1 hrr).1).trans hrr⟩
    have k3 := hi.b3.cell
    have l3 := hi.b3.lt
    have hA0 : Below w.heap.size w A := by rw [← HS.out.2.1]; exact hi.bel
    have HA : Hid (Gn6 n0 w A1 (.slice a len cap) (k : Int) false ∧ Bx A1 (n0 + 2) 24 (.pointer (some ⟨sb, 0, none⟩)) ∧ Bx A1 kb 3 (.int .i64 0) ∧ Below A.heap.size A A1 ∧ A1.heap.size = kb + 1 ∧ kb = A.heap.size ∧ Below w.heap.size w A) := ⟨hi.go BA hnw, hbs.go BA, xk, BA, szA, ekb, hA0⟩
    have HE : Hid (A.alloc (.cells #[.int .i64 0] 3) = A1 ∧ A.heap.size = kb) := ⟨hA1.symm, ekb.symm⟩
    clear hi hbs hlr BA xk szA ekb hA1 hA0
    gi_wp2_with fail
    rw [HE.out.1, HE.out.2]
    clear k3 l3
    have cB1 := HA.out.2.1.cell
    have SQ2 := sall_at (n0 + 2) (A1.heap.size + 1) A1 cB1 (HH.out.mono (bx_go HA.out.2.2.2.2.2.2 HA.out.2.2.2.1))
    rw [← HL.out.1, ← HL.out.2] at SQ2
    obtain ⟨r0, hr0⟩ := hlr1
    refine range_atN (n := 7) (P := Tryd.prog) (l₀ := l') (r₀ := r0) rfl hr0 (by omega) (gf := 28) (lb := #[.pointer (some ⟨n0 + 2, 0, none⟩)]) rfl trivial (enters_of Tryd.func28 (by kernel_rfl) rfl)
      (SeqC.inRound l' SQ2.wide) (fun h k => h.trans k) (fun B o o' h1 h2 => Ksl.put B _ o o' (by omega) h1 h2) (Below.refl _ _) (fun _ => rfl)
      (fun j B => Gn6 n0 w B (.slice a len cap) (k : Int) false ∧ Bx B (n0 + 2) 24 (.pointer (some ⟨sb, 0, none⟩)) ∧ Bx B kb 3 (.int .i64 (j : Int)) ∧ Ksl sb 0 A B) (fun c B => False)
      (fun j B B' ⟨h1, h2, h3, h4⟩ hB => ⟨h1.go hB hnw, h2.go hB, h3.go hB, h4.trans (Ksl.of_below hB)⟩)
      (fun j B l o o' ⟨h1, h2, h3, h4⟩ hl ho hc hw => ⟨h1.put o' ho hc (by have := HA.out.2.2.2.2.1; omega), h2.put o' ho hc, h3.put o' ho hc, h4.putN o' (by have := HA.out.2.2.2.2.1; have := HA.out.2.2.2.2.2.1; omega) ho hc⟩)
      (fun c B l o o' h1 _ _ _ _ => h1)
      ⟨HA.out.1, HA.out.2.1, HA.out.2.2.1, Ksl.of_below HA.out.2.2.2.1⟩
      (fun B B' hB => Ksl.of_below hB)
      (fun j a' B => ∃ q, a' = { tmps := #[.pointer (some ⟨sb, 0, none⟩), .slice a len cap, undef, .pointer (some ⟨n0, 0, none⟩), .pointer (some ⟨n0 + 1, 0, none⟩), .pointer (some ⟨n0 + 3, 0, none⟩), .pointer (some ⟨n0 + 4, 0, none⟩), .pointer (some ⟨kb, 0, none⟩), .pointer (some ⟨q, 0, none⟩), .int .i64 (Lx.getD j p60).2.2, .pointer (some ⟨sb, 0, none⟩), .func (.func 28) #[] #[.pointer (some ⟨n0 + 2, 0, none⟩)], .func (.func 28) #[] #[.pointer (some ⟨n0 + 2, 0, none⟩)], o1, o2, .func (.func 28) #[] #[.pointer (some ⟨n0 + 2, 0, none⟩)], .agg #[.int .i64 (Lx.getD j p60).1, .int .i64 (Lx.getD j p60).2.1], .int .i64 (Lx.getD j p60).2.2, undef, undef, undef, undef, undef, undef, undef, undef, undef, undef, undef, undef, undef, undef, undef, undef, undef, undef, undef, undef, undef, undef, undef, undef, undef, undef, undef, undef, undef, undef, undef, undef, undef, undef, undef, undef], defers := [] } ∧ B.heap[q]? = some (.cells #[.int .i64 (Lx.getD j p60).1, .int .i64 (Lx.getD j p60).2.1] 38))
      (fun j a' B l o o' ⟨q, h1, h2⟩ hl ho hc hw => ⟨q, h1, put_cells ho hc h2⟩) ?assign2 ?body2 ?done2 ?stop2
    case assign2 =>
      intro l2 j B K hj hi hK
      have HK : Hid _ := hK _ (B.alloc (.cells #[.int .i64 (Lx.getD j p60).1, .int .i64 (Lx.getD j p60).2.1] 38)) ((Below.refl _ _).alloc (Nat.le_refl _) _) ⟨B.heap.size, rfl, ax_at _ _⟩
      unfold encS
      generalize Lx.getD j p60 = x at HK ⊢
      obtain ⟨x1, x2, x3⟩ := x
      simp only at HK ⊢
      clear hK hi
      gi_wp2_with fail
      exact HK.out
    case body2 =>
      rintro l2 j a' B hj hl2 hlr2 ⟨hi, hbs, hkx, hks⟩ ⟨q, rfl, hq⟩
      obtain ⟨gp, rfl, hg1, hg2, hg3⟩ := HC.out (by omega)
      obtain ⟨j0, j1, j2⟩ := hg3 j hj
      generalize Lx.getD j p60 = x at hq j0 j1 j2 ⊢
      obtain ⟨x1, x2, x3⟩ := x
      simp only at hq j0 j1 j2 ⊢
      have hB0 : Below w.heap.size w B := by rw [← HS.out.2.1]; exact hi.bel
      have kp0 : B.drew.cell? ⟨gp, j * 3, none⟩ = some (.int .i64 x1) := bx_cell hB0 j0
      have kp1 : B.drew.cell? ⟨gp, j * 3 + 1, none⟩ = some (.int .i64 x2) := bx_cell hB0 j1
      have kp2 : B.drew.cell? ⟨gp, j * 3 + 2, none⟩ = some (.int .i64 x3) := bx_cell hB0 j2
      have kh0 : B.drew.cell? ⟨q, 0, none⟩ = some (.int .i64 x1) := by show B.cell? _ = _; simp [World.cell?, hq]
      have kh1 : B.drew.cell? ⟨q, 1, none⟩ = some (.int .i64 x2) := by show B.cell? _ = _; simp [World.cell?, hq]
      have kw : B.drew.cell? ⟨n0, 0, none⟩ = some (.slice (some ⟨gp, 0, none⟩) len cap) := hi.b0.cell
      have kn : B.drew.cell? ⟨kb, 0, none⟩ = some (.int .i64 (j : Int)) := hkx.cell
      have HI : Hid (_ ∧ _ ∧ _ ∧ _) := ⟨hi, hbs, hkx, hks⟩
      clear j0 j1 j2 hq hi hbs hkx hks hB0 hg3
      gi_wp2_with fail
      refine wpIn_region_inv (Jq B.drew [.int .i64 (j : Int), .slice (some ⟨gp, 0, none⟩) len cap, .int .i64 (len : Int), .bool false, .bool false, .agg #[.int .i64 x1, .int .i64 x2], .slice (some ⟨gp, 0, none⟩) len cap, .int .i64 (j : Int), .pointer (some ⟨gp, j * 3, none⟩), .pointer (some ⟨gp, j * 3, none⟩), .agg #[.int .i64 x1, .int .i64 x2], .bool false, .bool false, .bool false, .int .i64 x3, .slice (some ⟨gp, 0, none⟩) len cap, .int .i64 (j : Int), .pointer (some ⟨gp, j * 3, none⟩), .pointer (some ⟨gp, j * 3 + 2, none⟩), .int .i64 x3, .bool false, .bool false]) 54 (by kernel_rfl) rfl (by kernel_rfl) (Jq.start _ _) (fun _ _ => ⟨?_, ?_, ?_, ?_, ?_, ?_, ?_, ?_, ?_, ?_, ?_, ?_, ?_, ?_, ?_, ?_, ?_, ?_, ?_, ?_, ?_, ?_, trivial⟩) ?_
      · intro L vs a9 w' hJ hF hP hL
        obtain ⟨rfl, hv⟩ := hJ
        have q7 : (a9.tmps[7]?).getD undef = .pointer (some ⟨kb, 0, none⟩) := hF.old 7 rfl
        exact run_valF (v := .int .i64 (j : Int)) rfl (fun c h => by cases h) (by simp [execOp, go_sem, q7, kn]) ⟨_, rfl, Jq.step ⟨rfl, hv⟩ rfl⟩
      · intro L vs a9 w' hJ hF hP hL
        obtain ⟨rfl, hv⟩ := hJ
        have q3 : (a9.tmps[3]?).getD undef = .pointer (some ⟨n0, 0, none⟩) := hF.old 3 rfl
        exact run_valF (v := .slice (some ⟨gp, 0, none⟩) len cap) rfl (fun c h => by cases h) (by simp [execOp, go_sem, q3, kw]) ⟨_, rfl, Jq.step ⟨rfl, hv⟩ rfl⟩
      · intro L vs a9 w' hJ hF hP hL
        obtain ⟨rfl, hv⟩ := hJ
        have p1 : L 1 = true := hP ⟨1, .data⟩ (by simp) rfl
        have s19 := hF.slot 1 19 rfl p1
        rw [hv 1 p1] at s19
        simp only [List.getD_cons_zero, List.getD_cons_succ] at s19
        exact run_valF (v := .int .i64 (len : Int)) rfl (fun c h => by cases h) (by simp [go_sem, s19]) ⟨_, rfl, Jq.step ⟨rfl, hv⟩ rfl⟩
      · intro L vs a9 w' hJ hF hP hL
        obtain ⟨rfl, hv⟩ := hJ
        have p0 : L 0 = true := hP ⟨0, .data⟩ (by simp) rfl
        have s18 := hF.slot 0 18 rfl p0
        rw [hv 0 p0] at s18
        simp only [List.getD_cons_zero] at s18
        have p2 : L 2 = true := hP ⟨2, .data⟩ (by simp) rfl
        have s20 := hF.slot 2 20 rfl p2
        rw [hv 2 p2] at s20
        simp only [List.getD_cons_zero, List.getD_cons_succ] at s20
        exact run_valF (v := .bool false) rfl (fun c h => by cases h) (by simp [execOp, go_sem, s18, s20, hj]) ⟨_, rfl, Jq.step ⟨rfl, hv⟩ rfl⟩
      · intro L vs a9 w' hJ hF hP hL
        obtain ⟨rfl, hv⟩ := hJ
        have p3 : L 3 = true := hP ⟨3, .data⟩ (by simp) rfl
        have s21 := hF.slot 3 21 rfl p3
        rw [hv 3 p3] at s21
        simp only [List.getD_cons_zero, List.getD_cons_succ] at s21
        exact run_valF (v := .bool false) rfl (fun c h => by cases h) (by simp [execOp, go_sem, s21]) ⟨_, rfl, Jq.step ⟨rfl, hv⟩ rfl⟩
      · intro L vs a9 w' hJ hF hP hL
        obtain ⟨rfl, hv⟩ := hJ
        have q8 : (a9.tmps[8]?).getD undef = .pointer (some ⟨q, 0, none⟩) := hF.old 8 rfl
        have pg : L 4 = true := hP ⟨4, .guard⟩ (by simp) rfl
        have sg := hF.slot 4 22 rfl pg
        rw [hv 4 pg] at sg
        simp only [List.getD_cons_zero, List.getD_cons_succ] at sg
        exact run_valF (v := .agg #[.int .i64 x1, .int .i64 x2]) (wanted_of rfl rfl sg) (fun c h => by cases h) (by simp [execOp, go_sem, q8, kh0, kh1]) ⟨_, rfl, Jq.step ⟨rfl, hv⟩ rfl⟩
      · intro L vs a9 w' hJ hF hP hL
        obtain ⟨rfl, hv⟩ := hJ
        have q3 : (a9.tmps[3]?).getD undef = .pointer (some ⟨n0, 0, none⟩) := hF.old 3 rfl
        have pg : L 4 = true := hP ⟨4, .guard⟩ (by simp) rfl
        have sg := hF.slot 4 22 rfl pg
        rw [hv 4 pg] at sg
        simp only [List.getD_cons_zero, List.getD_cons_succ] at sg
        exact run_valF (v := .slice (some ⟨gp, 0, none⟩) len cap) (wanted_of rfl rfl sg) (fun c h => by cases h) (by simp [execOp, go_sem, q3, kw]) ⟨_, rfl, Jq.step ⟨rfl, hv⟩ rfl⟩
      · intro L vs a9 w' hJ hF hP hL
        obtain ⟨rfl, hv⟩ := hJ
        have q7 : (a9.tmps[7]?).getD undef = .pointer (some ⟨kb, 0, none⟩) := hF.old 7 rfl
        have pg : L 4 = true := hP ⟨4, .guard⟩ (by simp) rfl
        have sg := hF.slot 4 22 rfl pg
        rw [hv 4 pg] at sg
        simp only [List.getD_cons_zero, List.getD_cons_succ] at sg
        exact run_valF (v := .int .i64 (j : Int)) (wanted_of rfl rfl sg) (fun c h => by cases h) (by simp [execOp, go_sem, q7, kn]) ⟨_, rfl, Jq.step ⟨rfl, hv⟩ rfl⟩
      · intro L vs a9 w' hJ hF hP hL
        obtain ⟨rfl, hv⟩ := hJ
        have p6 : L 6 = true := hP ⟨6, .data⟩ (by simp) rfl
        have s24 := hF.slot 6 24 rfl p6
        rw [hv 6 p6] at s24
        simp only [List.getD_cons_zero, List.getD_cons_succ] at s24
        have p7 : L 7 = true := hP ⟨7, .data⟩ (by simp) rfl
        have s25 := hF.slot 7 25 rfl p7
        rw [hv 7 p7] at s25
        simp only [List.getD_cons_zero, List.getD_cons_succ] at s25
        have pg : L 4 = true := hP ⟨4, .guard⟩ (by simp) rfl
        have sg := hF.slot 4 22 rfl pg
        rw [hv 4 pg] at sg
        simp only [List.getD_cons_zero, List.getD_cons_succ] at sg
        exact run_valF (v := .pointer (some ⟨gp, j * 3, none⟩)) (wanted_of rfl rfl sg) (fun c h => by cases h) (by simp [execOp, go_sem, s24, s25, hj]) ⟨_, rfl, Jq.step ⟨rfl, hv⟩ rfl⟩
      · intro L vs a9 w' hJ hF hP hL
        obtain ⟨rfl, hv⟩ := hJ
        have p8 : L 8 = true := hP ⟨8, .data⟩ (by simp) rfl
        have s26 := hF.slot 8 26 rfl p8
        rw [hv 8 p8] at s26
        simp only [List.getD_cons_zero, List.getD_cons_succ] at s26
        have pg : L 4 = true := hP ⟨4, .guard⟩ (by simp) rfl
        have sg := hF.slot 4 22 rfl pg
        rw [hv 4 pg] at sg
        simp only [List.getD_cons_zero, List.getD_cons_succ] at sg
        exact run_valF (v := .pointer (some ⟨gp, j * 3, none⟩)) (wanted_of rfl rfl sg) (fun c h => by cases h) (by simp [execOp, go_sem, s26]) ⟨_, rfl, Jq.step ⟨rfl, hv⟩ rfl⟩
      · intro L vs a9 w' hJ hF hP hL
        obtain ⟨rfl, hv⟩ := hJ
        have p9 : L 9 = true := hP ⟨9, .data⟩ (by simp) rfl
        have s27 := hF.slot 9 27 rfl p9
        rw [hv 9 p9] at s27
        simp only [List.getD_cons_zero, List.getD_cons_succ] at s27
        have pg : L 4 = true := hP ⟨4, .guard⟩ (by simp) rfl
        have sg := hF.slot 4 22 rfl pg
        rw [hv 4 pg] at sg
        simp only [List.getD_cons_zero, List.getD_cons_succ] at sg
        exact run_valF (v := .agg #[.int .i64 x1, .int .i64 x2]) (wanted_of rfl rfl sg) (fun c h => by cases h) (by simp [execOp, go_sem, s27, kp0, kp1]) ⟨_, rfl, Jq.step ⟨rfl, hv⟩ rfl⟩
      · intro L vs a9 w' hJ hF hP hL
        obtain ⟨rfl, hv⟩ := hJ
        have p5 : L 5 = true := hP ⟨5, .data⟩ (by simp) rfl
        have s23 := hF.slot 5 23 rfl p5
        rw [hv 5 p5] at s23
        simp only [List.getD_cons_zero, List.getD_cons_succ] at s23
        have p10 : L 10 = true := hP ⟨10, .data⟩ (by simp) rfl
        have s28 := hF.slot 10 28 rfl p10
        rw [hv 10 p10] at s28
        simp only [List.getD_cons_zero, List.getD_cons_succ] at s28
        have pg : L 4 = true := hP ⟨4, .guard⟩ (by simp) rfl
        have sg := hF.slot 4 22 rfl pg
        rw [hv 4 pg] at sg
        simp only [List.getD_cons_zero, List.getD_cons_succ] at sg
        exact run_valF (v := .bool false) (wanted_of rfl rfl sg) (fun c h => by cases h) (by simp [execOp, go_sem, s23, s28]) ⟨_, rfl, Jq.step ⟨rfl, hv⟩ rfl⟩
      · intro L vs a9 w' hJ hF hP hL
        obtain ⟨rfl, hv⟩ := hJ
        have p4 : L 4 = true := hP ⟨4, .data⟩ (by simp) rfl
        have s22 := hF.slot 4 22 rfl p4
        rw [hv 4 p4] at s22
        simp only [List.getD_cons_zero, List.getD_cons_succ] at s22
        have p11 : L 11 = true := hP ⟨11, .data⟩ (by simp) rfl
        have s29 := hF.slot 11 29 rfl p11
        rw [hv 11 p11] at s29
        simp only [List.getD_cons_zero, List.getD_cons_succ] at s29
        exact run_valF (v := .bool false) rfl (fun c h => by cases h) (by simp [execOp, go_sem, s22, s29]) ⟨_, rfl, Jq.step ⟨rfl, hv⟩ rfl⟩
      · intro L vs a9 w' hJ hF hP hL
        obtain ⟨rfl, hv⟩ := hJ
        have p12 : L 12 = true := hP ⟨12, .data⟩ (by simp) rfl
        have s30 := hF.slot 12 30 rfl p12
        rw [hv 12 p12] at s30
        simp only [List.getD_cons_zero, List.getD_cons_succ] at s30
        exact run_valF (v := .bool false) rfl (fun c h => by cases h) (by simp [execOp, go_sem, s30]) ⟨_, rfl, Jq.step ⟨rfl, hv⟩ rfl⟩
      · intro L vs a9 w' hJ hF hP hL
        obtain ⟨rfl, hv⟩ := hJ
        have q9 : (a9.tmps[9]?).getD undef = .int .i64 x3 := hF.old 9 rfl
        have pg : L 13 = true := hP ⟨13, .guard⟩ (by simp) rfl
        have sg := hF.slot 13 31 rfl pg
        rw [hv 13 pg] at sg
        simp only [List.getD_cons_zero, List.getD_cons_succ] at sg
        exact run_valF (v := .int .i64 x3) (wanted_of rfl rfl sg) (fun c h => by cases h) (by simp [execOp, go_sem, q9]) ⟨_, rfl, Jq.step ⟨rfl, hv⟩ rfl⟩
      · intro L vs a9 w' hJ hF hP hL
        obtain ⟨rfl, hv⟩ := hJ
        have q3 : (a9.tmps[3]?).getD undef = .pointer (some ⟨n0, 0, none⟩) := hF.old 3 rfl
        have pg : L 13 = true := hP ⟨13, .guard⟩ (by simp) rfl
        have sg := hF.slot 13 31 rfl pg
        rw [hv 13 pg] at sg
        simp only [List.getD_cons_zero, List.getD_cons_succ] at sg
        exact run_valF (v := .slice (some ⟨gp, 0, none⟩) len cap) (wanted_of rfl rfl sg) (fun c h => by cases h) (by simp [execOp, go_sem, q3, kw]) ⟨_, rfl, Jq.step ⟨rfl, hv⟩ rfl⟩
      · intro L vs a9 w' hJ hF hP hL
        obtain ⟨rfl, hv⟩ := hJ
        have q7 : (a9.tmps[7]?).getD undef = .pointer (some ⟨kb, 0, none⟩) := hF.old 7 rfl
        have pg : L 13 = true := hP ⟨13, .guard⟩ (by simp) rfl
        have sg := hF.slot 13 31 rfl pg
        rw [hv 13 pg] at sg
        simp only [List.getD_cons_zero, List.getD_cons_succ] at sg
        exact run_valF (v := .int .i64 (j : Int)) (wanted_of rfl rfl sg) (fun c h => by cases h) (by simp [execOp, go_sem, q7, kn]) ⟨_, rfl, Jq.step ⟨rfl, hv⟩ rfl⟩
      · intro L vs a9 w' hJ hF hP hL
        obtain ⟨rfl, hv⟩ := hJ
        have p15 : L 15 = true := hP ⟨15, .data⟩ (by simp) rfl
        have s33 := hF.slot 15 33 rfl p15
        rw [hv 15 p15] at s33
        simp only [List.getD_cons_zero, List.getD_cons_succ] at s33
        have p16 : L 16 = true := hP ⟨16, .data⟩ (by simp) rfl
        have s34 := hF.slot 16 34 rfl p16
        rw [hv 16 p16] at s34
        simp only [List.getD_cons_zero, List.getD_cons_succ] at s34
        have pg : L 13 = true := hP ⟨13, .guard⟩ (by simp) rfl
        have sg := hF.slot 13 31 rfl pg
        rw [hv 13 pg] at sg
        simp only [List.getD_cons_zero, List.getD_cons_succ] at sg
        exact run_valF (v := .pointer (some ⟨gp, j * 3, none⟩)) (wanted_of rfl rfl sg) (fun c h => by cases h) (by simp [execOp, go_sem, s33, s34, hj]) ⟨_, rfl, Jq.step ⟨rfl, hv⟩ rfl⟩
      · intro L vs a9 w' hJ hF hP hL
        obtain ⟨rfl, hv⟩ := hJ
        have p17 : L 17 = true := hP ⟨17, .data⟩ (by simp) rfl
        have s35 := hF.slot 17 35 rfl p17
        rw [hv 17 p17] at s35
        simp only [List.getD_cons_zero, List.getD_cons_succ] at s35
        have pg : L 13 = true := hP ⟨13, .guard⟩ (by simp) rfl
        have sg := hF.slot 13 31 rfl pg
        rw [hv 13 pg] at sg
        simp only [List.getD_cons_zero, List.getD_cons_succ] at sg
        exact run_valF (v := .pointer (some ⟨gp, j * 3 + 2, none⟩)) (wanted_of rfl rfl sg) (fun c h => by cases h) (by simp [execOp, go_sem, s35]) ⟨_, rfl, Jq.step ⟨rfl, hv⟩ rfl⟩
      · intro L vs a9 w' hJ hF hP hL
        obtain ⟨rfl, hv⟩ := hJ
        have p18 : L 18 = true := hP ⟨18, .data⟩ (by simp) rfl
        have s36 := hF.slot 18 36 rfl p18
        rw [hv 18 p18] at s36
        simp only [List.getD_cons_zero, List.getD_cons_succ] at s36
        have pg : L 13 = true := hP ⟨13, .guard⟩ (by simp) rfl
        have sg := hF.slot 13 31 rfl pg
        rw [hv 13 pg] at sg
        simp only [List.getD_cons_zero, List.getD_cons_succ] at sg
        exact run_valF (v := .int .i64 x3) (wanted_of rfl rfl sg) (fun c h => by cases h) (by simp [execOp, go_sem, s36, kp2]) ⟨_, rfl, Jq.step ⟨rfl, hv⟩ rfl⟩
      · intro L vs a9 w' hJ hF hP hL
        obtain ⟨rfl, hv⟩ := hJ
        have p14 : L 14 = true := hP ⟨14, .data⟩ (by simp) rfl
        have s32 := hF.slot 14 32 rfl p14
        rw [hv 14 p14] at s32
        simp only [List.getD_cons_zero, List.getD_cons_succ] at s32
        have p19 : L 19 = true := hP ⟨19, .data⟩ (by simp) rfl
        have s37 := hF.slot 19 37 rfl p19
        rw [hv 19 p19] at s37
        simp only [List.getD_cons_zero, List.getD_cons_succ] at s37
        have pg : L 13 = true := hP ⟨13, .guard⟩ (by simp) rfl
        have sg := hF.slot 13 31 rfl pg
        rw [hv 13 pg] at sg
        simp only [List.getD_cons_zero, List.getD_cons_succ] at sg
        exact run_valF (v := .bool false) (wanted_of rfl rfl sg) (fun c h => by cases h) (by simp [execOp, go_sem, s32, s37]) ⟨_, rfl, Jq.step ⟨rfl, hv⟩ rfl⟩
      · intro L vs a9 w' hJ hF hP hL
        obtain ⟨rfl, hv⟩ := hJ
        have p13 : L 13 = true := hP ⟨13, .data⟩ (by simp) rfl
        have s31 := hF.slot 13 31 rfl p13
        rw [hv 13 p13] at s31
        simp only [List.getD_cons_zero, List.getD_cons_succ] at s31
        have p20 : L 20 = true := hP ⟨20, .data⟩ (by simp) rfl
        have s38 := hF.slot 20 38 rfl p20
        rw [hv 20 p20] at s38
        simp only [List.getD_cons_zero, List.getD_cons_succ] at s38
        exact run_valF (v := .bool false) rfl (fun c h => by cases h) (by simp [execOp, go_sem, s31, s38]) ⟨_, rfl, Jq.step ⟨rfl, hv⟩ rfl⟩
      intro L vs w' hA hJ
      have u21 := hJ.val 21 (hA 21 (by decide))
      simp only [List.getD_cons_zero, List.getD_cons_succ] at u21
      obtain rfl := hJ.eq
      simp only [putL, Act.put, List.setIfInBounds_toArray, List.set_cons_zero, List.set_cons_succ, Nat.reduceAdd]
      simp only [u21]
      clear u21 hJ hA kp0 kp1 kp2 kh0 kh1 kw
      generalize vs = vs0
      have HD : Hid (Below B.heap.size B B.drew) := bx_drew (Below.refl _ _) 1
      generalize B.drew = B1 at HD kn ⊢
      have g3 := HI.out.2.2.1.go HD.out
      have f3 := g3.fr
      have w5 : IntKind.i64.wrap ((j : Int) + 1) = (j : Int) + 1 := by rw [IntKind.wrap_i64]; omega
      have HG : Hid (Bx B1 kb 3 (.int .i64 (j : Int))) := g3
      clear g3
      gi_wp2_with fail
      have K1 : Ksl sb 0 B (B1.setCell ⟨kb, 0, none⟩ (.int .i64 ((j : Int) + 1))) := (Ksl.of_below HD.out).trans (Ksl.bx HG.out (.inl rfl) _)
      refine ⟨K1.keeps (Nat.zero_le _), K1.up (Nat.zero_le _), (HI.out.1.go HD.out hnw).far hkb _ _, (HI.out.2.1.go HD.out).other (by omega) _ _, ?_, HI.out.2.2.2.trans K1⟩
      rw [show ((j + 1 : Nat) : Int) = (j : Int) + 1 by omega]
      exact HG.out.set _
    case done2 =>
      rintro B ⟨hi, hbs, hkx, hks⟩
      have k7 := hkx.cell
      have k0 := hi.b0.cell
      have k6 := hi.b4.cell
      have f6 := hi.b4.fr
      have w5 : IntKind.i64.wrap ((k : Int) + 1) = (k : Int) + 1 := by rw [IntKind.wrap_i64]; omega
      have hN := hi.setN ((k : Int) + 1)
      have m4 := hN.b4.cell
      have m1 := hN.b1.cell
      have f1 := hN.b1.fr
      have K1 : Ksl sb 0 A (B.setCell ⟨n0 + 4, 0, none⟩ (.int .i64 ((k : Int) + 1))) := hks.trans (Ksl.bx hi.b4 (.inl rfl) _)
      have HG : Hid (_ ∧ _ ∧ _) := ⟨hN, hbs.other (b' := n0 + 4) (by omega) 0 (.int .i64 ((k : Int) + 1)), K1⟩
      clear hi hbs hkx hks hN K1
      by_cases hst : (k : Int) + 1 = 3
      · have hd : ((k : Int) + 1 == 3) = true := beq_iff_eq.2 hst
        have HST : Hid ((k : Int) + 1 = 3) := hst
        clear hst
        gi_wp2_with fail
        have K2 := HG.out.2.2.trans (Ksl.bx (sb := sb) HG.out.1.b1 (.inr rfl) (.bool true))
        exact ⟨K2.keeps (Nat.zero_le _), K2.up (Nat.zero_le _), rfl, _, HG.out.1.setB true⟩
      have hd : ((k : Int) + 1 == 3) = false := by simpa using hst
      gi_wp2_with fail
      refine ⟨HG.out.2.2.keeps (Nat.zero_le _), HG.out.2.2.up (Nat.zero_le _), ?_, HG.out.2.1⟩
      rw [show ((k + 1 : Nat) : Int) = (k : Int) + 1 by omega]
      exact HG.out.1
    case stop2 =>
      rintro c B hx
      exact hx.elim
  case done =>
    rintro D A hD ⟨hi, _⟩ hm
    have k3 := hi.b4.cell
    have k0 := hi.b0.cell
    have k2 := hi.b1.cell
    have f2 := hi.b1.fr
    have HE : Hid (Gn6 n0 w (A.setCell ⟨n0 + 1, 0, none⟩ (.bool true)) (.slice a len cap) (len : Int) true ∧ (A.setCell ⟨n0 + 1, 0, none⟩ (.bool true)).heap[D]? = some (.deferred (some []))) := ⟨hi.setB true, (Below.heap_setCell _ _ _ _ (show D ≠ n0 + 1 by have := HS.out.1; omega)).trans hm⟩
    clear hi hm
    gi_wp2_with fail
    refine ⟨by simp, .inl ⟨_, _, rfl, run_takeDeferred HE.out.2, ?_⟩⟩
    have hf := HE.out.1.put (.deferred none) HE.out.2 rfl (Nat.le_trans hls hD)
    have hc5 := hf.b1.cell
    refine ⟨.bool true, ?_, rfl, by rw [← HS.out.2.1]; exact hf.bel⟩
    simp [results, Tryd.results17, go_sem, hc5]
  case stop =>
    rintro D c A hD ⟨rfl, k, hi⟩ hm
    have HE : Hid (Gn6 n0 w A (.slice a len cap) k true ∧ A.heap[D]? = some (.deferred (some []))) := ⟨hi, hm⟩
    clear hi hm
    gi_wp2_with fail
    refine ⟨by simp, .inl ⟨_, _, rfl, run_takeDeferred HE.out.2, ?_⟩⟩
    have hf := HE.out.1.put (.deferred none) HE.out.2 rfl (Nat.le_trans hls hD)
    have hc5 := hf.b1.cell
    refine ⟨.bool true, ?_, rfl, by rw [← HS.out.2.1]; exact hf.bel⟩
    simp [results, Tryd.results17, go_sem, hc5]
end Go.Proofs.YtdobjanhmllloaaDoor
namespace Go.Proofs.YtdobjanhmllloaaDoor
open Go.RowKit
set_option maxRecDepth 100000
set_option linter.unusedVariables false
abbrev RW (w : World) (r g N f c : Nat) (xs : List (Option Nat × Int)) : Prop := RwK 2 encP ((none, 0) : Option Nat × Int) 126 100 w r g N f c xs
set_option maxHeartbeats 1000000 in
theorem indexW_any (r g N f c : Nat) (xs : List (Option Nat × Int)) (i : Int) (k : Nat) (w : World) (h : RW w r g N f c xs) (hN : 0 < N) (hi : -1 ≤ i) (hi2 : i ≤ N) (hk : k < N) (e : ((k : Nat) : Int) = ((f : Int) + i) % (N : Int)) :
    Calls Tryd.prog 50 #[.pointer (some ⟨r, 0, none⟩), .int .i64 i] w fun e w' => e = .returned (.int .i64 (k : Int)) ∧ ∃ n, w' = w.drewN n := by
  have c0 := h.c0 hN
  have c1 := h.c1
  have hf := h.fl hN
  have hl := h.lim
  obtain ⟨p, hp⟩ := h.pow hN
  have hp40 : p + 2 ≤ 40 := by
    rcases Nat.lt_or_ge 40 (p + 2) with h' | h'
    · have : 2 ^ 41 ≤ 2 ^ (p + 2) := Nat.pow_le_pow_right (by decide) h'
      omega
    exact h'
  have hm := i64_mask ((f : Int) + i) (p + 2) hp40 ((N : Int) - 1) (by rw [hp])
  rw [← hp, ← e] at hm
  have HH : Hid (RW w r g N f c xs) := h
  clear h hp hp40 e
  go_enter Tryd.func50, Tryd.ntmps50
  go_wp2_with fail
  go_quiet (fail)
  go_wp2_with fail
  go_ret
  exact ⟨rfl, nq, rfl⟩
theorem Tryd.infoW : (Tryd.prog.info? 100).map (fun i => (i.zero, i.size, i.bytes)) = some (some (.agg #[.pointer none, .int .i64 0]), 2, 16) := by kernel_rfl
theorem makeW_at (L C : Int) (n m : Nat) (hL : L = n) (hC : C = m) (hnm : n ≤ m) (hm : m ≤ 1099511627776) (w : World) :
    (Instr.makeSlice 124 (.int .i64 L) (.int .i64 C)).run Tryd.prog w = .ok (.slice (some ⟨w.heap.size, 0, none⟩) n m) (w.alloc (.cells (madeCells #[.pointer none, .int .i64 0] (m * 2)) 100)) := by
  obtain ⟨i, hi, hz, hs, hb⟩ := info_parts Tryd.infoW
  subst hL hC
  rw [run_make w 124 100 i (.agg #[.pointer none, .int .i64 0]) Tryd.underlying124 hi hz .i64 .i64 n m (by omega) (by omega) (by rw [hb]; omega) (by omega), hs]
  simp [Value.cells]
theorem cutW (p : Option Addr) (len cap l n : Nat) (h2 : l + n ≤ cap) : ∃ q : Option Addr, (∀ b, p = some ⟨b, 0, none⟩ → l < cap → q = some ⟨b, l * 2, none⟩) ∧
    ∀ (L H : Int) (w : World), L = l → H = (l : Int) + n → (Instr.slice 124 (.slice p len cap) (some (.int .i64 L)) (some (.int .i64 H)) none).run Tryd.prog w = .ok (.slice q n (cap - l)) w := by
  refine ⟨if cap = l then p else p.map (·.add (l * 2)), fun b e h3 => ?_, fun L H w eL eH => ?_⟩
  · subst e
    rw [if_neg (by omega)]
    simp only [Option.map_some, Option.some.injEq]
    unfold Addr.add
    split <;> simp_all
  subst eL eH
  rw [run_slice_lh (P := Tryd.prog) (kl := .i64) (kh := .i64) (l := (l : Int)) (h := (l : Int) + n) (ht := by kernel_rfl) (h0 := by omega) (h1 := by omega) (h2 := by omega)]
  have hz : (sizeOf (Tryd.prog.elem 124)).run Tryd.prog w = .ok 2 w := by kernel_rfl
  rw [hz]
  rw [show ((l : Int) + (n : Int)).toNat = l + n by omega]
  simp only [Result.andThen, sliced, Int.toNat_natCast, Nat.add_sub_cancel_left]
theorem fromW (p : Option Addr) (len cap l : Nat) (h1 : l ≤ len) : ∃ q : Option Addr, (∀ b, p = some ⟨b, 0, none⟩ → l < cap → q = some ⟨b, l * 2, none⟩) ∧
    ∀ (L : Int) (w : World), L = l → (Instr.slice 124 (.slice p len cap) (some (.int .i64 L)) none none).run Tryd.prog w = .ok (.slice q (len - l) (cap - l)) w := by
  refine ⟨if cap = l then p else p.map (·.add (l * 2)), fun b e h3 => ?_, fun L w eL => ?_⟩
  · subst e
    rw [if_neg (by omega)]
    simp only [Option.map_some, Option.some.injEq]
    unfold Addr.add
    split <;> simp_all
  subst eL
  rw [run_slice_l (P := Tryd.prog) (kl := .i64) (l := (l : Int)) (ht := by kernel_rfl) (h0 := by omega) (h1 := by omega)]
  have hz : (sizeOf (Tryd.prog.elem 124)).run Tryd.prog w = .ok 2 w := by kernel_rfl
  rw [hz]
  simp only [Result.andThen, sliced, Int.toNat_natCast]
theorem uptoW (p : Option Addr) (len cap h : Nat) (h2 : h ≤ cap) : ∃ q : Option Addr, (∀ b, p = some ⟨b, 0, none⟩ → 0 < cap → q = some ⟨b, 0, none⟩) ∧
    ∀ (H : Int) (w : World), H = h → (Instr.slice 124 (.slice p len cap) none (some (.int .i64 H)) none).run Tryd.prog w = .ok (.slice q h cap) w := by
  refine ⟨if cap = 0 then p else p.map (·.add 0), fun b e h3 => ?_, fun H w eH => ?_⟩
  · subst e
    rw [if_neg (by omega)]
    simp only [Option.map_some, Option.some.injEq]
    unfold Addr.add
    split <;> simp_all
  subst eH
  rw [run_slice_h (P := Tryd.prog) (kh := .i64) (h := (h : Int)) (ht := by kernel_rfl) (h0 := by omega) (h2 := by omega)]
  have hz : (sizeOf (Tryd.prog.elem 124)).run Tryd.prog w = .ok 2 w := by kernel_rfl
  rw [hz]
  simp only [Result.andThen, sliced, Int.toNat_natCast, Nat.zero_mul, Nat.sub_zero]
theorem sizeW : (Tryd.prog.info? 100).map (·.size) = some 2 := by kernel_rfl
set_option maxHeartbeats 2000000 in
theorem rowW_any (r g N f c m : Nat) (xs : List (Option Nat × Int)) (w : World) (h : RW w r g N f c xs) (hc : xs.length = c) (hm : c ≤ m) (hm2 : m ≤ 1099511627776) :
    Calls Tryd.prog 58 #[.pointer (some ⟨r, 0, none⟩), .int .i64 (m : Int)] w fun e w' => e = .returned (.slice (some ⟨w.heap.size, 0, none⟩) m m) ∧ w'.rowIs w.heap.size 100 (m * 2) (fun q => encP (xs.getD (q / 2) ((none, 0) : Option Nat × Int)) (q % 2)) ∧ Below w.heap.size w w' := by
  obtain ⟨p, ep⟩ : ∃ p, p = pt g N := ⟨_, rfl⟩
  have c0 : w.cell? ⟨r, 0, none⟩ = some (.slice p N N) := by rw [ep]; exact h.hd.cell (i := 0) (by omega)
  have c1 := h.c1
  have c2 := h.c2
  have hf := h.fl'
  have hl := h.lim
  have hcN := h.cl
  obtain ⟨fr, hfr⟩ : ∃ fr, fr = min c (N - f) := ⟨_, rfl⟩
  have hfr1 : fr ≤ c := by omega
  have hfr2 : f + fr ≤ N := by omega
  have hfr3 : fr < c → N = f + fr := by omega
  have mn : (if (N : Int) - (f : Int) < (c : Int) then (N : Int) - (f : Int) else (c : Int)) = (fr : Int) := by split <;> omega
  have wr1 : IntKind.i64.wrap ((f : Int) + (fr : Int)) = (f : Int) + (fr : Int) := by rw [IntKind.wrap_i64]; omega
  have wr2 : IntKind.i64.wrap ((c : Int) - (fr : Int)) = (c : Int) - (fr : Int) := by rw [IntKind.wrap_i64]; omega
  obtain ⟨q1, hq1, s1⟩ := cutW p N N f fr hfr2
  obtain ⟨q2, hq2, s2⟩ := fromW (some ⟨w.heap.size, 0, none⟩) m m fr (by omega)
  obtain ⟨q3, hq3, s3⟩ := uptoW p N N (c - fr) (by omega)
  have S1 := fun w' => s1 (f : Int) ((f : Int) + (fr : Int)) w' rfl rfl
  have S2 := fun w' => s2 (fr : Int) w' rfl
  have S3 := fun w' => s3 ((c : Int) - (fr : Int)) w' (by omega)
  have mk := makeW_at (m : Int) (m : Int) m m rfl rfl (Nat.le_refl _) hm2
  have C1 : 0 < fr → q1 = some ⟨g, f * 2, none⟩ ∧ ∀ j, j < fr * 2 → w.cell? ((⟨g, f * 2, none⟩ : Addr).add j) = some (encP (xs.getD (j / 2) ((none, 0) : Option Nat × Int)) (j % 2)) := fun h0 => by
    have hN : 0 < N := by omega
    refine ⟨hq1 g (by rw [ep, pt_pos hN]) (by omega), fun j hj => ?_⟩
    have := h.at (by omega) (i := j / 2) (by omega) (j := j % 2) (by omega)
    rw [Nat.mod_eq_of_lt (by omega), show (f + j / 2) * 2 + j % 2 = f * 2 + j by omega] at this
    rw [addr_add]
    exact this
  have C2 : 0 < c - fr → q3 = some ⟨g, 0, none⟩ ∧ ∀ j, j < (c - fr) * 2 → w.cell? ((⟨g, 0, none⟩ : Addr).add j) = some (encP (xs.getD (fr + j / 2) ((none, 0) : Option Nat × Int)) (j % 2)) := fun h0 => by
    have hN : 0 < N := by omega
    have hf := h.fl hN
    have hN2 : N = f + fr := hfr3 (by omega)
    refine ⟨hq3 g (by rw [ep, pt_pos hN]) hN, fun j hj => ?_⟩
    have := h.at (by omega) (i := fr + j / 2) (by omega) (j := j % 2) (by omega)
    rw [show f + (fr + j / 2) = j / 2 + N by omega, Nat.add_mod_right, Nat.mod_eq_of_lt (show j / 2 < N by omega), show j / 2 * 2 + j % 2 = j by omega] at this
    rw [addr_add, Nat.zero_add]
    exact this
  have D2 : 0 < c - fr → q2 = some ⟨w.heap.size, fr * 2, none⟩ := fun h0 => hq2 _ rfl (by omega)
  have B0 : Below w.heap.size w (w.alloc (.cells (madeCells #[.pointer none, .int .i64 0] (m * 2)) 100)) := (Below.refl _ _).alloc (Nat.le_refl _) _
  have R0 := rowIs_madeK w #[.pointer none, .int .i64 0] (m * 2) 100
  have e0 : (w.alloc (.cells (madeCells #[.pointer none, .int .i64 0] (m * 2)) 100)).cell? ⟨r, 0, none⟩ = some (.slice p N N) := cell_later B0 c0
  have e1 := cell_later B0 c1
  have e2 := cell_later B0 c2
  have hrl := h.rlt
  have HH : Hid (RW w r g N f c xs ∧ xs.length = c) := ⟨h, hc⟩
  have K1 : Hid _ := C1
  have K2 : Hid _ := C2
  have K3 : Hid _ := D2
  have K4 : Hid (Below w.heap.size w (w.alloc (.cells (madeCells #[.pointer none, .int .i64 0] (m * 2)) 100))) := B0
  have K5 : Hid ((w.alloc (.cells (madeCells #[.pointer none, .int .i64 0] (m * 2)) 100)).rowIs w.heap.size 100 (m * 2) (fun i => #[.pointer none, .int .i64 0][i % 2]!)) := R0
  clear h hc ep hfr hfr3 hq1 hq2 hq3 s1 s2 s3 C1 C2 D2 B0 R0
  go_enter Tryd.func58, Tryd.ntmps58
  go_wp2_with fail
  go_quiet (fail)
  go_wp2_with fail
  go_region_held3 (fun w' => w'.cell? ⟨r, 0, none⟩ = some (.slice p N N) ∧ w'.cell? ⟨r, 1, none⟩ = some (.int .i64 (f : Int)) ∧ w'.cell? ⟨r, 2, none⟩ = some (.int .i64 (c : Int))) (first | (simp [go_sem, *]; done) | (trace_state; fail))
    (first
      | (refine step_copyK 2 rfl (.tmp 24) (.tmp 39) 124 124 rfl 100 Tryd.underlying124 sizeW _ _ _ _ _ _ rfl rfl w.heap.size 0 (m * 2) (fun i => #[.pointer none, .int .i64 0][i % 2]!) (fun j => encP (xs.getD (j / 2) ((none, 0) : Option Nat × Int)) (j % 2)) 100 K5.out (by omega) (fun h0 => ⟨rfl, _, (K1.out h0).1, fun j hj => cell_later (bel_drew (bel_drewN K4.out _)) ((K1.out h0).2 j hj)⟩) (by omega) (fun j => encP_one _ _) w.heap.size w (bel_drew (bel_drewN K4.out _)) (Nat.le_refl _) ?_; intro w4 H4; have x0 := cell_later H4.out.2 c0; have x1 := cell_later H4.out.2 c1; have x2 := cell_later H4.out.2 c2))
  clear e0 e1 e2 S1
  go_wp2_with fail
  go_region_held3 (fun w' => w'.cell? ⟨r, 0, none⟩ = some (.slice p N N) ∧ w'.cell? ⟨r, 1, none⟩ = some (.int .i64 (f : Int)) ∧ w'.cell? ⟨r, 2, none⟩ = some (.int .i64 (c : Int))) (first | (simp [go_sem, *]; done) | (trace_state; fail))
    (first
      | (refine step_copyK 2 rfl (.tmp 43) (.tmp 54) 124 124 rfl 100 Tryd.underlying124 sizeW _ _ _ _ _ _ rfl rfl w.heap.size (fr * 2) (m * 2) (laid (fun i => #[.pointer none, .int .i64 0][i % 2]!) 0 (fun j => encP (xs.getD (j / 2) ((none, 0) : Option Nat × Int)) (j % 2)) (fr * 2)) (fun j => encP (xs.getD (fr + j / 2) ((none, 0) : Option Nat × Int)) (j % 2)) 100 H4.out.1 (by omega) (fun h0 => ⟨K3.out h0, _, (K2.out h0).1, fun j hj => cell_later (bel_drew H4.out.2) ((K2.out h0).2 j hj)⟩) (by omega) (fun j => encP_one _ _) w.heap.size w (bel_drew H4.out.2) (Nat.le_refl _) ?_; intro w5 H5; have y0 := cell_later H5.out.2 c0; have y1 := cell_later H5.out.2 c1; have y2 := cell_later H5.out.2 c2))
  go_wp2_with fail
  go_ret
  refine ⟨rfl, H5.out.1.congr fun j hj => ?_, H5.out.2⟩
  have hlen := HH.out.2
  unfold laid
  by_cases h1 : j < fr * 2
  · rw [if_neg (by omega), if_pos (by omega), Nat.sub_zero]
  by_cases h2 : j < c * 2
  · rw [if_pos (by omega)]
    show encP (xs.getD (fr + (j - fr * 2) / 2) ((none, 0) : Option Nat × Int)) ((j - fr * 2) % 2) = _
    rw [show fr + (j - fr * 2) / 2 = j / 2 by omega, show (j - fr * 2) % 2 = j % 2 by omega]
  rw [if_neg (by omega), if_neg (by omega)]
  have e1 : xs.getD (j / 2) ((none, 0) : Option Nat × Int) = ((none, 0) : Option Nat × Int) := by simp [show xs.length ≤ j / 2 by omega]
  rw [e1]
  exact encP_zero _ (by omega)
set_option maxHeartbeats 1000000 in
theorem moveW_any (r g N f c m : Nat) (xs : List (Option Nat × Int)) (w : World) (h : RW w r g N f c xs) (hc : xs.length = c) (hm : c ≤ m) (hp : ∃ k, m = 2 ^ (k + 2)) (hm2 : m ≤ 1099511627776) :
    Calls Tryd.prog 57 #[.pointer (some ⟨r, 0, none⟩), .int .i64 (m : Int)] w fun e w' => e = .returned (.tuple #[]) ∧ RW w' r w.heap.size m 0 c xs ∧ Chg w w' r r := by
  have HH : Hid (RW w r g N f c xs ∧ xs.length = c ∧ c ≤ m ∧ (∃ k, m = 2 ^ (k + 2)) ∧ m ≤ 1099511627776) := ⟨h, hc, hm, hp, hm2⟩
  clear h hc hm hp hm2
  go_enter Tryd.func57, Tryd.ntmps57
  go_wp2_with fail
  refine (rowW_any r g N f c m xs _ HH.out.1 HH.out.2.1 HH.out.2.2.1 HH.out.2.2.2.2).mono ?_
  rintro e w1 ⟨rfl, h1, h2⟩
  obtain ⟨h, hc, hm, hp, hm2⟩ := HH.out
  have x := h.mono h2
  have c0 := x.hd.cell (i := 0) (by omega)
  have c1 := x.c1
  have f0 := x.fz 0
  have f1 := x.fz 1
  have FF : Hid _ := h.moved h2 (Nat.le_refl _) h1 (by omega) (by omega) hp hm2
  clear h1 h2 x h hc hm hp hm2
  go_wp2_with fail
  exact bodyPost_end (v := .tuple #[]) (by simp [results, Tryd.results57, go_sem]) rfl ⟨rfl, FF.out⟩
def RingsW (w : World) (r g : Nat) (xs : List (Option Nat × Int)) (w' : World) : Prop := ∃ g' N' f', RW w' r g' N' f' xs.length xs ∧ Chg w w' r g ∧ (g' = g ∨ g' = r ∨ w.heap.size ≤ g')
theorem RingsW.intro {w w' : World} {r g : Nat} {xs : List (Option Nat × Int)} {g' N' f' : Nat} (h : RW w' r g' N' f' xs.length xs) (k : Chg w w' r g) (e : g' = g ∨ g' = r ∨ w.heap.size ≤ g') : RingsW w r g xs w' := ⟨g', N', f', h, k, e⟩
set_option maxHeartbeats 1000000 in
theorem widenW_any (r g N f : Nat) (xs : List (Option Nat × Int)) (w : World) (h : RW w r g N f xs.length xs) (hx : xs.length ≤ 4294967296) :
    Calls Tryd.prog 55 #[.pointer (some ⟨r, 0, none⟩)] w fun e w' => e = .returned (.tuple #[]) ∧ ∃ g' N' f', RW w' r g' N' f' xs.length xs ∧ Chg w w' r g ∧ (g' = g ∨ g' = r ∨ w.heap.size ≤ g') ∧ xs.length < N' := by
  obtain ⟨p, ep⟩ : ∃ p, p = pt g N := ⟨_, rfl⟩
  have c0 : w.cell? ⟨r, 0, none⟩ = some (.slice p N N) := by rw [ep]; exact h.hd.cell (i := 0) (by omega)
  have c2 := h.c2
  have hl := h.lim
  have hcN := h.cl
  obtain ⟨n, en⟩ : ∃ n, n = xs.length := ⟨_, rfl⟩
  rw [← en] at c2 hcN hx
  have HH : Hid (RW w r g N f xs.length xs ∧ n = xs.length) := ⟨h, en⟩
  by_cases e : n = N
  · have hd : ((n : Int) == (N : Int)) = true := by simp <;> omega
    obtain ⟨m, em⟩ : ∃ m, m = max 4 (2 * n) := ⟨_, rfl⟩
    have mx : (if (4 : Int) < 2 * (n : Int) then 2 * (n : Int) else 4) = (m : Int) := by split <;> omega
    have HM : Hid ((∃ k, m = 2 ^ (k + 2)) ∧ n ≤ m ∧ n < m ∧ m ≤ 1099511627776) := by
      refine ⟨?_, by omega, by omega, by omega⟩
      rcases Nat.eq_zero_or_pos N with e0 | e0
      · exact ⟨0, by omega⟩
      obtain ⟨k, hk⟩ := h.pow e0
      have := h.four e0
      have hk2 : 2 ^ (k + 1 + 2) = 2 ^ (k + 2) * 2 := Nat.pow_succ ..
      exact ⟨k + 1, by rw [hk2, ← hk]; omega⟩
    subst e
    clear h ep em en
    go_enter Tryd.func55, Tryd.ntmps55
    go_wp2_with fail
    go_quiet (fail)
    go_wp2_with fail
    refine (moveW_any r g _ f _ m xs (w.drewN nq) (HH.out.1.of_blocks rfl rfl) rfl (by have := HH.out.2; have := HM.out.2.1; omega) HM.out.1 HM.out.2.2.2).mono ?_
    rintro e w1 ⟨rfl, h1, h2⟩
    go_wp2_with fail
    refine bodyPost_end (v := .tuple #[]) (by simp [results, Tryd.results55, go_sem]) rfl ⟨rfl, _, _, _, h1, ?_, .inr (.inr (Nat.le_refl _)), by have := HH.out.2; have := HM.out.2.2.1; omega⟩
    exact ((Chg.refl w r g).drewN nq).trans h2 (.inr (.inl rfl))
  have hd : ((n : Int) == (N : Int)) = false := by simp <;> omega
  have HL : Hid (n < N) := by show n < N; omega
  clear h ep en e
  go_enter Tryd.func55, Tryd.ntmps55
  go_wp2_with fail
  go_quiet (fail)
  go_wp2_with fail
  exact bodyPost_end (v := .tuple #[]) (by simp [results, Tryd.results55, go_sem]) rfl ⟨rfl, _, _, _, HH.out.1.of_blocks rfl rfl, (Chg.refl w r g).drewN nq, .inl rfl, by have := HH.out.2; have := HL.out; omega⟩
end Go.Proofs.YtdobjanhmllloaaDoor
